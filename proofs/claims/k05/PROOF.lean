import PyProof.Rows.All
import Wide.All
import OpenK.AllK
import Wide.FinOn
import Lean
import PyProof.EqAt
import PyProof.EqKinds
import PyProof.TupleCall
import KE.KRevIter
import PyProof.StationsW
import PyProof.ExcBaseAll.ValueError
import PyProof.ExcInit
import PyProof.InstStoreFacts
import KE.KTryMore
import PyProof.NsDelKeeps
import KE.KDictSum
import KE.KDictList
import PyProof.Rows.SeqMore
import KE.KIsAll
import KE.BitLaws
import PySem.Challenge.RW_lettercell_k05_shelves
-- CHANGE: your row's module here, as the last of these rows
set_option Elab.async false
set_option linter.all false
set_option maxRecDepth 100000
/-! THE HAND LAYER, for ints, bools, texts, own classes, LISTS and tuples (index, slices, in, append, pop ..), calls, loops. Paste it whole ahead of your own text; what your proof does not reach may be deleted. -/
namespace L2
open PySem PySem.Spec PyProof.Rows

/-- a key: an int or a str -/
abbrev Key := Sum Int Str
def keyIs : Key → Value → Bool
  | .inl k, v => Value.isInt k v
  | .inr x, v => Value.isStrOf x v
def keyH (w : World) : Key → Int
  | .inl k => hashInt k
  | .inr x => hashStr w x
theorem keyIs_shape : ∀ {k : Key} {v : Value}, keyIs k v = true → (∃ i t, k = Sum.inl i ∧ v = Value.int i t) ∨ (∃ x t, k = Sum.inr x ∧ v = Value.str x t)
  | .inl i, v, h => by
    obtain ⟨t, e⟩ := Value.isInt_shape (k := i) (v := v) h
    exact .inl ⟨i, t, rfl, e⟩
  | .inr x, v, h => by
    obtain ⟨t, e⟩ := Value.isStrOf_shape (x := x) (v := v) h
    exact .inr ⟨x, t, rfl, e⟩
theorem keyIs_int (i : Int) (t : Tok) : keyIs (.inl i) (.int i t) = true := by simp [keyIs, Value.isInt]
theorem keyIs_str (x : Str) (t : Tok) : keyIs (.inr x) (.str x t) = true := by simp [keyIs, Value.isStrOf]
theorem key_ll (a b : Int) : decide ((Sum.inl a : Key) = Sum.inl b) = (a == b) := by
  by_cases e : a = b
  · subst e; simp
  · have h : ¬ (Sum.inl a : Key) = Sum.inl b := fun q => e (Sum.inl.inj q)
    rw [decide_eq_false h]
    exact (beq_eq_false_iff_ne.mpr e).symm
theorem key_rr (a b : Str) : decide ((Sum.inr a : Key) = Sum.inr b) = decide (a = b) := by
  by_cases e : a = b
  · subst e; simp
  · have h : ¬ (Sum.inr a : Key) = Sum.inr b := fun q => e (Sum.inr.inj q)
    rw [decide_eq_false h, decide_eq_false e]
theorem key_lr (a : Int) (b : Str) : decide ((Sum.inl a : Key) = Sum.inr b) = false := decide_eq_false (fun q => nomatch q)
theorem key_rl (a : Str) (b : Int) : decide ((Sum.inr a : Key) = Sum.inl b) = false := decide_eq_false (fun q => nomatch q)

def mixKind (prog : Program) (w : World) : PySem.KeyKind prog w Key where
  is := keyIs
  hash := keyH w
  inj := fun v a b ha hb => by
    rcases keyIs_shape ha with ⟨i, t, rfl, rfl⟩ | ⟨x, t, rfl, rfl⟩
    · rcases keyIs_shape hb with ⟨j, u, rfl, e⟩ | ⟨y, u, rfl, e⟩
      · injection e with e1 _; rw [e1]
      · exact nomatch e
    · rcases keyIs_shape hb with ⟨j, u, rfl, e⟩ | ⟨y, u, rfl, e⟩
      · exact nomatch e
      · injection e with e1 _; rw [e1]
  byValue := fun k v h => by
    rcases keyIs_shape h with ⟨i, t, rfl, rfl⟩ | ⟨x, t, rfl, rfl⟩ <;> rfl
  pyHash := fun hv h => by
    rcases keyIs_shape hv with ⟨i, t, rfl, rfl⟩ | ⟨x, t, rfl, rfl⟩
    · exact wpAny_pyHash_int h
    · exact wpAny_pyHash_str h
  eqBool := fun hu hv h => by
    rcases keyIs_shape hu with ⟨i, t, rfl, rfl⟩ | ⟨x, t, rfl, rfl⟩
    · rcases keyIs_shape hv with ⟨j, u, rfl, rfl⟩ | ⟨y, u, rfl, rfl⟩
      · rw [key_ll] at h; exact wpAny_eqBool_int h
      · rw [key_lr] at h; exact SeqAt.EqAt.int_str i t y u _ _ _ _ h
    · rcases keyIs_shape hv with ⟨j, u, rfl, rfl⟩ | ⟨y, u, rfl, rfl⟩
      · rw [key_rl] at h; exact SeqAt.EqAt.str_int x t j u _ _ _ _ h
      · rw [key_rr] at h; exact wpAny_eqBool_str h
  «strs» := fun k x t v h => by
    rcases keyIs_shape h with ⟨i, u, rfl, e⟩ | ⟨y, u, rfl, e⟩
    · exact nomatch e
    · injection e with e1 _
      subst e1
      cases v <;> rfl

theorem mixKind_int (prog : Program) (w : World) (i : Int) (t : Tok) : (mixKind prog w).is (.inl i) (.int i t) = true := keyIs_int i t
theorem mixKind_str (prog : Program) (w : World) (x : Str) (t : Tok) : (mixKind prog w).is (.inr x) (.str x t) = true := keyIs_str x t
end L2

namespace L2
open PySem PySem.Spec PyProof.Rows

/-- a value, without the heap -/
inductive V where
  | non | bl (b : Bool) | int (i : Int) | str (x : Str) | byt (b : Array UInt8) | flt (b : UInt64) | ref (a : Addr) | ty (n : String)
  deriving DecidableEq

def RelV : V → Value → Prop
  | .non, u => u = Value.none
  | .bl b, u => u = Value.bool b
  | .int i, u => ∃ t, u = Value.int i t
  | .str x, u => ∃ t, u = Value.str x t
  | .byt b, u => ∃ t, u = Value.bytes b t
  | .flt b, u => ∃ t, u = Value.float b t
  | .ref a, u => u = Value.ref a
  | .ty n, u => u = Value.type n

abbrev Vals : List V → List Value → Prop := Paired RelV
theorem Vals.length {xs : List V} {us : List Value} (r : Vals xs us) : xs.length = us.length := Paired.length r
theorem Vals.get : ∀ {xs : List V} {us : List Value} {i : Nat} {x : V}, Vals xs us → xs[i]? = some x → ∃ u, us[i]? = some u ∧ RelV x u
  | _, _, _, _, .nil, e => by simp at e
  | _, _, 0, _, .cons r _, e => by simp at e; subst e; exact ⟨_, rfl, r⟩
  | _, _, i + 1, x, .cons _ t, e => by
    obtain ⟨u, h1, h2⟩ := Vals.get (i := i) (x := x) t (by simpa using e)
    exact ⟨u, by simpa using h1, h2⟩
theorem Vals.set {x : V} {u : Value} (r : RelV x u) : ∀ {xs : List V} {us : List Value} (i : Nat), Vals xs us → Vals (xs.set i x) (us.set i u)
  | _, _, _, .nil => .nil
  | _, _, 0, .cons _ t => .cons r t
  | _, _, i + 1, .cons q t => .cons q (Vals.set r i t)
theorem Vals.append : ∀ {xs ys : List V} {us ws : List Value}, Vals xs us → Vals ys ws → Vals (xs ++ ys) (us ++ ws)
  | _, _, _, _, .nil, s => s
  | _, _, _, _, .cons r t, s => .cons r (Vals.append t s)
theorem Vals.take : ∀ {xs : List V} {us : List Value} (n : Nat), Vals xs us → Vals (xs.take n) (us.take n)
  | _, _, 0, _ => .nil
  | _, _, _ + 1, .nil => .nil
  | _, _, n + 1, .cons r t => .cons r (Vals.take n t)
theorem Vals.drop : ∀ {xs : List V} {us : List Value} (n : Nat), Vals xs us → Vals (xs.drop n) (us.drop n)
  | _, _, 0, r => r
  | _, _, _ + 1, .nil => .nil
  | _, _, n + 1, .cons _ t => Vals.drop n t
theorem Vals.none_of : ∀ {xs : List V} {us : List Value} {i : Nat}, Vals xs us → xs[i]? = none → us[i]? = none := fun {xs us i} r e => by
  have h1 := r.length
  have h2 : xs.length ≤ i := List.getElem?_eq_none_iff.mp e
  exact List.getElem?_eq_none_iff.mpr (by omega)

def RelO : Option V → Option Value → Prop
  | some v, some u => RelV v u
  | none, none => True
  | _, _ => False
def KV {κ : Type} : List (κ × V) → List (κ × Value) → Prop := Paired fun (p : κ × V) (q : κ × Value) => p.1 = q.1 ∧ RelV p.2 q.2

/-- a key of a dict (00_mix): an int or a text -/
def kV : Key → V
  | .inl i => .int i
  | .inr x => .str x

/-- what stands at a tracked address -/
inductive HO where
  /-- a list -/
  | lst (xs : List V)
  /-- a tuple (never changes) -/
  | tup (xs : List V)
  /-- a dict whose keys are ints and texts; one whose keys are tuples of ints and texts (the empty one is both) -/
  | dK (kvs : List (Key × V)) | dT (kvs : List (List Key × V))
  /-- a set of ints: its members, its size -/
  | set (S : Int → Bool) (n : Nat)
  /-- an instance of the class at C, its dict at dx, its attributes -/
  | ins (C dx : Addr) (fs : List (Str × V))
  /-- the dict of the instance at x -/
  | own (x : Addr)
  /-- the dict of an exception -/
  | xd (fs : List (Str × V))
  /-- a bound method, f of x -/
  | met (f x : Addr)
  /-- a range object lo, lo + 1, .. below hi -/
  | rng (lo hi : Int)
  /-- a thing that is known to the object (the script; a dict while a loop walks it): read, never written while it is so -/
  | frz (o : Obj) (u : HO)
  /-- a code object's table -/
  | tbl (ps : Array Value)
  /-- any other thing, by what is true of its one object (a def of one's own: SetO a S n := HO.ext fun h => ..) -/
  | ext (φ : Heap → Prop)

abbrev Hp := Addr → Option HO
def upd (H : Hp) (a : Addr) (o : HO) : Hp := fun b => if b = a then some o else H b
theorem upd_same {H : Hp} {a : Addr} {o : HO} : upd H a o a = some o := by unfold upd; rw [if_pos rfl]
theorem upd_ne {H : Hp} {a b : Addr} {o : HO} (h : b ≠ a) : upd H a o b = H b := by unfold upd; rw [if_neg h]
theorem upd_upd {H : Hp} {a : Addr} {o u : HO} : upd (upd H a o) a u = upd H a u := by
  funext b; unfold upd; split <;> rfl
/-- two objects of different content stand apart -/
theorem ne_of {H : Hp} {a b : Addr} {o u : HO} (h : H a = some o) (h' : H b = some u) (d : o ≠ u) : a ≠ b := by
  intro e; subst e; rw [h] at h'; exact d (Option.some.inj h')
theorem ne_of_none {H : Hp} {a b : Addr} {o : HO} (h : H a = some o) (h' : H b = none) : a ≠ b := by
  intro e; subst e; rw [h] at h'; cases h'

section
variable (P : Program) (w : World)
def ObjOk (H : Hp) (h : Heap) (a : Addr) : HO → Prop
  | .lst xs => xs.length ≤ sizeLine ∧ ∃ (its : List Value) (n : Nat), Vals xs its ∧ h.get? a = some { cls := .type "list", data := .seq its.toArray n }
  | .tup xs => xs.length ≤ sizeLine ∧ ∃ its : List Value, Vals xs its ∧ IsTup h a its.toArray
  | .dK kvs => kvs.length ≤ sizeLine ∧ (a == sysModules) = false ∧ ∃ vs, KV kvs vs ∧ h.DictOf (mixKind P w) a vs
  | .dT kvs => kvs.length ≤ sizeLine ∧ (a == sysModules) = false ∧ ∃ xs : List (List Key × Addr × Value),
      Paired (fun (p : List Key × V) (q : List Key × Addr × Value) => p.1 = q.1 ∧ H q.2.1 = some (.tup (p.1.map kV)) ∧ RelV p.2 q.2.2) kvs xs ∧
      ∃ o es ep, h.get? a = some o ∧ o.ExactDict ∧ o.data = .dict es ep ∧ es.toList = xs.map (entryOfKey (tupleKind (mixKind P w))) ∧ (xs.map (·.1)).Nodup
  | .set S n => h.SetOf (intKind P w) a S n
  | .ins C dx fs => H dx = some (.own a) ∧ fs.length ≤ 1000 ∧ dx ≠ a ∧ h.get? a = some (PySem.W.instObj C dx) ∧
      ∃ mA, h.Ns1 dx mA ∧ (∀ f, RelO (fs.lookup f) (mA f)) ∧ PySem.Within mA (fs.map (·.1))
  | .own _ => ∃ o, h.get? a = some o
  | .xd fs => ∃ mA, h.Ns1 a mA ∧ ∀ f, RelO (fs.lookup f) (mA f)
  | .rng lo hi => ∃ t u v, h.get? a = some { cls := .type "range", data := .fields #[.int lo t, .int hi u, .int 1 v] }
  | .frz o u => h.get? a = some o ∧ ObjOk H h a u
  | .tbl ps => h.get? a = some { cls := .none, data := .fields ps }
  | .met f x => h.get? a = some (PySem.W.methodObj (.ref f) (.ref x))
  | .ext φ => φ h ∧ (∃ o, h.get? a = some o) ∧ ∀ h1 h2 : Heap, φ h1 → (∀ o, h1.get? a = some o → h2.get? a = some o) → φ h2
/-- the abstract heap is held -/
def HOk (H : Hp) (h : Heap) : Prop := ∀ a o, H a = some o → ObjOk P w H h a o
end

section
variable {P : Program} {w : World} {H H' : Hp} {h h' : Heap} {a : Addr} {o : HO}
theorem ObjOk.lt (x : ObjOk P w H h a o) : a < h.objs.size := by
  cases o with
  | lst xs => obtain ⟨_, _, _, _, e⟩ := x; exact Heap.lt_size e
  | tup xs => obtain ⟨_, _, _, p⟩ := x; exact p.lt
  | dK kvs => obtain ⟨_, _, _, _, o, _, _, e, _⟩ := x; exact Heap.lt_size e
  | dT kvs => obtain ⟨_, _, _, _, o, _, _, e, _⟩ := x; exact Heap.lt_size e
  | set S n => obtain ⟨o, _, _, _, e, _⟩ := x; exact Heap.lt_size e
  | ins C dx fs => obtain ⟨_, _, _, e, _⟩ := x; exact Heap.lt_size e
  | own y => obtain ⟨_, e⟩ := x; exact Heap.lt_size e
  | xd fs => obtain ⟨_, ⟨_, _, _, e, _⟩, _⟩ := x; exact Heap.lt_size e
  | rng lo hi => obtain ⟨_, _, _, e⟩ := x; exact Heap.lt_size e
  | frz ob u => obtain ⟨e, _⟩ := x; exact Heap.lt_size e
  | tbl ps => exact Heap.lt_size (show h.get? a = some _ from x)
  | met f y => exact Heap.lt_size (show h.get? a = some _ from x)
  | ext φ => obtain ⟨_, ⟨_, e⟩, _⟩ := x; exact Heap.lt_size e
theorem Paired.mapP {α β : Type} {F G : α → β → Prop} : ∀ {l₁ : List α} {l₂ : List β}, Paired F l₁ l₂ → (∀ a b, F a b → G a b) → Paired G l₁ l₂
  | _, _, .nil, _ => .nil
  | _, _, .cons r t, f => .cons (f _ _ r) (Paired.mapP t f)
/-- what an object's description leans on: its own object, its own dict, the tuples -/
theorem ObjOk.stay (x : ObjOk P w H h a o) (k : ∀ b u, (b = a ∨ H b = some (.own a)) → h.get? b = some u → h'.get? b = some u)
    (ho : ∀ b, H b = some (.own a) → H' b = some (.own a)) (ht : ∀ b xs, H b = some (.tup xs) → H' b = some (.tup xs)) : ObjOk P w H' h' a o := by
  induction o with
  | lst xs => obtain ⟨z, its, n, r, e⟩ := x; exact ⟨z, its, n, r, k _ _ (.inl rfl) e⟩
  | tup xs => obtain ⟨z, its, r, ob, e, c⟩ := x; exact ⟨z, its, r, ob, k _ _ (.inl rfl) e, c⟩
  | dK kvs => obtain ⟨z, y, vs, r, ob, es, ep, e, c⟩ := x; exact ⟨z, y, vs, r, ob, es, ep, k _ _ (.inl rfl) e, c⟩
  | dT kvs =>
    obtain ⟨z, y, xs, r, ob, es, ep, e, c⟩ := x
    exact ⟨z, y, xs, Paired.mapP r fun p q z => ⟨z.1, ht _ _ z.2.1, z.2.2⟩, ob, es, ep, k _ _ (.inl rfl) e, c⟩
  | set S n => obtain ⟨ob, es, ep, t, e, c⟩ := x; exact ⟨ob, es, ep, t, k _ _ (.inl rfl) e, c⟩
  | ins C dx fs =>
    obtain ⟨d, z, ne, e, mA, ⟨od, es, ep, e2, c⟩, r⟩ := x
    exact ⟨ho _ d, z, ne, k _ _ (.inl rfl) e, mA, ⟨od, es, ep, k _ _ (.inr d) e2, c⟩, r⟩
  | own y => obtain ⟨ob, e⟩ := x; exact ⟨ob, k _ _ (.inl rfl) e⟩
  | xd fs => obtain ⟨mA, ⟨od, es, ep, e, c⟩, r⟩ := x; exact ⟨mA, ⟨od, es, ep, k _ _ (.inl rfl) e, c⟩, r⟩
  | rng lo hi => obtain ⟨t, u, v, e⟩ := x; exact ⟨t, u, v, k _ _ (.inl rfl) e⟩
  | frz ob u ih => obtain ⟨e, q⟩ := x; exact ⟨k _ _ (.inl rfl) e, ih q⟩
  | tbl ps =>
    have e : h.get? a = some { cls := .none, data := .fields ps } := x
    show h'.get? a = some { cls := .none, data := .fields ps }
    exact k a _ (.inl rfl) e
  | met f y =>
    have e : h.get? a = some (PySem.W.methodObj (.ref f) (.ref y)) := x
    show h'.get? a = some (PySem.W.methodObj (.ref f) (.ref y))
    exact k a _ (.inl rfl) e
  | ext φ => obtain ⟨p, ⟨o, e⟩, st⟩ := x; exact ⟨st _ _ p fun o q => k _ _ (.inl rfl) q, ⟨o, k _ _ (.inl rfl) e⟩, st⟩
theorem HOk.lt (x : HOk P w H h) (e : H a = some o) : a < h.objs.size := (x a o e).lt
theorem HOk.fresh (x : HOk P w H h) (e : h.objs.size ≤ a) : H a = none := by
  cases q : H a with
  | none => rfl
  | some u => exact absurd (Nat.lt_of_lt_of_le (x.lt q) e) (Nat.lt_irrefl _)
/-- every object of the heap is kept -/
theorem HOk.kept (x : HOk P w H h) (k : ∀ b u, h.get? b = some u → h'.get? b = some u) : HOk P w H h' := fun a o e =>
  (x a o e).stay (fun b u _ q => k b u q) (fun _ q => q) fun _ _ q => q
/-- a new object is laid and tracked -/
theorem HOk.laid (x : HOk P w H h) (k : ∀ b u, h.get? b = some u → h'.get? b = some u) (hp : h.objs.size ≤ a) (new : ObjOk P w (upd H a o) h' a o) : HOk P w (upd H a o) h' := fun b u e => by
  have hn := x.fresh hp
  by_cases hb : b = a
  · subst hb; rw [upd_same] at e; cases e; exact new
  · rw [upd_ne hb] at e
    exact (x b u e).stay (fun c v _ q => k c v q) (fun c q => by rw [upd_ne (ne_of_none q hn)]; exact q) fun c xs q => by rw [upd_ne (ne_of_none q hn)]; exact q
end

/-- what may be read as u: it is u, or a known u -/
def Rd (H : Hp) (a : Addr) (u : HO) : Prop := H a = some u ∨ ∃ o, H a = some (.frz o u)
theorem Rd.of {H : Hp} {a : Addr} {u : HO} (h : H a = some u) : Rd H a u := .inl h
theorem Rd.ok {P : Program} {w : World} {H : Hp} {h : Heap} {a : Addr} {u : HO} (r : Rd H a u) (x : HOk P w H h) : ObjOk P w H h a u := by
  rcases r with r | ⟨o, r⟩
  · exact x a u r
  · obtain ⟨_, q⟩ := x a _ r
    exact q
/-- what may be written -/
def Mut : Option HO → Prop
  | some (.lst _) => True
  | some (.dK _) => True
  | some (.dT _) => True
  | some (.set _ _) => True
  | some (.ins _ _ _) => True
  | some (.ext _) => True
  | _ => False
section
variable {P : Program} {w : World} {H : Hp} {h h' : Heap} {x e : Addr} {o' : HO}
/-- the object at e is changed: x itself, or the dict of the instance x -/
theorem HOk.write (ok : HOk P w H h) (mu : Mut (H x)) (he : e = x ∨ H e = some (.own x)) (k : ∀ b u, b ≠ e → h.get? b = some u → h'.get? b = some u) (heo : ∃ u, h'.get? e = some u)
    (new : ObjOk P w (upd H x o') h' x o') : HOk P w (upd H x o') h' := fun b u q => by
  have nown : ∀ c y, H c = some (.own y) → c ≠ x := fun c y r z => by subst z; rw [r] at mu; exact mu
  have ntup : ∀ c xs, H c = some (.tup xs) → c ≠ x := fun c xs r z => by subst z; rw [r] at mu; exact mu
  by_cases hb : b = x
  · subst hb; rw [upd_same] at q; cases q; exact new
  · rw [upd_ne hb] at q
    by_cases hbe : b = e
    · have q' : H b = some (.own x) := by
        rcases he with z | z
        · exact absurd (hbe.trans z) hb
        · rw [hbe]; exact z
      rw [q] at q'; cases q'
      obtain ⟨v, hv⟩ := heo
      exact ⟨v, by rw [hbe]; exact hv⟩
    · refine (ok b u q).stay (fun c v hc r => k c v ?_ r) (fun c r => by rw [upd_ne (nown c b r)]; exact r) fun c xs r => by rw [upd_ne (ntup c xs r)]; exact r
      rcases hc with rfl | hc
      · exact hbe
      · rintro rfl
        rcases he with z | z
        · exact nown c b hc z
        · rw [hc] at z; cases z; exact hb rfl
end

/-! ### kept unless tracked; of the frames at fs (the callers') the slots may change (an exception that passes writes there); of the records at ex (iterators) nothing is said -/
structure Un (fs ex : List Addr) (H H' : Hp) (h h' : Heap) : Prop where
  keep : ∀ b o, h.get? b = some o → H b = none → b ∉ fs → b ∉ ex → h'.get? b = some o
  slot : ∀ b o, h.get? b = some o → H b = none → b ∈ fs → b ∉ ex → ∃ sl, h'.get? b = some { o with slots := sl }
  free : ∀ b o, h.get? b = some o → H b = none → b ∉ ex → H' b = none
  there : ∀ b o, h.get? b = some o → b ∉ ex → ∃ o', h'.get? b = some o'
  tups : ∀ b xs, H b = some (.tup xs) → H' b = some (.tup xs)
  frzs : ∀ b o u, H b = some (.frz o u) → H' b = some (.frz o u)
  tbls : ∀ b ps, H b = some (.tbl ps) → ∃ more, H' b = some (.tbl (ps ++ more))
section
variable {fs fs' ex ex' : List Addr} {H H1 H2 : Hp} {h h1 h2 h' : Heap} {a x e : Addr} {o : HO}
theorem Un.any (u : Un fs ex H H1 h h1) {b : Addr} {ob : Obj} (q : h.get? b = some ob) (n : H b = none) (hx : b ∉ ex) : ∃ sl, h1.get? b = some { ob with slots := sl } := by
  by_cases hb : b ∈ fs
  · exact u.slot b ob q n hb hx
  · exact ⟨ob.slots, u.keep b ob q n hb hx⟩
theorem Un.trans (a : Un fs ex H H1 h h1) (b : Un fs ex H1 H2 h1 h2) : Un fs ex H H2 h h2 where
  keep := fun c ob q n hc hx => b.keep c ob (a.keep c ob q n hc hx) (a.free c ob q n hx) hc hx
  slot := fun c ob q n hc hx => by
    obtain ⟨sl, e1⟩ := a.slot c ob q n hc hx
    obtain ⟨sl', e2⟩ := b.slot c _ e1 (a.free c ob q n hx) hc hx
    exact ⟨sl', e2⟩
  free := fun c ob q n hx => by
    obtain ⟨o', e1⟩ := a.there c ob q hx
    exact b.free c o' e1 (a.free c ob q n hx) hx
  there := fun c ob q hx => by
    obtain ⟨o', e1⟩ := a.there c ob q hx
    exact b.there c o' e1 hx
  tups := fun c xs q => b.tups c xs (a.tups c xs q)
  frzs := fun c ob xs q => b.frzs c ob xs (a.frzs c ob xs q)
  tbls := fun c ps q => by
    obtain ⟨m1, e1⟩ := a.tbls c ps q
    obtain ⟨m2, e2⟩ := b.tbls c _ e1
    exact ⟨m1 ++ m2, by rw [e2, Array.append_assoc]⟩
theorem Un.kept (k : ∀ b u, h.get? b = some u → h'.get? b = some u) : Un fs ex H H h h' :=
  ⟨fun b ob q _ _ _ => k b ob q, fun b ob q _ _ _ => ⟨ob.slots, k b ob q⟩, fun _ _ _ n _ => n, fun b ob q _ => ⟨ob, k b ob q⟩, fun _ _ q => q, fun _ _ _ q => q, fun _ ps q => ⟨#[], by rw [q]; simp⟩⟩
theorem Un.refl : Un fs ex H H h h := Un.kept fun _ _ q => q
theorem Un.laid (k : ∀ b u, h.get? b = some u → h'.get? b = some u) (hp : h.objs.size ≤ a) (hn : H a = none) : Un fs ex H (upd H a o) h h' where
  keep := fun b u q _ _ _ => k b u q
  slot := fun b u q _ _ _ => ⟨u.slots, k b u q⟩
  free := fun b u q n _ => by rw [upd_ne (Nat.ne_of_lt (Nat.lt_of_lt_of_le (Heap.lt_size q) hp))]; exact n
  there := fun b u q _ => ⟨u, k b u q⟩
  tups := fun b xs q => by rw [upd_ne (ne_of_none q hn)]; exact q
  frzs := fun b u xs q => by rw [upd_ne (ne_of_none q hn)]; exact q
  tbls := fun b ps q => ⟨#[], by rw [upd_ne (ne_of_none q hn), q]; simp⟩
theorem Un.write (mu : Mut (H x)) (he : e = x ∨ H e = some (.own x)) (k : ∀ b u, b ≠ e → h.get? b = some u → h'.get? b = some u) (heo : ∃ u, h'.get? e = some u) : Un fs ex H (upd H x o) h h' := by
  have hx : ∀ b, H b = none → b ≠ x := fun b n z => by subst z; rw [n] at mu; exact mu
  have hb : ∀ b, H b = none → b ≠ e := fun b n z => by
    subst z
    rcases he with r | r
    · exact hx b n r
    · rw [n] at r; cases r
  have hm : ∀ b u, H b = some u → ¬ Mut (some u) → b ≠ x := fun b u q nm z => by subst z; rw [q] at mu; exact nm mu
  refine ⟨fun b u q n _ _ => k b u (hb b n) q, fun b u q n _ _ => ⟨u.slots, k b u (hb b n) q⟩, fun b u q n _ => by rw [upd_ne (hx b n)]; exact n, fun b u q _ => ?_,
    fun b xs q => by rw [upd_ne (hm b _ q fun z => z)]; exact q, fun b u xs q => by rw [upd_ne (hm b _ q fun z => z)]; exact q, fun b ps q => ⟨#[], by rw [upd_ne (hm b _ q fun z => z), q]; simp⟩⟩
  by_cases hbe : b = e
  · subst hbe; exact heo
  · exact ⟨u, k b u hbe q⟩
theorem Un.mono (u : Un fs ex H H1 h h1) (hs : ∀ b ∈ fs, b ∈ fs') (hx : ∀ b ∈ ex, b ∈ ex') : Un fs' ex' H H1 h h1 :=
  ⟨fun b ob q n hb he => u.keep b ob q n (fun z => hb (hs b z)) fun z => he (hx b z), fun _ _ q n _ he => u.any q n fun z => he (hx _ z), fun b ob q n he => u.free b ob q n fun z => he (hx b z), fun b ob q he => u.there b ob q fun z => he (hx b z), u.tups, u.frzs, u.tbls⟩
end

/-! ### the heap without what is tracked -/
def trk (h : Heap) (H : Hp) : List Addr := (List.range h.objs.size).filter fun a => (H a).isSome
def hidT (h : Heap) (H : Hp) : Heap := PySem.W.hideAll h (trk h H)
theorem hidT_size (h : Heap) (H : Hp) : (hidT h H).objs.size = h.objs.size := PySem.W.hideAll_size _ _
theorem hidT_get {h : Heap} {H : Hp} {b : Addr} {o : Obj} (e : h.get? b = some o) (n : H b = none) : (hidT h H).get? b = some o :=
  PySem.W.hideAll_get _ e fun hm => by
    have q : (H b).isSome = true := (List.mem_filter.mp hm).2
    rw [n] at q; simp at q
theorem of_hidT {h : Heap} {H : Hp} {b : Addr} {o : Obj} (e : (hidT h H).get? b = some o) : h.get? b = some o ∧ H b = none := by
  have e' : h.get? b = some o := PySem.W.of_hideAll (trk h H) e
  refine ⟨e', ?_⟩
  cases q : H b with
  | none => rfl
  | some x =>
    have hm : b ∈ trk h H := List.mem_filter.mpr ⟨List.mem_range.mpr (Heap.lt_size e'), by simp [q]⟩
    have z : (hidT h H).get? b = none := PySem.W.hideAll_none (trk h H) hm
    rw [z] at e; cases e

/-! ### OpenK's ledger, filled with every new object but one -/
def allNews (g h : Heap) (L : Addr) : List (Addr × Obj) := (List.range h.objs.size).filterMap fun a => if a = L ∨ (g.get? a).isSome = true then none else (h.get? a).map fun o => (a, o)
def rest (g h : Heap) (L d : Addr) : List (Addr × Obj) := (allNews g h L).filter fun p => decide (p.1 ≠ d)
end L2

namespace L2
open PySem PySem.Spec PyProof.Rows

/-- the module's facts, over the base: the heap at the law's entry without what is tracked there -/
structure Mod (K : PySem.W.Frag) (mg : Str → Option Value) (base : Heap) : Prop where
  kin : K.In base
  glob : base.Ns mainGlobals mg
  blt : ∃ mb, base.Ns builtinsNs mb ∧ ∀ x : Str, x ≠ "__name__" → mb x = bootBuiltins x
  nolimit : base.NoLimit

/-- the context: a def's body (or a comprehension's block) running. base: fixed through the whole law; s₀, H₀: the entry; outer: the frames whose slots others may change (a def's callers); stack: all frames that run;
   ex: iterators that were made ahead of the entry and are walked here (a comprehension's); fn: the names whose cells were made at the entry (a def: all; a comprehension's block: its own); calm: not within an except suite; pn: pins that every state bears; xe: what is wanted of an exception that leaves the code -/
structure Cx where
  prog : Program
  w : World
  K : PySem.W.Frag
  mg : Str → Option Value
  base : Heap
  A : Around
  N : List Str
  s₀ : Shared
  H₀ : Hp
  env : Env
  outer : List Env
  stack : List Env
  ex : List Addr
  fn : Str → Bool
  calm : Bool
  pn : List (Addr × Obj)
  xe : Value → Shared → Prop
/-- the callers' frames -/
def frs (l : List Env) : List Addr := l.filterMap (·.frame)
abbrev Cx.fs (X : Cx) : List Addr := frs X.outer

def Vis (sc : Scope) (x : Str) : Prop := sc.names.lookup x = some .local ∨ sc.names.lookup x = some .cell ∨ sc.names.lookup x = some .free
def Loc (sc : Scope) (x : Str) : Prop := sc.names.lookup x = some .local ∨ sc.names.lookup x = some .cell
def Look (env : Env) (h : Heap) (m : Str → Option Value) (x : Str) (u : Value) : Prop :=
  (env.kindOf x = some .local ∧ m x = some u) ∨ ((env.kindOf x = some .cell ∨ env.kindOf x = some .free) ∧ ∃ c, env.cells.lookup x = some c ∧ h.IsCell c (some u))

structure Cx.Ok (X : Cx) : Prop where
  mod : Mod X.K X.mg X.base
  kind : X.env.scope.kind = .function
  glob : X.env.globals = mainGlobals
  blt : X.env.builtins = builtinsNs
  above : X.s₀.heap.objs.size ≤ X.env.locals
  inj : ∀ x y c, X.env.cells.lookup x = some c → X.env.cells.lookup y = some c → x = y
  has : ∀ x, (X.env.kindOf x = some .cell ∨ X.env.kindOf x = some .free) → ∃ c, X.env.cells.lookup x = some c
  cab : ∀ x c, X.fn x = true → X.env.cells.lookup x = some c → X.s₀.heap.objs.size ≤ c
  hd : X.calm = true → X.A.handled = none
  frames : X.A.frames = some X.stack
  stk : X.stack = X.outer ∨ (X.stack = X.env :: X.outer ∧ X.env.frame = some X.env.locals)
  exf : ∀ b ∈ X.ex, b ≠ X.env.locals ∧ ∀ x c, X.env.cells.lookup x = some c → c ≠ b
  bs : ∀ b o, X.base.get? b = some o → X.s₀.heap.get? b = some o ∧ X.H₀ b = none
  bsz : X.base.objs.size ≤ X.s₀.heap.objs.size
  noex : ∀ b o, X.base.get? b = some o → b ∉ X.ex
  exfs : ∀ b ∈ X.ex, b ∉ X.fs
  funs : X.s₀.heap.FunFrames X.base X.outer
  frf : ∀ b ∈ X.fs, X.H₀ b = none

structure Inv (X : Cx) (pins : List (Addr × Obj)) (σ : List (Option V)) (H : Hp) (s : Shared) : Prop where
  ok : X.Ok
  os : s.os = X.s₀.os
  bare : AllBare s.gens
  base : Un X.fs X.ex X.H₀ H X.s₀.heap s.heap
  loc : ∃ m, s.heap.Ns X.env.locals m ∧ ∀ (i : Nat) (x : Str) (v : V), X.N[i]? = some x → σ[i]? = some (some v) → Vis X.env.scope x → ∃ u, RelV v u ∧ Look X.env s.heap m x u
  cell : ∀ x c, X.env.cells.lookup x = some c → ∃ v, s.heap.IsCell c v
  free : H X.env.locals = none
  freeC : ∀ x c, X.env.cells.lookup x = some c → H c = none
  pin : ∀ p ∈ X.pn ++ pins, s.heap.get? p.1 = some p.2 ∧ H p.1 = none ∧ p.1 ≠ X.env.locals ∧ p.1 ∉ X.fs ∧ ∀ v, p.2.data ≠ .cell v
  hok : HOk X.prog X.w H s.heap
  len : σ.length = X.N.length

section
variable {X : Cx} {pins : List (Addr × Obj)} {σ : List (Option V)} {H H' : Hp} {s : Shared} {h' : Heap}

theorem Cx.Ok.nofr (ok : X.Ok) {b : Addr} {o : Obj} (e : X.base.get? b = some o) : b ∉ X.fs := fun hb => by
  have := (ok.funs.mem hb).1
  rw [e] at this; cases this
theorem Inv.bs (I : Inv X pins σ H s) : ∀ b o, X.base.get? b = some o → s.heap.get? b = some o ∧ H b = none := fun b o e =>
  ⟨I.base.keep b o (I.ok.bs b o e).1 (I.ok.bs b o e).2 (I.ok.nofr e) (I.ok.noex b o e), I.base.free b o (I.ok.bs b o e).1 (I.ok.bs b o e).2 (I.ok.noex b o e)⟩
theorem Inv.bk (I : Inv X pins σ H s) : ∀ b o, X.base.get? b = some o → s.heap.get? b = some o := fun b o e => (I.bs b o e).1
theorem Inv.mod (I : Inv X pins σ H s) : Mod X.K X.mg X.base := I.ok.mod
theorem Inv.kIn (I : Inv X pins σ H s) : X.K.In s.heap := I.ok.mod.kin.keeps I.bk
theorem Inv.nolimit (I : Inv X pins σ H s) : s.heap.NoLimit := I.ok.mod.nolimit.keeps I.bk
/-- the frame over the base: for OpenK's rules (K.In X.base is I.mod.kin) -/
theorem Inv.fr (I : Inv X pins σ H s) : ∃ m, Fr X.base X.env.locals s.heap m :=
  let ⟨m, hn, _⟩ := I.loc
  ⟨m, hn, I.bk, Nat.le_trans I.ok.bsz I.ok.above⟩
theorem Inv.lt (I : Inv X pins σ H s) : X.env.locals < s.heap.objs.size := let ⟨_, hn, _⟩ := I.loc; hn.lt
theorem Inv.sz (I : Inv X pins σ H s) : X.s₀.heap.objs.size ≤ s.heap.objs.size := Nat.le_trans I.ok.above (Nat.le_of_lt I.lt)
theorem Inv.nofs (I : Inv X pins σ H s) {a : Addr} (h : s.heap.objs.size ≤ a) : a ∉ X.fs := fun hb => by
  obtain ⟨_, o, ho, _⟩ := I.ok.funs.mem hb
  exact absurd (Nat.lt_of_lt_of_le (Heap.lt_size ho) (Nat.le_trans I.sz h)) (Nat.lt_irrefl _)
theorem Inv.cne (I : Inv X pins σ H s) : ∀ x c, X.env.cells.lookup x = some c → c ≠ X.env.locals := fun x c e z => by
  obtain ⟨v, o, ho, hd⟩ := I.cell x c e
  obtain ⟨m, ⟨o', es, ep, ho', hd', _⟩, _⟩ := I.loc
  rw [z, ho'] at ho; cases ho; rw [hd'] at hd; cases hd
theorem Inv.funs (I : Inv X pins σ H s) : s.heap.FunFrames X.base X.outer := by
  have all : ∀ (l : List Env), (∀ b ∈ frs l, b ∈ X.fs) → X.s₀.heap.FunFrames X.base l → s.heap.FunFrames X.base l := by
    intro l
    induction l with
    | nil => intro _ _; trivial
    | cons env r ih =>
      intro hs hl
      obtain ⟨hk, ⟨L, o, hf, hn, ho, hd⟩, hr⟩ := hl
      have hL : L ∈ X.fs := hs L (by unfold frs; rw [List.filterMap_cons, hf]; exact List.mem_cons_self)
      obtain ⟨sl, e⟩ := I.base.slot L o ho (I.ok.frf L hL) hL fun z => I.ok.exfs L z hL
      exact ⟨hk, ⟨L, _, hf, hn, e, hd⟩, ih (fun b hb => hs b (by unfold frs; rw [List.filterMap_cons, hf]; exact List.mem_cons_of_mem _ hb)) hr⟩
  exact all X.outer (fun _ hb => hb) I.ok.funs

/-- the frames that run, for a call -/
theorem Inv.stack (I : Inv X pins σ H s) : s.heap.FunFrames X.base X.stack := by
  rcases I.ok.stk with e | ⟨e, hf⟩
  · rw [e]; exact I.funs
  · rw [e]
    obtain ⟨m, hn, _⟩ := I.loc
    refine .cons (by rw [I.ok.kind]; decide) hf hn ?_ I.funs
    exact Heap.get?_none_of_le (Nat.le_trans I.ok.bsz I.ok.above)
theorem Inv.stkSub (I : Inv X pins σ H s) : ∀ b ∈ frs X.stack, b ∈ X.env.locals :: X.fs := fun b hb => by
  rcases I.ok.stk with e | ⟨e, hf⟩
  · rw [e] at hb; exact List.mem_cons_of_mem _ hb
  · rw [e] at hb
    unfold frs at hb
    rw [List.filterMap_cons, hf] at hb
    exact hb
theorem Inv.stkFree (I : Inv X pins σ H s) : ∀ b ∈ frs X.stack, H b = none := fun b hb => by
  rcases List.mem_cons.mp (I.stkSub b hb) with e | hb
  · rw [e]; exact I.free
  · obtain ⟨_, o, ho, _⟩ := I.ok.funs.mem hb
    exact I.base.free b o ho (I.ok.frf b hb) fun z => I.ok.exfs b z hb

/-- THE STEP: the untracked objects but the frame and the records at ch are kept (the callers' frames up to slots), the frame's map is kept, the new abstract heap is held -/
theorem Inv.step {g' : Array GenState} {t' : Nat} {d' : Drawn} {ch : List Addr} (I : Inv X pins σ H s)
    (hch : ∀ b ∈ ch, (b ∈ X.ex ∨ X.s₀.heap.objs.size ≤ b) ∧ b ≠ X.env.locals ∧ (∀ x c, X.env.cells.lookup x = some c → c ≠ b) ∧ ∀ p ∈ X.pn ++ pins, p.1 ≠ b)
    (keep : ∀ b o, b ≠ X.env.locals → b ∉ X.fs → b ∉ ch → s.heap.get? b = some o → H b = none → h'.get? b = some o)
    (slot : ∀ b o, b ≠ X.env.locals → b ∈ X.fs → b ∉ ch → s.heap.get? b = some o → H b = none → ∃ sl, h'.get? b = some { o with slots := sl }) (free : ∀ b o, b ∉ ch → s.heap.get? b = some o → H b = none → H' b = none)
    (there : ∀ b o, b ∉ ch → s.heap.get? b = some o → ∃ o', h'.get? b = some o')
    (tups : ∀ b xs, H b = some (.tup xs) → H' b = some (.tup xs)) (frzs : ∀ b o u, H b = some (.frz o u) → H' b = some (.frz o u)) (tbls : ∀ b ps, H b = some (.tbl ps) → ∃ more, H' b = some (.tbl (ps ++ more)))
    (ns : ∀ m, s.heap.Ns X.env.locals m → h'.Ns X.env.locals m) (hok : HOk X.prog X.w H' h') (hg : AllBare g') :
    Inv X pins σ H' { s with heap := h', gens := g', drawn := d', toks := t' } := by
  have neL : ∀ b o, X.s₀.heap.get? b = some o → b ≠ X.env.locals := fun b o e => Nat.ne_of_lt (Nat.lt_of_lt_of_le (Heap.lt_size e) I.ok.above)
  have neC : ∀ b o, X.s₀.heap.get? b = some o → b ∉ X.ex → b ∉ ch := fun b o e hx hb => by
    rcases (hch b hb).1 with z | z
    · exact hx z
    · exact absurd (Nat.lt_of_lt_of_le (Heap.lt_size e) z) (Nat.lt_irrefl _)
  have cellK : ∀ x c, X.env.cells.lookup x = some c → ∀ v, s.heap.IsCell c v → h'.IsCell c v := fun x c e v ⟨o, ho, hd⟩ => by
    have nch : c ∉ ch := fun z => (hch c z).2.2.1 x c e rfl
    by_cases hc : c ∈ X.fs
    · obtain ⟨sl, q⟩ := slot c o (I.cne x c e) hc nch ho (I.freeC x c e)
      exact ⟨_, q, hd⟩
    · exact ⟨o, keep c o (I.cne x c e) hc nch ho (I.freeC x c e), hd⟩
  refine ⟨I.ok, I.os, hg, ⟨fun b o e n hb hx => ?_, fun b o e n hb hx => ?_, fun b o e n hx => ?_, fun b o e hx => ?_, fun b xs e => tups b xs (I.base.tups b xs e), fun b o xs e => frzs b o xs (I.base.frzs b o xs e), fun b ps e => ?_⟩, ?_, fun x c e => ?_, ?_, fun x c e => ?_, fun p hp => ?_, hok, I.len⟩
  · exact keep b o (neL b o e) hb (neC b o e hx) (I.base.keep b o e n hb hx) (I.base.free b o e n hx)
  · obtain ⟨sl, e1⟩ := I.base.slot b o e n hb hx
    obtain ⟨sl', e2⟩ := slot b _ (neL b o e) hb (neC b o e hx) e1 (I.base.free b o e n hx)
    exact ⟨sl', e2⟩
  · obtain ⟨o', e1⟩ := I.base.there b o e hx
    exact free b o' (neC b o e hx) e1 (I.base.free b o e n hx)
  · obtain ⟨o', e1⟩ := I.base.there b o e hx
    exact there b o' (neC b o e hx) e1
  · obtain ⟨m1, e1⟩ := I.base.tbls b ps e
    obtain ⟨m2, e2⟩ := tbls b _ e1
    exact ⟨m1 ++ m2, by rw [e2, Array.append_assoc]⟩
  · obtain ⟨m, hn, hl⟩ := I.loc
    refine ⟨m, ns m hn, fun i x v e1 e2 e3 => ?_⟩
    obtain ⟨u, r, l⟩ := hl i x v e1 e2 e3
    refine ⟨u, r, ?_⟩
    rcases l with l | ⟨k, c, e, z⟩
    · exact .inl l
    · exact .inr ⟨k, c, e, cellK x c e _ z⟩
  · obtain ⟨v, z⟩ := I.cell x c e
    exact ⟨v, cellK x c e v z⟩
  · obtain ⟨m, ⟨o, _, _, ho, _⟩, _⟩ := I.loc
    exact free _ o (fun z => (hch _ z).2.1 rfl) ho I.free
  · obtain ⟨v, o, ho, hd⟩ := I.cell x c e
    exact free c o (fun z => (hch c z).2.2.1 x c e rfl) ho (I.freeC x c e)
  · obtain ⟨e, n, ne, nf, d⟩ := I.pin p hp
    have nch : p.1 ∉ ch := fun z => (hch p.1 z).2.2.2 p hp rfl
    exact ⟨keep p.1 p.2 ne nf nch e n, free p.1 p.2 nch e n, ne, nf, d⟩
/-- .. where the frame's own object is kept too -/
theorem Inv.un {t' : Nat} (I : Inv X pins σ H s) (u : Un X.fs [] H H' s.heap h') (hok : HOk X.prog X.w H' h') : Inv X pins σ H' { s with heap := h', toks := t' } := by
  obtain ⟨m, ⟨o, es, ep, ho, r⟩, _⟩ := id I.loc
  obtain ⟨sl, hL⟩ := u.any ho I.free (by simp)
  exact I.step (g' := s.gens) (d' := s.drawn) (ch := []) (fun _ z => nomatch z) (fun b o _ hb _ e n => u.keep b o e n hb (by simp)) (fun b o _ hb _ e n => u.slot b o e n hb (by simp)) (fun b o _ e n => u.free b o e n (by simp)) (fun b o _ e => u.there b o e (by simp)) u.tups u.frzs u.tbls (fun m' hm => by
    obtain ⟨o', es', ep', ho', r'⟩ := hm
    rw [ho] at ho'; cases ho'
    exact ⟨_, es', ep', hL, r'⟩) hok I.bare
/-- behind a call (or a comprehension's block): the slots of this frame may have changed too, the records at ch may have turned -/
theorem Inv.call {g' : Array GenState} {t' : Nat} {d' : Drawn} {ch : List Addr} (I : Inv X pins σ H s) (u : Un (frs X.stack) ch H H' s.heap h') (hok : HOk X.prog X.w H' h') (hg : AllBare g')
    (hch : ∀ b ∈ ch, (b ∈ X.ex ∨ X.s₀.heap.objs.size ≤ b) ∧ b ≠ X.env.locals ∧ (∀ x c, X.env.cells.lookup x = some c → c ≠ b) ∧ ∀ p ∈ X.pn ++ pins, p.1 ≠ b) :
    Inv X pins σ H' { s with heap := h', gens := g', drawn := d', toks := t' } := by
  obtain ⟨m, ⟨o, es, ep, ho, r⟩, _⟩ := id I.loc
  obtain ⟨sl, hL⟩ := u.any ho I.free fun z => (hch _ z).2.1 rfl
  exact I.step (ch := ch) hch (fun b o hL hb hc e n => u.keep b o e n (fun z => (List.mem_cons.mp (I.stkSub b z)).elim hL hb) hc) (fun b o _ _ hc e n => u.any e n hc) (fun b o hc e n => u.free b o e n hc) (fun b o hc e => u.there b o e hc) u.tups u.frzs u.tbls (fun m' hm => by
    obtain ⟨o', es', ep', ho', r'⟩ := hm
    rw [ho] at ho'; cases ho'
    exact ⟨_, es', ep', hL, r'⟩) hok hg
/-- an untracked record of ours (an iterator) has turned -/
theorem Inv.turned {t' : Nat} {it : Addr} (I : Inv X pins σ H s) (k : ∀ b o, b ≠ it → s.heap.get? b = some o → h'.get? b = some o) (hn : H it = none) (hL : it ≠ X.env.locals)
    (h1 : it ∈ X.ex ∨ X.s₀.heap.objs.size ≤ it) (h2 : ∀ x c, X.env.cells.lookup x = some c → c ≠ it) (h3 : ∀ p ∈ X.pn ++ pins, p.1 ≠ it) : Inv X pins σ H { s with heap := h', toks := t' } := by
  have nit : ∀ b u, H b = some u → b ≠ it := fun b u e z => by rw [z, hn] at e; cases e
  refine I.step (g' := s.gens) (d' := s.drawn) (ch := [it]) (fun b hb => ?_) (fun b o _ _ hc e _ => k b o (fun z => hc (by simp [z])) e) (fun b o _ _ hc e _ => ⟨o.slots, k b o (fun z => hc (by simp [z])) e⟩) (fun _ _ _ _ n => n)
    (fun b o hc e => ⟨o, k b o (fun z => hc (by simp [z])) e⟩) (fun _ _ e => e) (fun _ _ _ e => e) (fun b ps e => ⟨#[], by rw [e]; simp⟩) (fun m hm => ?_) (fun b u e => ?_) I.bare
  · have e : b = it := by simpa using hb
    subst e
    exact ⟨h1, hL, h2, h3⟩
  · obtain ⟨o, es, ep, ho, r⟩ := hm
    exact ⟨o, es, ep, k _ o (Ne.symm hL) ho, r⟩
  · refine (I.hok b u e).stay (fun c v hc q => k c v ?_ q) (fun _ q => q) fun _ _ q => q
    rcases hc with z | z
    · rw [z]; exact nit b u e
    · exact nit c _ z
theorem Inv.tok (I : Inv X pins σ H s) (t : Nat) : Inv X pins σ H { s with toks := t } := I.un (h' := s.heap) (t' := t) Un.refl I.hok
/-- all objects kept -/
theorem Inv.kept {t' : Nat} (I : Inv X pins σ H s) (k : ∀ b u, s.heap.get? b = some u → h'.get? b = some u) : Inv X pins σ H { s with heap := h', toks := t' } := I.un (Un.kept k) (I.hok.kept k)
/-- a new object laid and tracked -/
theorem Inv.laid {a : Addr} {o : HO} {t' : Nat} (I : Inv X pins σ H s) (k : ∀ b u, s.heap.get? b = some u → h'.get? b = some u) (hp : s.heap.objs.size ≤ a) (new : ObjOk X.prog X.w (upd H a o) h' a o) :
    Inv X pins σ (upd H a o) { s with heap := h', toks := t' } := I.un (Un.laid k hp (I.hok.fresh hp)) (I.hok.laid k hp new)
/-- an object written -/
theorem Inv.write {x e : Addr} {o : HO} {t' : Nat} (I : Inv X pins σ H s) (mu : Mut (H x)) (he : e = x ∨ H e = some (.own x)) (k : ∀ b u, b ≠ e → s.heap.get? b = some u → h'.get? b = some u) (heo : ∃ u, h'.get? e = some u)
    (new : ObjOk X.prog X.w (upd H x o) h' x o) : Inv X pins σ (upd H x o) { s with heap := h', toks := t' } := I.un (Un.write mu he k heo) (I.hok.write mu he k heo new)
theorem Inv.pins_of {pins' : List (Addr × Obj)} (I : Inv X pins σ H s) (h : ∀ p ∈ pins', s.heap.get? p.1 = some p.2 ∧ H p.1 = none ∧ p.1 ≠ X.env.locals ∧ p.1 ∉ X.fs ∧ ∀ v, p.2.data ≠ .cell v) : Inv X pins' σ H s :=
  ⟨I.ok, I.os, I.bare, I.base, I.loc, I.cell, I.free, I.freeC, fun p hp => (List.mem_append.mp hp).elim (fun z => I.pin p (List.mem_append_left _ z)) (h p), I.hok, I.len⟩

theorem nodup_ix {N : List Str} (hN : N.Nodup) {i j : Nat} {x : Str} (a : N[i]? = some x) (b : N[j]? = some x) : i = j := by
  obtain ⟨h1, e1⟩ := List.getElem?_eq_some_iff.mp a
  obtain ⟨h2, e2⟩ := List.getElem?_eq_some_iff.mp b
  exact (List.getElem_inj hN).mp (e1.trans e2.symm)

/-- a name is stored; what changed -/
theorem store_ok2 {M : Model} {A : Around} {E : Value → Shared → Prop} {i : Nat} {x : Str} {v : V} {u : Value} {Q : Unit → Shared → Prop} (I : Inv X pins σ H s) (hN : X.N.Nodup) (hi : X.N[i]? = some x) (hx : Loc X.env.scope x) (r : RelV v u)
    (h : ∀ s', Inv X pins (σ.set i (some v)) H s' → (∃ a, Heap.SameBut a s.heap s'.heap ∧ (a = X.env.locals ∨ X.env.cells.lookup x = some a)) → Q () s') (hf : X.fn x = true ∨ X.env.scope.names.lookup x = some .local := by first | exact .inl rfl | exact .inr rfl | assumption) : wpAny M A (storeName X.env x u) Q E s := by
  obtain ⟨m, hn, hl⟩ := id I.loc
  have hcls : (X.env.scope.kind == .class || (X.env.scope.kind == .module && X.env.locals != X.env.globals)) = false := by rw [I.ok.kind]; rfl
  have hiσ : i < σ.length := by rw [I.len]; exact (List.getElem?_eq_some_iff.mp hi).1
  have cne := I.cne
  have tracked : ∀ {a : Addr} {h' : Heap}, (∃ o, s.heap.get? a = some o ∧ H a = none) → Heap.SameBut a s.heap h' → HOk X.prog X.w H h' := fun {a h'} ha hs b ob e => by
    obtain ⟨_, _, hfree⟩ := ha
    refine (I.hok b ob e).stay (fun c w' hc q => (hs.2 c ?_).trans q) (fun _ q => q) fun _ _ q => q
    rintro rfl
    rcases hc with rfl | hc
    · rw [hfree] at e; cases e
    · rw [hfree] at hc; cases hc
  rcases hx with hk | hk
  · refine wpAny_storeName_local hk hn (fun h' hn' hs => ?_) hcls
    obtain ⟨oL, _, _, hoL, _⟩ := id hn
    refine h _ ⟨I.ok, I.os, I.bare, ⟨fun b o e n hb hx => ?_, fun b o e n hb hx => ?_, I.base.free, fun b o e hx => ?_, I.base.tups, I.base.frzs, I.base.tbls⟩, ⟨_, hn', fun j y v' e1 e2 e3 => ?_⟩, fun y c e => ?_, I.free, I.freeC, fun p hp => ?_, tracked ⟨oL, hoL, I.free⟩ hs, by simpa using I.len⟩ ⟨_, hs, .inl rfl⟩
    · exact (hs.2 b (Nat.ne_of_lt (Nat.lt_of_lt_of_le (Heap.lt_size e) I.ok.above))).trans (I.base.keep b o e n hb hx)
    · obtain ⟨sl, e1⟩ := I.base.slot b o e n hb hx
      exact ⟨sl, (hs.2 b (Nat.ne_of_lt (Nat.lt_of_lt_of_le (Heap.lt_size e) I.ok.above))).trans e1⟩
    · obtain ⟨o', e1⟩ := I.base.there b o e hx
      exact ⟨o', (hs.2 b (Nat.ne_of_lt (Nat.lt_of_lt_of_le (Heap.lt_size e) I.ok.above))).trans e1⟩
    · by_cases hj : j = i
      · subst hj
        rw [hi] at e1; cases e1
        rw [List.getElem?_set_self hiσ] at e2
        cases e2
        exact ⟨u, r, .inl ⟨hk, by simp⟩⟩
      · rw [List.getElem?_set_ne (Ne.symm hj)] at e2
        obtain ⟨u', r', q⟩ := hl j y v' e1 e2 e3
        refine ⟨u', r', ?_⟩
        rcases q with ⟨k, e⟩ | ⟨k, c, e, z⟩
        · refine .inl ⟨k, ?_⟩
          have : y ≠ x := fun e => hj (nodup_ix hN e1 (e ▸ hi))
          simp [this, e]
        · exact .inr ⟨k, c, e, z.sameBut hs (cne y c e)⟩
    · obtain ⟨w', z⟩ := I.cell y c e
      exact ⟨w', z.sameBut hs (cne y c e)⟩
    · obtain ⟨e, n, ne, nf, d⟩ := I.pin p hp
      exact ⟨(hs.2 p.1 ne).trans e, n, ne, nf, d⟩
  · have hfn : X.fn x = true := by
      rcases hf with z | z
      · exact z
      · rw [z] at hk; cases hk
    obtain ⟨c, hc⟩ := I.ok.has x (.inl hk)
    obtain ⟨w', z⟩ := I.cell x c hc
    refine wpAny_storeName_cell I.ok.kind hk hc z (fun h' hc' hs => ?_)
    obtain ⟨oc, hoc, hocd⟩ := id z
    refine h { s with heap := h' } ⟨I.ok, I.os, I.bare, ⟨fun b o e n hb hx => ?_, fun b o e n hb hx => ?_, I.base.free, fun b o e hx => ?_, I.base.tups, I.base.frzs, I.base.tbls⟩, ⟨m, hn.sameBut hs (Ne.symm (cne x c hc)), fun j y v' e1 e2 e3 => ?_⟩, fun y c' e => ?_, I.free, I.freeC, fun p hp => ?_, tracked ⟨oc, hoc, I.freeC x c hc⟩ hs, by simpa using I.len⟩ ⟨c, hs, .inr hc⟩
    · exact (hs.2 b (Nat.ne_of_lt (Nat.lt_of_lt_of_le (Heap.lt_size e) (I.ok.cab x c hfn hc)))).trans (I.base.keep b o e n hb hx)
    · obtain ⟨sl, e1⟩ := I.base.slot b o e n hb hx
      exact ⟨sl, (hs.2 b (Nat.ne_of_lt (Nat.lt_of_lt_of_le (Heap.lt_size e) (I.ok.cab x c hfn hc)))).trans e1⟩
    · obtain ⟨o', e1⟩ := I.base.there b o e hx
      exact ⟨o', (hs.2 b (Nat.ne_of_lt (Nat.lt_of_lt_of_le (Heap.lt_size e) (I.ok.cab x c hfn hc)))).trans e1⟩
    · by_cases hj : j = i
      · subst hj
        rw [hi] at e1; cases e1
        rw [List.getElem?_set_self hiσ] at e2
        cases e2
        exact ⟨u, r, .inr ⟨.inl hk, c, hc, hc'⟩⟩
      · rw [List.getElem?_set_ne (Ne.symm hj)] at e2
        obtain ⟨u', r', q⟩ := hl j y v' e1 e2 e3
        refine ⟨u', r', ?_⟩
        rcases q with q | ⟨k, c', e, z'⟩
        · exact .inl q
        · refine .inr ⟨k, c', e, z'.sameBut hs ?_⟩
          rintro rfl
          exact hj (nodup_ix hN e1 (I.ok.inj _ _ _ e hc ▸ hi))
    · by_cases hcc : c' = c
      · subst hcc; exact ⟨_, hc'⟩
      · obtain ⟨w2, z2⟩ := I.cell y c' e
        exact ⟨w2, z2.sameBut hs hcc⟩
    · obtain ⟨e, n, ne, nf, d⟩ := I.pin p hp
      refine ⟨(hs.2 p.1 ?_).trans e, n, ne, nf, d⟩
      intro q
      rw [q, hoc] at e
      have q' : oc = p.2 := Option.some.inj e
      exact d w' (by rw [← q']; exact hocd)
theorem store_ok {M : Model} {A : Around} {E : Value → Shared → Prop} {i : Nat} {x : Str} {v : V} {u : Value} {Q : Unit → Shared → Prop} (I : Inv X pins σ H s) (hN : X.N.Nodup) (hi : X.N[i]? = some x) (hx : Loc X.env.scope x) (r : RelV v u)
    (h : ∀ s', Inv X pins (σ.set i (some v)) H s' → Q () s') (hf : X.fn x = true ∨ X.env.scope.names.lookup x = some .local := by first | exact .inl rfl | exact .inr rfl | assumption) : wpAny M A (storeName X.env x u) Q E s :=
  store_ok2 I hN hi hx r (fun s' I' _ => h s' I') hf
/-- behind a call or a block, the state as it is -/
theorem Inv.call' {s' : Shared} {ch : List Addr} (I : Inv X pins σ H s) (ho : s'.os = s.os) (u : Un (frs X.stack) ch H H' s.heap s'.heap) (hok : HOk X.prog X.w H' s'.heap) (hg : AllBare s'.gens)
    (hch : ∀ b ∈ ch, (b ∈ X.ex ∨ X.s₀.heap.objs.size ≤ b) ∧ b ≠ X.env.locals ∧ (∀ x c, X.env.cells.lookup x = some c → c ≠ b) ∧ ∀ p ∈ X.pn ++ pins, p.1 ≠ b) : Inv X pins σ H' s' := by
  obtain ⟨h', g', d', t', o'⟩ := s'
  have e : o' = s.os := ho
  subst e
  exact I.call (g' := g') (t' := t') (d' := d') u hok hg hch
end

/-! ### the judgements -/
/-- an exception: its class, its own dict's address (where it has one), the abstract heap behind it -/
abbrev XK := Value → Option Addr → Hp → Prop
abbrev St := List (Option V)
abbrev VK := V → Hp → Prop
/-- an expression's reading; a test's; an argument list's -/
abbrev TE := St → Hp → VK → Prop
abbrev TT := St → Hp → (Bool → Hp → Prop) → Prop
abbrev TA := St → Hp → (List V → Hp → Prop) → Prop
/-- what is wanted behind a statement -/
structure Ends where
  nx : St → Hp → Prop
  rt : VK
  bk : St → Hp → Prop := fun _ _ => False
  ct : St → Hp → Prop := fun _ _ => False
abbrev TS := Ends → St → Hp → Prop

def EP (X : Cx) (pins : List (Addr × Obj)) (σ : St) (Q : VK) (u : Value) (s' : Shared) : Prop := ∃ v H', Inv X pins σ H' s' ∧ RelV v u ∧ Q v H'
def TP (X : Cx) (pins : List (Addr × Obj)) (σ : St) (Q : Bool → Hp → Prop) (b : Bool) (s' : Shared) : Prop := ∃ H', Inv X pins σ H' s' ∧ Q b H'
def AP (X : Cx) (pins : List (Addr × Obj)) (σ : St) (Q : List V → Hp → Prop) (us : List Value) (s' : Shared) : Prop := ∃ vs H', Inv X pins σ H' s' ∧ Vals vs us ∧ Q vs H'
def SP (X : Cx) (pins : List (Addr × Obj)) (D : Ends) (f : Flow) (s' : Shared) : Prop :=
  match f with
  | .next => ∃ σ' H', Inv X pins σ' H' s' ∧ D.nx σ' H'
  | .brk => ∃ σ' H', Inv X pins σ' H' s' ∧ D.bk σ' H'
  | .cont => ∃ σ' H', Inv X pins σ' H' s' ∧ D.ct σ' H'
  | .ret u => ∃ v σ' H', Inv X pins σ' H' s' ∧ RelV v u ∧ D.rt v H'

def PE (X : Cx) (e : Expr) (t : TE) : Prop :=
  ∀ (pins : List (Addr × Obj)) (s : Shared) (σ : St) (H : Hp) (Q : VK), Inv X pins σ H s → t σ H Q → wpAny (model X.prog X.w) X.A (eval e X.env) (EP X pins σ Q) X.xe s
def PT (X : Cx) (e : Expr) (t : TT) : Prop :=
  ∀ (pins : List (Addr × Obj)) (s : Shared) (σ : St) (H : Hp) (Q : Bool → Hp → Prop), Inv X pins σ H s → t σ H Q → wpAny (model X.prog X.w) X.A (isTrue e X.env (eval e X.env)) (TP X pins σ Q) X.xe s
/-- a test whatever its 'whole' is (and, or) -/
def PW (X : Cx) (e : Expr) (t : TT) : Prop :=
  ∀ (whole : Sem Value) (pins : List (Addr × Obj)) (s : Shared) (σ : St) (H : Hp) (Q : Bool → Hp → Prop), Inv X pins σ H s → t σ H Q → wpAny (model X.prog X.w) X.A (isTrue e X.env whole) (TP X pins σ Q) X.xe s
theorem PW.pt {X : Cx} {e : Expr} {t : TT} (h : PW X e t) : PT X e t := h _
/-- an argument list (no star), from the left -/
def PA (X : Cx) (es : List Expr) (t : TA) : Prop :=
  ∀ (pos : Pos) (pins : List (Addr × Obj)) (s : Shared) (σ : St) (H : Hp) (Q : List V → Hp → Prop), Inv X pins σ H s → t σ H Q → wpAny (model X.prog X.w) X.A (spliced (backTo pos (starEach es X.env))) (AP X pins σ Q) X.xe s
def PS (X : Cx) (st : Stmt) (t : TS) : Prop :=
  ∀ (pins : List (Addr × Obj)) (s : Shared) (σ : St) (H : Hp) (D : Ends), Inv X pins σ H s → t D σ H → wpAny (model X.prog X.w) X.A (exec st X.env) (SP X pins D) X.xe s
def PSs (X : Cx) (st : List Stmt) (t : TS) : Prop :=
  ∀ (pins : List (Addr × Obj)) (s : Shared) (σ : St) (H : Hp) (D : Ends), Inv X pins σ H s → t D σ H → wpAny (model X.prog X.w) X.A (execs st X.env) (SP X pins D) X.xe s
/-- weaken the end -/
theorem thn {α : Type} {t : Sem α} {Q Q' : α → Shared → Prop} {M : Model} {A : Around} {E : Value → Shared → Prop} {s : Shared} (h : wpAny M A t Q E s) (hQ : ∀ a s, Q a s → Q' a s) : wpAny M A t Q' E s := wpAny_mono h hQ fun _ _ x => x
end L2

namespace L2
open PySem PySem.Spec PyProof.Rows
section
variable {X : Cx}

/-! ### names and constants -/
def tVar (i : Nat) : TE := fun σ H Q => ∃ v, σ[i]? = some (some v) ∧ Q v H
def tC (v : V) : TE := fun _ H Q => Q v H
theorem pe_var {i : Nat} {x : Str} {pos : Pos} (hN : X.N[i]? = some x) (hv : Vis X.env.scope x) (hd : (x == ("__debug__" : Str)) = false := by decide) (hcd : (x == ("__classdict__" : Str)) = false := by decide) : PE X (.Name x pos) (tVar i) := by
  intro pins s σ H Q I h
  obtain ⟨v, e, h⟩ := h
  obtain ⟨m, hn, hl⟩ := I.loc
  obtain ⟨u, r, l⟩ := hl i x v hN e hv
  have fin : EP X pins σ Q u s := ⟨v, H, I, r, h⟩
  rcases l with ⟨hk, hm⟩ | ⟨hk, c, hc, hcell⟩
  · exact wpAny_Name (wpAny_loadName_local I.ok.kind hk hn hm fin) hd
  · rcases hk with hk | hk
    · exact wpAny_Name (wpAny_loadName_cell I.ok.kind hk hc hcell fin) hd
    · exact wpAny_Name (wpAny_loadName_free I.ok.kind hk hc hcell fin hcd) hd
theorem pe_int {i j pos} : PE X (.Constant (.int i) j pos) (tC (.int i)) := fun _ _ _ H _ I h => wpAny_Constant_int ⟨.int i, H, I.tok _, ⟨_, rfl⟩, h⟩
theorem pe_bl {b j pos} : PE X (.Constant (.bool b) j pos) (tC (.bl b)) := fun _ _ _ H _ I h => Constant_bool ⟨.bl b, H, I, rfl, h⟩
theorem pe_non {j pos} : PE X (.Constant .none j pos) (tC .non) := fun _ _ _ H _ I h => Constant_none ⟨.non, H, I, rfl, h⟩
theorem pe_str {x j pos} : PE X (.Constant (.str x) j pos) (tC (.str x)) := fun _ _ _ H _ I h => Calls.Constant_str ⟨.str x, H, I.tok _, ⟨_, rfl⟩, h⟩

/-- a global name of the def -/
def Gl (X : Cx) (x : Str) : Prop := X.env.kindOf x = some .globalImplicit
theorem ld_glob {E : Value → Shared → Prop} {pins : List (Addr × Obj)} {s : Shared} {σ : St} {H : Hp} {x : Str} {u : Value} {pos : Pos} {Q : Value → Shared → Prop} (I : Inv X pins σ H s) (hg : Gl X x) (hm : X.mg x = some u) (h : Q u s)
    (hd : (x == ("__debug__" : Str)) = false := by decide) : wpAny (model X.prog X.w) X.A (eval (.Name x pos) X.env) Q E s :=
  Calls.Name_function_global I.ok.kind hg (Calls.loadGlobal_global (by rw [I.ok.glob]; exact I.mod.glob.keeps I.bk) hm h) hd
theorem ld_blt {E : Value → Shared → Prop} {pins : List (Addr × Obj)} {s : Shared} {σ : St} {H : Hp} {x : Str} {u : Value} {pos : Pos} {Q : Value → Shared → Prop} (I : Inv X pins σ H s) (hg : Gl X x) (hm : X.mg x = none) (hv : bootBuiltins x = some u) (h : Q u s)
    (hn : x ≠ "__name__" := by decide) (hd : (x == ("__debug__" : Str)) = false := by decide) : wpAny (model X.prog X.w) X.A (eval (.Name x pos) X.env) Q E s := by
  obtain ⟨mb, h1, h2⟩ := I.mod.blt
  exact Calls.Name_function_global I.ok.kind hg (Calls.loadGlobal_builtin (by rw [I.ok.glob]; exact I.mod.glob.keeps I.bk) hm (by rw [I.ok.blt]; exact h1.keeps I.bk) ((h2 x hn).trans hv) h) hd
/-- a module's constant, a class, a function, as a value -/
theorem pe_glob {x : Str} {v : V} {u : Value} {pos : Pos} (hg : Gl X x) (hm : X.mg x = some u) (r : RelV v u) (hd : (x == ("__debug__" : Str)) = false := by decide) : PE X (.Name x pos) (tC v) :=
  fun _ _ _ H _ I h => ld_glob I hg hm ⟨v, H, I, r, h⟩ hd
theorem pe_bltn {x : Str} {v : V} {u : Value} {pos : Pos} (hg : Gl X x) (hm : X.mg x = none) (hv : bootBuiltins x = some u) (r : RelV v u) (hn : x ≠ "__name__" := by decide) (hd : (x == ("__debug__" : Str)) = false := by decide) : PE X (.Name x pos) (tC v) :=
  fun _ _ _ H _ I h => ld_blt I hg hm hv ⟨v, H, I, r, h⟩ hn hd

/-! ### arithmetic -/
/-- two ints -/
def t2I (ta tb : TE) (k : Int → Int → Hp → Prop) : St → Hp → Prop := fun σ H => ta σ H fun x H1 => tb σ H1 fun y H2 => ∃ i j, x = .int i ∧ y = .int j ∧ k i j H2
def tAdd (ta tb : TE) : TE := fun σ H Q => t2I ta tb (fun i j H2 => Q (.int (i + j)) H2) σ H
def tSub (ta tb : TE) : TE := fun σ H Q => t2I ta tb (fun i j H2 => Q (.int (i - j)) H2) σ H
/-- the left factor below 2^64 -/
def tMul (ta tb : TE) : TE := fun σ H Q => t2I ta tb (fun i j H2 => (-(2 ^ 64) < i ∧ i < 2 ^ 64) ∧ Q (.int (i * j)) H2) σ H
variable {a b : Expr} {ta tb : TE} {pos : Pos}
/-! ### comparisons -/
def PC (X : Cx) (op : CmpOp) (a b : Expr) (t : TE) : Prop :=
  ∀ (pins : List (Addr × Obj)) (s : Shared) (σ : St) (H : Hp) (Q : VK), Inv X pins σ H s → t σ H Q →
    wpAny (model X.prog X.w) X.A (eval a X.env) (fun v s₁ => wpAny (model X.prog X.w) X.A (eval b X.env) (fun u s₂ => wpAny (model X.prog X.w) X.A (compareOp op v u) (EP X pins σ Q) X.xe s₂) X.xe s₁) X.xe s
def tCmp (p : Int → Int → Bool) (ta tb : TE) : TE := fun σ H Q => t2I ta tb (fun i j H2 => Q (.bl (p i j)) H2) σ H
abbrev tLt : TE → TE → TE := tCmp fun i j => decide (i < j)
abbrev tLe : TE → TE → TE := tCmp fun i j => decide (i ≤ j)
abbrev tGt : TE → TE → TE := tCmp fun i j => decide (j < i)
abbrev tGe : TE → TE → TE := tCmp fun i j => decide (j ≤ i)
abbrev tEqI : TE → TE → TE := tCmp fun i j => decide (i = j)
abbrev tNeI : TE → TE → TE := tCmp fun i j => !decide (i = j)
/-- is None -/
def tIsN (ta : TE) : TE := fun σ H Q => ta σ H fun x H1 => Q (.bl (decide (x = .non))) H1
def tNotN (ta : TE) : TE := fun σ H Q => ta σ H fun x H1 => Q (.bl (!decide (x = .non))) H1
/-- a comparison as a value, as a test -/
def tB (t : TE) : TT := fun σ H Q => t σ H fun x H1 => ∃ c, x = .bl c ∧ Q c H1
/-! ### and, or, not -/
variable {tA tB' : TT} {rest : List Expr}
def tAnd (t u : TT) : TT := fun σ H Q => t σ H fun c H1 => if c = true then u σ H1 Q else Q false H1
def tOr (t u : TT) : TT := fun σ H Q => t σ H fun c H1 => if c = true then Q true H1 else u σ H1 Q
def tNot (t : TT) : TT := fun σ H Q => t σ H fun c H1 => Q (!c) H1
theorem pw_or1 (ha : PT X a tA) : PW X (.BoolOp .Or [a] pos) tA := by
  intro wh pins s σ H Q I h
  refine isTrue_or (thn (ha pins s σ H Q I h) fun c s1 e => ?_)
  cases c with
  | false => exact isTrue_or_nil e
  | true => exact e
theorem pw_or (ha : PT X a tA) (hb : PW X (.BoolOp .Or (b :: rest) pos) tB') : PW X (.BoolOp .Or (a :: b :: rest) pos) (tOr tA tB') := by
  intro wh pins s σ H Q I h
  refine isTrue_or (thn (ha pins s σ H _ I h) fun c s1 ⟨H1, I1, q1⟩ => ?_)
  cases c with
  | true => exact ⟨H1, I1, q1⟩
  | false => exact hb wh pins s1 σ H1 Q I1 q1
theorem pt_not (ha : PT X a tA) : PT X (.UnaryOp .Not a pos) (tNot tA) := by
  intro pins s σ H Q I h
  exact isTrue_not (ha pins s σ H (fun c H1 => Q (!c) H1) I h)
/-- .. as values (bools) -/
def tAndV (ta tb : TE) : TE := fun σ H Q => ta σ H fun x H1 => ∃ c, x = .bl c ∧ if c = true then tb σ H1 Q else Q (.bl false) H1
def tOrV (ta tb : TE) : TE := fun σ H Q => ta σ H fun x H1 => ∃ c, x = .bl c ∧ if c = true then Q (.bl true) H1 else tb σ H1 Q
def tNotV (ta : TE) : TE := fun σ H Q => ta σ H fun x H1 => ∃ c, x = .bl c ∧ Q (.bl (!c)) H1
theorem pe_one {op} {t : TE} (h : PE X a t) : PE X (.BoolOp op [a] pos) t := fun pins s σ H Q I hw => BoolOp_one (h pins s σ H Q I hw)
theorem pe_and (ha : PE X a ta) (hb : PE X (.BoolOp .And (b :: rest) pos) tb) : PE X (.BoolOp .And (a :: b :: rest) pos) (tAndV ta tb) := by
  intro pins s σ H Q I h
  refine BoolOp_and (thn (ha pins s σ H _ I h) fun v s1 ⟨x, H1, I1, r1, q1⟩ => ?_)
  obtain ⟨c, rfl, q1⟩ := q1
  cases r1
  refine wpAny_truthy_bool ?_
  cases c with
  | true => exact hb pins s1 σ H1 Q I1 q1
  | false => exact ⟨.bl false, H1, I1, rfl, q1⟩
theorem pe_not (ha : PE X a ta) : PE X (.UnaryOp .Not a pos) (tNotV ta) := by
  intro pins s σ H Q I h
  refine UnaryOp_ (thn (ha pins s σ H _ I h) fun v s1 ⟨x, H1, I1, r1, q1⟩ => ?_)
  obtain ⟨c, rfl, q1⟩ := q1
  cases r1
  exact not_of (wpAny_truthy_bool ⟨.bl (!c), H1, I1, rfl, q1⟩)
/-- a if t else b -/
def tIf (t : TT) (ta tb : TE) : TE := fun σ H Q => t σ H fun c H1 => if c = true then ta σ H1 Q else tb σ H1 Q
end
end L2

namespace L2
open PySem PySem.Spec PyProof.Rows

/-! ### a list, a tuple that is read: tracked, frozen, or an object of the module -/
def SqL (K : PySem.W.Frag) (H : Hp) (a : Addr) (xs : List V) : Prop :=
  Rd H a (.lst xs) ∨
    ∃ (o : Obj) (its : Array Value) (n : Nat), K.lookup a = some o ∧ o.cls = .type "list" ∧ o.dict = none ∧ o.data = .seq its n ∧ its.size ≤ sizeLine ∧ Vals xs its.toList
def SqT (K : PySem.W.Frag) (H : Hp) (a : Addr) (xs : List V) : Prop :=
  Rd H a (.tup xs) ∨
    ∃ (o : Obj) (its : Array Value) (n : Nat), K.lookup a = some o ∧ o.cls = .type "tuple" ∧ o.data = .seq its n ∧ its.size ≤ sizeLine ∧ Vals xs its.toList
def absV : Value → Option V
  | .none => some .non
  | .bool b => some (.bl b)
  | .int i _ => some (.int i)
  | .str x _ => some (.str x)
  | .bytes b _ => some (.byt b)
  | .float b _ => some (.flt b)
  | .ref a => some (.ref a)
  | .type n => some (.ty n)
  | _ => none
theorem RelV.abs {x : V} {u : Value} (r : RelV x u) : absV u = some x := by
  cases x with
  | non => cases r; rfl
  | bl _ => cases r; rfl
  | int _ => obtain ⟨t, rfl⟩ := r; rfl
  | str _ => obtain ⟨t, rfl⟩ := r; rfl
  | byt _ => obtain ⟨t, rfl⟩ := r; rfl
  | flt _ => obtain ⟨t, rfl⟩ := r; rfl
  | ref _ => cases r; rfl
  | ty _ => cases r; rfl
theorem RelV.inj {x y : V} {u : Value} (r : RelV x u) (q : RelV y u) : x = y := Option.some.inj (r.abs.symm.trans q.abs)
theorem Vals.inj : ∀ {xs ys : List V} {us : List Value}, Vals xs us → Vals ys us → xs = ys
  | _, _, _, .nil, .nil => rfl
  | _, _, _, .cons r t, .cons r' t' => by rw [r.inj r', Vals.inj t t']
section
variable {X : Cx} {pins : List (Addr × Obj)} {σ : St} {H : Hp} {s : Shared} {a : Addr} {xs ys : List V}
theorem SqL.of {K : PySem.W.Frag} (h : H a = some (.lst xs)) : SqL K H a xs := .inl (.inl h)
theorem SqT.of {K : PySem.W.Frag} (h : H a = some (.tup xs)) : SqT K H a xs := .inl (.inl h)
theorem Inv.list (I : Inv X pins σ H s) (h : SqL X.K H a xs) : ∃ its : List Value, Vals xs its ∧ PlainL s.heap a its.toArray ∧ xs.length ≤ sizeLine := by
  rcases h with h | ⟨o, its, n, hk, hc, hd, hs, hz, r⟩
  · obtain ⟨z, its, n, r, e⟩ := h.ok I.hok
    exact ⟨its, r, ⟨_, n, e, rfl, rfl, rfl⟩, z⟩
  · refine ⟨its.toList, r, ⟨o, n, I.kIn a o hk, hc, hd, by simpa using hs⟩, ?_⟩
    have e := r.length
    simp only [Array.length_toList] at e
    omega
theorem Inv.tuple (I : Inv X pins σ H s) (h : SqT X.K H a xs) : ∃ its : List Value, Vals xs its ∧ IsTup s.heap a its.toArray ∧ xs.length ≤ sizeLine := by
  rcases h with h | ⟨o, its, n, hk, hc, hs, hz, r⟩
  · obtain ⟨z, its, r, p⟩ := h.ok I.hok
    exact ⟨its, r, p, z⟩
  · refine ⟨its.toList, r, ⟨o, I.kIn a o hk, hc, n, by simpa using hs⟩, ?_⟩
    have e := r.length
    simp only [Array.length_toList] at e
    omega
theorem Inv.list_inj (I : Inv X pins σ H s) (h : SqL X.K H a xs) (h' : SqL X.K H a ys) : xs = ys := by
  obtain ⟨its, r, ⟨o, n, e, _, _, d⟩, _⟩ := I.list h
  obtain ⟨its', r', ⟨o', n', e', _, _, d'⟩, _⟩ := I.list h'
  rw [e] at e'; cases e'
  rw [d] at d'
  injection d' with d1 _
  have : its = its' := by simpa using congrArg Array.toList d1
  subst this
  exact r.inj r'
theorem Inv.tuple_inj (I : Inv X pins σ H s) (h : SqT X.K H a xs) (h' : SqT X.K H a ys) : xs = ys := by
  obtain ⟨its, r, ⟨o, e, _, n, d⟩, _⟩ := I.tuple h
  obtain ⟨its', r', ⟨o', e', _, n', d'⟩, _⟩ := I.tuple h'
  rw [e] at e'; cases e'
  rw [d] at d'
  injection d' with d1 _
  have : its = its' := by simpa using congrArg Array.toList d1
  subst this
  exact r.inj r'
end

/-! ### another wish about exceptions -/
abbrev Cx.wish (X : Cx) (E : Value → Shared → Prop) : Cx := { X with xe := E }
/-- no exception leaves -/
abbrev Cx.nox (X : Cx) : Cx := X.wish fun _ _ => False
theorem Cx.Ok.wish {X : Cx} (ok : X.Ok) (E : Value → Shared → Prop) : (X.wish E).Ok :=
  ⟨ok.mod, ok.kind, ok.glob, ok.blt, ok.above, ok.inj, ok.has, ok.cab, ok.hd, ok.frames, ok.stk, ok.exf, ok.bs, ok.bsz, ok.noex, ok.exfs, ok.funs, ok.frf⟩
theorem Cx.Ok.unwish {X : Cx} {E : Value → Shared → Prop} (ok : (X.wish E).Ok) : X.Ok :=
  ⟨ok.mod, ok.kind, ok.glob, ok.blt, ok.above, ok.inj, ok.has, ok.cab, ok.hd, ok.frames, ok.stk, ok.exf, ok.bs, ok.bsz, ok.noex, ok.exfs, ok.funs, ok.frf⟩
section
variable {X : Cx} {pins : List (Addr × Obj)} {σ : St} {H : Hp} {s : Shared} {E : Value → Shared → Prop}
theorem Inv.wish (I : Inv X pins σ H s) (E : Value → Shared → Prop) : Inv (X.wish E) pins σ H s := ⟨I.ok.wish E, I.os, I.bare, I.base, I.loc, I.cell, I.free, I.freeC, I.pin, I.hok, I.len⟩
theorem Inv.unwish (I : Inv (X.wish E) pins σ H s) : Inv X pins σ H s := ⟨I.ok.unwish, I.os, I.bare, I.base, I.loc, I.cell, I.free, I.freeC, I.pin, I.hok, I.len⟩
theorem SP.unwish {D : Ends} {f : Flow} {s' : Shared} (h : SP (X.wish E) pins D f s') : SP X pins D f s' := by
  cases f with
  | next => obtain ⟨σ', H', I, q⟩ := h; exact ⟨σ', H', I.unwish, q⟩
  | brk => obtain ⟨σ', H', I, q⟩ := h; exact ⟨σ', H', I.unwish, q⟩
  | cont => obtain ⟨σ', H', I, q⟩ := h; exact ⟨σ', H', I.unwish, q⟩
  | ret u => obtain ⟨v, σ', H', I, r, q⟩ := h; exact ⟨v, σ', H', I.unwish, r, q⟩
theorem PE.nox {e : Expr} {t : TE} (h : PE X.nox e t) : PE X e t := fun pins s σ H Q I hw =>
  wpAny_mono (h pins s σ H Q (I.wish _) hw) (fun _ _ ⟨v, H', I', r, q⟩ => ⟨v, H', I'.unwish, r, q⟩) fun _ _ z => False.elim z
theorem PT.nox {e : Expr} {t : TT} (h : PT X.nox e t) : PT X e t := fun pins s σ H Q I hw =>
  wpAny_mono (h pins s σ H Q (I.wish _) hw) (fun _ _ ⟨H', I', q⟩ => ⟨H', I'.unwish, q⟩) fun _ _ z => False.elim z
theorem PSs.nox {st : List Stmt} {t : TS} (h : PSs X.nox st t) : PSs X st t := fun pins s σ H D I hw =>
  wpAny_mono (h pins s σ H D (I.wish _) hw) (fun _ _ q => q.unwish) fun _ _ z => False.elim z
end

/-! ### blocks and small statements -/
section
variable {X : Cx} {st : Stmt} {rest : List Stmt} {t u : TS} {e : Expr} {te : TE} {pos : Pos}
def tNext : TS := fun D σ H => D.nx σ H
def tSeq (t u : TS) : TS := fun D σ H => t { D with nx := u D } σ H
theorem pss_nil : PSs X [] tNext := fun _ _ σ H _ I h => wpAny_execs_nil ⟨σ, H, I, h⟩
theorem pss_cons (h1 : PS X st t) (h2 : PSs X rest u) : PSs X (st :: rest) (tSeq t u) := by
  intro pins s σ H D I h
  refine wpAny_execs_cons (thn (h1 pins s σ H { D with nx := u D } I h) fun f s1 q => ?_)
  cases f with
  | next =>
    obtain ⟨σ', H', I', q⟩ := q
    exact h2 pins s1 σ' H' D I' q
  | ret v => exact q
  | brk => exact q
  | cont => exact q
theorem pss_one (h1 : PS X st t) : PSs X [st] t := by
  intro pins s σ H D I h
  refine wpAny_execs_cons (thn (h1 pins s σ H D I h) fun f s1 q => ?_)
  cases f with
  | next => exact wpAny_execs_nil q
  | ret v => exact q
  | brk => exact q
  | cont => exact q
def tBreak : TS := fun D σ H => D.bk σ H
def tCont : TS := fun D σ H => D.ct σ H
/-- in a def's body nothing is shown -/
theorem Inv.quiet {pins : List (Addr × Obj)} {σ : St} {H : Hp} {s : Shared} (I : Inv X pins σ H s) : interactive X.env = false := by simp [interactive, I.ok.kind]
/-- an expression whose value is dropped -/
def tDrop (te : TE) : TS := fun D σ H => te σ H fun _ H1 => D.nx σ H1
theorem ps_expr (he : PE X e te) (hs : swapsWith e none pos.line X.env = pure false := by rfl) : PS X (.Expr e pos) (tDrop te) := by
  intro pins s σ H D I h
  exact wpAny_Expr_any (thn (he pins s σ H _ I h) fun v s1 ⟨x, H1, I1, r1, q1⟩ => ⟨σ, H1, I1, q1⟩) I.quiet hs
def tRet (te : TE) : TS := fun D σ H => te σ H D.rt
theorem ps_ret (he : PE X e te) : PS X (.Return (some e) pos) (tRet te) := by
  intro pins s σ H D I h
  exact wpAny_Return_some (thn (he pins s σ H _ I h) fun v s1 ⟨x, H1, I1, r1, q1⟩ => ⟨x, σ, H1, I1, r1, q1⟩)
def tRetN : TS := fun D _ H => D.rt .non H
def tIfS (c : TT) (t u : TS) : TS := fun D σ H => c σ H fun b H1 => if b = true then t D σ H1 else u D σ H1
theorem ps_if {c : Expr} {a b : List Stmt} {tc : TT} (hc : PT X c tc) (ha : PSs X a t) (hb : PSs X b u) : PS X (.If c a b pos) (tIfS tc t u) := by
  intro pins s σ H D I h
  refine wpAny_If (thn (hc pins s σ H _ I h) fun d s1 ⟨H1, I1, q1⟩ => ?_)
  cases d with
  | true => exact ha pins s1 σ H1 D I1 q1
  | false => exact hb pins s1 σ H1 D I1 q1
/-- code that the proof never comes to -/
def tNever : TS := fun _ _ _ => False
end

/-! ### targets -/
abbrev TG := V → St → Hp → (St → Hp → Prop) → Prop
abbrev TGs := List V → St → Hp → (St → Hp → Prop) → Prop
def PG (X : Cx) (target : Expr) (t : TG) : Prop :=
  ∀ (pins : List (Addr × Obj)) (s : Shared) (σ : St) (H : Hp) (v : V) (u : Value) (Q : St → Hp → Prop), Inv X pins σ H s → RelV v u → t v σ H Q →
    wpAny (model X.prog X.w) X.A (assign target X.env u) (fun _ s' => ∃ σ' H', Inv X pins σ' H' s' ∧ Q σ' H') X.xe s
/-- several targets, one after another -/
def PGs (X : Cx) (ts : List Expr) (t : TGs) : Prop :=
  ∀ (pins : List (Addr × Obj)) (s : Shared) (σ : St) (H : Hp) (vs : List V) (us : List Value) (Q : St → Hp → Prop), Inv X pins σ H s → Vals vs us → t vs σ H Q →
    wpAny (model X.prog X.w) X.A (assignInOrder ((assignEach ts X.env).map (·.2)) us) (fun _ s' => ∃ σ' H', Inv X pins σ' H' s' ∧ Q σ' H') X.xe s
/-- o[i] = v, by values -/
abbrev TSet := V → V → V → Hp → (Hp → Prop) → Prop
def PSet (X : Cx) (t : TSet) : Prop :=
  ∀ (pins : List (Addr × Obj)) (s : Shared) (σ : St) (H : Hp) (o i v : V) (ov iv u : Value) (Q : Hp → Prop), Inv X pins σ H s → RelV o ov → RelV i iv → RelV v u → t o i v H Q →
    wpAny (model X.prog X.w) X.A (setItem ov iv u) (fun _ s' => ∃ H', Inv X pins σ H' s' ∧ Q H') X.xe s
/-- a op= b, by values -/
abbrev TIp := V → V → Hp → VK → Prop
def PIp (X : Cx) (op : Operator) (t : TIp) : Prop :=
  ∀ (pins : List (Addr × Obj)) (s : Shared) (σ : St) (H : Hp) (x y : V) (v u : Value) (Q : VK), Inv X pins σ H s → RelV x v → RelV y u → t x y H Q →
    wpAny (model X.prog X.w) X.A (inplaceOp op v u) (EP X pins σ Q) X.xe s
section
variable {X : Cx} {pos : Pos}
def gName (i : Nat) : TG := fun v σ H Q => Q (σ.set i (some v)) H
theorem pg_name {i : Nat} {x : Str} (hN : X.N.Nodup) (hi : X.N[i]? = some x) (hx : Loc X.env.scope x) (hf : X.fn x = true ∨ X.env.scope.names.lookup x = some .local := by first | exact .inl rfl | exact .inr rfl | assumption) : PG X (.Name x pos) (gName i) := by
  intro pins s σ H v u Q I r h
  exact wpAny_assign_Name (store_ok I hN hi hx r (fun s' I' => ⟨_, H, I', h⟩) hf)
def gNil : TGs := fun vs σ H Q => vs = [] ∧ Q σ H
def gCons (t : TG) (u : TGs) : TGs := fun vs σ H Q => ∃ v r, vs = v :: r ∧ t v σ H fun σ' H' => u r σ' H' Q
theorem pgs_nil : PGs X [] gNil := by
  intro pins s σ H vs us Q I r h
  obtain ⟨e, h⟩ := h
  subst e
  cases r
  exact assignInOrder_nil ⟨σ, H, I, h⟩
theorem pgs_cons {e : Expr} {es : List Expr} {t : TG} {u : TGs} (h1 : PG X e t) (h2 : PGs X es u)
    (hs : (assignEach (e :: es) X.env).map (·.2) = assign e X.env :: (assignEach es X.env).map (·.2) := by rfl) : PGs X (e :: es) (gCons t u) := by
  intro pins s σ H vs us Q I r h
  obtain ⟨v, vr, e1, h⟩ := h
  subst e1
  cases r with
  | cons r rr =>
    rw [hs]
    refine assignInOrder_cons (thn (h1 pins s σ H _ _ _ I r h) fun _ s1 ⟨σ1, H1, I1, q1⟩ => ?_)
    exact h2 pins s1 σ1 H1 _ _ Q I1 rr q1
/-- (a, b, ..) = a tuple of that length -/
def gTup (K : PySem.W.Frag) (n : Nat) (t : TGs) : TG := fun v σ H Q => ∃ a xs, v = .ref a ∧ SqT K H a xs ∧ xs.length = n ∧ t xs σ H Q
theorem pg_tup {es : List Expr} {k : Nat} {t : TGs} {n : Nat} (hc : X.calm = true) (h : PGs X es t)
    (hn : (assignEach es X.env).length = n := by rfl) (hst : (assignEach es X.env).findIdx? (·.1) = none := by rfl) : PG X (.Tuple es k pos) (gTup X.K n t) := by
  intro pins s σ H v u Q I r hw
  obtain ⟨a, xs, e1, hq, hl, hw⟩ := hw
  subst e1
  cases r
  obtain ⟨its, rv, ht, hz⟩ := I.tuple hq
  refine assign_Tuple_tuple (I.ok.hd hc) ht (by simp [hn, ← hl, rv.length]) hst fun h' hx => ?_
  have I1 : Inv X pins σ H { s with heap := h' } := I.kept (t' := s.toks) fun b o e => hx b o (Nat.ne_of_lt (Heap.lt_size e)) e
  exact h pins _ σ H xs _ Q I1 (by simpa using rv) hw
/-- o[i] = .. -/
def gSub (to ti : TE) (t : TSet) : TG := fun v σ H Q => to σ H fun o H1 => ti σ H1 fun i H2 => t o i v H2 fun H3 => Q σ H3
theorem pg_sub {o i : Expr} {to ti : TE} {t : TSet} (ho : PE X o to) (hi : PE X i ti) (hs : PSet X t)
    (ha : ∀ v, assign (.Subscript o i pos) X.env v = (do
      let ov ← holding [v] (eval o X.env)
      let iv ← holding [v, ov] (eval i X.env)
      standAt pos
      holding [v, ov, iv] (setItem ov iv v)
      release [v, ov, iv] []) := by intro _; rfl) : PG X (.Subscript o i pos) (gSub to ti t) := by
  intro pins s σ H v u Q I r h
  rw [ha]
  refine wpAny_bind (wpAny_holding (thn (ho pins s σ H _ I h) fun ov s1 ⟨x, H1, I1, r1, q1⟩ => ?_))
  refine wpAny_bind (wpAny_holding (thn (hi pins s1 σ H1 _ I1 q1) fun iv s2 ⟨y, H2, I2, r2, q2⟩ => ?_))
  refine wpAny_bind (wpAny_standAt (wpAny_bind (wpAny_holding (thn (hs pins s2 σ H2 x y v ov iv u _ I2 r1 r2 r q2) fun _ s3 ⟨H3, I3, q3⟩ => ?_))))
  exact wpAny_release ⟨σ, H3, I3, q3⟩
/-- target = value -/
def tAsg (te : TE) (g : TG) : TS := fun D σ H => te σ H fun x H1 => g x σ H1 D.nx
theorem ps_asg {tg e : Expr} {te : TE} {g : TG} (he : PE X e te) (hg : PG X tg g) (hs : swapsWithSole [tg] e pos.line X.env = pure false := by rfl) (hw : swappedStores [tg] e X.env = pure none := by rfl)
    (h1 : (assignEach [tg] X.env).map (·.2) = [assign tg X.env] := by rfl) : PS X (.Assign [tg] e pos) (tAsg te g) := by
  intro pins s σ H D I h
  refine wpAny_Assign_stores (thn (he pins s σ H _ I h) fun v s1 ⟨x, H1, I1, r1, q1⟩ => ?_) hs hw
  rw [h1]
  exact thn (hg pins s1 σ H1 x v _ I1 r1 q1) fun _ s2 q => q
/-- name = value -/
theorem ps_set {i : Nat} {x : Str} {e : Expr} {te : TE} {pos' : Pos} (hN : X.N.Nodup) (hi : X.N[i]? = some x) (hx : Loc X.env.scope x) (he : PE X e te) (hs : swapsWith e (some (.Name x pos')) pos.line X.env = pure false := by rfl) (hf : X.fn x = true ∨ X.env.scope.names.lookup x = some .local := by first | exact .inl rfl | exact .inr rfl | assumption) :
    PS X (.Assign [.Name x pos'] e pos) (tAsg te (gName i)) := by
  intro pins s σ H D I h
  refine wpAny_Assign_Name (thn (he pins s σ H _ I h) fun v s1 ⟨y, H1, I1, r1, q1⟩ => ?_) hs
  exact store_ok I1 hN hi hx r1 (fun s2 I2 => ⟨_, H1, I2, q1⟩) hf
/-- a, b = x, y with plain local names: stored from the right; the pair itself is not tracked (the opening rows as in PyProof/Rows/TupAssign.lean:23) -/
def tPar (i j : Nat) (ta : TA) : TS := fun D σ H => ta σ H fun vs H1 => ∃ v w, vs = [v, w] ∧ D.nx ((σ.set i (some v)).set j (some w)) H1
/-- name op= e -/
def tAug (i : Nat) (te : TE) (ti : TIp) : TS := fun D σ H => ∃ x, σ[i]? = some (some x) ∧ te σ H fun y H1 => ti x y H1 fun z H2 => D.nx (σ.set i (some z)) H2
theorem ps_aug {i : Nat} {x : Str} {e : Expr} {te : TE} {op : Operator} {ti : TIp} {pos' : Pos} (hN : X.N.Nodup) (hi : X.N[i]? = some x) (hx : Loc X.env.scope x) (he : PE X e te) (ho : PIp X op ti) (hf : X.fn x = true ∨ X.env.scope.names.lookup x = some .local := by first | exact .inl rfl | exact .inr rfl | assumption) :
    PS X (.AugAssign (.Name x pos') op e pos) (tAug i te ti) := by
  intro pins s σ H D I h
  obtain ⟨v, e1, h⟩ := h
  obtain ⟨m, hn, hl⟩ := I.loc
  have vis : Vis X.env.scope x := by rcases hx with k | k; exact .inl k; exact .inr (.inl k)
  obtain ⟨u, r, l⟩ := hl i x v hi e1 vis
  refine wpAny_AugAssign_Name ?_
  have go : wpAny (model X.prog X.w) X.A (eval e X.env) (fun w s₂ => wpAny (model X.prog X.w) X.A (inplaceOp op u w) (fun r s₃ => wpAny (model X.prog X.w) X.A (storeName X.env x r) (fun _ => SP X pins D .next) X.xe s₃) X.xe s₂) X.xe s := by
    refine thn (he pins s σ H _ I h) fun w s1 ⟨y, H1, I1, r1, q1⟩ => ?_
    refine thn (ho pins s1 σ H1 v y u w _ I1 r r1 q1) fun z s2 ⟨zv, H2, I2, r2, q2⟩ => ?_
    exact store_ok I2 hN hi hx r2 (fun s3 I3 => ⟨_, H2, I3, q2⟩) hf
  rcases l with ⟨hk, hm⟩ | ⟨hk, c, hc, hcell⟩
  · exact wpAny_loadName_local I.ok.kind hk hn hm go
  · rcases hk with hk | hk
    · exact wpAny_loadName_cell I.ok.kind hk hc hcell go
    · rcases hx with k | k
      · have : X.env.scope.names.lookup x = some .free := hk
        rw [k] at this; cases this
      · have : X.env.scope.names.lookup x = some .free := hk
        rw [k] at this; cases this
/-- o[i] op= e -/
def tAugS (to ti te : TE) (tget : V → V → Hp → VK → Prop) (tip : TIp) (tset : TSet) : TS := fun D σ H => to σ H fun o H1 => ti σ H1 fun i H2 => tget o i H2 fun x H3 => te σ H3 fun y H4 => tip x y H4 fun z H5 => tset o i z H5 fun H6 => D.nx σ H6
/-- o[i], by values -/
def PGet (X : Cx) (t : V → V → Hp → VK → Prop) : Prop :=
  ∀ (pins : List (Addr × Obj)) (s : Shared) (σ : St) (H : Hp) (o i : V) (ov iv : Value) (Q : VK), Inv X pins σ H s → RelV o ov → RelV i iv → t o i H Q →
    wpAny (model X.prog X.w) X.A (getItem ov iv) (EP X pins σ Q) X.xe s
/-- ints -/
def ipI (f : Int → Int → Int) : TIp := fun x y H Q => ∃ i j, x = .int i ∧ y = .int j ∧ Q (.int (f i j)) H
end

/-! ### while -/
section
variable {X : Cx} {pos : Pos}
/-- the invariant W with its measure -/
def tWhile (c : TT) (tb : TS) : TS := fun D σ H => ∃ W : Nat → St → Hp → Prop, (∃ m, W m σ H) ∧ ∀ m σ H, W m σ H →
  c σ H fun b H1 => if b = true then ∃ N : St → Hp → Prop, (∀ σ' H', N σ' H' → ∃ m', m' < m ∧ W m' σ' H') ∧ tb { D with nx := N, ct := N, bk := D.nx } σ H1 else D.nx σ H1
end

/-! ### what a loop or a comprehension walks -/
/-- at turn i: it yields x (the heap may grow), or it stops -/
structure It where
  go : Nat → Hp → Prop
  yld : Nat → Hp → V → Hp → Prop
  stop : Nat → Hp → Prop
/-- the iterator's own objects may turn: they are not the frame's, not pinned, younger than the entry (or a comprehension's own) -/
def FpOk (X : Cx) (pins : List (Addr × Obj)) (H : Hp) (b : Addr) : Prop :=
  H b = none ∧ b ≠ X.env.locals ∧ b ∉ X.fs ∧ (b ∈ X.ex ∨ X.s₀.heap.objs.size ≤ b) ∧ (∀ x c, X.env.cells.lookup x = some c → c ≠ b) ∧ ∀ p ∈ X.pn ++ pins, p.1 ≠ b
theorem Inv.fpOk {X : Cx} {pins : List (Addr × Obj)} {σ : St} {H H' : Hp} {s : Shared} {b : Addr} (I : Inv X pins σ H s) (hb : s.heap.objs.size ≤ b) (hn : H' b = none) : FpOk X pins H' b := by
  refine ⟨hn, Nat.ne_of_gt (Nat.lt_of_lt_of_le I.lt hb), I.nofs hb, .inr (Nat.le_trans I.sz hb), fun x c e z => ?_, fun p hp z => ?_⟩
  · obtain ⟨v, q⟩ := I.cell x c e
    exact absurd (Nat.lt_of_lt_of_le q.lt (by rw [z]; exact hb)) (Nat.lt_irrefl _)
  · exact absurd (Nat.lt_of_lt_of_le (Heap.lt_size (I.pin p hp).1) (by rw [z]; exact hb)) (Nat.lt_irrefl _)
structure Turn (P : Program) (w : World) (K : PySem.W.Frag) (tg : Expr) (J : It) (fp : List Addr) (it : Addr) (tn : Nat → Heap → Prop) : Prop where
  mem : it ∈ fp
  obj : ∀ i h, tn i h → ∀ b ∈ fp, ∃ o, h.get? b = some o ∧ ∀ v, o.data ≠ .cell v
  keep : ∀ i h h', tn i h → (∀ b ∈ fp, ∀ o, h.get? b = some o → h'.get? b = some o) → tn i h'
  item : ∀ (X : Cx), X.prog = P → X.w = w → X.K = K → X.calm = true → ∀ (i : Nat) (pins : List (Addr × Obj)) (s : Shared) (σ : St) (H : Hp) (E : Value → Shared → Prop), Inv X pins σ H s → (∀ b ∈ fp, FpOk X pins H b) → tn i s.heap → J.go i H →
    wpAny (model P w) X.A (pyNext (.ref it)) (fun r s1 => ∃ u, r = some u ∧
      wpAny (model P w) X.A (letOwnedTupleGo tg (.ref it) u) (fun _ s2 => ∃ x H', Inv X pins σ H' s2 ∧ RelV x u ∧ J.yld i H x H' ∧ tn (i + 1) s2.heap ∧ ∀ b ∈ fp, H' b = none) E s1) E s
  done : ∀ (X : Cx), X.prog = P → X.w = w → X.K = K → X.calm = true → ∀ (i : Nat) (pins : List (Addr × Obj)) (s : Shared) (σ : St) (H : Hp) (E : Value → Shared → Prop), Inv X pins σ H s → (∀ b ∈ fp, FpOk X pins H b) → tn i s.heap → J.stop i H →
    wpAny (model P w) X.A (pyNext (.ref it)) (fun r s1 => r = none ∧ Inv X pins σ H s1) E s
  self : ∀ (A : Around) (i : Nat) (s : Shared) (Q : Value → Shared → Prop) (E : Value → Shared → Prop), tn i s.heap → Q (.ref it) s → wpAny (model P w) A (pyIter (.ref it)) Q E s
abbrev TI := St → Hp → (It → Hp → Prop) → Prop
/-- an iterator has come -/
def PIE (X : Cx) (pins : List (Addr × Obj)) (σ : St) (tg : Expr) (R : It → Hp → Prop) (itv : Value) (s2 : Shared) : Prop :=
  ∃ (it : Addr) (fp : List Addr) (tn : Nat → Heap → Prop) (J : It) (H' : Hp), itv = .ref it ∧ Inv X pins σ H' s2 ∧ Turn X.prog X.w X.K tg J fp it tn ∧ tn 0 s2.heap ∧ (∀ b ∈ fp, FpOk X pins H' b) ∧ R J H'
def PI (X : Cx) (tg iter : Expr) (wi : TI) : Prop :=
  ∀ (pins : List (Addr × Obj)) (s : Shared) (σ : St) (H : Hp) (R : It → Hp → Prop), Inv X pins σ H s → wi σ H R →
    wpAny (model X.prog X.w) X.A (eval iter X.env) (fun v s1 => wpAny (model X.prog X.w) X.A (pyIter v) (PIE X pins σ tg R) X.xe s1) X.xe s

/-- the step ahead of the store is nothing for an iterator that keeps no tuple -/
theorem go_of {M : Model} {A : Around} {E : Value → Shared → Prop} {s : Shared} {tg : Expr} {it : Addr} {u : Value} {o : Obj} {n : String} {vs : Array Value} {Q : Unit → Shared → Prop} (ho : s.heap.get? it = some o) (hc : o.cls = .type n) (hd : o.data = .fields vs)
    (hn : ["enumerate", "zip", "dict_itemiterator", "dict_reverseitemiterator", "odict_iterator", "itertools.zip_longest", "itertools.pairwise"].contains n = false) (hQ : Q () s) : wpAny M A (letOwnedTupleGo tg (.ref it) u) Q E s := by
  unfold letOwnedTupleGo
  cases tg <;> first
    | exact wpAny_pure hQ
    | (cases u <;> first
        | exact wpAny_pure hQ
        | (refine wpAny_bind (wpAny_load ho ?_)
           rw [hc, hd]
           show wpAny M A (if (["enumerate", "zip", "dict_itemiterator", "dict_reverseitemiterator", "odict_iterator", "itertools.zip_longest", "itertools.pairwise"].contains n && vs[0]? == some (rawInt _)) = true then _ else _) Q E s
           rw [if_neg (by intro h; rw [hn, Bool.false_and] at h; cases h)]
           exact wpAny_pure hQ))

/-- the list at a, as it stands at each turn (a loop may append to it) -/
def Itl (K : PySem.W.Frag) (a : Addr) : It :=
  ⟨fun i H => ∃ xs x, SqL K H a xs ∧ xs[i]? = some x, fun i H x H' => H' = H ∧ ∀ xs, SqL K H a xs → xs[i]? = some x, fun i H => ∃ xs, SqL K H a xs ∧ xs.length ≤ i⟩
def Itt (K : PySem.W.Frag) (a : Addr) : It :=
  ⟨fun i H => ∃ xs x, SqT K H a xs ∧ xs[i]? = some x, fun i H x H' => H' = H ∧ ∀ xs, SqT K H a xs → xs[i]? = some x, fun i H => ∃ xs, SqT K H a xs ∧ xs.length ≤ i⟩
/-- lo, lo + 1, .. (n of them) -/
def Itr (lo : Int) (n : Nat) : It := ⟨fun i _ => i < n, fun i H x H' => H' = H ∧ x = .int (lo + i), fun i _ => n ≤ i⟩
theorem turn_list {P : Program} {w : World} {K : PySem.W.Frag} {tg : Expr} (a it : Addr) : Turn P w K tg (Itl K a) [it] it (fun i h => h.IsListIter it a i) where
  mem := by simp
  obj := fun i h st b hb => by
    have e : b = it := by simpa using hb
    subst e
    obtain ⟨o, e, c, d⟩ := st
    exact ⟨o, e, fun v z => by rw [d] at z; cases z⟩
  keep := fun i h h' st k => st.at fun o e => k it (by simp) o e
  item := by
    intro X hP hw hK hc i pins s σ H E I hf st hg
    subst hP hw hK
    obtain ⟨xs, x, hq, hx⟩ := hg
    obtain ⟨its, rv, p, hz⟩ := I.list hq
    obtain ⟨u, hu, ru⟩ := rv.get hx
    obtain ⟨f0, f1, f2, f3, f4, f5⟩ := hf it (by simp)
    refine wpAny_pyNext_list_item st p.isList (x := u) (by simpa using hu) fun h' st' sb => ?_
    have I1 : Inv X pins σ H { s with heap := h' } := I.turned (t' := s.toks) (fun b o hb e => (sb.2 b hb).trans e) f0 f1 f3 f4 f5
    obtain ⟨o, e, c, d⟩ := id st'
    exact ⟨u, rfl, go_of (s := { s with heap := h' }) e c d (by decide) ⟨x, H, I1, ru, ⟨rfl, fun ys hy => by rw [I.list_inj hy hq]; exact hx⟩, st', fun b hb => (hf b hb).1⟩⟩
  done := by
    intro X hP hw hK hc i pins s σ H E I hf st hg
    subst hP hw hK
    obtain ⟨xs, hq, hx⟩ := hg
    obtain ⟨its, rv, p, hz⟩ := I.list hq
    obtain ⟨f0, f1, f2, f3, f4, f5⟩ := hf it (by simp)
    have hl := rv.length
    exact wpAny_pyNext_list_end (I.ok.hd hc) st p.isList (by simp; omega) fun h' eb => ⟨rfl, I.turned (t' := s.toks) (fun b o hb e => eb b o hb e) f0 f1 f3 f4 f5⟩
  self := fun _ _ _ _ _ st h => wpAny_pyIter_listiter st h
theorem turn_tuple {P : Program} {w : World} {K : PySem.W.Frag} {tg : Expr} (a it : Addr) : Turn P w K tg (Itt K a) [it] it (fun i h => h.IsTupleIter it a i) where
  mem := by simp
  obj := fun i h st b hb => by
    have e : b = it := by simpa using hb
    subst e
    obtain ⟨o, e, c, d⟩ := st
    exact ⟨o, e, fun v z => by rw [d] at z; cases z⟩
  keep := fun i h h' st k => st.at fun o e => k it (by simp) o e
  item := by
    intro X hP hw hK hc i pins s σ H E I hf st hg
    subst hP hw hK
    obtain ⟨xs, x, hq, hx⟩ := hg
    obtain ⟨its, rv, p, hz⟩ := I.tuple hq
    obtain ⟨u, hu, ru⟩ := rv.get hx
    obtain ⟨f0, f1, f2, f3, f4, f5⟩ := hf it (by simp)
    refine wpAny_pyNext_tuple_item st (show s.heap.IsTuple a its.toArray from p) (x := u) (by simpa using hu) fun h' st' sb => ?_
    have I1 : Inv X pins σ H { s with heap := h' } := I.turned (t' := s.toks) (fun b o hb e => (sb.2 b hb).trans e) f0 f1 f3 f4 f5
    obtain ⟨o, e, c, d⟩ := id st'
    exact ⟨u, rfl, go_of (s := { s with heap := h' }) e c d (by decide) ⟨x, H, I1, ru, ⟨rfl, fun ys hy => by rw [I.tuple_inj hy hq]; exact hx⟩, st', fun b hb => (hf b hb).1⟩⟩
  done := by
    intro X hP hw hK hc i pins s σ H E I hf st hg
    subst hP hw hK
    obtain ⟨xs, hq, hx⟩ := hg
    obtain ⟨its, rv, p, hz⟩ := I.tuple hq
    obtain ⟨f0, f1, f2, f3, f4, f5⟩ := hf it (by simp)
    have hl := rv.length
    exact wpAny_pyNext_tuple_end (I.ok.hd hc) st (show s.heap.IsTuple a its.toArray from p) (by simp; omega) fun h' eb => ⟨rfl, I.turned (t' := s.toks) (fun b o hb e => eb b o hb e) f0 f1 f3 f4 f5⟩
  self := fun _ _ _ _ _ st h => wpAny_pyIter_tupleiter st h
theorem turn_range {P : Program} {w : World} {K : PySem.W.Frag} {tg : Expr} (it : Addr) (lo : Int) (n : Nat) : Turn P w K tg (Itr lo n) [it] it (fun i h => IsRangeIter h it (lo + (i : Nat) * 1) ((n : Int) - (i : Nat)) 1) where
  mem := by simp
  obj := fun i h st b hb => by
    have e : b = it := by simpa using hb
    subst e
    exact ⟨_, st, fun v z => by
      have z' : Data.fields _ = Data.cell v := z
      cases z'⟩
  keep := fun i h h' st k => k it (by simp) _ st
  item := by
    intro X hP hw hK hc i pins s σ H E I hf st hg
    subst hP hw hK
    obtain ⟨f0, f1, f2, f3, f4, f5⟩ := hf it (by simp)
    have W := Walks.range (prog := X.prog) (w := X.w) (I.ok.hd hc) it lo 1 n
    refine W.item i s _ _ hg st fun v h' tk hv st' kk => ?_
    obtain ⟨t, rfl⟩ := hv
    have I1 : Inv X pins σ H { s with heap := h', toks := tk } := I.turned (fun b o hb e => kk b o (by simpa using hb) e) f0 f1 f3 f4 f5
    refine ⟨_, rfl, go_of (s := { s with heap := h', toks := tk }) (n := "range_iterator") st' rfl rfl (by decide) ⟨.int (lo + i), H, I1, ⟨t, ?_⟩, ⟨rfl, rfl⟩, st', fun b hb => (hf b hb).1⟩⟩
    rw [Int.mul_one]
  done := by
    intro X hP hw hK hc i pins s σ H E I hf st hg
    subst hP hw hK
    obtain ⟨f0, f1, f2, f3, f4, f5⟩ := hf it (by simp)
    exact wpAny_pyNext_range_end (I.ok.hd hc) st (by have : n ≤ i := hg; omega) fun h' eb => ⟨rfl, I.turned (t' := s.toks) (fun b o hb e => eb b o hb e) f0 f1 f3 f4 f5⟩
  self := fun _ _ _ _ _ st h => wpAny_pyIter_rangeiter st h
end L2

namespace L2
open PySem PySem.Spec PyProof.Rows
section
variable {X : Cx} {tg : Expr}
def iList (K : PySem.W.Frag) (tl : TE) : TI := fun σ H R => tl σ H fun x H1 => ∃ a, x = .ref a ∧ (∃ xs, SqL K H1 a xs) ∧ R (Itl K a) H1
def iTup (K : PySem.W.Frag) (tl : TE) : TI := fun σ H R => tl σ H fun x H1 => ∃ a, x = .ref a ∧ (∃ xs, SqT K H1 a xs) ∧ R (Itt K a) H1
/-- a range object just made, walked -/
theorem range_it {pins : List (Addr × Obj)} {σ : St} {H : Hp} {s : Shared} {R : It → Hp → Prop} {E : Value → Shared → Prop} {lo hi : Int} {t u v : Tok} {tk : Nat} (I : Inv X pins σ H s) (h1 : -(2 ^ 62) ≤ lo) (h2 : lo < 2 ^ 62) (h3 : -(2 ^ 62) ≤ hi) (h4 : hi < 2 ^ 62)
    (q : R (Itr lo (hi - lo).toNat) H) : wpAny (model X.prog X.w) X.A (pyIter (.ref s.heap.objs.size)) (PIE X pins σ tg R) E { s with heap := s.heap.push { cls := .type "range", data := .fields #[.int lo t, .int hi u, .int 1 v] }, toks := tk } := by
  refine wpAny_pyIter_range (IsRange.new ..) (small_one h1 h2 h3 h4) ?_
  have I1 : Inv X pins σ H { s with heap := s.heap.push { cls := .type "range", data := .fields #[.int lo t, .int hi u, .int 1 v] }, toks := tk } := I.kept fun b o e => Heap.get?_push_of_some _ e
  refine ⟨(s.heap.push { cls := .type "range", data := .fields #[.int lo t, .int hi u, .int 1 v] }).objs.size, [(s.heap.push { cls := .type "range", data := .fields #[.int lo t, .int hi u, .int 1 v] }).objs.size], _, _, H, rfl,
    I1.kept (t' := tk) fun b o e => Heap.get?_push_of_some _ e, turn_range _ lo (hi - lo).toNat, ?_, fun b hb => ?_, q⟩
  · have e1 : lo + ((0 : Nat) : Int) * 1 = lo := by simp
    have e2 : (((hi - lo).toNat : Nat) : Int) - ((0 : Nat) : Int) = Builtin.Range.rangeSize lo hi 1 := by rw [rangeSize_one]; split <;> omega
    show IsRangeIter _ _ (lo + ((0 : Nat) : Int) * 1) ((((hi - lo).toNat : Nat) : Int) - ((0 : Nat) : Int)) 1
    rw [e1, e2]
    exact Heap.get?_push_size _ rfl
  · have e : b = (s.heap.push { cls := .type "range", data := .fields #[.int lo t, .int hi u, .int 1 v] }).objs.size := by simpa using hb
    subst e
    exact I1.fpOk (Nat.le_refl _) (I1.hok.fresh (Nat.le_refl _))
def iRng1 (ta : TA) : TI := fun σ H R => ta σ H fun vs H1 => ∃ j : Int, vs = [.int j] ∧ -(2 ^ 62) ≤ j ∧ j < 2 ^ 62 ∧ R (Itr 0 j.toNat) H1
def iRng2 (ta : TA) : TI := fun σ H R => ta σ H fun vs H1 => ∃ i j : Int, vs = [.int i, .int j] ∧ (-(2 ^ 62) ≤ i ∧ i < 2 ^ 62 ∧ -(2 ^ 62) ≤ j ∧ j < 2 ^ 62) ∧ R (Itr i (j - i).toNat) H1
theorem pi_range1 {a : Expr} {ta : TA} {p pos : Pos} (hg : Gl X "range") (hm : X.mg "range" = none) (ha : PA X [a] ta) (hs : starEach [a] X.env = [(false, eval a X.env)] := by rfl) : PI X tg (.Call (.Name "range" p) [a] [] pos) (iRng1 ta) := by
  intro pins s σ H R I h
  refine Call_ (ld_blt I hg hm boot_range (PyProof.Rows.callWith_type1 (thn (ha pos pins s σ H _ I h) fun us s1 ⟨vs, H1, I1, r1, q1⟩ => ?_) hs rfl))
  obtain ⟨j, e, q1, q2, q⟩ := q1
  subst e
  cases r1 with
  | cons r rr =>
    cases rr
    obtain ⟨t, rfl⟩ := r
    exact call_range_1 (range_it I1 (by omega) (by omega) q1 q2 (by simpa using q))
/-! ### for -/
/-- W: the invariant by the turn and a measure; N: what the body is to reach -/
def tFor (wi : TI) (g : TG) (tb : TS) : TS := fun D σ H => wi σ H fun J H1 => ∃ W : Nat → Nat → St → Hp → Prop, (∃ m, W 0 m σ H1) ∧ ∀ i m σ H, W i m σ H →
  (J.stop i H ∧ D.nx σ H) ∨ (J.go i H ∧ ∃ N : St → Hp → Prop, (∀ σ' H', N σ' H' → ∃ m', m' < m ∧ W (i + 1) m' σ' H') ∧ ∀ x H', J.yld i H x H' → g x σ H' fun σ2 H2 => tb { D with nx := N, ct := N, bk := D.nx } σ2 H2)
/-- the records at fp as they stand -/
def pinsAt (fp : List Addr) (h : Heap) : List (Addr × Obj) := fp.filterMap fun b => (h.get? b).map fun o => (b, o)
theorem mem_pinsAt {fp : List Addr} {h : Heap} {b : Addr} {o : Obj} (hb : b ∈ fp) (e : h.get? b = some o) : (b, o) ∈ pinsAt fp h := List.mem_filterMap.mpr ⟨b, hb, by rw [e]; rfl⟩
theorem of_pinsAt {fp : List Addr} {h : Heap} {p : Addr × Obj} (hp : p ∈ pinsAt fp h) : p.1 ∈ fp ∧ h.get? p.1 = some p.2 := by
  obtain ⟨b, hb, e⟩ := List.mem_filterMap.mp hp
  cases q : h.get? b with
  | none => rw [q] at e; cases e
  | some o =>
    rw [q] at e
    have e' : (b, o) = p := Option.some.inj e
    subst e'
    exact ⟨hb, q⟩
theorem Inv.pinned {pins : List (Addr × Obj)} {σ : St} {H : Hp} {s : Shared} {fp : List Addr} (I : Inv X pins σ H s) (hf : ∀ b ∈ fp, FpOk X pins H b) (ho : ∀ b ∈ fp, ∃ o, s.heap.get? b = some o ∧ ∀ v, o.data ≠ .cell v) : Inv X (pins ++ pinsAt fp s.heap) σ H s :=
  I.pins_of fun p hp => (List.mem_append.mp hp).elim (fun z => I.pin p (List.mem_append_right _ z)) fun z => by
    obtain ⟨hb, e⟩ := of_pinsAt z
    obtain ⟨f0, f1, f2, _⟩ := hf p.1 hb
    obtain ⟨o, e', d⟩ := ho p.1 hb
    rw [e] at e'; cases e'
    exact ⟨e, f0, f1, f2, d⟩
theorem Inv.unpinned {pins pl : List (Addr × Obj)} {σ : St} {H : Hp} {s : Shared} (I : Inv X (pins ++ pl) σ H s) : Inv X pins σ H s := I.pins_of fun p hp => I.pin p (List.mem_append_right _ (List.mem_append_left _ hp))
theorem ps_for {iter : Expr} {body : List Stmt} {wi : TI} {g : TG} {tb : TS} {pos : Pos} (hp : PassesOwn (model X.prog X.w) X.A X.env X.xe) (hc : X.calm = true) (hi : PI X tg iter wi) (hg : PG X tg g) (hb : PSs X body tb)
    (hs : ∀ x, foldedSetIterable iter X.env x = pure x := by intro _; rfl) : PS X (.For tg iter body [] pos) (tFor wi g tb) := by
  intro pins s σ H D I h
  refine wpAny_For (thn (hi pins s σ H _ I h) fun v s1 h1 => thn h1 fun itv s2 h2 => ?_) hs
  obtain ⟨it, fp, tn, J, H2, e, I2, T, st2, f2, W, ⟨m0, w0⟩, turn⟩ := h2
  subst e
  -- what stays true of the iterator's objects through the loop
  have stat : ∀ {H' : Hp}, (∀ b ∈ fp, H' b = none) → ∀ b ∈ fp, FpOk X pins H' b := fun hn b hb => ⟨hn b hb, (f2 b hb).2⟩
  refine codeAny_forLoop_any (fun n s' => ∃ i σ' H', Inv X pins σ' H' s' ∧ tn i s'.heap ∧ (∀ b ∈ fp, H' b = none) ∧ W i n σ' H') ?_ m0 ⟨0, σ, H2, I2, st2, fun b hb => (f2 b hb).1, w0⟩
  rintro n s3 ⟨i, σ3, H3, I3, st3, fr3, w3⟩
  rcases turn i n σ3 H3 w3 with ⟨stop, qn⟩ | ⟨go, N, hN, step⟩
  · refine wpAny_passesOwn hp (thn (T.done X rfl rfl rfl hc i pins s3 σ3 H3 X.xe I3 (stat fr3) st3 stop) fun r s4 ⟨hr, I4⟩ => ?_)
    subst hr
    exact wpAny_execs_nil ⟨σ3, H3, I4, qn⟩
  · refine wpAny_passesOwn hp (thn (T.item X rfl rfl rfl hc i pins s3 σ3 H3 X.xe I3 (stat fr3) st3 go) fun r s4 ⟨u, hr, h4⟩ => ?_)
    subst hr
    refine wpAny_passesOwn hp (thn h4 fun _ s5 ⟨x, H5, I5, r5, y5, st5, fr5⟩ => ?_)
    have I5' := I5.pinned (stat fr5) (T.obj _ _ st5)
    refine wpAny_passesOwn hp (thn (hg _ s5 σ3 H5 x u _ I5' r5 (step x H5 y5)) fun _ s6 ⟨σ6, H6, I6, q6⟩ => ?_)
    refine wpAny_passesOwn hp (thn (hb _ s6 σ6 H6 _ I6 q6) fun f s7 q7 => ?_)
    have again : ∀ {σ7 : St} {H7 : Hp}, Inv X (pins ++ pinsAt fp s5.heap) σ7 H7 s7 → N σ7 H7 → ∃ m, m < n ∧ ∃ i σ' H', Inv X pins σ' H' s7 ∧ tn i s7.heap ∧ (∀ b ∈ fp, H' b = none) ∧ W i m σ' H' := fun {σ7 H7} I7 n7 => by
      obtain ⟨m', hm, w7⟩ := hN σ7 H7 n7
      refine ⟨m', hm, i + 1, σ7, H7, I7.unpinned, T.keep _ _ _ st5 fun b hb o e => (I7.pin (b, o) (List.mem_append_right _ (List.mem_append_right _ (mem_pinsAt hb e)))).1, fun b hb => ?_, w7⟩
      obtain ⟨o, e, d⟩ := T.obj _ _ st5 b hb
      exact (I7.pin (b, o) (List.mem_append_right _ (List.mem_append_right _ (mem_pinsAt hb e)))).2.1
    cases f with
    | next => obtain ⟨σ7, H7, I7, n7⟩ := q7; exact again I7 n7
    | cont => obtain ⟨σ7, H7, I7, n7⟩ := q7; exact again I7 n7
    | brk => obtain ⟨σ7, H7, I7, q7⟩ := q7; exact ⟨σ7, H7, I7.unpinned, q7⟩
    | ret v => obtain ⟨x7, σ7, H7, I7, r7, q7⟩ := q7; exact ⟨x7, σ7, H7, I7.unpinned, r7, q7⟩
end

/-! ### the forms one uses -/
/-- over a list that the body leaves as it is -/
theorem for_list {K : PySem.W.Frag} {a : Addr} {xs : List V} {g : TG} {tb : TS} {D : Ends} {σ : St} {H : Hp} (Pv : Nat → St → Hp → Prop) (h0 : Pv 0 σ H) (hl : ∀ i σ H, i ≤ xs.length → Pv i σ H → SqL K H a xs)
    (hs : ∀ i x σ H, xs[i]? = some x → Pv i σ H → g x σ H fun σ2 H2 => tb { D with nx := Pv (i + 1), ct := Pv (i + 1), bk := D.nx } σ2 H2) (hd : ∀ σ H, Pv xs.length σ H → D.nx σ H) :
    ∃ W : Nat → Nat → St → Hp → Prop, (∃ m, W 0 m σ H) ∧ ∀ i m σ H, W i m σ H →
      ((Itl K a).stop i H ∧ D.nx σ H) ∨ ((Itl K a).go i H ∧ ∃ N : St → Hp → Prop, (∀ σ' H', N σ' H' → ∃ m', m' < m ∧ W (i + 1) m' σ' H') ∧ ∀ x H', (Itl K a).yld i H x H' → g x σ H' fun σ2 H2 => tb { D with nx := N, ct := N, bk := D.nx } σ2 H2) := by
  refine ⟨fun i m σ H => m = xs.length - i ∧ i ≤ xs.length ∧ Pv i σ H, ⟨xs.length, by simp, Nat.zero_le _, h0⟩, ?_⟩
  rintro i m σ H ⟨rfl, hi, p⟩
  have q := hl i σ H hi p
  by_cases hlt : i < xs.length
  · refine .inr ⟨⟨xs, xs[i], q, by simp [hlt]⟩, Pv (i + 1), fun σ' H' p' => ⟨xs.length - (i + 1), by omega, rfl, hlt, p'⟩, fun x H' y => ?_⟩
    obtain ⟨e, y⟩ := y
    subst e
    exact hs i x σ _ (y xs q) p
  · have e : i = xs.length := by omega
    subst e
    exact .inl ⟨⟨xs, q, Nat.le_refl _⟩, hd σ H p⟩
theorem for_range {lo : Int} {n : Nat} {g : TG} {tb : TS} {D : Ends} {σ : St} {H : Hp} (Pv : Nat → St → Hp → Prop) (h0 : Pv 0 σ H)
    (hs : ∀ i σ H, i < n → Pv i σ H → g (.int (lo + i)) σ H fun σ2 H2 => tb { D with nx := Pv (i + 1), ct := Pv (i + 1), bk := D.nx } σ2 H2) (hd : ∀ σ H, Pv n σ H → D.nx σ H) :
    ∃ W : Nat → Nat → St → Hp → Prop, (∃ m, W 0 m σ H) ∧ ∀ i m σ H, W i m σ H →
      ((Itr lo n).stop i H ∧ D.nx σ H) ∨ ((Itr lo n).go i H ∧ ∃ N : St → Hp → Prop, (∀ σ' H', N σ' H' → ∃ m', m' < m ∧ W (i + 1) m' σ' H') ∧ ∀ x H', (Itr lo n).yld i H x H' → g x σ H' fun σ2 H2 => tb { D with nx := N, ct := N, bk := D.nx } σ2 H2) := by
  refine ⟨fun i m σ H => m = n - i ∧ i ≤ n ∧ Pv i σ H, ⟨n, by simp, Nat.zero_le _, h0⟩, ?_⟩
  rintro i m σ H ⟨rfl, hi, p⟩
  by_cases hlt : i < n
  · refine .inr ⟨hlt, Pv (i + 1), fun σ' H' p' => ⟨n - (i + 1), by omega, rfl, hlt, p'⟩, fun x H' y => ?_⟩
    obtain ⟨e, y⟩ := y
    subst e y
    exact hs i σ _ hlt p
  · have e : i = n := by omega
    subst e
    exact .inl ⟨Nat.le_refl _, hd σ H p⟩
end L2

namespace L2
open PySem PySem.Spec PyProof.Rows

abbrev R2 := V → V → Hp → VK → Prop
/-- a two-place operation on values: f is binaryOp op, inplaceOp op or compareOp op -/
def OpR (X : Cx) (f : Value → Value → Sem Value) (r : R2) : Prop :=
  ∀ (pins : List (Addr × Obj)) (s : Shared) (σ : St) (H : Hp) (x y : V) (v u : Value) (Q : VK), Inv X pins σ H s → RelV x v → RelV y u → r x y H Q →
    wpAny (model X.prog X.w) X.A (f v u) (EP X pins σ Q) X.xe s
/-- a one-place operation -/
def UnR (X : Cx) (f : Value → Sem Value) (r : V → Hp → VK → Prop) : Prop :=
  ∀ (pins : List (Addr × Obj)) (s : Shared) (σ : St) (H : Hp) (x : V) (v : Value) (Q : VK), Inv X pins σ H s → RelV x v → r x H Q →
    wpAny (model X.prog X.w) X.A (f v) (EP X pins σ Q) X.xe s
/-- a call of a value that is known (a builtin, a type) with values -/
def CallR (X : Cx) (f : Value) (r : List V → Hp → VK → Prop) : Prop :=
  ∀ (pins : List (Addr × Obj)) (s : Shared) (σ : St) (H : Hp) (xs : List V) (us : List Value) (Q : VK), Inv X pins σ H s → Vals xs us → r xs H Q →
    wpAny (model X.prog X.w) X.A (call f us) (EP X pins σ Q) X.xe s
/-- a value's truth -/
def TruR (X : Cx) (r : V → Hp → (Bool → Hp → Prop) → Prop) : Prop :=
  ∀ (pins : List (Addr × Obj)) (s : Shared) (σ : St) (H : Hp) (x : V) (v : Value) (Q : Bool → Hp → Prop), Inv X pins σ H s → RelV x v → r x H Q →
    wpAny (model X.prog X.w) X.A (truthy v) (TP X pins σ Q) X.xe s

def tOp (r : R2) (ta tb : TE) : TE := fun σ H Q => ta σ H fun x H1 => tb σ H1 fun y H2 => r x y H2 Q
def tUn (r : V → Hp → VK → Prop) (ta : TE) : TE := fun σ H Q => ta σ H fun x H1 => r x H1 Q
/-- ints in, under C, and a value out -/
def rI (C : Int → Int → Prop) (g : Int → Int → V) : R2 := fun x y H Q => ∃ i j, x = .int i ∧ y = .int j ∧ C i j ∧ Q (g i j) H
def rI0 (g : Int → Int → V) : R2 := fun x y H Q => ∃ i j, x = .int i ∧ y = .int j ∧ Q (g i j) H
def rU (g : Int → V) : V → Hp → VK → Prop := fun x H Q => ∃ i, x = .int i ∧ Q (g i) H

section
variable {X : Cx} {a b c : Expr} {ta tb tc : TE} {pos : Pos}

theorem binT (ha : PE X a ta) (hb : PE X b tb) {pins : List (Addr × Obj)} {s : Shared} {σ : St} {H : Hp} {R : V → V → Hp → Prop} (I : Inv X pins σ H s)
    (h : ta σ H fun x H1 => tb σ H1 fun y H2 => R x y H2) {Q : Value → Shared → Prop} {f : Value → Value → Sem Value}
    (hf : ∀ v u s2 x y H2, Inv X pins σ H2 s2 → RelV x v → RelV y u → R x y H2 → wpAny (model X.prog X.w) X.A (f v u) Q X.xe s2) :
    wpAny (model X.prog X.w) X.A (eval a X.env) (fun v s₁ => wpAny (model X.prog X.w) X.A (eval b X.env) (fun u s₂ => wpAny (model X.prog X.w) X.A (f v u) Q X.xe s₂) X.xe s₁) X.xe s := by
  refine thn (ha pins s σ H _ I h) fun v s1 ⟨x, H1, I1, r1, q1⟩ => ?_
  refine thn (hb pins s1 σ H1 _ I1 q1) fun u s2 ⟨y, H2, I2, r2, q2⟩ => ?_
  exact hf v u s2 x y H2 I2 r1 r2 q2

theorem pe_op {op : Operator} {r : R2} (ho : OpR X (binaryOp op) r) (ha : PE X a ta) (hb : PE X b tb) : PE X (.BinOp a op b pos) (tOp r ta tb) := by
  intro pins s σ H Q I h
  exact wpAny_BinOp (binT ha hb I h fun v u s2 x y H2 I2 rx ry q => ho pins s2 σ H2 x y v u Q I2 rx ry q)
theorem pe_un {op : UnaryOp} {r : V → Hp → VK → Prop} (ho : UnR X (unaryOp op) r) (ha : PE X a ta) : PE X (.UnaryOp op a pos) (tUn r ta) := by
  intro pins s σ H Q I h
  exact UnaryOp_ (thn (ha pins s σ H _ I h) fun v s1 ⟨x, H1, I1, r1, q1⟩ => ho pins s1 σ H1 x v Q I1 r1 q1)
/-! ### ints -/
theorem opI {f : Value → Value → Sem Value} {C : Int → Int → Prop} {g : Int → Int → Int}
    (rule : ∀ (i j : Int) (t u : Tok) (s : Shared) (Q : Value → Shared → Prop) (E : Value → Shared → Prop), C i j → Q (.int (g i j) s.toks) { s with toks := s.toks + 1 } → wpAny (model X.prog X.w) X.A (f (.int i t) (.int j u)) Q E s) :
    OpR X f (rI C fun i j => .int (g i j)) := by
  intro pins s σ H x y v u Q I rx ry h
  obtain ⟨i, j, rfl, rfl, hc, q⟩ := h
  obtain ⟨t, rfl⟩ := rx
  obtain ⟨t', rfl⟩ := ry
  exact rule i j t t' s _ _ hc ⟨.int (g i j), H, I.tok _, ⟨_, rfl⟩, q⟩
theorem opI0 {f : Value → Value → Sem Value} {g : Int → Int → Int}
    (rule : ∀ (i j : Int) (t u : Tok) (s : Shared) (Q : Value → Shared → Prop) (E : Value → Shared → Prop), Q (.int (g i j) s.toks) { s with toks := s.toks + 1 } → wpAny (model X.prog X.w) X.A (f (.int i t) (.int j u)) Q E s) :
    OpR X f (rI0 fun i j => .int (g i j)) := by
  intro pins s σ H x y v u Q I rx ry h
  obtain ⟨i, j, rfl, rfl, q⟩ := h
  obtain ⟨t, rfl⟩ := rx
  obtain ⟨t', rfl⟩ := ry
  exact rule i j t t' s _ _ ⟨.int (g i j), H, I.tok _, ⟨_, rfl⟩, q⟩
theorem opB0 {f : Value → Value → Sem Value} {g : Int → Int → Bool}
    (rule : ∀ (i j : Int) (t u : Tok) (s : Shared) (Q : Value → Shared → Prop) (E : Value → Shared → Prop), Q (.bool (g i j)) s → wpAny (model X.prog X.w) X.A (f (.int i t) (.int j u)) Q E s) :
    OpR X f (rI0 fun i j => .bl (g i j)) := by
  intro pins s σ H x y v u Q I rx ry h
  obtain ⟨i, j, rfl, rfl, q⟩ := h
  obtain ⟨t, rfl⟩ := rx
  obtain ⟨t', rfl⟩ := ry
  exact rule i j t t' s _ _ ⟨.bl (g i j), H, I, rfl, q⟩

def CDiv (i j : Int) : Prop := 0 < j ∧ j < 1073741824
def CDivN (i j : Int) : Prop := j ≠ 0 ∧ j.natAbs < 1073741824
def CPow (i j : Int) : Prop := 0 ≤ j ∧ j ≤ 1000000 ∧ i.natAbs < 2 ^ 64
def CMul (i j : Int) : Prop := (-(2 ^ 64) < i ∧ i < 2 ^ 64) ∨ (-(2 ^ 64) < j ∧ j < 2 ^ 64)
theorem CMul.ok {i j : Int} (h : CMul i j) : IntMulOk i j := by
  rcases h with ⟨h1, h2⟩ | ⟨h1, h2⟩
  · exact .of_left (intBits_le_64 h1 h2)
  · exact .of_right (intBits_le_64 h1 h2)
theorem two_pow_nn (k : Nat) : (0 : Int) ≤ 2 ^ k := by
  rw [two_pow_cast]
  exact Int.natCast_nonneg _

theorem op_add : OpR X (binaryOp .Add) (rI0 fun i j => .int (i + j)) := opI0 fun _ _ _ _ _ _ _ q => add_int q
theorem op_sub : OpR X (binaryOp .Sub) (rI0 fun i j => .int (i - j)) := opI0 fun _ _ _ _ _ _ _ q => sub_int q
theorem op_mul : OpR X (binaryOp .Mult) (rI CMul fun i j => .int (i * j)) := opI fun _ _ _ _ _ _ _ hc q => mul_int q hc.ok
/-- // by a positive divisor -/
theorem op_fdiv : OpR X (binaryOp .FloorDiv) (rI CDiv fun i j => .int (i / j)) := opI fun i j _ _ _ _ _ hc q => by
  have h1 : (0 : Int) < j := hc.1
  have h2 : j < 1073741824 := hc.2
  exact floordiv_int (by omega) (by rw [Int.fdiv_eq_ediv_of_nonneg i (by omega)]; exact q) (.inl (PyProof.noPylong_small (by omega)))
/-- % by a positive divisor of any size -/
theorem op_mod : OpR X (binaryOp .Mod) (rI (fun _ j => 0 < j) fun i j => .int (i % j)) := opI fun i j _ _ _ _ _ hc q => by
  have h1 : (0 : Int) < j := hc
  exact mod_int' (by omega) (by rw [Int.fmod_eq_emod_of_nonneg i (by omega)]; exact q)
theorem op_shr : OpR X (binaryOp .RShift) (rI (fun _ j => 0 ≤ j) fun i j => .int (i / 2 ^ j.toNat)) := opI fun i j _ _ _ _ _ hc q =>
  rshift_int hc (by rw [Int.fdiv_eq_ediv_of_nonneg i (two_pow_nn _)]; exact q)
theorem op_and : OpR X (binaryOp .BitAnd) (rI0 fun i j => .int (Builtin.bitAnd i j)) := opI0 fun _ _ _ _ _ _ _ q => and_int q
theorem op_xor : OpR X (binaryOp .BitXor) (rI0 fun i j => .int (Builtin.bitXor i j)) := opI0 fun _ _ _ _ _ _ _ q => xor_int q

theorem iop_add : OpR X (inplaceOp .Add) (rI0 fun i j => .int (i + j)) := opI0 fun _ _ _ _ _ _ _ q => iadd_int q
theorem unI {f : Value → Sem Value} {g : Int → Int}
    (rule : ∀ (i : Int) (t : Tok) (s : Shared) (Q : Value → Shared → Prop) (E : Value → Shared → Prop), Q (.int (g i) s.toks) { s with toks := s.toks + 1 } → wpAny (model X.prog X.w) X.A (f (.int i t)) Q E s) :
    UnR X f (rU fun i => .int (g i)) := by
  intro pins s σ H x v Q I rx h
  obtain ⟨i, rfl, q⟩ := h
  obtain ⟨t, rfl⟩ := rx
  exact rule i t s _ _ ⟨.int (g i), H, I.tok _, ⟨_, rfl⟩, q⟩
theorem un_neg : UnR X (unaryOp .USub) (rU fun i => .int (-i)) := unI fun _ _ _ _ _ q => neg_int q
/-! ### bools among ints: n += (a < b) -/
end

/-! ### comparisons -/
/-- the scalars that == tells apart as data does -/
def scal : V → V → Bool
  | .non, .non => true | .non, .int _ => true | .int _, .non => true | .non, .bl _ => true | .bl _, .non => true | .non, .str _ => true | .str _, .non => true
  | .int _, .int _ => true | .bl _, .bl _ => true | .str _, .str _ => true | .byt _, .byt _ => true
  | .int _, .str _ => true | .str _, .int _ => true | .bl _, .str _ => true | .str _, .bl _ => true
  | _, _ => false
def rEq : R2 := fun x y H Q => scal x y = true ∧ Q (.bl (decide (x = y))) H
def rNe : R2 := fun x y H Q => scal x y = true ∧ Q (.bl (!decide (x = y))) H

theorem dec_int {i j : Int} : decide (V.int i = V.int j) = (i == j) := by
  rw [Bool.eq_iff_iff]
  simp
theorem dec_bl {i j : Bool} : decide (V.bl i = V.bl j) = (i == j) := by
  rw [Bool.eq_iff_iff]
  simp
theorem dec_str {i j : Str} : decide (V.str i = V.str j) = (i == j) := by
  rw [Bool.eq_iff_iff]
  simp
theorem dec_byt {i j : Array UInt8} : decide (V.byt i = V.byt j) = (i.toList == j.toList) := by
  rw [Bool.eq_iff_iff]
  cases i
  cases j
  simp

section
variable {X : Cx} {a b c : Expr} {ta tb tc : TE} {pos : Pos}
theorem fin_bl {pins : List (Addr × Obj)} {σ : St} {H : Hp} {s : Shared} {Q : VK} {k k' : Bool} (I : Inv X pins σ H s) (q : Q (.bl k) H) (e : k = k') : EP X pins σ Q (.bool k') s := by
  subst e
  exact ⟨.bl k, H, I, rfl, q⟩
theorem op_eq : OpR X (compareOp .Eq) rEq := by
  intro pins s σ H x y v u Q I rx ry h
  obtain ⟨hs, q⟩ := h
  cases x with
  | non =>
    cases rx
    cases y with
    | non => cases ry; exact PySem.EqNone.eq_none_none (fin_bl I q (by simp))
    | bl j => cases ry; exact PySem.EqNone.eq_none_bool (fin_bl I q (by simp))
    | int j => obtain ⟨t', rfl⟩ := ry; exact PySem.EqNone.eq_none_int (fin_bl I q (by simp))
    | str j => obtain ⟨t', rfl⟩ := ry; exact PySem.EqNone.eq_none_str (fin_bl I q (by simp))
    | _ => exact absurd (show false = true from hs) Bool.false_ne_true
  | bl i =>
    cases rx
    cases y with
    | non => cases ry; exact PySem.EqNone.eq_bool_none (fin_bl I q (by simp))
    | bl j => cases ry; exact eq_bool (fin_bl I q dec_bl)
    | str j => obtain ⟨t', rfl⟩ := ry; exact PySem.EqMixed.eq_bool_str (fin_bl I q (by simp))
    | _ => exact absurd (show false = true from hs) Bool.false_ne_true
  | int i =>
    obtain ⟨t, rfl⟩ := rx
    cases y with
    | non => cases ry; exact PySem.EqNone.eq_int_none (fin_bl I q (by simp))
    | int j => obtain ⟨t', rfl⟩ := ry; exact eq_int (fin_bl I q dec_int)
    | str j => obtain ⟨t', rfl⟩ := ry; exact PySem.EqMixed.eq_int_str (fin_bl I q (by simp))
    | _ => exact absurd (show false = true from hs) Bool.false_ne_true
  | str i =>
    obtain ⟨t, rfl⟩ := rx
    cases y with
    | non => cases ry; exact PySem.EqNone.eq_str_none (fin_bl I q (by simp))
    | bl j => cases ry; exact PySem.EqMixed.eq_str_bool (fin_bl I q (by simp))
    | int j => obtain ⟨t', rfl⟩ := ry; exact PySem.EqMixed.eq_str_int (fin_bl I q (by simp))
    | str j => obtain ⟨t', rfl⟩ := ry; exact eq_str (fin_bl I q dec_str)
    | _ => exact absurd (show false = true from hs) Bool.false_ne_true
  | byt i =>
    obtain ⟨t, rfl⟩ := rx
    cases y with
    | byt j => obtain ⟨t', rfl⟩ := ry; exact PySem.W.eq_bytes (fin_bl I q dec_byt)
    | _ => exact absurd (show false = true from hs) Bool.false_ne_true
  | _ => cases y <;> exact absurd (show false = true from hs) Bool.false_ne_true
theorem op_ne : OpR X (compareOp .NotEq) rNe := by
  intro pins s σ H x y v u Q I rx ry h
  obtain ⟨hs, q⟩ := h
  cases x with
  | non =>
    cases rx
    cases y with
    | non => cases ry; exact PySem.EqNone.ne_none_none (fin_bl I q (by simp))
    | bl j => cases ry; exact PySem.EqNone.ne_none_bool (fin_bl I q (by simp))
    | int j => obtain ⟨t', rfl⟩ := ry; exact PySem.EqNone.ne_none_int (fin_bl I q (by simp))
    | str j => obtain ⟨t', rfl⟩ := ry; exact PySem.EqNone.ne_none_str (fin_bl I q (by simp))
    | _ => exact absurd (show false = true from hs) Bool.false_ne_true
  | bl i =>
    cases rx
    cases y with
    | non => cases ry; exact PySem.EqNone.ne_bool_none (fin_bl I q (by simp))
    | bl j => cases ry; exact ne_bool (fin_bl I q (congrArg not dec_bl))
    | str j => obtain ⟨t', rfl⟩ := ry; exact PySem.EqMixed.ne_bool_str (fin_bl I q (by simp))
    | _ => exact absurd (show false = true from hs) Bool.false_ne_true
  | int i =>
    obtain ⟨t, rfl⟩ := rx
    cases y with
    | non => cases ry; exact PySem.EqNone.ne_int_none (fin_bl I q (by simp))
    | int j => obtain ⟨t', rfl⟩ := ry; exact ne_int (fin_bl I q (congrArg not dec_int))
    | str j => obtain ⟨t', rfl⟩ := ry; exact PySem.EqMixed.ne_int_str (fin_bl I q (by simp))
    | _ => exact absurd (show false = true from hs) Bool.false_ne_true
  | str i =>
    obtain ⟨t, rfl⟩ := rx
    cases y with
    | non => cases ry; exact PySem.EqNone.ne_str_none (fin_bl I q (by simp))
    | bl j => cases ry; exact PySem.EqMixed.ne_str_bool (fin_bl I q (by simp))
    | int j => obtain ⟨t', rfl⟩ := ry; exact PySem.EqMixed.ne_str_int (fin_bl I q (by simp))
    | str j => obtain ⟨t', rfl⟩ := ry; exact ne_str (fin_bl I q (congrArg not dec_str))
    | _ => exact absurd (show false = true from hs) Bool.false_ne_true
  | byt i =>
    obtain ⟨t, rfl⟩ := rx
    cases y with
    | byt j => obtain ⟨t', rfl⟩ := ry; exact PySem.W.ne_bytes (fin_bl I q (congrArg not dec_byt))
    | _ => exact absurd (show false = true from hs) Bool.false_ne_true
  | _ => cases y <;> exact absurd (show false = true from hs) Bool.false_ne_true

theorem op_lt : OpR X (compareOp .Lt) (rI0 fun i j => .bl (decide (i < j))) := opB0 fun _ _ _ _ _ _ _ q => lt_int q
theorem op_le : OpR X (compareOp .LtE) (rI0 fun i j => .bl (decide (i ≤ j))) := opB0 fun _ _ _ _ _ _ _ q => le_int q
/-- the one string within the other -/
theorem op_in_str : OpR X (compareOp .In) (fun x y H Q => ∃ i j, x = .str i ∧ y = .str j ∧ Q (.bl (!(Builtin.Str.occurrences j i 0 j.length 1).isEmpty)) H) := by
  intro pins s σ H x y v u Q I rx ry h
  obtain ⟨i, j, rfl, rfl, q⟩ := h
  obtain ⟨t, rfl⟩ := rx
  obtain ⟨t', rfl⟩ := ry
  exact in_str (fin_bl I q rfl)

/-- is, is not of two objects that are tracked lists or instances -/
def isObj : HO → Bool
  | .lst _ => true
  | .ins _ _ _ => true
  | _ => false
/-- two rules for one operation: by cases -/
theorem OpR.or {f : Value → Value → Sem Value} {r r' : R2} (h : OpR X f r) (h' : OpR X f r') : OpR X f (fun x y H Q => r x y H Q ∨ r' x y H Q) := by
  intro pins s σ H x y v u Q I rx ry q
  rcases q with q | q
  · exact h pins s σ H x y v u Q I rx ry q
  · exact h' pins s σ H x y v u Q I rx ry q

theorem nomark (b : Expr) {op : CmpOp} (h : op ≠ .In := by decide) (h2 : op ≠ .NotIn := by decide) : behindInMarks op b = false := by
  have e1 : (op == CmpOp.In) = false := by cases op <;> first | rfl | exact absurd rfl h
  have e2 : (op == CmpOp.NotIn) = false := by cases op <;> first | rfl | exact absurd rfl h2
  cases b <;> simp [behindInMarks, e1, e2]
/-- a comparison as a value; hm: nomark b, or (for in, not in) by with_unfolding_all rfl -/
theorem pe_cmpR {op : CmpOp} {r : R2} (ho : OpR X (compareOp op) r) (ha : PE X a ta) (hb : PE X b tb) (hm : behindInMarks op b = false) : PE X (.Compare a [op] [b] pos) (tOp r ta tb) := by
  intro pins s σ H Q I h
  exact wpAny_Compare1 (binT ha hb I h fun v u s2 x y H2 I2 rx ry q => ho pins s2 σ H2 x y v u Q I2 rx ry q) hm
/-- a reading of a value as a test -/
def tTest (t : TE) : TT := fun σ H Q => t σ H fun x H' => ∃ k, x = .bl k ∧ Q k H'
theorem pt_cmpR {op : CmpOp} {r : R2} (ho : OpR X (compareOp op) r) (ha : PE X a ta) (hb : PE X b tb) (hm : behindInMarks op b = false) : PT X (.Compare a [op] [b] pos) (tTest (tOp r ta tb)) := by
  intro pins s σ H Q I h
  refine wpAny_isTrue_Compare1 (thn (ha pins s σ H _ I h) fun v s1 ⟨x, H1, I1, r1, q1⟩ => thn (hb pins s1 σ H1 _ I1 q1) fun u s2 ⟨y, H2, I2, r2, q2⟩ =>
    thn (ho pins s2 σ H2 x y v u _ I2 r1 r2 q2) fun c s3 ⟨z, H3, I3, r3, k, e, q3⟩ => ?_) hm
  subst e
  cases r3
  exact wpAny_truthy_bool ⟨H3, I3, q3⟩
/-- a op1 b op2 c -/
def tChain (r r' : R2) (ta tb tc : TE) : TE := fun σ H Q => ta σ H fun x H1 => tb σ H1 fun y H2 => r x y H2 fun z H3 => ∃ k, z = .bl k ∧
  (if k = true then tc σ H3 fun w' H4 => r' y w' H4 Q else Q (.bl false) H3)
theorem pe_chain {op op' : CmpOp} {r r' : R2} (ho : OpR X (compareOp op) r) (ho' : OpR X (compareOp op') r') (ha : PE X a ta) (hb : PE X b tb) (hc : PE X c tc)
    (hm : lastMarks [op, op'] [b, c] = false := by with_unfolding_all rfl) : PE X (.Compare a [op, op'] [b, c] pos) (tChain r r' ta tb tc) := by
  intro pins s σ H Q I h
  refine Compare_chain (thn (ha pins s σ H _ I h) fun v s1 ⟨x, H1, I1, r1, q1⟩ => chain_link (thn (hb pins s1 σ H1 _ I1 q1) fun u s2 ⟨y, H2, I2, r2, q2⟩ =>
    thn (ho pins s2 σ H2 x y v u _ I2 r1 r2 q2) fun d s3 ⟨z, H3, I3, r3, k, e, q3⟩ => ?_)) hm
  subst e
  cases r3
  refine wpAny_truthy_bool ?_
  cases k with
  | false => exact ite_ff ⟨.bl false, H3, I3, rfl, q3⟩
  | true => exact ite_tt (chain_last (thn (hc pins s3 σ H3 _ I3 q3) fun w' s4 ⟨z', H4, I4, r4, q4⟩ => ho' pins s4 σ H4 y z' u w' Q I4 r2 r4 q4))
theorem pt_chain {op op' : CmpOp} {r r' : R2} (ho : OpR X (compareOp op) r) (ho' : OpR X (compareOp op') r') (ha : PE X a ta) (hb : PE X b tb) (hc : PE X c tc)
    (hm : lastMarks [op, op'] [b, c] = false := by with_unfolding_all rfl) : PT X (.Compare a [op, op'] [b, c] pos) (tTest (tChain r r' ta tb tc)) := by
  intro pins s σ H Q I h
  refine isTrue_chain (thn (ha pins s σ H _ I h) fun v s1 ⟨x, H1, I1, r1, q1⟩ => test_link (thn (hb pins s1 σ H1 _ I1 q1) fun u s2 ⟨y, H2, I2, r2, q2⟩ =>
    thn (ho pins s2 σ H2 x y v u _ I2 r1 r2 q2) fun d s3 ⟨z, H3, I3, r3, k, e, q3⟩ => ?_)) hm
  subst e
  cases r3
  refine wpAny_truthy_bool ?_
  cases k with
  | false =>
    obtain ⟨k', e', q'⟩ := q3
    cases e'
    exact ite_ff ⟨H3, I3, q'⟩
  | true =>
    refine ite_tt (test_last (thn (hc pins s3 σ H3 _ I3 q3) fun w' s4 ⟨z', H4, I4, r4, q4⟩ => thn (ho' pins s4 σ H4 y z' u w' _ I4 r2 r4 q4) fun d' s5 ⟨z2, H5, I5, r5, k2, e2, q5⟩ => ?_))
    subst e2
    cases r5
    exact wpAny_truthy_bool ⟨H5, I5, q5⟩

/-! ### truth -/
/-- a value's truth by the abstract heap -/
def TruV (K : PySem.W.Frag) (x : V) (H : Hp) (k : Bool) : Prop :=
  match x with
  | .non => k = false
  | .bl b => k = b
  | .int i => k = (i != 0)
  | .str y => y.length ≤ sizeLine ∧ k = ((y.length : Int) != 0)
  | .byt y => y.size ≤ sizeLine ∧ k = ((y.size : Int) != 0)
  | .ref p => (∃ xs, SqL K H p xs ∧ k = !xs.isEmpty) ∨ (∃ xs, SqT K H p xs ∧ k = !xs.isEmpty) ∨ ∃ kvs, H p = some (.dK kvs) ∧ k = !kvs.isEmpty
  | _ => False
theorem isEmpty_kv {κ : Type} {kvs : List (κ × V)} {vs : List (κ × Value)} (r : KV kvs vs) : (!vs.isEmpty) = !kvs.isEmpty := by
  cases r <;> rfl
theorem isEmpty_of {xs : List V} {its : List Value} (r : Vals xs its) : (!its.toArray.isEmpty) = !xs.isEmpty := by
  cases r <;> simp
theorem line63 : (sizeLine : Nat) < 2 ^ 63 := by rw [sizeLine_eq]; decide
theorem tru_ok : TruR X (fun x H Q => ∃ k, TruV X.K x H k ∧ Q k H) := by
  intro pins s σ H x v Q I rx h
  obtain ⟨k, e, q⟩ := h
  have hl := line63
  have hs : sizeLine = 16777216 := sizeLine_eq
  cases x with
  | non =>
    cases rx
    have e' : k = false := e
    subst e'
    exact truthy_none ⟨H, I, q⟩
  | bl b =>
    cases rx
    have e' : k = b := e
    subst e'
    exact wpAny_truthy_bool ⟨H, I, q⟩
  | int i =>
    obtain ⟨t, rfl⟩ := rx
    have e' : k = (i != 0) := e
    subst e'
    exact PySem.P.truthy_int ⟨H, I, q⟩
  | str y =>
    obtain ⟨t, rfl⟩ := rx
    obtain ⟨hy, e'⟩ : y.length ≤ sizeLine ∧ k = ((y.length : Int) != 0) := e
    subst e'
    exact PySem.P.truthy_str (by omega) ⟨H, I.tok _, q⟩
  | byt y =>
    obtain ⟨t, rfl⟩ := rx
    obtain ⟨hy, e'⟩ : y.size ≤ sizeLine ∧ k = ((y.size : Int) != 0) := e
    subst e'
    exact PySem.W.truthy_bytes (by omega) ⟨H, I.tok _, q⟩
  | ref p =>
    cases rx
    have e' : (∃ xs, SqL X.K H p xs ∧ k = !xs.isEmpty) ∨ (∃ xs, SqT X.K H p xs ∧ k = !xs.isEmpty) ∨ ∃ kvs, H p = some (.dK kvs) ∧ k = !kvs.isEmpty := e
    rcases e' with ⟨xs, hx, e'⟩ | ⟨xs, hx, e'⟩ | ⟨kvs, hx, e'⟩
    · subst e'
      obtain ⟨its, r, pl, hz⟩ := I.list hx
      have hlen := r.length
      exact wpAny_truthy_list pl.isList (by simp only [List.size_toArray]; omega) ⟨H, I.tok _, by rw [isEmpty_of r]; exact q⟩
    · subst e'
      obtain ⟨its, r, pl, hz⟩ := I.tuple hx
      have hlen := r.length
      exact truthy_tuple pl (by simp only [List.size_toArray]; omega) ⟨H, I.tok _, by rw [isEmpty_of r]; exact q⟩
    · subst e'
      obtain ⟨hz, hS, vs, r, m⟩ : kvs.length ≤ sizeLine ∧ (p == sysModules) = false ∧ ∃ vs, KV kvs vs ∧ s.heap.DictOf (mixKind X.prog X.w) p vs := I.hok p _ hx
      have hlen : kvs.length = vs.length := Paired.length r
      exact wpAny_truthy_dict hS m (by omega) ⟨H, I.tok _, by rw [isEmpty_kv r]; exact q⟩
  | _ => exact (show False from e).elim
/-- any expression whose test is its value's truth (a name, a call, a subscript, a field ..: he by fun _ => rfl) -/
theorem pt_truth (ha : PE X a ta) (he : ∀ whole, isTrue a X.env whole = (do let v ← whole; standAt a.pos; holding [v] (truthy v))) :
    PT X a (fun σ H Q => ta σ H fun x H' => ∃ k, TruV X.K x H' k ∧ Q k H') := by
  intro pins s σ H Q I h
  exact isTrue_plain (thn (ha pins s σ H _ I h) fun v s1 ⟨x, H1, I1, r1, q1⟩ => tru_ok pins s1 σ H1 x v Q I1 r1 q1) (he _)

/-! ### strs and bytes -/
theorem op_add_str : OpR X (binaryOp .Add) (fun x y H Q => ∃ i j, x = .str i ∧ y = .str j ∧ i.length + j.length ≤ sizeLine ∧ Q (.str (i ++ j)) H) := by
  intro pins s σ H x y v u Q I rx ry h
  obtain ⟨i, j, rfl, rfl, hz, q⟩ := h
  obtain ⟨t, rfl⟩ := rx
  obtain ⟨t', rfl⟩ := ry
  exact add_str (fun t' tk => ⟨.str (i ++ j), H, I.tok _, ⟨_, rfl⟩, q⟩) hz
def PlainIxT (b : Expr) : Prop := ∀ o i, subscripted b false o i = operate [o, i] (getItem o i)
/-! ### scalar builtins, by CallR -/
theorem vals1 {x : V} {us : List Value} (r : Vals [x] us) : ∃ u, us = [u] ∧ RelV x u := by
  cases r with
  | cons r1 r2 => cases r2; exact ⟨_, rfl, r1⟩
theorem vals2 {x y : V} {us : List Value} (r : Vals [x, y] us) : ∃ u w', us = [u, w'] ∧ RelV x u ∧ RelV y w' := by
  cases r with
  | cons r1 r2 =>
    cases r2 with
    | cons r3 r4 => cases r4; exact ⟨_, _, rfl, r1, r3⟩
theorem call_ord : CallR X (.builtin "ord") (fun xs H Q => ∃ x, xs = [.str x] ∧ x.length = 1 ∧ Q (.int (x.cps.getD 0 0 : Nat)) H) := by
  intro pins s σ H xs us Q I r h
  obtain ⟨x, rfl, hz, q⟩ := h
  obtain ⟨u, rfl, t, rfl⟩ := vals1 r
  exact ord_of_one hz ⟨.int _, H, I.tok _, ⟨_, rfl⟩, q⟩
/-- len of a str, a bytes, a list, a tuple -/
def LenV (K : PySem.W.Frag) (x : V) (H : Hp) (n : Nat) : Prop :=
  match x with
  | .str y => y.length ≤ sizeLine ∧ n = y.length
  | .byt y => y.size ≤ sizeLine ∧ n = y.size
  | .ref p => (∃ xs, SqL K H p xs ∧ n = xs.length) ∨ ∃ xs, SqT K H p xs ∧ n = xs.length
  | _ => False
end
end L2

namespace L2
open PySem PySem.Spec PyProof.Rows

/-! ### an instance, its attributes a map -/
structure ObjM (h : Heap) (x dx C : Addr) (mA : Str → Option Value) : Prop where
  obj : h.get? x = some (PySem.W.instObj C dx)
  ns : h.Ns1 dx mA
  ne : dx ≠ x

theorem lookIn_ns {h : Heap} {dx : Addr} {mA : Str → Option Value} (n : h.Ns1 dx mA) : ∃ od, h.get? dx = some od ∧ ∀ name, PySem.W.lookIn name od = some (mA name) := by
  obtain ⟨o, es, ep, ho, hd, hk, _, hm⟩ := n
  refine ⟨o, ho, fun name => ?_⟩
  have e := hm name
  unfold nsFind findBy at e
  rw [← Array.find?_toList] at e
  unfold PySem.W.lookIn
  rw [hd]
  dsimp only
  split
  · rename_i y q
    rw [q] at e
    exact congrArg some e
  · rename_i q
    rw [q] at e
    have a : es.toList.any (·.refKey) = false := by
      rw [List.any_eq_false]
      intro y hy
      obtain ⟨z, t, hkey⟩ := hk y (Array.mem_toList_iff.mp hy)
      simp [DictEntry.refKey, hkey]
    have a' : ¬ es.toList.any (·.refKey) = true := by rw [a]; exact Bool.false_ne_true
    rw [if_neg a']
    exact congrArg some e

theorem ObjM.look {h : Heap} {x dx C : Addr} {mA : Str → Option Value} (I : ObjM h x dx C mA) : ∃ od, PySem.W.InstAt h x (PySem.W.instObj C dx) C (some od) ∧ ∀ name, PySem.W.lookIn name od = some (mA name) :=
  let ⟨od, ho, hl⟩ := lookIn_ns I.ns
  ⟨od, ⟨I.obj, rfl, rfl, ho⟩, hl⟩

section
variable {prog : Program} {w : World} {A : Around} {E : Value → Shared → Prop} {s : Shared} {K : PySem.W.Frag} {x dx C f : Addr} {mA : Str → Option Value} {name : Str} {v : Value}

theorem get_map {expr : Bool} {Q : Value → Shared → Prop} (X : K.In s.heap) (I : ObjM s.heap x dx C mA) (hg : PySem.W.plainGet K C name = true) (hh : PySem.W.hasDictIn K C = true)
    (ha : PySem.W.findIn K (.ref C) name = some none) (hv : mA name = some v) (hv' : PySem.W.handedIn v = true) (h : Q v { s with toks := s.toks + 1 }) :
    wpAny (model prog w) A (getAttr (.ref x) name expr) Q E s := by
  obtain ⟨od, J, hl⟩ := I.look
  exact PySem.W.get_value X J (PySem.W.plainGet_of hg).1 (PySem.W.findObj_own hh ha rfl (by rw [hl, hv])) hv' h

theorem get_meth {pl : Sem Bool} {Q : Value × List Value → Shared → Prop} (X : K.In s.heap) (I : ObjM s.heap x dx C mA) (hg : PySem.W.plainGet K C name = true)
    (hf : PySem.W.findIn K (.ref C) name = some (some (.ref f))) (ht : PySem.W.isFn K (.ref f) = true) (hv : mA name = none) (h : Q (.ref f, [.ref x]) s) :
    wpAny (model prog w) A (getMethod (.ref x) name pl) Q E s := by
  obtain ⟨od, J, hl⟩ := I.look
  exact PySem.W.method_fn X J (PySem.W.plainGet_of hg).1 (PySem.W.plainGet_of hg).2 hf (beq_iff_eq.mp ht) (by show (PySem.W.lookIn name od).map (·.isSome) = some false; rw [hl, hv]; rfl) h

theorem set_map {ns : List Str} {Q : Unit → Shared → Prop} (X : K.In s.heap) (I : ObjM s.heap x dx C mA)
    (hs : PySem.W.findIn K (.ref C) "__setattr__" = some (some (.builtin "object.__setattr__"))) (hp : PySem.W.plainOver K C = true) (ht : PySem.W.takerIn K C name = some none) (hh : PySem.W.hasDictIn K C = true)
    (hw : PySem.Within mA ns) (hsz : ns.length ≤ sizeLine)
    (h : ∀ h', ObjM h' x dx C (fun y => if y = name then some v else mA y) → Heap.SameBut dx s.heap h' → Q () { s with heap := h', toks := s.toks + 2 }) :
    wpAny (model prog w) A (setAttr (.ref x) name v) Q E s := by
  obtain ⟨od, J, hl⟩ := I.look
  refine PySem.W.set_plain X J hs (PySem.W.osa_open (s := { s with toks := s.toks + 1 }) (r := none) X J hp ht fun b => ?_)
  obtain ⟨cd, hc, hd'⟩ := PySem.W.any_some hh
  have hx : s.heap.get? x = some ⟨.ref C, some dx, .plain, #[]⟩ := I.obj
  refine wpAny_bind (wpAny_pure (wpAny_bind (wpAny_bind (wpAny_loadPart hx (wpAny_bind (PySem.W.Looks.here (s := { s with toks := s.toks + 1 }) (PySem.W.looks_clsIn X hc) ?_))))))
  rw [hd']
  refine wpAny_pure (a := some dx) (wpAny_bind (wpAny_pure (wpAny_bind ?_)))
  refine wpAny_nsSet1 (s := { s with toks := s.toks + 1 }) I.ns fun h' hn2 hs2 => ?_
  obtain ⟨oD, esD, epD, hoD, hdD, hcD⟩ := hn2.count (PySem.Within.cons name v hw)
  refine wpAny_bind (wpAny_lookBehind hoD (by rw [hdD]; exact pastItsLine_dict (Nat.le_trans hcD (by rw [List.length_cons]; omega))) ?_)
  exact wpAny_pure (h _ ⟨(hs2.2 _ (Ne.symm I.ne)).trans I.obj, hn2, I.ne⟩ hs2)

/-- C(..): the dict at the heap's end, the instance behind it; then its __init__ -/
theorem make_map {R : Result → Shared → Prop} {vs : List Value} {kw : List (Str × Value)} (X : K.In s.heap) (hm : PySem.W.makesIn K C = true)
    (hi : PySem.W.findIn K (.ref C) "__init__" = some (some (.ref f))) (hf : PySem.W.typeIn K (.ref f) = some (.type "function"))
    (h : codeAny (model prog w) (A.under (.builtin "type.__call__" ⟨.ref C :: vs, kw⟩)) (.call (.ref f) ⟨.ref (s.heap.objs.size + 1) :: vs, kw⟩) (PySem.W.InitBack (s.heap.objs.size + 1) R)
      { s with heap := (s.heap.push PySem.W.emptyDict).push (PySem.W.instObj C s.heap.objs.size) }) :
    codeAny (model prog w) A (.call (.ref C) ⟨vs, kw⟩) R s := by
  obtain ⟨hh, g, d, t, os⟩ := s
  exact PySem.W.make_core (PySem.W.makes_of X hm) (PySem.W.looks_findIn X hi) (fun self => PySem.W.bind_fn X self hf) (.inl rfl) h
end

/-! ### the attributes as a list of pairs -/
def putF (f : Str) (v : V) : List (Str × V) → List (Str × V)
  | [] => [(f, v)]
  | (g, x) :: r => if g = f then (g, v) :: r else (g, x) :: putF f v r
theorem lookup_putF (f g : Str) (v : V) : ∀ fs : List (Str × V), (putF f v fs).lookup g = if g = f then some v else fs.lookup g
  | [] => by
    show List.lookup g [(f, v)] = _
    by_cases h : g = f
    · have hb : (g == f) = true := beq_iff_eq.mpr h
      simp only [List.lookup, hb, if_pos h]
    · have hb : (g == f) = false := beq_eq_false_iff_ne.mpr h
      simp only [List.lookup, hb, if_neg h]
  | (k, x) :: r => by
    have ih := lookup_putF f g v r
    rw [show putF f v ((k, x) :: r) = (if k = f then (k, v) :: r else (k, x) :: putF f v r) from rfl]
    by_cases hk : k = f
    · rw [if_pos hk]
      by_cases h : g = k
      · have hb : (g == k) = true := beq_iff_eq.mpr h
        simp only [List.lookup, hb, if_pos (h.trans hk)]
      · have hb : (g == k) = false := beq_eq_false_iff_ne.mpr h
        simp only [List.lookup, hb, if_neg (fun e : g = f => h (e.trans hk.symm))]
    · rw [if_neg hk]
      by_cases h : g = k
      · have hb : (g == k) = true := beq_iff_eq.mpr h
        simp only [List.lookup, hb, if_neg (fun e : g = f => hk (h.symm.trans e))]
      · have hb : (g == k) = false := beq_eq_false_iff_ne.mpr h
        simp only [List.lookup, hb]
        exact ih
theorem keys_putF (f : Str) (v : V) : ∀ fs : List (Str × V), f ∈ (putF f v fs).map (·.1) ∧ ∀ g, g ∈ fs.map (·.1) → g ∈ (putF f v fs).map (·.1)
  | [] => ⟨by simp [putF], fun g h => by simp at h⟩
  | (k, x) :: r => by
    obtain ⟨i1, i2⟩ := keys_putF f v r
    rw [show putF f v ((k, x) :: r) = (if k = f then (k, v) :: r else (k, x) :: putF f v r) from rfl]
    by_cases hk : k = f
    · rw [if_pos hk]
      subst hk
      exact ⟨by simp, fun g h => by simpa using h⟩
    · rw [if_neg hk]
      refine ⟨?_, fun g h => ?_⟩
      · rw [List.map_cons]
        exact List.mem_cons_of_mem _ i1
      · rw [List.map_cons] at h ⊢
        rcases List.mem_cons.mp h with e | e
        · exact List.mem_cons.mpr (.inl e)
        · exact List.mem_cons_of_mem _ (i2 g e)
theorem length_putF (f : Str) (v : V) : ∀ fs : List (Str × V), (putF f v fs).length ≤ fs.length + 1
  | [] => by simp [putF]
  | (k, x) :: r => by
    have ih := length_putF f v r
    rw [show putF f v ((k, x) :: r) = (if k = f then (k, v) :: r else (k, x) :: putF f v r) from rfl]
    by_cases hk : k = f
    · rw [if_pos hk, List.length_cons, List.length_cons]; omega
    · rw [if_neg hk, List.length_cons, List.length_cons]; omega

theorem RelO.some_of {v : V} {o : Option Value} (r : RelO (some v) o) : ∃ u, o = some u ∧ RelV v u := by
  cases o with
  | none => exact (show False from r).elim
  | some u => exact ⟨u, rfl, r⟩
theorem RelO.none_of {o : Option Value} (r : RelO none o) : o = none := by
  cases o with
  | none => rfl
  | some u => exact (show False from r).elim
theorem handed_of {v : V} {u : Value} (r : RelV v u) : PySem.W.handedIn u = true := by
  cases v with
  | non => cases (show u = Value.none from r); rfl
  | bl b => cases (show u = Value.bool b from r); rfl
  | int i => obtain ⟨t, e⟩ := (show ∃ t, u = Value.int i t from r); cases e; rfl
  | str x => obtain ⟨t, e⟩ := (show ∃ t, u = Value.str x t from r); cases e; rfl
  | byt b => obtain ⟨t, e⟩ := (show ∃ t, u = Value.bytes b t from r); cases e; rfl
  | flt b => obtain ⟨t, e⟩ := (show ∃ t, u = Value.float b t from r); cases e; rfl
  | ref a => cases (show u = Value.ref a from r); rfl
  | ty n => cases (show u = Value.type n from r); rfl

section
variable {P : Program} {w : World} {H H' : Hp} {h h' : Heap} {a C dx : Addr} {fs fs' : List (Str × V)}
theorem ins_get (hok : HOk P w H h) (e : H a = some (.ins C dx fs)) : ∃ mA, ObjM h a dx C mA ∧ (∀ f, RelO (fs.lookup f) (mA f)) ∧ PySem.Within mA (fs.map (·.1)) ∧ fs.length ≤ 1000 ∧ H dx = some (.own a) := by
  obtain ⟨d, z, ne, ob, mA, n, r, q⟩ := (show ObjOk P w H h a (.ins C dx fs) from hok a _ e)
  exact ⟨mA, ⟨ob, n, ne⟩, r, q, z, d⟩
end

/-! ### what of the text a class must have -/
structure Cls (K : PySem.W.Frag) (C : Addr) : Prop where
  pg : PySem.W.plainGet K C Str.empty = true
  hd : PySem.W.hasDictIn K C = true
  po : PySem.W.plainOver K C = true
  sa : PySem.W.findIn K (.ref C) "__setattr__" = some (some (.builtin "object.__setattr__"))
theorem Cls.get {K : PySem.W.Frag} {C : Addr} (c : Cls K C) (f : Str) : PySem.W.plainGet K C f = true := c.pg
/-- no class of it has the name -/
def NoAttr (K : PySem.W.Frag) (C : Addr) (f : Str) : Prop := PySem.W.findIn K (.ref C) f = some none
theorem NoAttr.taker {K : PySem.W.Frag} {C : Addr} {f : Str} (n : NoAttr K C f) : PySem.W.takerIn K C f = some none := by
  unfold PySem.W.takerIn
  rw [show PySem.W.findIn K (.ref C) f = some none from n]
  rfl
/-- a constant of the class -/
structure Con (K : PySem.W.Frag) (C : Addr) (f : Str) (v : V) (u : Value) : Prop where
  at_ : PySem.W.findIn K (.ref C) f = some (some u)
  rel : RelV v u
  get : PySem.W.specialIn K u "__get__" = some none
  cp : PySem.W.copiedNames.contains f = false
/-- a method: a plain def of the class or of one above it -/
structure Meth (K : PySem.W.Frag) (C : Addr) (m : Str) (f : Addr) : Prop where
  at_ : PySem.W.findIn K (.ref C) m = some (some (.ref f))
  fn : PySem.W.isFn K (.ref f) = true
  kp : PySem.W.keepIn K (.ref f) = true

section
variable {X : Cx} {pins : List (Addr × Obj)} {σ : St} {H : Hp} {s : Shared} {a C dx : Addr} {fs : List (Str × V)} {f : Str} {v : V} {A : Around} {E : Value → Shared → Prop}

theorem getattr_ok {b : Bool} {Q : Value → Shared → Prop} (I : Inv X pins σ H s) (e : H a = some (.ins C dx fs)) (c : Cls X.K C) (n : NoAttr X.K C f) (l : fs.lookup f = some v)
    (h : ∀ u s', Inv X pins σ H s' → RelV v u → Q u s') : wpAny (model X.prog X.w) A (getAttr (.ref a) f b) Q E s := by
  obtain ⟨mA, O, r, _, _, _⟩ := ins_get I.hok e
  obtain ⟨u, hu, ru⟩ := RelO.some_of (v := v) (o := mA f) (by rw [← l]; exact r f)
  exact get_map I.kIn O (c.get f) c.hd n hu (handed_of ru) (h u _ (I.tok _) ru)

theorem getmeth_ok {m : Str} {g : Addr} {pl : Sem Bool} {Q : Value × List Value → Shared → Prop} (I : Inv X pins σ H s) (e : H a = some (.ins C dx fs)) (c : Cls X.K C) (k : Meth X.K C m g) (l : fs.lookup m = none)
    (h : Q (.ref g, [.ref a]) s) : wpAny (model X.prog X.w) A (getMethod (.ref a) m pl) Q E s := by
  obtain ⟨mA, O, r, _, _, _⟩ := ins_get I.hok e
  have hn : mA m = none := RelO.none_of (by rw [← l]; exact r m)
  exact get_meth I.kIn O (c.get m) k.at_ k.fn hn h

theorem setattr_ok {y : V} {u : Value} {Q : Unit → Shared → Prop} (I : Inv X pins σ H s) (e : H a = some (.ins C dx fs)) (c : Cls X.K C) (n : NoAttr X.K C f) (hl : fs.length < 1000) (ry : RelV y u)
    (h : ∀ s', Inv X pins σ (upd H a (.ins C dx (putF f y fs))) s' → Q () s') : wpAny (model X.prog X.w) A (setAttr (.ref a) f u) Q E s := by
  obtain ⟨mA, O, r, wi, _, ho⟩ := ins_get I.hok e
  have hz : (fs.map (·.1)).length ≤ sizeLine := by rw [List.length_map, sizeLine_eq]; omega
  refine set_map I.kIn O c.sa c.po n.taker c.hd wi hz fun h' O' sb => h _ ?_
  have hd : ∃ o, h'.get? dx = some o := let ⟨o, _, _, e', _⟩ := O'.ns; ⟨o, e'⟩
  refine I.write (x := a) (e := dx) (by rw [e]; exact True.intro) (.inr ho) (fun b q hb z => (sb.2 b hb).trans z) hd ?_
  refine ⟨by rw [upd_ne O.ne]; exact ho, ?_, O.ne, O'.obj, _, O'.ns, fun g => ?_, fun g hg => ?_⟩
  · have := length_putF f y fs; omega
  · show RelO ((putF f y fs).lookup g) (if g = f then some u else mA g)
    rw [lookup_putF]
    by_cases q : g = f
    · rw [if_pos q, if_pos q]; exact ry
    · rw [if_neg q, if_neg q]; exact r g
  · by_cases q : g = f
    · rw [q]; exact (keys_putF f y fs).1
    · refine (keys_putF f y fs).2 g (wi g fun z => hg ?_)
      show (if g = f then some u else mA g) = none
      rw [if_neg q]; exact z

/-- a new instance, tracked, without attributes -/
theorem Inv.made (I : Inv X pins σ H s) : Inv X pins σ (upd (upd H s.heap.objs.size (.own (s.heap.objs.size + 1))) (s.heap.objs.size + 1) (.ins C s.heap.objs.size []))
    { s with heap := (s.heap.push PySem.W.emptyDict).push (PySem.W.instObj C s.heap.objs.size) } := by
  have e1 : (s.heap.push PySem.W.emptyDict).get? s.heap.objs.size = some PySem.W.emptyDict := Heap.get?_push_size s.heap rfl
  have e2 : ((s.heap.push PySem.W.emptyDict).push (PySem.W.instObj C s.heap.objs.size)).get? (s.heap.objs.size + 1) = some (PySem.W.instObj C s.heap.objs.size) := by
    have := Heap.get?_push_size (s.heap.push PySem.W.emptyDict) (o := PySem.W.instObj C s.heap.objs.size) rfl
    rwa [Heap.size_push] at this
  have e3 : (s.heap.push PySem.W.emptyDict).Ns s.heap.objs.size (fun _ => none) := ⟨PySem.W.emptyDict, #[], _, e1, rfl, (fun e he => absurd he (by simp)), fun _ => rfl⟩
  have I1 := I.laid (a := s.heap.objs.size) (o := .own (s.heap.objs.size + 1)) (h' := s.heap.push PySem.W.emptyDict) (t' := s.toks) (fun b u q => Heap.get?_push_of_some _ q) (Nat.le_refl _) ⟨_, e1⟩
  refine I1.laid (a := s.heap.objs.size + 1) (o := .ins C s.heap.objs.size []) (t' := s.toks) (fun b u q => Heap.get?_push_of_some _ q) (Nat.le_of_eq (Heap.size_push _ _)) ?_
  have ne : s.heap.objs.size ≠ s.heap.objs.size + 1 := Nat.ne_of_lt (Nat.lt_succ_self _)
  refine ⟨by rw [upd_ne ne, upd_same], Nat.zero_le _, ne, e2, fun _ => none, (Heap.Ns1.of_empty e3).at fun o q => Heap.get?_push_of_some _ q, fun _ => True.intro, fun y hy => absurd rfl hy⟩

/-- e.f where nothing but the object is asked: through attributeBase (super) and the last hold -/
theorem attr_of {prog : Program} {w : World} {env : Env} {e : Expr} {f : Str} {pos : Pos} {s : Shared} {Q : Value → Shared → Prop} (hb : attributeBase e f env (eval e env) = eval e env)
    (h : wpAny (model prog w) A (eval e env) (fun o s₁ => wpAny (model prog w) A (getAttr o f true) Q E s₁) E s) : wpAny (model prog w) A (eval (.Attribute e f pos) env) Q E s :=
  Attribute_any_ h (by rw [arm_eval_Attribute, hb])
end

/-! ### readings and rules -/
/-- e.f, an attribute of the instance -/
def tFld (K : PySem.W.Frag) (ta : TE) (f : Str) : TE := fun σ H Q => ta σ H fun x H1 => ∃ a C dx fs v, x = .ref a ∧ H1 a = some (.ins C dx fs) ∧ Cls K C ∧ NoAttr K C f ∧ fs.lookup f = some v ∧ Q v H1
/-- e.f, a constant of the class -/
def tCon (K : PySem.W.Frag) (ta : TE) (f : Str) : TE := fun σ H Q => ta σ H fun x H1 => ∃ a C dx fs v u, x = .ref a ∧ H1 a = some (.ins C dx fs) ∧ Cls K C ∧ Con K C f v u ∧ fs.lookup f = none ∧ Q v H1
/-- e.f = value -/
def sFld (K : PySem.W.Frag) (ta tv : TE) (f : Str) : TS := fun D σ H => tv σ H fun y H1 => ta σ H1 fun x H2 => ∃ a C dx fs, x = .ref a ∧ H2 a = some (.ins C dx fs) ∧ Cls K C ∧ NoAttr K C f ∧ fs.length < 1000 ∧
  D.nx σ (upd H2 a (.ins C dx (putF f y fs)))
/-- an augmented operator on two values -/
def InOp (X : Cx) (op : Operator) (rd : V → V → Hp → VK → Prop) : Prop :=
  ∀ (pins : List (Addr × Obj)) (s : Shared) (σ : St) (H : Hp) (x y : V) (u v : Value) (Q : VK), Inv X pins σ H s → RelV x u → RelV y v → rd x y H Q → wpAny (model X.prog X.w) X.A (inplaceOp op u v) (EP X pins σ Q) X.xe s
/-- e.f op= value -/
def sFldAug (K : PySem.W.Frag) (ta tv : TE) (rd : V → V → Hp → VK → Prop) (f : Str) : TS := fun D σ H => ta σ H fun x H1 => ∃ a C dx fs v, x = .ref a ∧ H1 a = some (.ins C dx fs) ∧ Cls K C ∧ NoAttr K C f ∧ fs.lookup f = some v ∧
  tv σ H1 fun y H2 => rd v y H2 fun z H3 => ∃ dx' fs', H3 a = some (.ins C dx' fs') ∧ fs'.length < 1000 ∧ D.nx σ (upd H3 a (.ins C dx' (putF f z fs')))

section
variable {X : Cx} {o e value : Expr} {f : Str} {pos pos' tpos : Pos} {ta tv : TE}
theorem pe_fld (he : PE X e ta) (hb : attributeBase e f X.env (eval e X.env) = eval e X.env) : PE X (.Attribute e f pos) (tFld X.K ta f) := by
  intro pins s σ H Q I h
  refine attr_of hb (thn (he pins s σ H _ I h) fun u s1 ⟨x, H1, I1, rx, a, C, dx, fs, v, ex, ea, c, n, l, q⟩ => ?_)
  subst ex
  obtain rfl : u = Value.ref a := rx
  exact getattr_ok I1 ea c n l fun u' s2 I2 ru => ⟨v, H1, I2, ru, q⟩
theorem ps_fld (ha : PE X o ta) (hv : PE X value tv) (hs : swapsWith value (some (.Attribute o f pos')) pos.line X.env = pure false) : PS X (.Assign [.Attribute o f pos'] value pos) (sFld X.K ta tv f) := by
  intro pins s σ H D I h
  refine plainObj_wpAny_Assign_Attribute (thn (hv pins s σ H _ I h) fun u s1 ⟨y, H1, I1, ry, q⟩ => thn (ha pins s1 σ H1 _ I1 q) fun ov s2 ⟨x, H2, I2, rx, a, C, dx, fs, ex, ea, c, n, l, q2⟩ => ?_) hs
  subst ex
  obtain rfl : ov = Value.ref a := rx
  exact setattr_ok I2 ea c n l ry fun s3 I3 => ⟨σ, _, I3, q2⟩
def rAdd : V → V → Hp → VK → Prop := fun x y H Q => ∃ i j, x = .int i ∧ y = .int j ∧ Q (.int (i + j)) H
def rSub : V → V → Hp → VK → Prop := fun x y H Q => ∃ i j, x = .int i ∧ y = .int j ∧ Q (.int (i - j)) H
end

/-! ### isinstance -/
section
variable {X : Cx} {pins : List (Addr × Obj)} {σ : St} {H : Hp} {s : Shared} {A : Around} {E : Value → Shared → Prop} {Q : Value → Shared → Prop} {c : Value} {b : Bool}
/-- the type of a value, as the fragment's deciders take it; for an instance its class -/
inductive TyOf (K : PySem.W.Frag) (H : Hp) : V → Value → Prop where
  | non : TyOf K H .non (.type "NoneType")
  | bl (x : Bool) : TyOf K H (.bl x) (.type "bool")
  | int (i : Int) : TyOf K H (.int i) (.type "int")
  | str (x : Str) : TyOf K H (.str x) (.type "str")
  | flt (x : UInt64) : TyOf K H (.flt x) (.type "float")
  | lst {a : Addr} {xs : List V} (e : H a = some (.lst xs)) : TyOf K H (.ref a) (.type "list")
  | frz {a : Addr} {o : Obj} {xs : List V} (e : H a = some (.frz o (.lst xs))) : TyOf K H (.ref a) (.type "list")
  | tup {a : Addr} {xs : List V} (e : H a = some (.tup xs)) : TyOf K H (.ref a) (.type "tuple")
  | dK {a : Addr} {kvs : List (Key × V)} (e : H a = some (.dK kvs)) : TyOf K H (.ref a) (.type "dict")
  | dT {a : Addr} {kvs : List (List Key × V)} (e : H a = some (.dT kvs)) : TyOf K H (.ref a) (.type "dict")
  | ins {a C dx : Addr} {fs : List (Str × V)} (e : H a = some (.ins C dx fs)) (cl : Cls K C) (ha : PySem.W.findIn K (.ref C) "__class__" = some (some (.builtin "object.__class__")))
      (hn : PySem.W.specialIn K (.builtin "object.__class__") "__get__" = some (some (.builtin "getset_descriptor.__get__"))) (htk : PySem.W.takesIn K (.builtin "object.__class__") = some true)
      (hm : PySem.W.mroIn K C (.type "object") = some true) : TyOf K H (.ref a) (.ref C)
/-- isinstance(x, c) for one class c, a built-in or an own one: kitOne's answer -/
theorem isinst_ok {x : V} {u t : Value} (I : Inv X pins σ H s) (rx : RelV x u) (ty : TyOf X.K H x t) (e : PySem.W.kitOne X.K t c = some b) (h : ∀ tk, Q (.bool b) { s with toks := tk }) :
    wpAny (model X.prog X.w) A (call (.builtin "isinstance") [u, c]) Q E s := by
  cases ty with
  | non => cases (show u = Value.none from rx); exact PySem.W.kia_one PySem.W.kitx_none I.kIn True.intro e (fun z => nomatch z) h
  | bl y => cases (show u = Value.bool y from rx); exact PySem.W.kia_one PySem.W.kitx_bool I.kIn True.intro e (fun z => nomatch z) h
  | int i => obtain ⟨t, q⟩ := (show ∃ t, u = Value.int i t from rx); cases q; exact PySem.W.kia_one PySem.W.kitx_int I.kIn True.intro e (fun z => nomatch z) h
  | str y => obtain ⟨t, q⟩ := (show ∃ t, u = Value.str y t from rx); cases q; exact PySem.W.kia_one PySem.W.kitx_str I.kIn True.intro e (fun z => nomatch z) h
  | flt y => obtain ⟨t, q⟩ := (show ∃ t, u = Value.float y t from rx); cases q; exact PySem.W.kia_one PySem.W.kitx_float I.kIn True.intro e (fun z => nomatch z) h
  | @lst a xs ea =>
    cases (show u = Value.ref a from rx)
    obtain ⟨_, _, n, _, h1⟩ := (show ObjOk X.prog X.w H s.heap a (.lst xs) from I.hok a _ ea)
    exact PySem.W.kia_one PySem.W.kitx_list I.kIn ⟨_, h1, rfl⟩ e (fun z => nomatch z) h
  | @frz a ob xs ea =>
    cases (show u = Value.ref a from rx)
    obtain ⟨_, _, _, n, _, h1⟩ := (show ObjOk X.prog X.w H s.heap a (.frz ob (.lst xs)) from I.hok a _ ea)
    exact PySem.W.kia_one PySem.W.kitx_list I.kIn ⟨_, h1, rfl⟩ e (fun z => nomatch z) h
  | @tup a xs ea =>
    cases (show u = Value.ref a from rx)
    obtain ⟨_, _, _, p⟩ := (show ObjOk X.prog X.w H s.heap a (.tup xs) from I.hok a _ ea)
    obtain ⟨o, h1, h2, _⟩ := p
    exact PySem.W.kia_one PySem.W.kitx_tuple I.kIn ⟨o, h1, h2⟩ e (fun z => nomatch z) h
  | @dK a kvs ea =>
    cases (show u = Value.ref a from rx)
    obtain ⟨_, _, vs, _, p⟩ := (show ObjOk X.prog X.w H s.heap a (.dK kvs) from I.hok a _ ea)
    obtain ⟨o, es, ep, h1, h2, _⟩ := p
    exact PySem.W.kia_one PySem.W.kitx_dict I.kIn ⟨o, h1, h2.1⟩ e (fun z => nomatch z) h
  | @dT a kvs ea =>
    cases (show u = Value.ref a from rx)
    obtain ⟨_, _, xs, _, o, es, ep, h1, h2, _⟩ := (show ObjOk X.prog X.w H s.heap a (.dT kvs) from I.hok a _ ea)
    exact PySem.W.kia_one PySem.W.kitx_dict I.kIn ⟨o, h1, h2.1⟩ e (fun z => nomatch z) h
  | @ins a C dx fs ea cl ha hn htk hm =>
    cases (show u = Value.ref a from rx)
    obtain ⟨mA, O, _⟩ := ins_get I.hok ea
    obtain ⟨od, J, _⟩ := O.look
    exact PySem.W.kia_one (PySem.W.kitx_own (cl.get _) cl.hd ha hn htk hm) I.kIn J e (fun z => nomatch z) h
end
end L2

namespace L2
open PySem PySem.Spec PyProof.Rows

/-! ### room -/
structure Room (k : Nat) (A : Around) : Prop where
  hd : A.handled = none
  dp : A.depth + 3 * k + 5 < recursionLimit
  un : A.units + 16 * k + 200 < cLine
theorem Room.mono {j k : Nat} {A : Around} (r : Room k A) (h : j ≤ k) : Room j A := ⟨r.hd, by have := r.dp; omega, by have := r.un; omega⟩
theorem Room.deeper {k : Nat} {A : Around} (r : Room (k + 1) A) (env : Env) : Room k (A.deeper env) :=
  ⟨r.hd, by have := r.dp; show A.depth + 1 + 3 * k + 5 < _; omega, by have := r.un; show A.units + 3 + 16 * k + 200 < _; omega⟩
theorem Room.in1 {k : Nat} {A : Around} (r : Room (k + 1) A) : Room k A.in1 :=
  ⟨r.hd, by have := r.dp; show A.depth + 3 * k + 5 < _; omega, by have := r.un; show A.units + 1 + 16 * k + 200 < _; omega⟩
theorem make_depth {A : Around} {C : Addr} {us : List Value} {kw : List (Str × Value)} : (A.under (.builtin "type.__call__" ⟨.ref C :: us, kw⟩)).depth = A.depth + 1 := by
  first | rfl | simp [Around.under, Code.weight, Code.isCreation, Code.isGuard, Code.isCaller, Code.frames, Code.isFrame, guardIds]
theorem make_units {A : Around} {C : Addr} {us : List Value} {kw : List (Str × Value)} : (A.under (.builtin "type.__call__" ⟨.ref C :: us, kw⟩)).units = A.units + 1 := by
  first | rfl | simp [Around.under, Code.cUnits, Code.frames, Code.isFrame]
theorem Room.make {k : Nat} {A : Around} (r : Room (k + 1) A) (C : Addr) (us : List Value) (kw : List (Str × Value)) : Room k (A.under (.builtin "type.__call__" ⟨.ref C :: us, kw⟩)) :=
  ⟨r.hd, by have := r.dp; rw [make_depth]; omega, by have := r.un; rw [make_units]; omega⟩
theorem Room.depth {k : Nat} {A : Around} (r : Room k A) : A.depth < recursionLimit := by have := r.dp; omega
theorem Room.units {k : Nat} {A : Around} (r : Room k A) : A.units + 64 < cLine := by have := r.un; omega
/-! ### argument lists and displays -/
def tNil : TA := fun _ H Q => Q [] H
def tCons (ta : TE) (tr : TA) : TA := fun σ H Q => ta σ H fun x H1 => tr σ H1 fun xs H2 => Q (x :: xs) H2
section
variable {X : Cx} {e : Expr} {es : List Expr} {te : TE} {t : TA} {pos : Pos}
theorem pa_nil : PA X [] tNil := fun _ _ _ _ H Q I h => Calls.spliced_nil ⟨[], H, I, .nil, h⟩
theorem pa_cons (ha : PE X e te) (hr : PA X es t) (hs : starEach (e :: es) X.env = (false, eval e X.env) :: starEach es X.env := by rfl) : PA X (e :: es) (tCons te t) := by
  intro pos pins s σ H Q I h
  rw [hs]
  show wpAny _ _ (spliced ((false, eval e X.env) :: backTo pos (starEach es X.env))) _ _ s
  refine Calls.spliced_cons (thn (ha pins s σ H _ I h) fun u s1 ⟨x, H1, I1, r1, q1⟩ => ?_)
  exact thn (hr pos pins s1 σ H1 _ I1 q1) fun us s2 ⟨xs, H2, I2, r2, q2⟩ => ⟨x :: xs, H2, I2, .cons r1 r2, q2⟩

/-- a tuple, a list of written items -/
def tTup (t : TA) : TE := fun σ H Q => t σ H fun xs H1 => xs.length ≤ sizeLine ∧ ∀ p, H1 p = none → Q (.ref p) (upd H1 p (.tup xs))
def tLst (t : TA) : TE := fun σ H Q => t σ H fun xs H1 => xs.length ≤ sizeLine ∧ ∀ p, H1 p = none → Q (.ref p) (upd H1 p (.lst xs))
theorem pe_tup {x1} (h : PA X es t) : PE X (.Tuple es x1 pos) (tTup t) := by
  intro pins s σ H Q I hq
  refine wpAny_Tuple_spliced (thn (h pos pins s σ H _ I hq) fun us s1 ⟨xs, H1, I1, r, z, q⟩ => ⟨by rw [← r.length]; exact z, ?_⟩)
  have hf : H1 s1.heap.objs.size = none := I1.hok.fresh (Nat.le_refl _)
  refine ⟨.ref s1.heap.objs.size, upd H1 s1.heap.objs.size (.tup xs), I1.laid (t' := s1.toks) (fun b u e => Heap.get?_push_of_some _ e) (Nat.le_refl _) ?_, rfl, q _ hf⟩
  exact ⟨z, us, r, ⟨_, Heap.get?_push_size _ rfl, rfl, _, rfl⟩⟩
theorem pe_lst (h : PA X es t) : PE X (.List es pos) (tLst t) := by
  intro pins s σ H Q I hq
  refine wpAny_List_spliced (thn (h pos pins s σ H _ I hq) fun us s1 ⟨xs, H1, I1, r, z, q⟩ => ⟨by rw [← r.length]; exact z, ?_⟩)
  have hf : H1 s1.heap.objs.size = none := I1.hok.fresh (Nat.le_refl _)
  refine ⟨.ref s1.heap.objs.size, upd H1 s1.heap.objs.size (.lst xs), I1.laid (t' := s1.toks) (fun b u e => Heap.get?_push_of_some _ e) (Nat.le_refl _) ?_, rfl, q _ hf⟩
  exact ⟨z, us, 0, r, Heap.get?_push_size _ rfl⟩
end

/-! ### what a def promises -/
/-- a def's promise: the bound arguments in the parameters' order, the heap, the wanted end, the wanted exception -/
abbrev Sp := List V → Hp → VK → XK → Prop
/-- how an exception lies behind a call (file 08 gives it): the callers' frames, abstract heap and state ahead of the call, the wish, the exception, the state -/
abbrev CXT := List Env → Hp → Shared → XK → Value → Shared → Prop

/-- the state at a call -/
structure Env0 (P : Program) (w : World) (K : PySem.W.Frag) (mg : Str → Option Value) (base : Heap) (A : Around) (outer : List Env) (s : Shared) (H : Hp) : Prop where
  frames : A.frames = some outer
  mod : Mod K mg base
  bs : ∀ b o, base.get? b = some o → s.heap.get? b = some o ∧ H b = none
  bsz : base.objs.size ≤ s.heap.objs.size
  funs : s.heap.FunFrames base outer
  frf : ∀ b ∈ frs outer, H b = none
  hok : HOk P w H s.heap
  bare : AllBare s.gens
/-- a call's end -/
def CE (outer : List Env) (P : Program) (w : World) (H : Hp) (s : Shared) (Q : VK) (u : Value) (s' : Shared) : Prop :=
  ∃ v H', s'.os = s.os ∧ AllBare s'.gens ∧ Un (frs outer) [] H H' s.heap s'.heap ∧ HOk P w H' s'.heap ∧ RelV v u ∧ Q v H'
def CR (CX : CXT) (outer : List Env) (P : Program) (w : World) (H : Hp) (s : Shared) (Q : VK) (E : XK) (r : Result) (s' : Shared) : Prop :=
  match r with
  | .ok (.ret u) => CE outer P w H s Q u s'
  | .ok _ => False
  | .error e => CX outer H s E e s'
structure FnOk (P : Program) (w : World) (K : PySem.W.Frag) (mg : Str → Option Value) (base : Heap) (CX : CXT) (k : Nat) (f : Addr) (fd : FuncData) (ps : List Str) (sp : Sp) : Prop where
  len : ∀ vs H Q E, sp vs H Q E → vs.length = ps.length
  run : ∀ (A : Around) (outer : List Env) (s : Shared) (H : Hp) (args : Args) (us : List Value) (vs : List V) (Q : VK) (E : XK), Room k A → Env0 P w K mg base A outer s H → BindsTo s fd args (ps.zip us) → Vals vs us → sp vs H Q E →
    codeAny (model P w) A (.call (.ref f) args) (CR CX outer P w H s Q E) s
theorem FnOk.mono {P : Program} {w : World} {K : PySem.W.Frag} {mg : Str → Option Value} {base : Heap} {CX : CXT} {j k : Nat} {f : Addr} {fd : FuncData} {ps : List Str} {sp : Sp} (F : FnOk P w K mg base CX j f fd ps sp) (h : j ≤ k) :
    FnOk P w K mg base CX k f fd ps sp := ⟨F.len, fun A outer s H args us vs Q E hr => F.run A outer s H args us vs Q E (hr.mono h)⟩
/-- a weaker promise -/
theorem FnOk.imp {P : Program} {w : World} {K : PySem.W.Frag} {mg : Str → Option Value} {base : Heap} {CX : CXT} {k : Nat} {f : Addr} {fd : FuncData} {ps : List Str} {sp sp' : Sp} (F : FnOk P w K mg base CX k f fd ps sp)
    (h : ∀ vs H Q E, sp' vs H Q E → sp vs H Q E) : FnOk P w K mg base CX k f fd ps sp' :=
  ⟨fun vs H Q E q => F.len vs H Q E (h _ _ _ _ q), fun A outer s H args us vs Q E hr he hb hv hs => F.run A outer s H args us vs Q E hr he hb hv (h _ _ _ _ hs)⟩

theorem Env0.make {P : Program} {w : World} {K : PySem.W.Frag} {mg : Str → Option Value} {base : Heap} {A : Around} {outer : List Env} {s : Shared} {H : Hp} (e : Env0 P w K mg base A outer s H) (C : Addr) (us : List Value) (kw : List (Str × Value)) :
    Env0 P w K mg base (A.under (.builtin "type.__call__" ⟨.ref C :: us, kw⟩)) outer s H := ⟨by first | exact e.frames | (simpa [Around.under, Code.envs, Code.isFrame, pushEnvs] using e.frames), e.mod, e.bs, e.bsz, e.funs, e.frf, e.hok, e.bare⟩
theorem Env0.in1 {P : Program} {w : World} {K : PySem.W.Frag} {mg : Str → Option Value} {base : Heap} {A : Around} {outer : List Env} {s : Shared} {H : Hp} (e : Env0 P w K mg base A outer s H) :
    Env0 P w K mg base A.in1 outer s H := ⟨e.frames, e.mod, e.bs, e.bsz, e.funs, e.frf, e.hok, e.bare⟩

section
variable {X : Cx} {pins : List (Addr × Obj)} {σ : St} {H : Hp} {s s' : Shared}
/-- from a body: what a callee wants -/
theorem Inv.env0 (I : Inv X pins σ H s) : Env0 X.prog X.w X.K X.mg X.base X.A X.stack s H :=
  ⟨I.ok.frames, I.ok.mod, I.bs, Nat.le_trans I.ok.bsz I.sz, I.stack, I.stkFree, I.hok, I.bare⟩
/-- behind a call -/
theorem Inv.after {Q : VK} {u : Value} (I : Inv X pins σ H s) (h : CE X.stack X.prog X.w H s Q u s') : EP X pins σ Q u s' := by
  obtain ⟨v, H', os, bare, un, hok, r, q⟩ := h
  obtain ⟨hh, g, d, t, os'⟩ := s'
  obtain rfl : os' = s.os := os
  exact ⟨v, H', I.call (h' := hh) (g' := g) (d' := d) (t' := t) (ch := []) un hok bare (fun b z => absurd z (by simp)), r, q⟩
end

/-! ### calls -/
/-- f(..): the written arguments, then the defaults dvs; E: what is wanted of an exception -/
def tCall (sp : Sp) (dvs : List V) (E : XK) (t : TA) : TE := fun σ H Q => t σ H fun vs H1 => sp (vs ++ dvs) H1 Q E
/-- o.m(..) of an instance of the class at C -/
def tMeth (C : Addr) (m : Str) (sp : Sp) (dvs : List V) (E : XK) (ta : TE) (t : TA) : TE := fun σ H Q => ta σ H fun x H1 => ∃ a dx fs, x = .ref a ∧ H1 a = some (.ins C dx fs) ∧ fs.lookup m = none ∧
  t σ H1 fun vs H2 => sp (x :: (vs ++ dvs)) H2 Q E
/-- C(..): a new instance and its dict, then __init__ -/
def tMake (C : Addr) (sp : Sp) (dvs : List V) (E : XK) (t : TA) : TE := fun σ H Q => t σ H fun vs H1 => ∀ x dx, H1 x = none → H1 dx = none → dx ≠ x →
  sp (.ref x :: (vs ++ dvs)) (upd (upd H1 dx (.own x)) x (.ins C dx [])) (fun v H2 => v = .non ∧ Q (.ref x) H2) E

/-- how the parameters are bound: us the positional arguments, kw the keywords' values by name, ds the defaults that fill up -/
def Binds (K : PySem.W.Frag) (fd : FuncData) (ps : List Str) (ds : List Value) : Prop :=
  ∀ (s : Shared) (us : List Value), K.In s.heap → (us ++ ds).length = ps.length → BindsTo s fd ⟨us, []⟩ (ps.zip (us ++ ds))
/-- every parameter is given -/
theorem Binds.all {K : PySem.W.Frag} {fd : FuncData} {ps : List Str} (h : ∀ us : List Value, us.length = ps.length → bindArgs fd ⟨us, []⟩ = pure (ps.zip us)) : Binds K fd ps [] := fun s us _ hl => by
  rw [List.append_nil] at hl ⊢
  exact .of_eq (h us hl)

/-- an exception of a callee reaches what this body wants of exceptions -/
def Passes (CX : CXT) (X : Cx) (E : XK) : Prop := ∀ (pins : List (Addr × Obj)) (σ : St) (H : Hp) (s : Shared) (e : Value) (s' : Shared), Inv X pins σ H s → CX X.stack H s E e s' → X.xe e s'

section
variable {X : Cx} {CX : CXT} {k : Nat} {f C : Addr} {fd : FuncData} {ps : List Str} {sp : Sp} {dvs : List V} {ds : List Value} {E : XK} {x m : Str} {p pos apos : Pos} {e o : Expr} {es : List Expr} {ta : TE} {t : TA}

/-- the callee runs -/
theorem run_fn {pins : List (Addr × Obj)} {σ : St} {H : Hp} {s : Shared} {Q : VK} {us : List Value} {vs : List V} (F : FnOk X.prog X.w X.K X.mg X.base CX k f fd ps sp) (hr : Room k X.A) (hb : Binds X.K fd ps ds) (hd : Vals dvs ds) (hx : Passes CX X E)
    (I : Inv X pins σ H s) (r : Vals vs us) (h : sp (vs ++ dvs) H Q E) : wpAny (model X.prog X.w) X.A (call (.ref f) us) (EP X pins σ Q) X.xe s := by
  have r2 : Vals (vs ++ dvs) (us ++ ds) := r.append hd
  have hl : (us ++ ds).length = ps.length := by rw [← r2.length]; exact F.len _ _ _ _ h
  refine wpAny_call (codeAny_mono (F.run X.A X.stack s H ⟨us, []⟩ (us ++ ds) (vs ++ dvs) Q E hr I.env0 (hb s us I.kIn hl) r2 h) fun r s' hq => ?_)
  cases r with
  | error e => exact hx pins σ H s e s' I hq
  | ok fl =>
    cases fl with
    | ret u => exact I.after hq
    | next => exact False.elim hq
    | brk => exact False.elim hq
    | cont => exact False.elim hq

theorem pe_call (F : FnOk X.prog X.w X.K X.mg X.base CX k f fd ps sp) (hr : Room k X.A) (hg : Gl X x) (hm : X.mg x = some (.ref f)) (hk : PySem.W.keepIn X.K (.ref f) = true) (hb : Binds X.K fd ps ds) (hd : Vals dvs ds) (hx : Passes CX X E)
    (ha : PA X (e :: es) t) (hdb : (x == ("__debug__" : Str)) = false := by decide) (he : starEach (e :: es) X.env = (false, eval e X.env) :: starEach es X.env := by rfl) (hpl : (backTo pos (starEach es X.env)).any (·.1) = false := by rfl) :
    PE X (.Call (.Name x p) (e :: es) [] pos) (tCall sp dvs E t) := by
  intro pins s σ H Q I h
  refine wpAny_Call_Name_kw (ld_glob I hg hm ?_ hdb)
  refine PySem.W.callWith_K (h₀ := X.base) I.ok.mod.kin hk (thn (ha pos pins s σ H _ I h) fun us s1 ⟨vs, H1, I1, r, q⟩ => ⟨I1.kIn, ?_⟩) he hpl
  exact run_fn F hr hb hd hx I1 r q
/-- o.m(e, ..) -/
theorem pe_meth {pl : Sem Bool} (he : PE X o ta) (c : Cls X.K C) (hm : Meth X.K C m f) (F : FnOk X.prog X.w X.K X.mg X.base CX k f fd ps sp) (hr : Room k X.A) (hb : Binds X.K fd ps ds) (hd : Vals dvs ds) (hx : Passes CX X E) (ha : PA X (e :: es) t)
    (hst : starEach (e :: es) X.env = (false, eval e X.env) :: starEach es X.env := by rfl) (hpl : (backTo pos (starEach es X.env)).any (·.1) = false := by rfl)
    (ht : eval (.Call (.Attribute o m apos) (e :: es) [] pos) X.env = (do
      let ov ← eval o X.env
      standAt apos.atName
      let (f, first) ← holding [ov] (getMethod ov m pl)
      callWith pos f first (backTo pos (starEach (e :: es) X.env)) (backToKw pos (keywordEach [] X.env))) := by rfl) :
    PE X (.Call (.Attribute o m apos) (e :: es) [] pos) (tMeth C m sp dvs E ta t) := by
  intro pins s σ H Q I h
  refine PySem.W.methodCall_KW (pl := pl) (thn (he pins s σ H _ I h) fun u s1 ⟨x, H1, I1, rx, a, dx, fs, ex, ea, l, q⟩ => ?_) ht
  subst ex
  obtain rfl : u = Value.ref a := rx
  refine getmeth_ok I1 ea c hm l ?_
  refine PySem.W.callWith_K (first := [.ref a]) (h₀ := X.base) I.ok.mod.kin hm.kp (thn (ha pos pins s1 σ H1 _ I1 q) fun us s2 ⟨vs, H2, I2, r, q2⟩ => ⟨I2.kIn, ?_⟩) hst hpl
  exact run_fn (us := .ref a :: us) (vs := .ref a :: vs) F hr hb hd hx I2 (.cons rfl r) q2
/-- o.m() -/
theorem pe_meth0 {pl : Sem Bool} (he : PE X o ta) (c : Cls X.K C) (hm : Meth X.K C m f) (F : FnOk X.prog X.w X.K X.mg X.base CX k f fd ps sp) (hr : Room k X.A) (hb : Binds X.K fd ps ds) (hd : Vals dvs ds) (hx : Passes CX X E)
    (ht : eval (.Call (.Attribute o m apos) [] [] pos) X.env = (do
      let ov ← eval o X.env
      standAt apos.atName
      let (f, first) ← holding [ov] (getMethod ov m pl)
      callWith pos f first (backTo pos (starEach [] X.env)) (backToKw pos (keywordEach [] X.env))) := by rfl) :
    PE X (.Call (.Attribute o m apos) [] [] pos) (tMeth C m sp dvs E ta tNil) := by
  intro pins s σ H Q I h
  refine PySem.W.methodCall_KW (pl := pl) (thn (he pins s σ H _ I h) fun u s1 ⟨x, H1, I1, rx, a, dx, fs, ex, ea, l, q⟩ => ?_) ht
  subst ex
  obtain rfl : u = Value.ref a := rx
  refine getmeth_ok I1 ea c hm l ?_
  exact PySem.W.callWith_K0 (first := [.ref a]) I1.kIn hm.kp (run_fn (us := [.ref a]) (vs := [.ref a]) F hr hb hd hx I1 (.cons rfl .nil) q)

/-- what a class must have to be made -/
structure Mk (K : PySem.W.Frag) (C f : Addr) : Prop where
  makes : PySem.W.makesIn K C = true
  init : PySem.W.findIn K (.ref C) "__init__" = some (some (.ref f))
  fn : PySem.W.isFn K (.ref f) = true
  kp : PySem.W.keepIn K (.ref C) = true

theorem run_make {pins : List (Addr × Obj)} {σ : St} {H : Hp} {s : Shared} {Q : VK} {us : List Value} {vs : List V} (M : Mk X.K C f) (F : FnOk X.prog X.w X.K X.mg X.base CX k f fd ps sp) (hr : Room (k + 1) X.A) (hb : Binds X.K fd ps ds) (hd : Vals dvs ds)
    (hx : Passes CX X E) (I : Inv X pins σ H s) (r : Vals vs us)
    (h : ∀ x dx, H x = none → H dx = none → dx ≠ x → sp (.ref x :: (vs ++ dvs)) (upd (upd H dx (.own x)) x (.ins C dx [])) (fun v H2 => v = .non ∧ Q (.ref x) H2) E) :
    wpAny (model X.prog X.w) X.A (call (.ref C) us) (EP X pins σ Q) X.xe s := by
  have hq := h (s.heap.objs.size + 1) s.heap.objs.size (I.hok.fresh (Nat.le_succ _)) (I.hok.fresh (Nat.le_refl _)) (Nat.ne_of_lt (Nat.lt_succ_self _))
  have I2 := Inv.made (C := C) I
  have r2 : Vals (V.ref (s.heap.objs.size + 1) :: (vs ++ dvs)) (Value.ref (s.heap.objs.size + 1) :: (us ++ ds)) := .cons rfl (r.append hd)
  have hl : (Value.ref (s.heap.objs.size + 1) :: us ++ ds).length = ps.length := by
    have e := r2.length
    rw [F.len _ _ _ _ hq] at e
    exact e.symm
  refine wpAny_call (make_map (f := f) I.kIn M.makes M.init (beq_iff_eq.mp M.fn) (codeAny_mono (F.run _ X.stack _ _ ⟨Value.ref (s.heap.objs.size + 1) :: us, []⟩ (Value.ref (s.heap.objs.size + 1) :: (us ++ ds)) _ _ E (hr.make C us [])
    (I2.env0.make C us []) (hb _ (Value.ref (s.heap.objs.size + 1) :: us) I2.kIn hl) r2 hq) fun r s' hq' => ?_))
  cases r with
  | error e => exact hx pins σ _ _ e s' I2 hq'
  | ok fl =>
    cases fl with
    | ret u =>
      obtain ⟨v, H', I3, rv, ev, q3⟩ := I2.after hq'
      subst ev
      exact ⟨rv, ⟨V.ref (s.heap.objs.size + 1), H', I3, rfl, q3⟩⟩
    | next => exact False.elim hq'
    | brk => exact False.elim hq'
    | cont => exact False.elim hq'
theorem pe_make (M : Mk X.K C f) (F : FnOk X.prog X.w X.K X.mg X.base CX k f fd ps sp) (hr : Room (k + 1) X.A) (hg : Gl X x) (hm : X.mg x = some (.ref C)) (hb : Binds X.K fd ps ds) (hd : Vals dvs ds) (hx : Passes CX X E)
    (ha : PA X (e :: es) t) (hdb : (x == ("__debug__" : Str)) = false := by decide) (he : starEach (e :: es) X.env = (false, eval e X.env) :: starEach es X.env := by rfl) (hpl : (backTo pos (starEach es X.env)).any (·.1) = false := by rfl) :
    PE X (.Call (.Name x p) (e :: es) [] pos) (tMake C sp dvs E t) := by
  intro pins s σ H Q I h
  refine wpAny_Call_Name_kw (ld_glob I hg hm ?_ hdb)
  refine PySem.W.callWith_K (h₀ := X.base) I.ok.mod.kin M.kp (thn (ha pos pins s σ H _ I h) fun us s1 ⟨vs, H1, I1, r, q⟩ => ⟨I1.kIn, ?_⟩) he hpl
  exact run_make M F hr hb hd hx I1 r q
end

/-! ### keywords -/
/-- the values of the keywords, from the left -/
def PK (X : Cx) (kws : List Keyword) (t : TA) : Prop :=
  ∀ (pos : Pos) (pins : List (Addr × Obj)) (s : Shared) (σ : St) (H : Hp) (Q : List V → Hp → Prop), Inv X pins σ H s → t σ H Q → wpAny (model X.prog X.w) X.A (evalAll ((backToKw pos (keywordEach kws X.env)).map (·.2))) (AP X pins σ Q) X.xe s
section
variable {X : Cx} {CX : CXT} {k : Nat} {f C : Addr} {fd : FuncData} {ps ks : List Str} {sp : Sp} {E : XK} {x m : Str} {p pos apos kpos : Pos} {e o : Expr} {es : List Expr} {kws : List Keyword} {te ta : TE} {t tk : TA} {nm : Option Str}
/-- how a call with keywords binds: g puts the positional values us and the keywords' values ws (names ks) in the parameters' order, defaults among them -/
structure KBinds (K : PySem.W.Frag) (fd : FuncData) (ps ks : List Str) (g : List Value → List Value → List Value) (gV : List V → List V → List V) : Prop where
  to : ∀ (s : Shared) (us ws : List Value), K.In s.heap → (g us ws).length = ps.length → BindsTo s fd ⟨us, ks.zip ws⟩ (ps.zip (g us ws))
  rel : ∀ {vs : List V} {us : List Value} {zs : List V} {ws : List Value}, Vals vs us → Vals zs ws → Vals (gV vs zs) (g us ws)
def tCallK (sp : Sp) (gV : List V → List V → List V) (E : XK) (t tk : TA) : TE := fun σ H Q => t σ H fun vs H1 => tk σ H1 fun zs H2 => sp (gV vs zs) H2 Q E
variable {g : List Value → List Value → List Value} {gV : List V → List V → List V}
end

/-! ### a def's body keeps its promise -/
/-- names: the parameters first -/
structure FnScope (N P : List Str) (sc : Scope) : Prop where
  kind : sc.kind = .function
  co : sc.isCoroutine = false
  gen : sc.isGenerator = false
  nd : N.Nodup
  pre : N.take P.length = P
  par : ∀ x ∈ P, sc.names.lookup x = some .local ∨ sc.names.lookup x = some .cell
  nofree : ∀ y ∈ sc.names, y.2 ≠ .free

theorem bindL_out {kindOf : Str → Option NameKind} {x : Str} : ∀ {binds : List (Str × Value)} {m : Str → Option Value}, (∀ v, (x, v) ∉ binds) → bindL kindOf binds m x = m x
  | [], _, _ => rfl
  | (n, v) :: r, m, h => by
    unfold bindL
    rw [bindL_out fun w hw => h w (List.mem_cons_of_mem _ hw)]
    split
    · have : x ≠ n := by rintro rfl; exact h v List.mem_cons_self
      simp [this]
    · rfl
theorem bindC_out {kindOf : Str → Option NameKind} {x : Str} : ∀ {binds : List (Str × Value)} {m : Str → Option Value}, (∀ v, (x, v) ∉ binds) → bindC kindOf binds m x = m x
  | [], _, _ => rfl
  | (n, v) :: r, m, h => by
    unfold bindC
    rw [bindC_out fun w hw => h w (List.mem_cons_of_mem _ hw)]
    split
    · rfl
    · have : x ≠ n := by rintro rfl; exact h v List.mem_cons_self
      simp [this]
theorem bindL_get {kindOf : Str → Option NameKind} {x : Str} {v : Value} : ∀ {P : List Str} {vs : List Value} {i : Nat} {m : Str → Option Value}, P.Nodup → P[i]? = some x → vs[i]? = some v → kindOf x = some .local →
    bindL kindOf (P.zip vs) m x = some v
  | [], _, _, _, _, h, _, _ => by simp at h
  | _ :: _, [], _, _, _, _, h, _ => by simp at h
  | p :: P, w :: vs, 0, m, nd, h1, h2, hk => by
    simp at h1 h2; subst h1; subst h2
    show bindL kindOf ((p, w) :: P.zip vs) m p = _
    unfold bindL
    rw [bindL_out fun v hv => (List.nodup_cons.mp nd).1 (List.of_mem_zip hv).1, if_pos hk]
    simp
  | p :: P, w :: vs, i + 1, m, nd, h1, h2, hk => by
    show bindL kindOf ((p, w) :: P.zip vs) m x = _
    unfold bindL
    exact bindL_get (i := i) (List.nodup_cons.mp nd).2 (by simpa using h1) (by simpa using h2) hk
theorem bindC_get {kindOf : Str → Option NameKind} {x : Str} {v : Value} : ∀ {P : List Str} {vs : List Value} {i : Nat} {m : Str → Option Value}, P.Nodup → P[i]? = some x → vs[i]? = some v → kindOf x ≠ some .local →
    bindC kindOf (P.zip vs) m x = some v
  | [], _, _, _, _, h, _, _ => by simp at h
  | _ :: _, [], _, _, _, _, h, _ => by simp at h
  | p :: P, w :: vs, 0, m, nd, h1, h2, hk => by
    simp at h1 h2; subst h1; subst h2
    show bindC kindOf ((p, w) :: P.zip vs) m p = _
    unfold bindC
    rw [bindC_out fun v hv => (List.nodup_cons.mp nd).1 (List.of_mem_zip hv).1, if_neg hk]
    simp
  | p :: P, w :: vs, i + 1, m, nd, h1, h2, hk => by
    show bindC kindOf ((p, w) :: P.zip vs) m x = _
    unfold bindC
    exact bindC_get (i := i) (List.nodup_cons.mp nd).2 (by simpa using h1) (by simpa using h2) hk

/-- the names' values at the entry -/
def start (N : List Str) (vs : List V) : St := vs.map some ++ List.replicate (N.length - vs.length) none

/-- the context of a def's body, at its entry; an exception leaves the frame, then lies as CX says -/
def cxOf (CX : CXT) (P : Program) (w : World) (K : PySem.W.Frag) (mg : Str → Option Value) (base : Heap) (N : List Str) (qual : Str) (scope : Scope) (f : Addr) (cd : Value) (A : Around) (outer : List Env) (s : Shared) (H : Hp) (E : XK) : Cx where
  prog := P
  w := w
  K := K
  mg := mg
  base := base
  A := A.deeper (envOfC qual scope s.heap.objs.size f cd)
  N := N
  s₀ := s
  H₀ := H
  env := envOfC qual scope s.heap.objs.size f cd
  outer := outer
  stack := envOfC qual scope s.heap.objs.size f cd :: outer
  ex := []
  calm := true
  fn := fun _ => true
  pn := []
  xe := fun e s' => wpAny (model P w) (A.deeper (envOfC qual scope s.heap.objs.size f cd)) (leaving (envOfC qual scope s.heap.objs.size f cd) e) (fun _ s'' => CX outer H s E e s'') (fun e' s'' => CX outer H s E e' s'') s'

theorem cell_has {sc : Scope} {n : Nat} {x : Str} (h : sc.names.lookup x = some .cell) : ∃ c, (cellsFrom n sc.names []).lookup x = some c := by
  have q := PySem.W.cellsFrom_some sc.names n [] (.inl h)
  exact Option.isSome_iff_exists.mp q

theorem inv_start {CX : CXT} {P : Program} {w : World} {K : PySem.W.Frag} {mg : Str → Option Value} {base : Heap} {N ps : List Str} {qual : Str} {scope : Scope} {f : Addr} {cd : Value} {A : Around} {outer : List Env} {s s1 : Shared} {H : Hp} {E : XK} {us : List Value} {vs : List V}
    (S : FnScope N ps scope) (hd : A.handled = none) (e0 : Env0 P w K mg base A outer s H) (hl : vs.length = ps.length) (r : Vals vs us)
    (x : InCallC s s.heap.objs.size (bindL (envOfC qual scope s.heap.objs.size f cd).kindOf (ps.zip us) fun _ => none) (cellsFrom (s.heap.objs.size + 1) scope.names []) (bindC (envOfC qual scope s.heap.objs.size f cd).kindOf (ps.zip us) fun _ => none) s1) :
    Inv (cxOf CX P w K mg base N qual scope f cd A outer s H E) [] (start N vs) H s1 := by
  have hpl : ps.length ≤ N.length := by have := congrArg List.length S.pre; rw [List.length_take] at this; omega
  obtain ⟨h1, tk, rfl, hk⟩ := x.done
  have noA : ∀ b : Addr, b ∉ (cxOf CX P w K mg base N qual scope f cd A outer s H E).ex := fun b z => absurd (show b ∈ ([] : List Addr) from z) (by simp)
  refine ⟨⟨e0.mod, S.kind, rfl, rfl, Nat.le_refl _, fun y z c h1 h2 => ?_, fun y hy => ?_, fun y c _ h => ?_, fun _ => hd, Around.frames_deeper e0.frames, .inr ⟨rfl, rfl⟩, fun b z => absurd z (noA b), e0.bs, e0.bsz, fun b _ _ => noA b, fun b z => absurd z (noA b), e0.funs, e0.frf⟩,
    rfl, e0.bare, Un.kept hk, ⟨_, x.toInCall.ns, fun i y v h1 h2 h3 => ?_⟩, fun y c h => ⟨_, x.cell y c h⟩, e0.hok.fresh (Nat.le_refl _), fun y c h => ?_, fun p hp => absurd (show p ∈ ([] : List (Addr × Obj)) from hp) (by simp), e0.hok.kept hk, ?_⟩
  · exact name_of_addr x.apart (PySem.mem_of_lookup h1) (PySem.mem_of_lookup h2)
  · have hy : scope.names.lookup y = some .cell ∨ scope.names.lookup y = some .free := hy
    rcases hy with hy | hy
    · exact cell_has hy
    · exact absurd rfl (S.nofree _ (PySem.mem_of_lookup hy))
  · exact Nat.le_of_lt (x.above y c (PySem.mem_of_lookup h))
  · have hi : i < vs.length := by
      unfold start at h2
      by_cases hi : i < vs.length
      · exact hi
      · rw [List.getElem?_append_right (by simpa using hi)] at h2
        rw [List.getElem?_replicate] at h2
        split at h2 <;> cases h2
    have ha : vs[i]? = some v := by
      unfold start at h2
      rw [List.getElem?_append_left (by simpa using hi), List.getElem?_map] at h2
      cases e : vs[i]? with
      | none => rw [e] at h2; cases h2
      | some a => rw [e] at h2; cases h2; rfl
    obtain ⟨u, hu, rv⟩ := r.get ha
    have hp : ps[i]? = some y := by
      rw [← S.pre, List.getElem?_take_of_lt (by omega)]; exact h1
    have ndP : ps.Nodup := by rw [← S.pre]; exact S.nd.sublist (List.take_sublist _ _)
    refine ⟨u, rv, ?_⟩
    rcases S.par y (List.mem_of_getElem? hp) with k | k
    · exact .inl ⟨k, bindL_get ndP hp hu k⟩
    · obtain ⟨c, e⟩ := cell_has (n := s.heap.objs.size + 1) k
      refine .inr ⟨.inl k, c, e, ?_⟩
      have q := x.cell y c e
      rw [bindC_get ndP hp hu (by show scope.names.lookup y ≠ _; rw [k]; decide)] at q
      exact q
  · exact e0.hok.fresh (Nat.le_of_lt (x.above y c (PySem.mem_of_lookup h)))
  · unfold start
    show _ = N.length
    rw [List.length_append, List.length_map, List.length_replicate]
    omega

/-- THE RULE: a def (or a method) of the text, by its body. The body's reading t is chosen for each entry; it is run at the parameters' values -/
theorem fn_of {CX : CXT} {P : Program} {w : World} {K : PySem.W.Frag} {mg : Str → Option Value} {base : Heap} {k : Nat} {f : Addr} {name qual : Str} {params : Arguments} {body : List Stmt} {scope : Scope} {dV kV doc pm cdv ct oc : Value} {an od : Option Addr}
    {osl : Array (Option Value)} {N ps : List Str} {sp : Sp} (lk : K.lookup f = some ⟨oc, od, .func (PySem.W.fnOf name qual params body scope dV kV doc pm an cdv ct), osl⟩) (hcd : PySem.W.codeIn K cdv qual = true) (S : FnScope N ps scope)
    (len : ∀ vs H Q E, sp vs H Q E → vs.length = ps.length)
    (hbody : ∀ (A : Around) (outer : List Env) (s : Shared) (H : Hp) (vs : List V) (Q : VK) (E : XK), Room k (A.deeper (envOfC qual scope s.heap.objs.size f cdv)) → sp vs H Q E →
      ∃ t, PSs (cxOf CX P w K mg base N qual scope f cdv A outer s H E) body t ∧ t { nx := fun _ H' => Q .non H', rt := Q } (start N vs) H) :
    FnOk P w K mg base CX (k + 1) f (PySem.W.fnOf name qual params body scope dV kV doc pm an cdv ct) ps sp := by
  refine ⟨len, fun A outer s H args us vs Q E hr e0 hb r hsp => ?_⟩
  have hl := len _ _ _ _ hsp
  have KX : K.In s.heap := e0.mod.kin.keeps fun b o e => (e0.bs b o e).1
  have lim : s.heap.NoLimit := e0.mod.nolimit.keeps fun b o e => (e0.bs b o e).1
  have hkind : ∀ y ∈ ps.zip us, scope.names.lookup y.1 = some .local ∨ (scope.names.lookup y.1 = some .cell ∧ ((cellsFrom (s.heap.objs.size + 1) scope.names []).lookup y.1).isSome = true) := fun ⟨n, v⟩ hy => by
    rcases S.par n (List.of_mem_zip hy).1 with q | q
    · exact .inl q
    · exact .inr ⟨q, PySem.W.cellsFrom_some _ _ _ (.inl q)⟩
  refine codeAny_call_function hr.depth (KX _ _ lk) rfl S.co S.gen rfl (PySem.W.codeRec_of KX hcd) (hb _ _ _ _ ?_)
  refine wpAny_newFunctionEnv_cells S.kind hkind fun env he s1 x => ?_
  subst he
  refine ⟨lim.keeps x.toInCall.keep, codeAny_func ?_⟩
  obtain ⟨t, ht, hq⟩ := hbody A outer s H vs Q E (hr.deeper _) hsp
  have I : Inv (cxOf CX P w K mg base N qual scope f cdv A outer s H E) [] (start N vs) H s1 := inv_start S hr.hd e0 hl r x
  refine wpAny_mono (ht [] s1 (start N vs) H _ I hq) (fun fl s' hs => ?_) fun e s' hs => hs
  have fin : ∀ {σ' : St} {H' : Hp} {v : V} {u : Value}, Inv (cxOf CX P w K mg base N qual scope f cdv A outer s H E) [] σ' H' s' → RelV v u → Q v H' → CE outer P w H s Q u s' :=
    fun {σ' H' v u} J rv q => ⟨v, H', J.os, J.bare, J.base, J.hok, rv, q⟩
  cases fl with
  | ret u =>
    obtain ⟨v, σ', H', J, rv, q⟩ := hs
    exact fin J rv q
  | next =>
    obtain ⟨σ', H', J, q⟩ := hs
    exact fin (v := V.non) (u := Value.none) J rfl q
  | brk =>
    obtain ⟨_, _, _, q⟩ := hs
    exact False.elim q
  | cont =>
    obtain ⟨_, _, _, q⟩ := hs
    exact False.elim q
end L2

namespace L2
open PySem PySem.Spec PyProof.Rows
section
variable {X : Cx} {x : Str} {p pos : Pos} {e : Expr} {es : List Expr} {t : TA} {id T : String} {r : List V → Hp → VK → Prop}

def tCB (r : List V → Hp → VK → Prop) (t : TA) : TE := fun σ H Q => t σ H fun vs H1 => r vs H1 Q
/-- f(e, ..), f a built-in function -/
theorem pe_callB (hc : CallR X (.builtin id) r) (hg : Gl X x) (hm : X.mg x = none) (hv : bootBuiltins x = some (.builtin id)) (ha : PA X (e :: es) t) (hn : x ≠ "__name__" := by decide) (hdb : (x == ("__debug__" : Str)) = false := by decide)
    (he : starEach (e :: es) X.env = (false, eval e X.env) :: starEach es X.env := by rfl) (hpl : (backTo pos (starEach es X.env)).any (·.1) = false := by rfl) : PE X (.Call (.Name x p) (e :: es) [] pos) (tCB r t) := by
  intro pins s σ H Q I h
  refine wpAny_Call_Name_kw (ld_blt I hg hm hv ?_ hn hdb)
  exact PyProof.Rows.callWith_builtin1 (thn (ha pos pins s σ H _ I h) fun us s1 ⟨vs, H1, I1, r1, q1⟩ => hc pins s1 σ H1 vs us Q I1 r1 q1) he hpl
/-- T(e, ..), T a built-in type -/
theorem pe_callTy (hc : CallR X (.type T) r) (hg : Gl X x) (hm : X.mg x = none) (hv : bootBuiltins x = some (.type T)) (ha : PA X (e :: es) t) (hn : x ≠ "__name__" := by decide) (hdb : (x == ("__debug__" : Str)) = false := by decide)
    (he : starEach (e :: es) X.env = (false, eval e X.env) :: starEach es X.env := by rfl) (hpl : (backTo pos (starEach es X.env)).any (·.1) = false := by rfl) : PE X (.Call (.Name x p) (e :: es) [] pos) (tCB r t) := by
  intro pins s σ H Q I h
  refine wpAny_Call_Name_kw (ld_blt I hg hm hv ?_ hn hdb)
  exact PyProof.Rows.callWith_type1 (thn (ha pos pins s σ H _ I h) fun us s1 ⟨vs, H1, I1, r1, q1⟩ => hc pins s1 σ H1 vs us Q I1 r1 q1) he hpl
end
end L2

namespace HT
open PySem PyProof.Rows

/-- t < u of tuples of ints -/
def lexLt : List Int → List Int → Bool
  | [], [] => false
  | [], _ :: _ => true
  | _ :: _, [] => false
  | x :: xs, y :: ys => if x = y then lexLt xs ys else decide (x < y)
section
open PySem.SeqAt
open PySem.AutoSeq1 (wpAny_loadPart')
open PySem.MeetsSeq PySem.MeetsSeq2 PySem.MeetsSeq3

end

section
variable {prog : Program} {w : World} {A : Around} {E : Value → Shared → Prop} {s : Shared}

/-! ### t[a:b], not the whole -/
/-- a slice's bound as a place among n (d where it is left out) -/
def sIx (n d : Nat) : Option Int → Nat
  | none => d
  | some v => if v < 0 then (v + (n : Int)).toNat else min v.toNat n
theorem sIx_none (n d : Nat) : sIx n d none = d := rfl
theorem sIx_nat (n d k : Nat) : sIx n d (some (k : Int)) = min k n := by
  show (if (k : Int) < 0 then ((k : Int) + (n : Int)).toNat else min (k : Int).toNat n) = min k n
  rw [if_neg (by omega), Int.toNat_natCast]
theorem sIx_le (n d : Nat) (hd : d ≤ n) (o : Option Int) : sIx n d o ≤ n := by
  cases o with
  | none => exact hd
  | some v =>
    show (if v < 0 then (v + (n : Int)).toNat else min v.toNat n) ≤ n
    by_cases hv : v < 0
    · rw [if_pos hv]; omega
    · rw [if_neg hv]; exact Nat.min_le_right _ _
end
end HT

namespace L2
open PySem PySem.Spec PyProof.Rows

/-! ### the parts of a slice -/
abbrev TO := St → Hp → (Option Int → Hp → Prop) → Prop
/-- a slice's part (left out, or an int) -/
def PO (X : Cx) (e : Option Expr) (t : TO) : Prop :=
  ∀ (pins : List (Addr × Obj)) (s : Shared) (σ : St) (H : Hp) (Q : Option Int → Hp → Prop), Inv X pins σ H s → t σ H Q →
    wpAny (model X.prog X.w) X.A (evalPart e X.env) (fun u s' => ∃ o H', Inv X pins σ H' s' ∧ IsPart u o ∧ Q o H') X.xe s
def tNoPart : TO := fun _ H Q => Q none H
def tPart (t : TE) : TO := fun σ H Q => t σ H fun x H1 => ∃ i, x = .int i ∧ Q (some i) H1

theorem intsAre_of {ns : List Int} : ∀ {us : List Value}, Vals (ns.map V.int) us → IntsAre us ns := by
  induction ns with
  | nil => intro us r; rw [List.map_nil] at r; cases r; exact .nil
  | cons n ns ih =>
    intro us r
    rw [List.map_cons] at r
    cases r with
    | cons r1 r2 =>
      obtain ⟨t, e⟩ := r1
      subst e
      exact .cons n t (ih r2)

section
variable {X : Cx} {e : Expr} {te : TE} {lo hi : Option Expr} {tl th : TO} {pos p2 : Pos}

theorem po_none : PO X none tNoPart := by
  intro pins s σ H Q I h
  rw [evalPart_none]
  exact wpAny_pure ⟨none, H, I, .none, h⟩
theorem po_some (h : PE X e te) : PO X (some e) (tPart te) := by
  intro pins s σ H Q I hw
  rw [evalPart_some]
  refine thn (h pins s σ H _ I hw) fun u s1 ⟨x, H1, I1, r1, q1⟩ => ?_
  obtain ⟨i, rfl, q⟩ := q1
  obtain ⟨t, rfl⟩ := r1
  exact ⟨some i, H1, I1, .int i t, q⟩

/-- what a slice of a value is, by values: the slice object stands at sl -/
def SlR (X : Cx) (r : V → Option Int → Option Int → Hp → VK → Prop) : Prop :=
  ∀ (pins : List (Addr × Obj)) (s : Shared) (σ : St) (H : Hp) (x : V) (v vl vu : Value) (lo hi : Option Int) (sl : Addr) (Q : VK), Inv X pins σ H s → RelV x v → s.heap.IsSliceOf sl vl vu .none → IsPart vl lo → IsPart vu hi → r x lo hi H Q →
    ∃ T id, typeLookup (.type T) "__getitem__" = pure (some (.builtin id)) ∧ s.TypeIs v T ∧ wpAny (model X.prog X.w) X.A (getItem v (.ref sl)) (EP X pins σ Q) X.xe s
theorem SlR.or {r r' : V → Option Int → Option Int → Hp → VK → Prop} (h : SlR X r) (h' : SlR X r') : SlR X (fun x lo hi H Q => r x lo hi H Q ∨ r' x lo hi H Q) := by
  intro pins s σ H x v vl vu lo hi sl Q I rx hs pl pu q
  rcases q with q | q
  · exact h pins s σ H x v vl vu lo hi sl Q I rx hs pl pu q
  · exact h' pins s σ H x v vl vu lo hi sl Q I rx hs pl pu q
def tSl (r : V → Option Int → Option Int → Hp → VK → Prop) (te : TE) (tl th : TO) : TE := fun σ H Q => te σ H fun x H1 => tl σ H1 fun l H2 => th σ H2 fun u H3 => r x l u H3 Q
/-- a[lo:hi], any a -/
theorem pe_slice {r : V → Option Int → Option Int → Hp → VK → Prop} (hr : SlR X r) (he : PE X e te) (hl : PO X lo tl) (hu : PO X hi th) : PE X (.Subscript e (.Slice lo hi none p2) pos) (tSl r te tl th) := by
  intro pins s σ H Q I h
  refine Subscript_ (thn (he pins s σ H _ I h) fun v s1 ⟨x, H1, I1, r1, q1⟩ => ?_)
  refine wpAny_Slice (thn (hl pins s1 σ H1 _ I1 q1) fun vl s2 ⟨l, H2, I2, pl, q2⟩ => thn (hu pins s2 σ H2 _ I2 q2) fun vu s3 ⟨u, H3, I3, pu, q3⟩ => ?_)
  rw [evalPart_none]
  refine wpAny_pure ?_
  have I4 : Inv X pins σ H3 { s3 with heap := s3.heap.push { cls := .type "slice", data := .fields #[vl, vu, .none] } } := I3.kept (t' := s3.toks) fun b ob q => Heap.get?_push_of_some _ q
  obtain ⟨T, id, hT, ht, hg⟩ := hr pins { s3 with heap := s3.heap.push { cls := .type "slice", data := .fields #[vl, vu, .none] } } σ H3 x v vl vu l u s3.heap.objs.size Q I4 r1 (Heap.IsSliceOf.new ..) pl pu q3
  show wpAny (model X.prog X.w) X.A (subscriptTail e (.Slice lo hi none p2) v (.ref s3.heap.objs.size)) (EP X pins σ Q) X.xe { s3 with heap := s3.heap.push { cls := .type "slice", data := .fields #[vl, vu, .none] } }
  exact tail_any (ops := [.ref s3.heap.objs.size, v]) ht hT hg (by with_unfolding_all rfl)

/-- the items of xs[lo:hi] -/
def cutV (xs : List V) (lo hi : Option Int) : List V := (xs.drop (HT.sIx xs.length 0 lo)).take (HT.sIx xs.length xs.length hi - HT.sIx xs.length 0 lo)
theorem cutV_length (xs : List V) (lo hi : Option Int) : (cutV xs lo hi).length ≤ xs.length := by
  unfold cutV
  rw [List.length_take, List.length_drop]
  omega
/-- t[lo:hi], not the whole of it (the whole would be t itself) -/
def rSlT (K : PySem.W.Frag) : V → Option Int → Option Int → Hp → VK → Prop := fun x lo hi H Q => ∃ a xs, x = .ref a ∧ SqT K H a xs ∧
  ¬ (HT.sIx xs.length 0 lo = 0 ∧ HT.sIx xs.length xs.length hi = xs.length) ∧ ∀ p, H p = none → Q (.ref p) (upd H p (.tup (cutV xs lo hi)))
/-! ### t < u, t + u -/
def rLtT (K : PySem.W.Frag) : R2 := fun x y H Q => ∃ a b ns ms, x = .ref a ∧ y = .ref b ∧ SqT K H a (ns.map V.int) ∧ SqT K H b (ms.map V.int) ∧ Q (.bl (HT.lexLt ns ms)) H
/-- t + u, t not empty: u empty gives t itself -/
def rCatT (K : PySem.W.Frag) : R2 := fun x y H Q => ∃ a b xs ys, x = .ref a ∧ y = .ref b ∧ SqT K H a xs ∧ SqT K H b ys ∧ xs ≠ [] ∧ xs.length + ys.length ≤ sizeLine ∧
  (ys = [] → Q (.ref a) H) ∧ (ys ≠ [] → ∀ p, H p = none → Q (.ref p) (upd H p (.tup (xs ++ ys))))
end
end L2

namespace L2
open PySem PySem.Spec PyProof.Rows

/-! ### places -/
/-- the place that an index of any sign means -/
def ixN (n : Nat) (i : Int) : Option Nat := if 0 ≤ i then (if i < n then some i.toNat else none) else if -(n : Int) ≤ i then some (i + n).toNat else none
def atI {α : Type} (xs : List α) (i : Int) : Option α := (ixN xs.length i).bind fun j => xs[j]?
theorem ixN_seq {n : Nat} {i : Int} {j : Nat} (h : ixN n i = some j) : seqIndex? i n = some j ∧ j < n ∧ -(n : Int) ≤ i ∧ i < n := by
  unfold ixN at h
  by_cases h0 : 0 ≤ i
  · rw [if_pos h0] at h
    by_cases h1 : i < n
    · rw [if_pos h1] at h
      have e : i.toNat = j := Option.some.inj h
      exact ⟨by rw [seqIndex_of h0 h1, e], by omega, by omega, h1⟩
    · rw [if_neg h1] at h; cases h
  · rw [if_neg h0] at h
    by_cases h1 : -(n : Int) ≤ i
    · rw [if_pos h1] at h
      have e : (i + n).toNat = j := Option.some.inj h
      exact ⟨by rw [seqIndex_neg (by omega) h1, e], by omega, h1, by omega⟩
    · rw [if_neg h1] at h; cases h
theorem atI_get {α : Type} {xs : List α} {i : Int} {v : α} (h : atI xs i = some v) : ∃ j, seqIndex? i xs.length = some j ∧ xs[j]? = some v ∧ j < xs.length ∧ -(xs.length : Int) ≤ i ∧ i < xs.length := by
  unfold atI at h
  cases e : ixN xs.length i with
  | none => rw [e] at h; cases h
  | some j =>
    rw [e] at h
    obtain ⟨h1, h2, h3, h4⟩ := ixN_seq e
    exact ⟨j, h1, h, h2, h3, h4⟩
theorem atI_nat {α : Type} {xs : List α} {j : Nat} {v : α} (h : xs[j]? = some v) : atI xs (j : Int) = some v := by
  have hj : j < xs.length := (List.getElem?_eq_some_iff.mp h).1
  have e : ixN xs.length (j : Int) = some j := by
    unfold ixN
    rw [if_pos (by omega), if_pos (by omega)]; simp
  unfold atI; rw [e]; exact h
theorem atI_last {α : Type} (xs : List α) (v : α) : atI (xs ++ [v]) (-1) = some v := by
  have hl : (xs ++ [v]).length = xs.length + 1 := by simp
  have e : ixN (xs ++ [v]).length (-1) = some xs.length := by
    unfold ixN
    rw [hl, if_neg (by decide), if_pos (by omega)]
    congr 1
    omega
  unfold atI
  rw [e]
  show (xs ++ [v])[xs.length]? = some v
  simp

/-! ### what may be subscripted -/
/-- what stands as an index of a plain subscript -/
def PlainIx (b : Expr) : Prop := ∀ o i, subscripted b false o i = operate [o, i] (getItem o i)
/-- a subscript by values -/
def IxR (X : Cx) (r : R2) : Prop :=
  ∀ (value slice : Expr) (pins : List (Addr × Obj)) (s : Shared) (σ : St) (H : Hp) (x y : V) (v u : Value) (Q : VK), Inv X pins σ H s → RelV x v → RelV y u → r x y H Q →
    subscripted slice false v u = operate [v, u] (getItem v u) → wpAny (model X.prog X.w) X.A (subscriptTail value slice v u) (EP X pins σ Q) X.xe s
/-- a call of a builtin's method by values: the receiver, the arguments -/
def MtR (X : Cx) (id : String) (r : V → List V → Hp → VK → Prop) : Prop :=
  ∀ (pins : List (Addr × Obj)) (s : Shared) (σ : St) (H : Hp) (x : V) (xs : List V) (v : Value) (us : List Value) (Q : VK), Inv X pins σ H s → RelV x v → Vals xs us → r x xs H Q →
    wpAny (model X.prog X.w) X.A (call (.builtin id) (v :: us)) (EP X pins σ Q) X.xe s
section
variable {X : Cx} {a b : Expr} {ta tb : TE} {pos : Pos}
theorem IxR.or {r r' : R2} (h : IxR X r) (h' : IxR X r') : IxR X (fun x y H Q => r x y H Q ∨ r' x y H Q) := by
  intro value slice pins s σ H x y v u Q I rx ry q hs
  rcases q with q | q
  · exact h value slice pins s σ H x y v u Q I rx ry q hs
  · exact h' value slice pins s σ H x y v u Q I rx ry q hs
theorem MtR.or {id : String} {r r' : V → List V → Hp → VK → Prop} (h : MtR X id r) (h' : MtR X id r') : MtR X id (fun x xs H Q => r x xs H Q ∨ r' x xs H Q) := by
  intro pins s σ H x xs v us Q I rx rs q
  rcases q with q | q
  · exact h pins s σ H x xs v us Q I rx rs q
  · exact h' pins s σ H x xs v us Q I rx rs q
/-- a[b] -/
theorem pe_ix {r : R2} (hr : IxR X r) (ha : PE X a ta) (hb : PE X b tb) (hs : PlainIx b) : PE X (.Subscript a b pos) (tOp r ta tb) := by
  intro pins s σ H Q I h
  exact Subscript_ (binT ha hb I h fun v u s2 x y H2 I2 rx ry q => hr a b pins s2 σ H2 x y v u Q I2 rx ry q (hs _ _))

def rIxL (K : PySem.W.Frag) : R2 := fun x y H Q => ∃ p xs i v, x = .ref p ∧ y = .int i ∧ SqL K H p xs ∧ atI xs i = some v ∧ Q v H
def rIxT (K : PySem.W.Frag) : R2 := fun x y H Q => ∃ p xs i v, x = .ref p ∧ y = .int i ∧ SqT K H p xs ∧ atI xs i = some v ∧ Q v H
def rIxS : R2 := fun x y H Q => ∃ z i c, x = .str z ∧ y = .int i ∧ z.length ≤ sizeLine ∧ atI z.cps.toList i = some c ∧ Q (.str ⟨#[c]⟩) H
theorem ix_list : IxR X (rIxL X.K) := by
  intro value slice pins s σ H x y v u Q I rx ry h hs
  obtain ⟨p, xs, i, z, rfl, rfl, hq, he, q⟩ := h
  cases rx
  obtain ⟨t, rfl⟩ := ry
  obtain ⟨its, r, pl, hz⟩ := I.list hq
  obtain ⟨j, h1, h2, h3, h4, h5⟩ := atI_get he
  obtain ⟨w, ew, rw'⟩ := r.get h2
  have hl := r.length
  have hn := line63
  have fin : EP X pins σ Q w s := ⟨z, H, I, rw', q⟩
  by_cases h0 : 0 ≤ i
  · have hj : i.toNat = j := by
      rw [seqIndex_of h0 h5] at h1
      exact Option.some.inj h1
    exact item_listR pl.isList h0 (by omega) (by rw [hj]; simpa using ew) fin hs
  · have hj : (i + (its.toArray.size : Int)).toNat = j := by
      rw [seqIndex_neg (by omega) h4] at h1
      rw [List.size_toArray, ← hl]
      exact Option.some.inj h1
    exact subscriptTail_builtinR (x := w) pl.isList.typeIs slot_list_getitem.lookup
      (wpAny_getItem_list_neg (Q := fun r s' => r = w ∧ EP X pins σ Q r s') pl.isList (by omega) (by rw [List.size_toArray] <;> omega) (by omega) (by rw [hj]; simpa using ew) ⟨rfl, fin⟩) hs
theorem ix_tup : IxR X (rIxT X.K) := by
  intro value slice pins s σ H x y v u Q I rx ry h hs
  obtain ⟨p, xs, i, z, rfl, rfl, hq, he, q⟩ := h
  cases rx
  obtain ⟨t, rfl⟩ := ry
  obtain ⟨its, r, pl, hz⟩ := I.tuple hq
  obtain ⟨j, h1, h2, h3, h4, h5⟩ := atI_get he
  obtain ⟨w, ew, rw'⟩ := r.get h2
  have hl := r.length
  have hn := line63
  have fin : EP X pins σ Q w s := ⟨z, H, I, rw', q⟩
  exact subscriptTail_builtinR (x := w) pl.typeIs slot_tuple_getitem.lookup
    (getItem_tuple (j := j) (Q := fun r s' => r = w ∧ EP X pins σ Q r s') pl (by omega) (by omega) (by rw [List.size_toArray, ← hl]; exact h1) (by simpa using ew) ⟨rfl, fin⟩) hs
theorem ix_str : IxR X rIxS := by
  intro value slice pins s σ H x y v u Q I rx ry h hs
  obtain ⟨z, i, c, rfl, rfl, hz, he, q⟩ := h
  obtain ⟨t, rfl⟩ := rx
  obtain ⟨t', rfl⟩ := ry
  obtain ⟨j, h1, h2, h3, h4, h5⟩ := atI_get he
  have hl : z.cps.toList.length = z.length := by simp [Str.length]
  rw [hl] at h1 h4 h5
  have hn := line63
  exact tail_any (typeIs_str s z t) slot_str_getitem.lookup (getItem_str (c := c) (by
    have e1 : decide (i < -(2 ^ 63 : Int)) = false := decide_eq_false (by omega)
    have e2 : decide (i ≥ 2 ^ 63) = false := decide_eq_false (by omega)
    rw [e1, e2, Bool.or_false]) (by rw [h1]; simpa using h2) ⟨.str ⟨#[c]⟩, H, I.tok _, ⟨_, rfl⟩, q⟩) hs
/-- list, tuple or str -/
def rIx (K : PySem.W.Frag) : R2 := fun x y H Q => rIxL K x y H Q ∨ rIxT K x y H Q ∨ rIxS x y H Q
/-! ### xs[i] = v, any sign -/
/-- the list's object behind a store -/
theorem mapSeq_set (its : List Value) (n j : Nat) (u : Value) : Obj.mapSeq (·.setIfInBounds j u) { cls := .type "list", data := .seq its.toArray n } = { cls := .type "list", data := .seq (its.set j u).toArray n } := by
  simp [Obj.mapSeq]
theorem Inv.lst {pins : List (Addr × Obj)} {σ : St} {H : Hp} {s : Shared} {p : Addr} {xs : List V} (I : Inv X pins σ H s) (h : H p = some (.lst xs)) :
    ∃ (its : List Value) (n : Nat), Vals xs its ∧ s.heap.get? p = some { cls := .type "list", data := .seq its.toArray n } ∧ xs.length ≤ sizeLine := by
  obtain ⟨z, its, n, r, e⟩ := I.hok p _ h
  exact ⟨its, n, r, e, z⟩
/-- the list at p is written by an update of its object -/
theorem Inv.lstUpd {pins : List (Addr × Obj)} {σ : St} {H : Hp} {s : Shared} {p : Addr} {xs ys : List V} {its its' : List Value} {n n' : Nat} {f : Obj → Obj} (I : Inv X pins σ H s) (h : H p = some (.lst xs))
    (ho : s.heap.get? p = some { cls := .type "list", data := .seq its.toArray n }) (hf : f { cls := .type "list", data := .seq its.toArray n } = { cls := .type "list", data := .seq its'.toArray n' }) (r : Vals ys its') (hz : ys.length ≤ sizeLine) (t : Nat) :
    Inv X pins σ (upd H p (.lst ys)) { s with heap := s.heap.update p f, toks := t } := by
  have e : (s.heap.update p f).get? p = some { cls := .type "list", data := .seq its'.toArray n' } := by
    rw [Heap.get?_update_self f ho (by rw [hf] <;> rfl), hf]
  refine I.write (x := p) (e := p) (by rw [h]; trivial) (.inl rfl) (fun b u hb q => (Heap.get?_update_other _ _ (Ne.symm hb)).trans q) ⟨_, e⟩ ?_
  exact ⟨hz, its', n', r, e⟩
def rSetL : V → V → V → Hp → (Hp → Prop) → Prop := fun o i v H Q => ∃ p xs k j, o = .ref p ∧ i = .int k ∧ H p = some (.lst xs) ∧ ixN xs.length k = some j ∧ Q (upd H p (.lst (xs.set j v)))
theorem set_list : PSet X rSetL := by
  intro pins s σ H o i v ov iv u Q I ro ri rv h
  obtain ⟨p, xs, k, j, rfl, rfl, hp, hj, q⟩ := h
  cases ro
  obtain ⟨t, rfl⟩ := ri
  obtain ⟨its, n, r, ho, hz⟩ := I.lst hp
  obtain ⟨h1, h2, h3, h4⟩ := ixN_seq hj
  have hl := r.length
  have hn := line63
  have I' : Inv X pins σ (upd H p (.lst (xs.set j v))) { s with heap := s.heap.update p (Obj.mapSeq (·.setIfInBounds j u)) } :=
    I.lstUpd hp ho (mapSeq_set its n j u) (r.set rv j) (by rw [List.length_set]; exact hz) s.toks
  by_cases h0 : 0 ≤ k
  · have hk : k.toNat = j := by
      rw [seqIndex_of h0 h4] at h1
      exact Option.some.inj h1
    exact PySem.W.ki_setAt ho h0 (by omega) (by rw [List.size_toArray, ← hl]; exact h4) (by rw [hk]; exact ⟨_, I', q⟩)
  · have hk : (k + (its.toArray.size : Int)).toNat = j := by
      rw [seqIndex_neg (by omega) h3] at h1
      rw [List.size_toArray, ← hl]
      exact Option.some.inj h1
    exact PySem.W.ki_setBack ho (by omega) (by rw [List.size_toArray, ← hl]; exact h3) (by omega) (by rw [hk]; exact ⟨_, I', q⟩)

/-! ### slices -/
theorem slice_bounds (lo hi : Option Int) (n : Nat) : (sliceBounds lo hi none n).1 = ((HT.sIx n 0 lo : Nat) : Int) ∧ (sliceBounds lo hi none n).2.1 = ((HT.sIx n n hi : Nat) : Int) ∧ (sliceBounds lo hi none n).2.2 = 1 := by
  refine ⟨?_, ?_, rfl⟩
  · cases lo with
    | none => simp [sliceBounds, HT.sIx]
    | some i =>
      simp only [sliceBounds, HT.sIx, Option.getD_none, show (1 : Int) > 0 by decide, if_true]
      by_cases h : i < 0
      · simp only [h, if_true] <;> omega
      · simp only [h, if_false] <;> omega
  · cases hi with
    | none => simp [sliceBounds, HT.sIx]
    | some i =>
      simp only [sliceBounds, HT.sIx, Option.getD_none, show (1 : Int) > 0 by decide, if_true]
      by_cases h : i < 0
      · simp only [h, if_true] <;> omega
      · simp only [h, if_false] <;> omega
theorem slicePick_cut (its : List Value) (lo hi : Option Int) : slicePick its.toArray lo hi none = ((its.drop (HT.sIx its.length 0 lo)).take (HT.sIx its.length its.length hi - HT.sIx its.length 0 lo)).toArray := by
  obtain ⟨h1, h2, h3⟩ := slice_bounds lo hi its.toArray.size
  unfold slicePick
  rw [h1, h2, h3]
  simp only [sliceRange_one, pick_run, List.size_toArray] <;> rfl
/-- xs[lo:hi] of a list: a new list -/
def rSlL (K : PySem.W.Frag) : V → Option Int → Option Int → Hp → VK → Prop := fun x lo hi H Q => ∃ a xs, x = .ref a ∧ SqL K H a xs ∧ ∀ p, H p = none → Q (.ref p) (upd H p (.lst (cutV xs lo hi)))
theorem sl_list : SlR X (rSlL X.K) := by
  intro pins s σ H x v vl vu lo hi sl Q I rx hs pl pu h
  obtain ⟨a, xs, rfl, hx, q⟩ := h
  cases rx
  obtain ⟨its, r, ht, hz⟩ := I.list hx
  have hlen := r.length
  refine ⟨"list", _, slot_list_getitem.lookup, ht.isList.typeIs, ?_⟩
  refine wpAny_getItem_list_slice ht.isList hs pl pu .none (by simp) ?_ (by rw [List.size_toArray] <;> omega)
  rw [slicePick_cut, ← hlen]
  refine ⟨.ref s.heap.objs.size, _, I.laid (t' := s.toks) (o := .lst (cutV xs lo hi)) (fun b ob q => Heap.get?_push_of_some _ q) (Nat.le_refl _) ?_, rfl, q _ (I.hok.fresh (Nat.le_refl _))⟩
  exact ⟨Nat.le_trans (cutV_length xs lo hi) hz, _, 0, (r.drop (HT.sIx xs.length 0 lo)).take (HT.sIx xs.length xs.length hi - HT.sIx xs.length 0 lo), Heap.get?_push_size _ rfl⟩

/-! ### in, not in: flat items -/
def flatV : V → Bool
  | .non => true
  | .bl _ => true
  | .int _ => true
  | .str _ => true
  | _ => false
/-- == of flat values -/
def eqV : V → V → Bool
  | .non, .non => true
  | .bl a, .bl b => a == b
  | .bl a, .int b => (if a then 1 else 0) == b
  | .int a, .bl b => a == (if b then 1 else 0)
  | .int a, .int b => a == b
  | .str a, .str b => a == b
  | _, _ => false
theorem eqAt_V {A : Around} {s : Shared} {y x : V} {u v : Value} (ry : RelV y u) (rx : RelV x v) (fy : flatV y = true) (fx : flatV x = true) : SeqAt.EqAt A s u v (eqV y x) := by
  cases y with
  | non =>
    cases ry
    cases x with
    | non => cases rx; exact SeqAt.EqAt.same _
    | bl b => cases rx; exact SeqAt.EqAt.none_bool b
    | int b => obtain ⟨t, rfl⟩ := rx; exact SeqAt.EqAt.none_int b t
    | str b => obtain ⟨t, rfl⟩ := rx; exact SeqAt.EqAt.none_str b t
    | _ => exact absurd (show false = true from fx) Bool.false_ne_true
  | bl a =>
    cases ry
    cases x with
    | non => cases rx; exact SeqAt.EqAt.bool_none a
    | bl b => cases rx; exact SeqAt.EqAt.bool_bool a b
    | int b => obtain ⟨t, rfl⟩ := rx; exact SeqAt.EqAt.bool_int a b t
    | str b => obtain ⟨t, rfl⟩ := rx; exact SeqAt.EqAt.bool_str a b t
    | _ => exact absurd (show false = true from fx) Bool.false_ne_true
  | int a =>
    obtain ⟨t', rfl⟩ := ry
    cases x with
    | non => cases rx; exact SeqAt.EqAt.int_none a t'
    | bl b => cases rx; exact SeqAt.EqAt.int_bool a t' b
    | int b => obtain ⟨t, rfl⟩ := rx; exact SeqAt.EqAt.int_int a t' b t
    | str b => obtain ⟨t, rfl⟩ := rx; exact SeqAt.EqAt.int_str a t' b t
    | _ => exact absurd (show false = true from fx) Bool.false_ne_true
  | str a =>
    obtain ⟨t', rfl⟩ := ry
    cases x with
    | non => cases rx; exact SeqAt.EqAt.str_none a t'
    | bl b => cases rx; exact SeqAt.EqAt.str_bool a t' b
    | int b => obtain ⟨t, rfl⟩ := rx; exact SeqAt.EqAt.str_int a t' b t
    | str b => obtain ⟨t, rfl⟩ := rx; exact SeqAt.EqAt.str_str a t' b t
    | _ => exact absurd (show false = true from fx) Bool.false_ne_true
  | _ => exact absurd (show false = true from fy) Bool.false_ne_true
/-- the items' answers, read off the values (a value's own answer does not lean on its token) -/
def eqU (x : V) (u : Value) : Bool := match u with
  | .none => eqV .non x
  | .bool b => eqV (.bl b) x
  | .int i _ => eqV (.int i) x
  | .str z _ => eqV (.str z) x
  | _ => false
theorem eqU_of {x y : V} {u : Value} (r : RelV y u) (f : flatV y = true) : eqU x u = eqV y x := by
  cases y with
  | non => cases r; rfl
  | bl b => cases r; rfl
  | int i => obtain ⟨t, rfl⟩ := r; rfl
  | str z => obtain ⟨t, rfl⟩ := r; rfl
  | _ => exact absurd (show false = true from f) Bool.false_ne_true
theorem any_eqU {x : V} : ∀ {xs : List V} {us : List Value}, Vals xs us → xs.all flatV = true → us.any (eqU x) = xs.any fun y => eqV y x
  | _, _, .nil, _ => rfl
  | y :: xs, u :: us, .cons r t, f => by
    rw [List.all_cons, Bool.and_eq_true] at f
    rw [List.any_cons, List.any_cons, eqU_of r f.1, any_eqU t f.2]
theorem mem_eqAt {A : Around} {s : Shared} {x : V} {v : Value} (rx : RelV x v) (fx : flatV x = true) : ∀ {xs : List V} {us : List Value}, Vals xs us → xs.all flatV = true → ∀ u ∈ us, SeqAt.EqAt A s u v (eqU x u)
  | _, _, .nil, _ => fun u hu => by cases hu
  | y :: xs, u :: us, .cons r t, f => fun u' hu => by
    rw [List.all_cons, Bool.and_eq_true] at f
    rcases List.mem_cons.mp hu with rfl | hu
    · rw [eqU_of r f.1]; exact eqAt_V r rx f.1 fx
    · exact mem_eqAt rx fx t f.2 u' hu
def inV (x : V) (xs : List V) : Bool := xs.any fun y => eqV y x
/-- x in a list or tuple of flat items -/
def rIn (K : PySem.W.Frag) (neg : Bool) : R2 := fun x y H Q => ∃ p xs, y = .ref p ∧ (SqL K H p xs ∨ SqT K H p xs) ∧ flatV x = true ∧ xs.all flatV = true ∧ Q (.bl (if neg then !inV x xs else inV x xs)) H
theorem op_in_seq : OpR X (compareOp .In) (rIn X.K false) := by
  intro pins s σ H x y v u Q I rx ry h
  obtain ⟨p, xs, rfl, hq, fx, fs, q⟩ := h
  cases ry
  rcases hq with hq | hq
  · obtain ⟨its, r, pl, hz⟩ := I.list hq
    refine SeqAt.in_listAt (eqU x) pl.isList (fun w hw => mem_eqAt rx fx r fs w (by simpa using hw)) ⟨.bl _, H, I, rfl, ?_⟩
    rw [show its.toArray.any (eqU x) = its.any (eqU x) by simp, any_eqU r fs]
    exact q
  · obtain ⟨its, r, pl, hz⟩ := I.tuple hq
    refine SeqAt.in_tupleAt (eqU x) pl (fun w hw => mem_eqAt rx fx r fs w (by simpa using hw)) ⟨.bl _, H, I, rfl, ?_⟩
    rw [show its.toArray.any (eqU x) = its.any (eqU x) by simp, any_eqU r fs]
    exact q
/-! ### len, list(x), tuple(x) of any list or tuple that is read -/
theorem call_len_seq : CallR X (.builtin "len") (fun xs H Q => ∃ p ys, xs = [.ref p] ∧ (SqL X.K H p ys ∨ SqT X.K H p ys) ∧ Q (.int ys.length) H) := by
  intro pins s σ H xs us Q I r h
  obtain ⟨p, ys, rfl, hq, q⟩ := h
  obtain ⟨u, rfl, rx⟩ := vals1 r
  cases rx
  have hn := line63
  rcases hq with hq | hq
  · obtain ⟨its, r', pl, hz⟩ := I.list hq
    have hlen := r'.length
    exact Calls.call_len_list pl.isList (by simp only [List.size_toArray] <;> omega) ⟨.int ys.length, H, I.tok _, ⟨s.toks + 1, by rw [List.size_toArray, hlen]⟩, q⟩
  · obtain ⟨its, r', pl, hz⟩ := I.tuple hq
    have hlen := r'.length
    exact len_tuple pl (by simp only [List.size_toArray] <;> omega) ⟨.int ys.length, H, I.tok _, ⟨s.toks + 1, by rw [List.size_toArray, hlen]⟩, q⟩
theorem call_len_str : CallR X (.builtin "len") (fun xs H Q => ∃ z, xs = [.str z] ∧ z.length ≤ sizeLine ∧ Q (.int z.length) H) := by
  intro pins s σ H xs us Q I r h
  obtain ⟨z, rfl, hz, q⟩ := h
  obtain ⟨u, rfl, t, rfl⟩ := vals1 r
  have hn := line63
  exact len_str (by omega) ⟨.int z.length, H, I.tok _, ⟨_, rfl⟩, q⟩
theorem CallR.or {f : Value} {r r' : List V → Hp → VK → Prop} (h : CallR X f r) (h' : CallR X f r') : CallR X f (fun xs H Q => r xs H Q ∨ r' xs H Q) := by
  intro pins s σ H xs us Q I rs q
  rcases q with q | q
  · exact h pins s σ H xs us Q I rs q
  · exact h' pins s σ H xs us Q I rs q
theorem call_list_of : CallR X (.type "list") (fun xs H Q => ∃ p ys, xs = [.ref p] ∧ (SqL X.K H p ys ∨ SqT X.K H p ys) ∧ ∀ l, H l = none → Q (.ref l) (upd H l (.lst ys))) := by
  intro pins s σ H xs us Q I r h
  obtain ⟨p, ys, rfl, hq, q⟩ := h
  obtain ⟨u, rfl, rx⟩ := vals1 r
  cases rx
  have fin : ∀ (its : List Value), Vals ys its → ys.length ≤ sizeLine → ∀ (h' : Heap) (c' : Nat), (∀ b o', s.heap.get? b = some o' → h'.get? b = some o') →
      h'.get? s.heap.objs.size = some { cls := .type "list", dict := none, data := .seq its.toArray c', slots := #[] } → EP X pins σ Q (.ref s.heap.objs.size) { s with heap := h' } := fun its r' hz h' c' kp e =>
    ⟨.ref s.heap.objs.size, _, I.laid (t' := s.toks) kp (Nat.le_refl _) (show ObjOk X.prog X.w _ h' _ (.lst ys) from ⟨hz, its, c', r', e⟩), rfl, q _ (I.hok.fresh (Nat.le_refl _))⟩
  rcases hq with hq | hq
  · obtain ⟨its, r', pl, hz⟩ := I.list hq
    have hlen := r'.length
    obtain ⟨o, ho, hc, n, hd⟩ := pl.isList
    exact call_list_seq p (.inl rfl) ho hc hd (fun h' c' kp e => fin its r' hz h' c' kp e) (by simp only [List.size_toArray] <;> omega)
  · obtain ⟨its, r', pl, hz⟩ := I.tuple hq
    have hlen := r'.length
    obtain ⟨o, ho, hc, n, hd⟩ := pl
    exact call_list_seq p (.inr rfl) ho hc hd (fun h' c' kp e => fin its r' hz h' c' kp e) (by simp only [List.size_toArray] <;> omega)
theorem call_tuple_of : CallR X (.type "tuple") (fun xs H Q => ∃ p ys, xs = [.ref p] ∧ ((SqL X.K H p ys ∧ ∀ l, H l = none → Q (.ref l) (upd H l (.tup ys))) ∨ (SqT X.K H p ys ∧ Q (.ref p) H))) := by
  intro pins s σ H xs us Q I r h
  obtain ⟨p, ys, rfl, h⟩ := h
  obtain ⟨u, rfl, rx⟩ := vals1 r
  cases rx
  rcases h with ⟨hq, q⟩ | ⟨hq, q⟩
  · obtain ⟨its, r', pl, hz⟩ := I.list hq
    have hlen := r'.length
    refine call_tuple_list pl.isList (fun h' kp => ?_) (by simp only [List.size_toArray] <;> omega)
    have I1 : Inv X pins σ H { s with heap := h' } := I.kept (t' := s.toks) kp
    have I2 : Inv X pins σ (upd H h'.objs.size (.tup ys)) { s with heap := h'.push { cls := .type "tuple", data := .seq its.toArray } } :=
      I1.laid (t' := s.toks) (fun b o e => Heap.get?_push_of_some _ e) (Nat.le_refl _) (show ObjOk X.prog X.w _ _ _ (.tup ys) from ⟨hz, its, r', IsTup.new _ _⟩)
    exact ⟨.ref h'.objs.size, _, I2, rfl, q _ (I1.hok.fresh (Nat.le_refl _))⟩
  · obtain ⟨its, r', pl, hz⟩ := I.tuple hq
    exact call_tuple_same pl ⟨.ref p, H, I, rfl, q⟩

/-! ### the call of a builtin's method: o.m(..) -/
/-- the value is of that builtin type -/
def tyV (K : PySem.W.Frag) (T : String) (x : V) (H : Hp) : Prop := match x with
  | .str _ => T = "str"
  | .int _ => T = "int"
  | .ref p => (T = "list" ∧ ∃ xs, SqL K H p xs) ∨ (T = "tuple" ∧ ∃ o, K.lookup p = some o ∧ o.cls = .type "tuple" ∧ o.dict = none) ∨
      (T = "dict" ∧ ((∃ kvs, H p = some (.dK kvs)) ∨ ∃ kvs, H p = some (.dT kvs))) ∨ (T = "set" ∧ ∃ S n, H p = some (.set S n))
  | _ => False
theorem tyV_is {pins : List (Addr × Obj)} {σ : St} {H : Hp} {s : Shared} {T : String} {x : V} {v : Value} (I : Inv X pins σ H s) (r : RelV x v) (ty : tyV X.K T x H) :
    s.TypeIs v T ∧ ∀ a, v = .ref a → ∃ ob, s.heap.get? a = some ob ∧ ob.dict = none := by
  cases x with
  | str z =>
    obtain ⟨t, rfl⟩ := r
    cases (show T = "str" from ty)
    exact ⟨typeIs_str s z t, fun _ e => nomatch e⟩
  | int i =>
    obtain ⟨t, rfl⟩ := r
    cases (show T = "int" from ty)
    exact ⟨typeIs_int s i t, fun _ e => nomatch e⟩
  | ref p =>
    cases r
    rcases ty with ⟨rfl, xs, hq⟩ | ⟨rfl, o, hk, hc, hd⟩ | ⟨rfl, hk⟩ | ⟨rfl, S, n, hk⟩
    · obtain ⟨its, _, pl, _⟩ := I.list hq
      refine ⟨pl.isList.typeIs, fun a e => ?_⟩
      cases e
      obtain ⟨o, n, e, c, hd, _⟩ := pl
      exact ⟨o, e, hd⟩
    · refine ⟨⟨o, I.kIn p o hk, hc⟩, fun a e => ?_⟩
      cases e
      exact ⟨o, I.kIn _ o hk, hd⟩
    · have z : ∃ o, s.heap.get? p = some o ∧ o.ExactDict := by
        rcases hk with ⟨kvs, hk⟩ | ⟨kvs, hk⟩
        · obtain ⟨_, _, _, _, o, _, _, e, ex, _⟩ := I.hok p _ hk
          exact ⟨o, e, ex⟩
        · obtain ⟨_, _, _, _, o, _, _, e, ex, _⟩ := I.hok p _ hk
          exact ⟨o, e, ex⟩
      obtain ⟨o, e, ex⟩ := z
      refine ⟨⟨o, e, ex.1⟩, fun a e2 => ?_⟩
      cases e2
      exact ⟨o, e, ex.2.1⟩
    · obtain ⟨o, _, _, _, e, ex, _⟩ := I.hok p _ hk
      refine ⟨⟨o, e, ex.1⟩, fun a e2 => ?_⟩
      cases e2
      exact ⟨o, e, ex.2.1⟩
  | _ => exact False.elim ty
def tBM0 (K : PySem.W.Frag) (T : String) (r : V → List V → Hp → VK → Prop) (to : TE) : TE := fun σ H Q => to σ H fun x H1 => tyV K T x H1 ∧ r x [] H1 Q
def tBM (K : PySem.W.Frag) (T : String) (r : V → List V → Hp → VK → Prop) (to : TE) (t : TA) : TE := fun σ H Q => to σ H fun x H1 => tyV K T x H1 ∧ t σ H1 fun xs H2 => r x xs H2 Q
variable {o e : Expr} {es : List Expr} {to : TE} {t : TA} {name : Str} {apos cpos : Pos} {T id : String} {r : V → List V → Hp → VK → Prop}
theorem pe_bm0 (pa : PlainAttrs T) (slot : Slot T name id) (hty : typeOf (.builtin id) = pure (.type "method_descriptor")) (hm : MtR X id r) (ho : PE X o to)
    (hbase : attributeBase o name X.env (eval o X.env) = eval o X.env := by rfl) (hline : (apos.endLine == cpos.line) = true := by rfl) : PE X (.Call (.Attribute o name apos) [] [] cpos) (tBM0 X.K T r to) := by
  intro pins s σ H Q I h
  refine wpAny_Call_method0_late hbase hline (thn (ho pins s σ H _ I h) fun v s1 ⟨x, H1, I1, r1, ty, q1⟩ => ?_)
  obtain ⟨h1, h2⟩ := tyV_is I1 r1 ty
  exact ⟨T, id, pa, slot, hty, h1, h2, Calls.callWith_builtin rfl (PySem.evalArgs_none (hm pins s1 σ H1 x [] v [] Q I1 r1 .nil q1))⟩
theorem pe_bm (pa : PlainAttrs T) (slot : Slot T name id) (hty : typeOf (.builtin id) = pure (.type "method_descriptor")) (hm : MtR X id r) (ho : PE X o to) (ha : PA X (e :: es) t)
    (hbase : attributeBase o name X.env (eval o X.env) = eval o X.env := by rfl)
    (hfew : ((backTo cpos (starEach (e :: es) X.env)).all (fun x => !x.1) && (backToKw cpos (keywordEach [] X.env)).all (fun x => x.1.isSome)
      && decide ((e :: es).length + ([] : List Keyword).length + (if ([] : List Keyword).isEmpty then 0 else 1) < 30)) = true := by rfl)
    (hline : (apos.endLine == cpos.line) = true := by rfl) (hs : starEach (e :: es) X.env = (false, eval e X.env) :: starEach es X.env := by rfl) (hplain : (backTo cpos (starEach es X.env)).any (·.1) = false := by rfl) :
    PE X (.Call (.Attribute o name apos) (e :: es) [] cpos) (tBM X.K T r to t) := by
  intro pins s σ H Q I h
  refine wpAny_Call_method_late hbase hfew hline rfl (thn (ho pins s σ H _ I h) fun v s1 ⟨x, H1, I1, r1, ty, q1⟩ => ?_)
  obtain ⟨h1, h2⟩ := tyV_is I1 r1 ty
  refine ⟨T, id, pa, slot, hty, h1, h2, ?_⟩
  have hA := ha cpos pins s1 σ H1 _ I1 q1
  rw [hs] at hA ⊢
  refine Calls.callWith_builtin (by show (false || (backTo cpos (starEach es X.env)).any (·.1)) = false; rw [hplain] <;> rfl) (Calls.evalArgs_plain ?_)
  exact thn hA fun us s2 ⟨vs, H2, I2, r2, q2⟩ => hm pins s2 σ H2 x vs v us Q I2 r1 r2 q2
/- xs.append(e), list.index on a module's tuple .. are MtR facts of 06m -/
end
end L2

namespace L2
open PySem PySem.Spec PyProof.Rows

def MtM (X : Cx) (id : String) (r : V → List V → Hp → VK → Prop) : Prop :=
  ∀ (pins : List (Addr × Obj)) (s : Shared) (σ : St) (H : Hp) (x : V) (xs : List V) (v : Value) (us : List Value) (Q : VK), Inv X pins σ H s → RelV x v → Vals xs us → r x xs H Q →
    wpAny (model X.prog X.w) X.A (call (.builtin id) (v :: us)) (EP X pins σ Q) X.xe s

/-! ### lists of values -/
theorem Vals.one : ∀ {x : V} {us : List Value}, Vals [x] us → ∃ u, us = [u] ∧ RelV x u
  | _, _, .cons r .nil => ⟨_, rfl, r⟩
theorem Vals.two : ∀ {x y : V} {us : List Value}, Vals [x, y] us → ∃ u v, us = [u, v] ∧ RelV x u ∧ RelV y v
  | _, _, _, .cons r (.cons q .nil) => ⟨_, _, rfl, r, q⟩
theorem Vals.zero : ∀ {us : List Value}, Vals [] us → us = []
  | _, .nil => rfl
theorem Vals.dropLast {xs : List V} {us : List Value} (h : Vals xs us) : Vals xs.dropLast us.dropLast := by
  induction h with
  | nil => exact .nil
  | cons r t ih =>
    cases t with
    | nil => exact .nil
    | cons q t' => exact .cons r ih
theorem Vals.eraseIdx : ∀ {xs : List V} {us : List Value} (i : Nat), Vals xs us → Vals (xs.eraseIdx i) (us.eraseIdx i)
  | _, _, _, .nil => .nil
  | _, _, 0, .cons _ t => t
  | _, _, i + 1, .cons r t => .cons r (Vals.eraseIdx i t)
theorem Vals.reverse {xs : List V} {us : List Value} (h : Vals xs us) : Vals xs.reverse us.reverse := by
  induction h with
  | nil => exact .nil
  | cons r t ih => rw [List.reverse_cons, List.reverse_cons]; exact Vals.append ih (.cons r .nil)
section
variable {X : Cx} {pins : List (Addr × Obj)} {σ : St} {H : Hp} {s : Shared} {l b : Addr} {xs ys zs : List V}

/-! ### the two steps: a tracked list is rewritten, a new list is laid -/
theorem Inv.lset {its its' : List Value} {n : Nat} {f : Array Value → Array Value} {t' : Nat} (I : Inv X pins σ H s) (hH : H l = some (.lst xs))
    (e : s.heap.get? l = some { cls := .type "list", data := .seq its.toArray n }) (hf : f its.toArray = its'.toArray) (hv : Vals ys its') (hz : ys.length ≤ sizeLine) :
    Inv X pins σ (upd H l (.lst ys)) { s with heap := s.heap.update l (Obj.mapSeq f), toks := t' } := by
  have q := PySem.IsL.update e f
  rw [hf] at q
  refine I.write (x := l) (e := l) (by rw [hH]; exact trivial) (.inl rfl) (fun b' u hb hu => (Heap.get?_update_other s.heap (Obj.mapSeq f) (Ne.symm hb)).trans hu) ⟨_, q⟩ ?_
  exact ⟨hz, its', _, hv, q⟩
theorem Inv.lnew {its : List Value} {t' : Nat} (I : Inv X pins σ H s) (hv : Vals ys its) (hz : ys.length ≤ sizeLine) :
    Inv X pins σ (upd H s.heap.objs.size (.lst ys)) { s with heap := s.heap.push { cls := .type "list", data := .seq its.toArray }, toks := t' } :=
  I.laid (fun _ _ q => Heap.get?_push_of_some _ q) (Nat.le_refl _) ⟨hz, its, 0, hv, Heap.get?_push_size _ rfl⟩
theorem Inv.fresh (I : Inv X pins σ H s) : H s.heap.objs.size = none := I.hok.fresh (Nat.le_refl _)
theorem Inv.lstM (I : Inv X pins σ H s) (hH : H l = some (.lst xs)) : xs.length ≤ sizeLine ∧ ∃ (its : List Value) (n : Nat), Vals xs its ∧ xs.length = its.length ∧ s.heap.get? l = some { cls := .type "list", data := .seq its.toArray n } := by
  obtain ⟨z, its, n, r, e⟩ := I.hok l _ hH
  exact ⟨z, its, n, r, r.length, e⟩

end

section
variable {X : Cx}

/-! ### methods -/
def rAppend : V → List V → Hp → VK → Prop := fun x vs H Q => ∃ l xs y, x = .ref l ∧ vs = [y] ∧ H l = some (.lst xs) ∧ xs.length < sizeLine ∧ Q .non (upd H l (.lst (xs ++ [y])))
theorem mt_append : MtM X "list.append" rAppend := by
  intro pins s σ H x vs v us Q I rx rv h
  obtain ⟨l, xs, y, rfl, rfl, hH, hz, q⟩ := h
  cases rx
  obtain ⟨u, rfl, ru⟩ := rv.one
  obtain ⟨z, its, n, r, hl, e⟩ := I.lstM hH
  refine call_meets F.slot_list_append ⟨_, e, rfl⟩ F.entry_list_append (F.args_list_append_2 _ _) (PySem.list_append l its.toArray n u (by rw [List.size_toArray]; omega)) ⟨e, ?_⟩
  refine ⟨.non, _, I.lset (its' := its ++ [u]) hH e (by simp) (r.append (.cons ru .nil)) ?_, rfl, q⟩
  rw [List.length_append, List.length_singleton]
  omega

def rExtend : V → List V → Hp → VK → Prop := fun x vs H Q => ∃ l b xs zs, x = .ref l ∧ vs = [.ref b] ∧ H l = some (.lst xs) ∧ H b = some (.lst zs) ∧ xs.length + zs.length ≤ sizeLine ∧ Q .non (upd H l (.lst (xs ++ zs)))
def rPop : V → List V → Hp → VK → Prop := fun x vs H Q => ∃ l xs y, x = .ref l ∧ vs = [] ∧ H l = some (.lst xs) ∧ xs[xs.length - 1]? = some y ∧ Q y (upd H l (.lst xs.dropLast))
def rPopAt : V → List V → Hp → VK → Prop := fun x vs H Q => ∃ l xs i k y, x = .ref l ∧ vs = [.int i] ∧ H l = some (.lst xs) ∧ -(2 ^ 63) ≤ i ∧ i < 2 ^ 63 ∧ seqIndex? i xs.length = some k ∧ xs[k]? = some y ∧ Q y (upd H l (.lst (xs.eraseIdx k)))
def rReverse : V → List V → Hp → VK → Prop := fun x vs H Q => ∃ l xs, x = .ref l ∧ vs = [] ∧ H l = some (.lst xs) ∧ Q .non (upd H l (.lst xs.reverse))
def rClear : V → List V → Hp → VK → Prop := fun x vs H Q => ∃ l xs, x = .ref l ∧ vs = [] ∧ H l = some (.lst xs) ∧ Q .non (upd H l (.lst []))
theorem mt_clear : MtM X "list.clear" rClear := by
  intro pins s σ H x vs v us Q I rx rv h
  obtain ⟨l, xs, rfl, rfl, hH, q⟩ := h
  cases rx
  have hus := rv.zero
  subst hus
  obtain ⟨z, its, n, r, hl, e⟩ := I.lstM hH
  refine call_meets F.slot_list_clear ⟨_, e, rfl⟩ F.entry_list_clear (F.args_list_clear_1 _) (AutoSeq1.list_clear_list_0 l its.toArray n (by rw [List.size_toArray]; omega)) ⟨e, ?_⟩
  exact ⟨.non, _, I.lset (its' := []) (ys := []) hH e rfl .nil (Nat.zero_le _), rfl, q⟩

/-! ### list + list, list += list, list * int -/
def rCat : R2 := fun x y H Q => ∃ l b xs zs, x = .ref l ∧ y = .ref b ∧ H l = some (.lst xs) ∧ H b = some (.lst zs) ∧ xs.length + zs.length ≤ sizeLine ∧ ∀ p, H p = none → Q (.ref p) (upd H p (.lst (xs ++ zs)))
/-- a list times an int (a negative one is nothing) -/
def rRep : R2 := fun x y H Q => ∃ l k xs, x = .ref l ∧ y = .int k ∧ H l = some (.lst xs) ∧ -(2 ^ 63) ≤ k ∧ k < 2 ^ 63 ∧ xs.length * k.toNat ≤ sizeLine ∧
  ∀ p, H p = none → Q (.ref p) (upd H p (.lst (List.replicate k.toNat xs).flatten))
/-! ### del xs[i] -/
end

/-! ### xs[a:b] = ys -/
section
variable {prog : Program} {w : World} {A : Around} {E : Value → Shared → Prop} {s : Shared}
end

section
variable {X : Cx}
end
end L2

namespace Att
open PySem PySem.W PySem.Calls PyProof.Rows

/-! ### the script -/
theorem ints_of_wellAll {P : Params} {h : Heap} : ∀ (ns : List Int) (vs : List Value), WellAll P h vs (ns.map WData.int) → IntsAre vs ns := by
  intro ns
  induction ns with
  | nil =>
    intro vs w
    rw [List.map_nil] at w
    cases w
    exact .nil
  | cons n ns ih =>
    intro vs w
    rw [List.map_cons] at w
    cases w with
    | cons a b =>
      cases a
      exact .cons _ _ (ih _ b)

theorem script_of {l : OpenLaw} {n : Nat} (hn : l.most = some n) {P : Params} {h : Heap} {args : List WData} {vals : List Value}
    (hpre : l.row.toRowW.claim.pre args = true) (hwl : WellAll P h vals args) :
    ∃ a vs ns, vals = [Value.ref a] ∧ args = [WData.list (ns.map WData.int)] ∧ h.get? a = some { cls := .type "list", data := .seq vs.toArray } ∧ IntsAre vs ns ∧ ns.length ≤ n := by
  have hsh : WShape.hasAll [] args [.list .int] = true := (pre_splitW hpre).1
  have hc : l.pre.holds [] { args := args } = true := (pre_splitW hpre).2
  obtain ⟨d, r, rfl, h1, h2⟩ := hasAllW_cons hsh
  obtain rfl := hasAllW_nil h2
  obtain ⟨xs, rfl, h3⟩ := hasW_list h1
  obtain ⟨ns, rfl⟩ := items_int h3
  have hlen : ns.length ≤ n := by
    unfold OpenLaw.pre at hc
    have h4 : (WTm.not (.lt (.lit (.int (n : Int))) (.len (.arg 0)))).holds [] { args := [.list (ns.map .int)] } = true := by
      have h4 := (holds_andW hc).1
      rw [hn] at h4
      exact h4
    have h5 := condW_of h4 (w_not (w_lt w_lit (w_len_list (w_arg rfl))))
    rw [List.length_map] at h5
    refine Nat.le_of_not_lt fun q => ?_
    have q' : (n : Int) < ((ns.length : Nat) : Int) := by omega
    first
      | (rw [decide_eq_true q'] at h5; exact absurd h5 (by decide))
      | (simp at h5; omega)
  cases hwl with
  | cons w1 w2 =>
    cases w2
    cases w1 with
    | list ho hall => exact ⟨_, _, ns, rfl, rfl, ho, ints_of_wellAll ns _ hall, hlen⟩

theorem post_true (l : OpenLaw) (args : List WData) : l.row.toRowW.claim.post args (.bool true) args = true :=
  postW_of (r := l.row.toRowW) (X := (true == true))
    (show WShape.has [] (.bool true) .bool = true by first | rfl | decide | simp [WShape.has, WShape.arms, WShape.armsAll])
    (show (WTm.eq .res (.lit (.bool true))).value [] { args := args, res := some (.bool true), after := args } = some (.bool (true == true)) from w_eq_bool (w_res rfl) w_lit) rfl

/-! ### the attachment: holds_open's last premise (the goal 'hc' behind k_head) from a wpAny of the law's body -/
/-- the same from a codeAny of the CALL (for a layer whose function contracts speak of calls) -/
theorem attach_call {l : OpenLaw} {n : Nat} {q : Program} {loose : List Str} {XP : (Str → Option Value) → Heap → Prop} {YP : World → Heap → Prop} {d : DefRec}
    (hn : l.most = some n) (hdf : d.params.defaults = [])
    (call : ∀ (w : World) (s₀ s₁ : Shared) (mg mb : Str → Option Value) (fa : Addr) (o : Obj) (pm cd doc : Value) (a : Addr) (vs : List Value) (ns : List Int),
      Ground q loose [] XP w s₀ mg mb s₁.heap → YP w s₁.heap →
      s₁.heap.get? fa = some o → o.data = .func (docDef d.name d.params d.body d.scope pm cd doc) → s₁.heap.CodeRec cd d.name → mg d.name = some (.ref fa) →
      s₁.heap.get? a = some { cls := .type "list", data := .seq vs.toArray } → IntsAre vs ns → ns.length ≤ n → s₁.gens = #[] →
      codeAny (model l.prog w) callerA (.call (.ref fa) ⟨[.ref a], []⟩) (fun r s' => r = .ok (.ret (.bool true)) ∧ OldK s₁.heap s'.heap ∧ s'.os = s₁.os ∧ AllBare s'.gens) s₁) :
    WalkO q loose XP YP l.row.toRowW d [] (fun f vs => PySem.call f vs) := by
  intro w s₀ s₁ mg mb G Y fa o pm cd doc dV kV ho hd hcd hD hmg hg args vals as hpre hlay hrd hwl hlo
  obtain rfl : dV = .none := Dflts.none hD hdf
  obtain rfl : kV = .none := Dflts.noKw hD
  obtain ⟨a, vs, ns, rfl, rfl, hobj, hints, hlen⟩ := script_of hn hpre hwl
  refine enter_call (codeAny_mono (call w s₀ s₁ mg mb fa o pm cd doc a vs ns G Y ho (fd_plain hd) hcd hmg hobj hints hlen hg) fun r s' hq => ?_)
  obtain ⟨rfl, h2, h3, h4⟩ := hq
  exact ⟨.inl ⟨.bool true, .bool true, [], rfl, fun _ => rfl, .bool true, post_true l _, fun _ => ⟨List.Pairwise.nil, fun _ hm => (nomatch hm)⟩⟩, h2, h3, h4⟩

/-! ### rules over ANY heap (no ledger) from facts about the written part K: the library's own take a ledger (News) for what they write -/
section
variable {prog : Program} {w : World} {A : Around} {E : Value → Shared → Prop} {s : Shared} {K : Frag}

/-! the whole heap as the ledger: makes every rule that writes through a ledger a rule over any heap -/
def noObjs (h : Heap) : Heap := { h with objs := #[] }
def ledger (h : Heap) (L d : Addr) : List (Addr × Obj) := (List.range h.objs.size).filterMap fun a => if a = L ∨ a = d then none else (h.get? a).map fun o => (a, o)
end
end Att

namespace L2
open PySem PySem.Spec PyProof.Rows

theorem vals_ints : ∀ {vs : List Value} {ns : List Int}, IntsAre vs ns → Vals (ns.map V.int) vs
  | _, _, .nil => .nil
  | _, _, .cons n t h => .cons ⟨t, rfl⟩ (vals_ints h)

/-- nothing is tracked but the script, known to the object (or it is an object of the module) -/
def Only (H : Hp) : Prop := ∀ b, H b = none ∨ ∃ o xs, H b = some (.frz o (.lst xs))

/-- THE HEAD: the law's promise, at the heap behind the top. F, the promise of the law's def, may use that base is part of the heap (so K.In base, base.Ns mainGlobals mg stand in Mod) -/
theorem law_call {P : Program} {w : World} {K : PySem.W.Frag} {mg mb : Str → Option Value} {CX : CXT} {k : Nat} {fa a : Addr} {fd : FuncData} {x : Str} {sp : Sp} {s₁ : Shared} {vs : List Value} {ns : List Int}
    (KX : K.In s₁.heap) (hns : s₁.heap.Ns mainGlobals mg) (hb : s₁.heap.Ns builtinsNs mb) (hbb : ∀ x : Str, x ≠ "__name__" → mb x = bootBuiltins x) (hlim : s₁.heap.NoLimit) (hg : s₁.gens = #[])
    (ha : s₁.heap.get? a = some { cls := .type "list", data := .seq vs.toArray }) (hi : IntsAre vs ns) (hl : ns.length ≤ sizeLine) (hr : Room k callerA)
    (F : ∀ base : Heap, K.In base → base.Ns mainGlobals mg → FnOk P w K mg base CX k fa fd [x] sp) (hbind : ∀ (s : Shared) (u : Value), BindsTo s fd ⟨[u], []⟩ [(x, u)])
    (hsp : ∀ H : Hp, Only H → SqL K H a (ns.map V.int) → sp [.ref a] H (fun v _ => v = .bl true) fun _ _ _ => False)
    (hCX : ∀ H e s', CX [] H s₁ (fun _ _ _ => False) e s' → False) :
    codeAny (model P w) callerA (.call (.ref fa) ⟨[.ref a], []⟩) (fun r s' => r = .ok (.ret (.bool true)) ∧ OldK s₁.heap s'.heap ∧ s'.os = s₁.os ∧ AllBare s'.gens) s₁ := by
  have rv := vals_ints hi
  have lenV := hi.length
  -- from an abstract heap in which nothing but the script may be tracked
  have core : ∀ H : Hp, Only H → SqL K H a (ns.map V.int) → HOk P w H s₁.heap → (∀ b, H b ≠ none → b = a) → (H a ≠ none → K.lookup a = none) →
      codeAny (model P w) callerA (.call (.ref fa) ⟨[.ref a], []⟩) (fun r s' => r = .ok (.ret (.bool true)) ∧ OldK s₁.heap s'.heap ∧ s'.os = s₁.os ∧ AllBare s'.gens) s₁ := by
    intro H hO hS hok hA hK
    have base_of : ∀ {b : Addr} {o : Obj}, s₁.heap.get? b = some o → H b = none → (hidT s₁.heap H).get? b = some o := fun e n => hidT_get e n
    have noA : ∀ {b : Addr} {o : Obj} {es : Array DictEntry} {ep : Nat}, s₁.heap.get? b = some o → o.data = .dict es ep → H b = none := fun {b o es ep} e d => by
      cases q : H b with
      | none => rfl
      | some u =>
        have e' : b = a := hA b (by rw [q]; simp)
        subst e'
        rw [ha] at e; cases e
        have d' : Data.seq vs.toArray _ = Data.dict es ep := d
        cases d'
    have nsK : ∀ {b : Addr} {m : Str → Option Value}, s₁.heap.Ns b m → (hidT s₁.heap H).Ns b m := fun {b m} ⟨o, es, ep, e, d, r⟩ => ⟨o, es, ep, base_of e (noA e d), d, r⟩
    have hKb : K.In (hidT s₁.heap H) := fun b o e => base_of (KX b o e) (by
      cases q : H b with
      | none => rfl
      | some u =>
        have e' : b = a := hA b (by rw [q]; simp)
        subst e'
        rw [hK (by rw [q]; simp)] at e; cases e)
    have hM : Mod K mg (hidT s₁.heap H) := ⟨hKb, nsK hns, ⟨mb, nsK hb, hbb⟩, let ⟨mc, h1, h2⟩ := hlim; ⟨mc, nsK h1, h2⟩⟩
    have e0 : Env0 P w K mg (hidT s₁.heap H) callerA [] s₁ H := ⟨rfl, hM, fun b o e => of_hidT e, Nat.le_of_eq (hidT_size _ _), trivial, fun b hb => absurd (show b ∈ ([] : List Addr) from hb) (by simp), hok, .of_eq hg⟩
    refine codeAny_mono ((F _ hKb (nsK hns)).run callerA [] s₁ H ⟨[.ref a], []⟩ [.ref a] [.ref a] _ _ hr e0 (hbind s₁ (.ref a)) (.cons rfl .nil) (hsp H hO hS)) fun r s' h => ?_
    cases r with
    | error e => exact (hCX H e s' h).elim
    | ok fl =>
      cases fl with
      | next => exact False.elim h
      | brk => exact False.elim h
      | cont => exact False.elim h
      | ret u =>
        obtain ⟨v, H', os, bare, un, hok', r', q⟩ := h
        have q' : v = .bl true := q
        subst q'
        obtain rfl : u = Value.bool true := r'
        refine ⟨rfl, OldK.of_keep fun b o e => ?_, os, bare⟩
        cases q : H b with
        | none => exact un.keep b o e q (by intro z; exact absurd (show b ∈ ([] : List Addr) from z) (by simp)) (by simp)
        | some u =>
          rcases hO b with z | ⟨ob, xs, z⟩
          · rw [q] at z; cases z
          · have z2 := un.frzs b ob _ z
            obtain ⟨e1, _⟩ := hok b _ z
            obtain ⟨e2, _⟩ := hok' b _ z2
            rw [e] at e1; cases e1
            exact e2
  cases hk : K.lookup a with
  | some o =>
    -- the script is one of the module's own objects
    have e := KX a o hk
    rw [ha] at e
    cases e
    refine core (fun _ => none) (fun _ => .inl rfl) (.inr ⟨_, vs.toArray, _, hk, rfl, rfl, rfl, by rw [List.size_toArray, lenV]; exact hl, by simpa using rv⟩) (fun b u z => by have z' : (none : Option HO) = some u := z; cases z') (fun b z => absurd rfl z) fun z => absurd rfl z
  | none =>
    refine core (fun b => if b = a then some (.frz { cls := .type "list", data := .seq vs.toArray } (.lst (ns.map V.int))) else none) (fun b => ?_) (.inl (.inr ⟨{ cls := .type "list", data := .seq vs.toArray }, if_pos rfl⟩)) (fun b u z => ?_) (fun b z => ?_) fun _ => hk
    · by_cases hb : b = a
      · exact .inr ⟨_, _, if_pos hb⟩
      · exact .inl (if_neg hb)
    · by_cases hb : b = a
      · have z' := (if_pos hb).symm.trans z
        cases z'
        subst hb
        exact ⟨ha, by rw [List.length_map]; exact hl, vs, _, rv, ha⟩
      · have z' := (if_neg hb).symm.trans z
        cases z'
    · by_cases hb : b = a
      · exact hb
      · exact absurd (if_neg hb) z
end L2

namespace L2
open PySem PySem.Spec PyProof.Rows

abbrev KOf {K : PySem.W.Frag} {h : Heap} (_ : K.In h) : PySem.W.Frag := K

/-- the goal that k_head leaves (case hc), from the law's promise. F gives the function object fd (K's own) once, then the promise over every base -/
theorem walk_of {l : PySem.W.OpenLaw} {n k : Nat} {q : Program} {loose : List Str} {XP : (Str → Option Value) → Heap → Prop} {YP : World → Heap → Prop} {d : DefRec} {K : Params → PySem.W.Frag} {CX : World → CXT} {sp : World → Sp} {x : Str}
    (hn : l.most = some n) (hn2 : n ≤ sizeLine) (hdf : d.params.defaults = []) (hr : Room k callerA)
    (hY : ∀ (w : World) (h : Heap), YP w h → (K w.params).In h)
    (F : ∀ (w : World) (mg : Str → Option Value) (fa : Addr) (h : Heap), (K w.params).In h → h.Ns mainGlobals mg → mg d.name = some (.ref fa) →
      ∃ fd : FuncData, (∀ (s : Shared) (u : Value), BindsTo s fd ⟨[u], []⟩ [(x, u)]) ∧
        ∀ base : Heap, (K w.params).In base → base.Ns mainGlobals mg → FnOk l.prog w (K w.params) mg base (CX w) k fa fd [x] (sp w))
    (hsp : ∀ (w : World) (H : Hp) (a : Addr) (ns : List Int), ns.length ≤ n → Only H → SqL (K w.params) H a (ns.map V.int) → sp w [.ref a] H (fun v _ => v = .bl true) fun _ _ _ => False)
    (hCX : ∀ (w : World) (H : Hp) (s : Shared) (e : Value) (s' : Shared), CX w [] H s (fun _ _ _ => False) e s' → False) :
    PySem.W.WalkO q loose XP YP l.row.toRowW d [] (fun f vs => PySem.call f vs) := by
  refine Att.attach_call hn hdf fun w s₀ s₁ mg mb fa o pm cd doc a vs ns G Y ho hd hcd hmg hobj hints hlen hg => ?_
  have KX := hY w _ Y
  obtain ⟨fd, hb, hF⟩ := F w mg fa _ KX G.T.g hmg
  exact law_call KX G.T.g G.T.b G.T.builtins G.T.nolimit hg hobj hints (Nat.le_trans hlen hn2) hr hF hb (fun H hO hS => hsp w H a ns hlen hO hS) fun H e s' => hCX w H s₁ e s'
end L2

/- THE LAST THEOREM (shape; LID, My.* are yours):
   My.Adr: a structure of the addresses that your layer names (classes, functions); My.Txt K t: a structure (Prop) of the equations over K;
   My.txt_mk : {K} {implicit addresses ..} (e1 : nsIn K mainGlobals "law" = some (some (.ref f))) (e2 : K.lookup f = some ⟨oc, od, .func (fnOf "law" "law" params body scope dV kV doc pm an cdv ct), sl⟩) (e3 : codeIn K cdv "law" = true) .. : ∃ t, My.Txt K t

set_option maxRecDepth 100000 in
set_option maxHeartbeats 0 in
theorem PySem.Challenge.cw_LID_holds : PySem.Challenge.rw_LID.Holds := by
  w_on; o_law; k_head; (case hw => w_witness2)
  k_fill
  refine L2.walk_of (l := PySem.Challenge.rw_LID) (n := 63) (k := 40) (x := "script") (CX := fun w => ..) (sp := fun _ => My.sp_law) rfl (by decide) rfl ⟨rfl, by decide, by decide⟩ (fun w h Y => PySem.W.kIn_of Y) ?F ?S ?C
  case F =>
    intro w mg fa h KX G hmg
    have T : ∃ t, My.Txt (L2.KOf KX) t := by
      dsimp only [L2.KOf]                          -- K must stand as «<heap const> w.params» for k_is
      refine' My.txt_mk ?e1 ?e2 ?e3 ..
      (case e1 => PySem.W.k_is)                    -- in the order: a name -> its address -> its object -> its parts
      (case e2 => PySem.W.k_is)
      ..
    obtain ⟨t, T⟩ := T
    have e0 := hmg.symm.trans (PySem.W.mg_of KX G T.law)
    cases e0                                       -- fa is the law's own address
    exact ⟨_, fun s u => .of_eq rfl, fun base kb nb => My.law_fn T kb nb⟩     -- if «.of_eq rfl» comes too early: refine' ⟨_, ?b, fun base kb nb => My.law_fn T kb nb⟩; exact fun s u => .of_eq rfl
  case S => exact fun w H a ns hl hO hS => ..
  case C => exact ..
(the tactic k_is has no namespace: write k_is) -/

/-! SHORT WORDS over the layer: a def of the text, its body, what a loop and a test want. -/
namespace L2
open PySem PySem.Spec PyProof.Rows

/-! ### the text by places -/
/-- the j-th statement of a class's body -/
def inClass (s : Stmt) (j : Nat) : Stmt := match s with
  | .ClassDef _ _ _ body _ _ _ _ _ _ _ => body.getD j (.Pass ⟨0, 0, 0, 0⟩)
  | _ => .Pass ⟨0, 0, 0, 0⟩
def defArgs (s : Stmt) : Arguments := match s with
  | .FunctionDef _ a _ _ _ _ _ _ _ _ => a
  | _ => { posonlyargs := [], args := [], vararg := none, kwonlyargs := [], kw_defaults := [], kwarg := none, defaults := [] }
def defBody (s : Stmt) : List Stmt := match s with
  | .FunctionDef _ _ b _ _ _ _ _ _ _ => b
  | _ => []
def defScope (s : Stmt) : Scope := match s with
  | .FunctionDef _ _ _ _ _ _ sc _ _ _ => sc
  | _ => { kind := .function, names := [], isGenerator := false, isCoroutine := false }

/-! ### no exception leaves a def -/
abbrev CX0 : CXT := fun _ _ _ _ _ _ => False
abbrev E0 : XK := fun _ _ _ => False
theorem pass0 {X : Cx} : Passes CX0 X E0 := fun _ _ _ _ _ _ _ h => h.elim

/-! ### a def (or method) of the text as it stands behind the top -/
structure Fun (K : PySem.W.Frag) (x qual : Str) (st : Stmt) (f : Addr) (fd : FuncData) : Prop where
  ex : ∃ (oc : Value) (od : Option Addr) (kV doc pm : Value) (an : Option Addr) (cdv ct : Value) (osl : Array (Option Value)),
    fd = PySem.W.fnOf x qual (defArgs st) (defBody st) (defScope st) .none kV doc pm an cdv ct ∧ K.lookup f = some ⟨oc, od, .func fd, osl⟩ ∧ PySem.W.codeIn K cdv qual = true
  kp : PySem.W.keepIn K (.ref f) = true
section
variable {P : Program} {w : World} {K : PySem.W.Frag} {mg : Str → Option Value} {base : Heap}
/-- THE RULE for a def: its body as a term of rules, and the reading of that term -/
theorem Fun.ok {x qual : Str} {st : Stmt} {f : Addr} {fd : FuncData} {N ps : List Str} {k : Nat} {sp : Sp} (F : Fun K x qual st f fd) (S : FnScope N ps (defScope st)) (len : ∀ vs H Q E, sp vs H Q E → vs.length = ps.length)
    (hbody : ∀ (cdv : Value) (A : Around) (outer : List Env) (s : Shared) (H : Hp) (vs : List V) (Q : VK) (E : XK), Room k (A.deeper (envOfC qual (defScope st) s.heap.objs.size f cdv)) → sp vs H Q E →
      ∃ t, PSs (cxOf CX0 P w K mg base N qual (defScope st) f cdv A outer s H E).nox (defBody st) t ∧ t { nx := fun _ H' => Q .non H', rt := Q } (start N vs) H) : FnOk P w K mg base CX0 (k + 1) f fd ps sp := by
  obtain ⟨oc, od, kV, doc, pm, an, cdv, ct, osl, rfl, lk, hcd⟩ := F.ex
  refine fn_of lk hcd S len fun A outer s H vs Q E hr hsp => ?_
  obtain ⟨t, h, q⟩ := hbody cdv A outer s H vs Q E hr hsp
  exact ⟨t, h.nox, q⟩
/-- how its arguments bind (no defaults): h is «fun _ _ _ _ _ _ us hl => match us, hl with | [_, _], _ => rfl», one _ a parameter -/
theorem Fun.binds {x qual : Str} {st : Stmt} {f : Addr} {fd : FuncData} {ps : List Str} (F : Fun K x qual st f fd)
    (h : ∀ (kV doc pm : Value) (an : Option Addr) (cdv ct : Value) (us : List Value), us.length = ps.length → bindArgs (PySem.W.fnOf x qual (defArgs st) (defBody st) (defScope st) .none kV doc pm an cdv ct) ⟨us, []⟩ = pure (ps.zip us)) : Binds K fd ps [] := by
  obtain ⟨oc, od, kV, doc, pm, an, cdv, ct, osl, rfl, lk, hcd⟩ := F.ex
  exact .all (h kV doc pm an cdv ct)
theorem fun_mk {x qual : Str} {st : Stmt} {f : Addr} {oc : Value} {od an : Option Addr} {osl : Array (Option Value)} {kV doc pm cdv ct : Value} (l : K.lookup f = some ⟨oc, od, .func (PySem.W.fnOf x qual (defArgs st) (defBody st) (defScope st) .none kV doc pm an cdv ct), osl⟩)
    (c : PySem.W.codeIn K cdv qual = true) (k : PySem.W.keepIn K (.ref f) = true) : Fun K x qual st f (PySem.W.fnOf x qual (defArgs st) (defBody st) (defScope st) .none kV doc pm an cdv ct) := ⟨⟨oc, od, kV, doc, pm, an, cdv, ct, osl, rfl, l, c⟩, k⟩
end
theorem hu_of {A : Around} {k : Nat} (hr : Room k A) : A.units + 1 < cLine := Nat.lt_of_le_of_lt (Nat.add_le_add_left (by decide : 1 ≤ 64) _) hr.units
/-! ### expressions in short: the name that stands in the i-th slot -/
section
variable {X : Cx}
theorem pv (i : Nat) {x : Str} {pos : Pos} (hN : X.N[i]? = some x := by rfl) (hv : Vis X.env.scope x := by first | exact Or.inl rfl | exact Or.inr (Or.inl rfl) | exact Or.inr (Or.inr rfl)) (hd : (x == ("__debug__" : Str)) = false := by decide)
    (hcd : (x == ("__classdict__" : Str)) = false := by decide) : PE X (.Name x pos) (tVar i) := pe_var hN hv hd hcd
end

/-! ### tests -/
theorem ite2 {c A B : Prop} [Decidable c] (h1 : c → A) (h2 : ¬ c → B) : if c then A else B := by
  by_cases h : c
  · rw [if_pos h]
    exact h1 h
  · rw [if_neg h]
    exact h2 h
/-! ### heaps -/
/-- all that was tracked is as it was -/
def Same (H H' : Hp) : Prop := ∀ b o, H b = some o → H' b = some o
theorem Same.refl (H : Hp) : Same H H := fun _ _ h => h
theorem Same.trans {H H1 H2 : Hp} (a : Same H H1) (b : Same H1 H2) : Same H H2 := fun c o h => b c o (a c o h)
theorem Same.free {H H' : Hp} (e : Same H H') {l : Addr} (h : H' l = Option.none) : H l = Option.none := by
  cases q : H l with
  | none => rfl
  | some o =>
    rw [e l o q] at h
    cases h
theorem Same.seq {K : PySem.W.Frag} {H H' : Hp} {a : Addr} {xs : List V} (e : Same H H') (h : SqL K H a xs) : SqL K H' a xs := by
  rcases h with (h | ⟨o, h⟩) | h
  · exact .inl (.inl (e _ _ h))
  · exact .inl (.inr ⟨o, e _ _ h⟩)
  · exact .inr h

end L2

set_option Elab.async false
set_option linter.all false
set_option maxRecDepth 100000
namespace L2
open PySem PySem.Spec PyProof.Rows

end L2

namespace L2
open PySem PySem.Spec PyProof.Rows

section
variable (P : Program) (w : World)
end

section
variable {P : Program} {w : World} {H H' : Hp} {h h' : Heap} {a : Addr} {o : HO}
end

section
variable {P : Program} {w : World} {H : Hp} {h h' : Heap} {x e : Addr} {o' : HO}
end

section
variable {fs fs' ex ex' : List Addr} {H H1 H2 : Hp} {h h1 h2 h' : Heap} {a x e : Addr} {o : HO}
end

end L2

namespace L2
open PySem PySem.Spec PyProof.Rows

section
variable {X : Cx} {pins : List (Addr × Obj)} {σ : List (Option V)} {H H' : Hp} {s : Shared} {h' : Heap}

end

end L2

namespace L2
open PySem PySem.Spec PyProof.Rows
section
variable {X : Cx}

variable {a b : Expr} {ta tb : TE} {pos : Pos}
variable {tA tB' : TT} {rest : List Expr}
end
end L2

namespace L2
open PySem PySem.Spec PyProof.Rows

section
variable {X : Cx} {pins : List (Addr × Obj)} {σ : St} {H : Hp} {s : Shared} {a : Addr} {xs ys : List V}
end

section
variable {X : Cx} {pins : List (Addr × Obj)} {σ : St} {H : Hp} {s : Shared} {E : Value → Shared → Prop}
end

section
variable {X : Cx} {st : Stmt} {rest : List Stmt} {t u : TS} {e : Expr} {te : TE} {pos : Pos}
end

section
variable {X : Cx} {pos : Pos}
end

section
variable {X : Cx} {pos : Pos}
end

end L2

namespace L2
open PySem PySem.Spec PyProof.Rows
section
variable {X : Cx} {tg : Expr}
end

end L2

namespace L2
open PySem PySem.Spec PyProof.Rows

section
variable {X : Cx} {a b c : Expr} {ta tb tc : TE} {pos : Pos}

end

section
variable {X : Cx} {a b c : Expr} {ta tb tc : TE} {pos : Pos}
end
end L2

namespace L2
open PySem PySem.Spec PyProof.Rows

section
variable {prog : Program} {w : World} {A : Around} {E : Value → Shared → Prop} {s : Shared} {K : PySem.W.Frag} {x dx C f : Addr} {mA : Str → Option Value} {name : Str} {v : Value}

end

section
variable {P : Program} {w : World} {H H' : Hp} {h h' : Heap} {a C dx : Addr} {fs fs' : List (Str × V)}
end

section
variable {X : Cx} {pins : List (Addr × Obj)} {σ : St} {H : Hp} {s : Shared} {a C dx : Addr} {fs : List (Str × V)} {f : Str} {v : V} {A : Around} {E : Value → Shared → Prop}

end

section
variable {X : Cx} {o e value : Expr} {f : Str} {pos pos' tpos : Pos} {ta tv : TE}
end

section
variable {X : Cx} {pins : List (Addr × Obj)} {σ : St} {H : Hp} {s : Shared} {A : Around} {E : Value → Shared → Prop} {Q : Value → Shared → Prop} {c : Value} {b : Bool}
end
end L2

namespace L2
open PySem PySem.Spec PyProof.Rows

section
variable {X : Cx} {e : Expr} {es : List Expr} {te : TE} {t : TA} {pos : Pos}
end

section
variable {X : Cx} {pins : List (Addr × Obj)} {σ : St} {H : Hp} {s s' : Shared}
end

section
variable {X : Cx} {CX : CXT} {k : Nat} {f C : Addr} {fd : FuncData} {ps : List Str} {sp : Sp} {dvs : List V} {ds : List Value} {E : XK} {x m : Str} {p pos apos : Pos} {e o : Expr} {es : List Expr} {ta : TE} {t : TA}

end

section
variable {X : Cx} {CX : CXT} {k : Nat} {f C : Addr} {fd : FuncData} {ps ks : List Str} {sp : Sp} {E : XK} {x m : Str} {p pos apos kpos : Pos} {e o : Expr} {es : List Expr} {kws : List Keyword} {te ta : TE} {t tk : TA} {nm : Option Str}
variable {g : List Value → List Value → List Value} {gV : List V → List V → List V}
end

end L2

namespace L2
open PySem PySem.Spec PyProof.Rows
section
variable {X : Cx} {x : Str} {p pos : Pos} {e : Expr} {es : List Expr} {t : TA} {id T : String} {r : List V → Hp → VK → Prop}

end
end L2

namespace L2
open PySem PySem.Spec PyProof.Rows

section
variable {κ : Type} [DecidableEq κ]
def valV (kvs : List (κ × V)) (k : κ) : Option V := (kvs.find? fun kv => decide (kv.1 = k)).map (·.2)
def putK (kvs : List (κ × V)) (k : κ) (v : V) : List (κ × V) :=
  if (kvs.any fun kv => decide (kv.1 = k)) = true then kvs.map (fun kv => if kv.1 = k then (kv.1, v) else kv) else kvs ++ [(k, v)]
def dropK (kvs : List (κ × V)) (k : κ) : List (κ × V) := kvs.filter fun kv => decide (kv.1 ≠ k)

theorem valV_nil {k : κ} : valV ([] : List (κ × V)) k = none := rfl
theorem valV_pos {p : κ × V} {r : List (κ × V)} {k : κ} (e : p.1 = k) : valV (p :: r) k = some p.2 := by simp [valV, List.find?_cons, e]
theorem valV_neg {p : κ × V} {r : List (κ × V)} {k : κ} (e : ¬ p.1 = k) : valV (p :: r) k = valV r k := by simp [valV, List.find?_cons, e]
theorem valV_any (k : κ) : ∀ kvs : List (κ × V), (kvs.any fun kv => decide (kv.1 = k)) = (valV kvs k).isSome
  | [] => rfl
  | p :: r => by
    rw [List.any_cons]
    by_cases e : p.1 = k
    · simp only [valV_pos e, decide_eq_true e, Bool.true_or, Option.isSome_some]
    · rw [valV_neg e, decide_eq_false e, Bool.false_or]; exact valV_any k r
theorem valV_map (k j : κ) (y : V) : ∀ kvs : List (κ × V), valV (kvs.map fun kv => if kv.1 = k then (kv.1, y) else kv) j = (valV kvs j).map fun x => if j = k then y else x
  | [] => rfl
  | p :: r => by
    have ih := valV_map k j y r
    rw [List.map_cons]
    by_cases h : p.1 = k
    · rw [if_pos h]
      by_cases e : p.1 = j
      · rw [valV_pos (p := (p.1, y)) e, valV_pos e, Option.map_some, if_pos (e.symm.trans h)]
      · rw [valV_neg (p := (p.1, y)) e, valV_neg e, ih]
    · rw [if_neg h]
      by_cases e : p.1 = j
      · rw [valV_pos (p := p) e, valV_pos e, Option.map_some, if_neg (fun z => h (e.trans z))]
      · rw [valV_neg (p := p) e, valV_neg e, ih]
theorem valV_snoc (k j : κ) (y : V) : ∀ kvs : List (κ × V), valV kvs k = none → valV (kvs ++ [(k, y)]) j = if j = k then some y else valV kvs j
  | [], _ => by
    by_cases e : k = j
    · rw [if_pos e.symm]; exact valV_pos (p := (k, y)) e
    · rw [if_neg (fun z => e z.symm)]; exact valV_neg (p := (k, y)) e
  | p :: r, hn => by
    rw [List.cons_append]
    have hk : ¬ p.1 = k := fun z => by rw [valV_pos z] at hn; cases hn
    rw [valV_neg hk] at hn
    have ih := valV_snoc k j y r hn
    by_cases e : p.1 = j
    · rw [valV_pos e, valV_pos e, if_neg (fun z => hk (e.trans z))]
    · rw [valV_neg e, valV_neg e, ih]
theorem valV_put (kvs : List (κ × V)) (k j : κ) (y : V) : valV (putK kvs k y) j = if j = k then some y else valV kvs j := by
  unfold putK
  by_cases a : (kvs.any fun kv => decide (kv.1 = k)) = true
  · rw [if_pos a, valV_map]
    rw [valV_any] at a
    by_cases e : j = k
    · obtain ⟨x, hx⟩ := Option.isSome_iff_exists.mp a
      rw [if_pos e, e, hx, Option.map_some, if_pos rfl]
    · rw [if_neg e]
      cases valV kvs j with
      | none => rfl
      | some x => rw [Option.map_some, if_neg e]
  · rw [if_neg a]
    refine valV_snoc k j y kvs ?_
    rw [valV_any] at a
    cases q : valV kvs k with
    | none => rfl
    | some x => rw [q] at a; exact (a rfl).elim
theorem length_putK (kvs : List (κ × V)) (k : κ) (v : V) : (putK kvs k v).length ≤ kvs.length + 1 := by
  unfold putK
  split
  · rw [List.length_map]; omega
  · rw [List.length_append, List.length_cons, List.length_nil]; omega
theorem RelO.isSome_eq {o : Option V} {u : Option Value} (r : RelO o u) : o.isSome = u.isSome := by
  cases o with
  | none => cases u with
    | none => rfl
    | some _ => exact (show False from r).elim
  | some _ => cases u with
    | none => exact (show False from r).elim
    | some _ => rfl
theorem RelO.getD {o : Option V} {u : Option Value} {d : V} {d' : Value} (r : RelO o u) (rd : RelV d d') : RelV (o.getD d) (u.getD d') := by
  cases o with
  | none => cases u with
    | none => exact rd
    | some _ => exact (show False from r).elim
  | some _ => cases u with
    | none => exact (show False from r).elim
    | some _ => exact r

theorem KV.val {kvs : List (κ × V)} {vs : List (κ × Value)} (r : KV kvs vs) (k : κ) : RelO (valV kvs k) (valueAt vs k) := by
  unfold KV at r
  induction r with
  | nil => exact True.intro
  | @cons p q ps qs h t ih =>
    obtain ⟨h1, h2⟩ := h
    by_cases e : p.1 = k
    · have e' : q.1 = k := h1.symm.trans e
      have b : valueAt (q :: qs) k = some q.2 := by simp [valueAt, List.find?_cons, e']
      rw [valV_pos e, b]; exact h2
    · have e' : ¬ q.1 = k := fun z => e (h1.trans z)
      have b : valueAt (q :: qs) k = valueAt qs k := by simp [valueAt, List.find?_cons, e']
      rw [valV_neg e, b]; exact ih
theorem KV.any {kvs : List (κ × V)} {vs : List (κ × Value)} (r : KV kvs vs) (k : κ) : (kvs.any fun kv => decide (kv.1 = k)) = vs.any fun kv => decide (kv.1 = k) := by
  unfold KV at r
  induction r with
  | nil => rfl
  | cons h t ih => rw [List.any_cons, List.any_cons, ih, h.1]
theorem KV.repl {kvs : List (κ × V)} {vs : List (κ × Value)} (r : KV kvs vs) (k : κ) {y : V} {u : Value} (ry : RelV y u) :
    KV (kvs.map fun kv => if kv.1 = k then (kv.1, y) else kv) (vs.map fun kv => if kv.1 = k then (kv.1, u) else kv) := by
  unfold KV at r ⊢
  induction r with
  | nil => exact .nil
  | @cons p q ps qs h t ih =>
    rw [List.map_cons, List.map_cons]
    refine .cons ?_ ih
    obtain ⟨h1, h2⟩ := h
    by_cases e : p.1 = k
    · rw [if_pos e, if_pos (h1.symm.trans e)]; exact ⟨h1, ry⟩
    · rw [if_neg e, if_neg (fun z => e (h1.trans z))]; exact ⟨h1, h2⟩
theorem KV.put {kvs : List (κ × V)} {vs : List (κ × Value)} (r : KV kvs vs) (k : κ) {y : V} {u : Value} (ry : RelV y u) : KV (putK kvs k y) (stored vs k u) := by
  unfold putK stored
  rw [r.any k]
  by_cases e : (vs.any fun kv => decide (kv.1 = k)) = true
  · rw [if_pos e, if_pos e]; exact r.repl k ry
  · rw [if_neg e, if_neg e]; exact Paired.snoc r ⟨rfl, ry⟩
theorem KV.drop {kvs : List (κ × V)} {vs : List (κ × Value)} (r : KV kvs vs) (k : κ) : KV (dropK kvs k) (without vs k) := by
  unfold KV at r ⊢
  unfold dropK without
  induction r with
  | nil => exact .nil
  | @cons p q ps qs h t ih =>
    obtain ⟨h1, h2⟩ := h
    rw [List.filter_cons, List.filter_cons]
    by_cases e : p.1 = k
    · have a : ¬ decide (p.1 ≠ k) = true := by simp [e]
      have b : ¬ decide (q.1 ≠ k) = true := by simp [h1.symm.trans e]
      rw [if_neg a, if_neg b]; exact ih
    · have e' : ¬ q.1 = k := fun z => e (h1.trans z)
      have a : decide (p.1 ≠ k) = true := by simp [e]
      have b : decide (q.1 ≠ k) = true := by simp [e']
      rw [if_pos a, if_pos b]; exact .cons ⟨h1, h2⟩ ih
theorem KV.keys {kvs : List (κ × V)} {vs : List (κ × Value)} (r : KV kvs vs) : kvs.map (·.1) = vs.map (·.1) := by
  unfold KV at r
  induction r with
  | nil => rfl
  | cons h t ih => rw [List.map_cons, List.map_cons, ih, h.1]
theorem KV.length {kvs : List (κ × V)} {vs : List (κ × Value)} (r : KV kvs vs) : kvs.length = vs.length := Paired.length r
theorem dropK_le (kvs : List (κ × V)) (k : κ) : (dropK kvs k).length ≤ kvs.length := List.length_filter_le _ _
end


theorem kV_is {P : Program} {w : World} {k : Key} {u : Value} (r : RelV (kV k) u) : (mixKind P w).is k u = true := by
  cases k with
  | inl i => obtain ⟨t, e⟩ := (show ∃ t, u = Value.int i t from r); subst e; exact mixKind_int P w i t
  | inr x => obtain ⟨t, e⟩ := (show ∃ t, u = Value.str x t from r); subst e; exact mixKind_str P w x t
theorem items_are {P : Program} {w : World} : ∀ {ks : List Key} {us : List Value}, Vals (ks.map kV) us → ItemsAre (mixKind P w) ks us
  | [], _, r => by rw [List.map_nil] at r; cases r; exact .nil
  | k :: ks, _, r => by
    rw [List.map_cons] at r
    cases r with
    | cons h t => exact .cons (kV_is h) (items_are t)

abbrev KT (H : Hp) : List (List Key × V) → List (List Key × Addr × Value) → Prop := Paired fun p q => p.1 = q.1 ∧ H q.2.1 = some (.tup (p.1.map kV)) ∧ RelV p.2 q.2.2
theorem KT.val {H : Hp} {kvs : List (List Key × V)} {xs : List (List Key × Addr × Value)} (r : KT H kvs xs) (k : List Key) : RelO (valV kvs k) ((atKey xs k).map (·.2)) := by
  induction r with
  | nil => exact True.intro
  | @cons p q ps qs h t ih =>
    obtain ⟨h1, _, h2⟩ := h
    by_cases e : p.1 = k
    · have e' : q.1 = k := h1.symm.trans e
      have b : atKey (q :: qs) k = some q.2 := by simp [atKey, List.find?_cons, e']
      rw [valV_pos e, b]; exact h2
    · have e' : ¬ q.1 = k := fun z => e (h1.trans z)
      have b : atKey (q :: qs) k = atKey qs k := by simp [atKey, List.find?_cons, e']
      rw [valV_neg e, b]; exact ih
theorem KT.repl {H : Hp} {kvs : List (List Key × V)} {xs : List (List Key × Addr × Value)} (r : KT H kvs xs) (k : List Key) {y : V} {u : Value} (ry : RelV y u) :
    KT H (kvs.map fun kv => if kv.1 = k then (kv.1, y) else kv) (xs.map (putAt k u)) := by
  induction r with
  | nil => exact .nil
  | @cons p q ps qs h t ih =>
    rw [List.map_cons, List.map_cons]
    refine .cons ?_ ih
    obtain ⟨h1, h2, h3⟩ := h
    unfold putAt
    by_cases e : p.1 = k
    · rw [if_pos e, if_pos (h1.symm.trans e)]; exact ⟨h1, h2, ry⟩
    · rw [if_neg e, if_neg (fun z => e (h1.trans z))]; exact ⟨h1, h2, h3⟩
theorem KT.put {H : Hp} {kvs : List (List Key × V)} {xs : List (List Key × Addr × Value)} (r : KT H kvs xs) (k : List Key) {b : Addr} {y : V} {u : Value} (hb : H b = some (.tup (k.map kV))) (ry : RelV y u) :
    KT H (putK kvs k y) (storedH xs k b u) := by
  have e : (kvs.any fun kv => decide (kv.1 = k)) = (atKey xs k).isSome := by
    rw [valV_any, (r.val k).isSome_eq, Option.isSome_map]
  unfold putK storedH
  rw [e]
  by_cases q : (atKey xs k).isSome = true
  · rw [if_pos q, if_pos q]; exact r.repl k ry
  · rw [if_neg q, if_neg q]; exact Paired.snoc r ⟨rfl, hb, ry⟩
theorem KT.keeps {H H' : Hp} {kvs : List (List Key × V)} {xs : List (List Key × Addr × Value)} (r : KT H kvs xs) (ht : ∀ b ys, H b = some (.tup ys) → H' b = some (.tup ys)) : KT H' kvs xs :=
  Paired.mapP r fun _ _ z => ⟨z.1, ht _ _ z.2.1, z.2.2⟩

section
variable {P : Program} {w : World} {H : Hp} {h : Heap} {a : Addr}
theorem rd_of {u : HO} (ok : HOk P w H h) (e : Rd H a u) : ObjOk P w H h a u := e.ok ok
theorem dk_rd {kvs : List (Key × V)} (ok : HOk P w H h) (e : Rd H a (.dK kvs)) : kvs.length ≤ sizeLine ∧ (a == sysModules) = false ∧ ∃ vs, KV kvs vs ∧ h.DictOf (mixKind P w) a vs :=
  show ObjOk P w H h a (.dK kvs) from rd_of ok e
theorem dk_of {kvs : List (Key × V)} (ok : HOk P w H h) (e : H a = some (.dK kvs)) : kvs.length ≤ sizeLine ∧ (a == sysModules) = false ∧ ∃ vs, KV kvs vs ∧ h.DictOf (mixKind P w) a vs := dk_rd ok (.inl e)
theorem key_of {ks : List Key} (ok : HOk P w H h) (e : H a = some (.tup (ks.map kV))) : (tupleKind (mixKind P w)).is h ks a := by
  obtain ⟨_, its, r, o, h1, h2, n, h3⟩ := (show ObjOk P w H h a (.tup (ks.map kV)) from ok a _ e)
  exact ⟨o, its.toArray, n, h1, h2, h3, by simpa using items_are r⟩
theorem dt_rd {kvs : List (List Key × V)} (ok : HOk P w H h) (e : Rd H a (.dT kvs)) : kvs.length ≤ sizeLine ∧ (a == sysModules) = false ∧
    ∃ xs, KT H kvs xs ∧ h.DictOfH (tupleKind (mixKind P w)) a xs := by
  obtain ⟨z, y, xs, r, o, es, ep, h1, h2, h3, h4, h5⟩ := (show ObjOk P w H h a (.dT kvs) from rd_of ok e)
  refine ⟨z, y, xs, r, o, es, ep, h1, h2, h3, h4, fun x hx => ?_, h5⟩
  have all : ∀ {l : List (List Key × V)} {m : List (List Key × Addr × Value)}, KT H l m → ∀ x ∈ m, (tupleKind (mixKind P w)).is h x.1 x.2.1 := by
    intro l m q
    induction q with
    | nil => intro x hx; exact nomatch hx
    | @cons p q ps qs hq t ih =>
      intro x hx
      rcases List.mem_cons.mp hx with e | hx
      · subst e
        exact key_of ok (by rw [← hq.1]; exact hq.2.1)
      · exact ih x hx
  exact all r x hx
theorem dt_of {kvs : List (List Key × V)} (ok : HOk P w H h) (e : H a = some (.dT kvs)) : kvs.length ≤ sizeLine ∧ (a == sysModules) = false ∧
    ∃ xs, KT H kvs xs ∧ h.DictOfH (tupleKind (mixKind P w)) a xs := dt_rd ok (.inl e)
end

def DGet (H : Hp) (a : Addr) (y : V) (r : Option V) : Prop :=
  (∃ kvs k, Rd H a (.dK kvs) ∧ y = kV k ∧ r = valV kvs k) ∨ ∃ kvs k b, Rd H a (.dT kvs) ∧ y = .ref b ∧ H b = some (.tup (k.map kV)) ∧ r = valV kvs k
def DPut (H : Hp) (a : Addr) (y v : V) (H' : Hp) : Prop :=
  (∃ kvs k, H a = some (.dK kvs) ∧ y = kV k ∧ kvs.length < sizeLine ∧ H' = upd H a (.dK (putK kvs k v))) ∨
  ∃ kvs k b, H a = some (.dT kvs) ∧ y = .ref b ∧ H b = some (.tup (k.map kV)) ∧ kvs.length < sizeLine ∧ H' = upd H a (.dT (putK kvs k v))
theorem DGet.k {H : Hp} {a : Addr} {kvs : List (Key × V)} {k : Key} (e : H a = some (.dK kvs)) : DGet H a (kV k) (valV kvs k) := .inl ⟨kvs, k, .inl e, rfl, rfl⟩
theorem DGet.t {H : Hp} {a b : Addr} {kvs : List (List Key × V)} {k : List Key} (e : H a = some (.dT kvs)) (eb : H b = some (.tup (k.map kV))) : DGet H a (.ref b) (valV kvs k) := .inr ⟨kvs, k, b, .inl e, rfl, eb, rfl⟩
theorem DPut.k {H : Hp} {a : Addr} {kvs : List (Key × V)} {k : Key} {v : V} (e : H a = some (.dK kvs)) (hl : kvs.length < sizeLine) : DPut H a (kV k) v (upd H a (.dK (putK kvs k v))) := .inl ⟨kvs, k, e, rfl, hl, rfl⟩
theorem DPut.t {H : Hp} {a b : Addr} {kvs : List (List Key × V)} {k : List Key} {v : V} (e : H a = some (.dT kvs)) (eb : H b = some (.tup (k.map kV))) (hl : kvs.length < sizeLine) :
    DPut H a (.ref b) v (upd H a (.dT (putK kvs k v))) := .inr ⟨kvs, k, b, e, rfl, eb, hl, rfl⟩


section
variable {X : Cx} {pins : List (Addr × Obj)} {σ : St} {H : Hp} {s : Shared} {a : Addr} {y v : V} {u r : Value} {o : Option V} {A : Around} {E : Value → Shared → Prop}

theorem Inv.big (I : Inv X pins σ H s) : sysModules < s.heap.objs.size := by
  have h : mainGlobals < s.heap.objs.size := (I.mod.glob.keeps I.bk).lt
  exact Nat.lt_trans (by decide) h

theorem d_getItem {Q : Value → Shared → Prop} (hu : A.units + 1 < cLine) (I : Inv X pins σ H s) (g : DGet H a y (some v)) (ry : RelV y u) (h : ∀ w' s', Inv X pins σ H s' → RelV v w' → Q w' s') :
    wpAny (model X.prog X.w) A (getItem (.ref a) u) Q E s := by
  rcases g with ⟨kvs, k, e, ey, l⟩ | ⟨kvs, k, b, e, ey, eb, l⟩
  · subst ey
    obtain ⟨z, hd, vs, rel, dd⟩ := dk_rd I.hok e
    obtain ⟨w', hw, rw'⟩ := RelO.some_of (v := v) (o := valueAt vs k) (by rw [l]; exact rel.val k)
    exact wpAny_getItem_of (kV_is ry) dd.mapOf hw (h w' _ (I.tok _) rw')
  · subst ey
    cases (show u = Value.ref b from ry)
    obtain ⟨z, hd, xs, rel, dd⟩ := dt_rd I.hok e
    obtain ⟨w', hw, rw'⟩ := RelO.some_of (v := v) (o := (atKey xs k).map (·.2)) (by rw [l]; exact rel.val k)
    obtain ⟨p, hp, hp2⟩ := Option.map_eq_some_iff.mp hw
    refine wpAny_getItem_heap (tupleKind_room_in1 hu) (key_of I.hok eb) dd hp ?_
    rw [hp2]
    exact h w' _ (I.tok _) rw'
theorem d_in {Q : Value → Shared → Prop} (hu : A.units + 1 < cLine) (I : Inv X pins σ H s) (g : DGet H a y o) (ry : RelV y u) (h : ∀ s', Inv X pins σ H s' → Q (.bool o.isSome) s') :
    wpAny (model X.prog X.w) A (compareOp .In u (.ref a)) Q E s := by
  rcases g with ⟨kvs, k, e, ey, l⟩ | ⟨kvs, k, b, e, ey, eb, l⟩
  · subst ey
    obtain ⟨z, hd, vs, rel, dd⟩ := dk_rd I.hok e
    refine wpAny_in_of (kV_is ry) hd dd.mapOf ?_
    rw [← (rel.val k).isSome_eq, ← l]
    exact h _ (I.tok _)
  · subst ey
    cases (show u = Value.ref b from ry)
    obtain ⟨z, hd, xs, rel, dd⟩ := dt_rd I.hok e
    refine wpAny_in_heap (tupleKind_room_in1 hu) (key_of I.hok eb) hd dd ?_
    have q := (rel.val k).isSome_eq
    rw [Option.isSome_map] at q
    rw [← q, ← l]
    exact h _ (I.tok _)
theorem d_write {h' : Heap} {t' : Nat} {ob : HO} (I : Inv X pins σ H s) (mu : Mut (H a)) (hs : Heap.SameBut a s.heap h') (he : ∃ q, h'.get? a = some q) (new : ObjOk X.prog X.w (upd H a ob) h' a ob) :
    Inv X pins σ (upd H a ob) { s with heap := h', toks := t' } :=
  I.write (x := a) (e := a) mu (.inl rfl) (fun b q hb z => (hs.2 b hb).trans z) he new
theorem dk_new {P : Program} {w : World} {H' : Hp} {h' : Heap} {kvs : List (Key × V)} {vs : List (Key × Value)} (z : kvs.length ≤ sizeLine) (hd : (a == sysModules) = false) (rel : KV kvs vs) (dd : h'.DictOf (mixKind P w) a vs) :
    ObjOk P w H' h' a (.dK kvs) := ⟨z, hd, vs, rel, dd⟩
theorem d_setItem {H' : Hp} {Q : Unit → Shared → Prop} (hu : A.units + 1 < cLine) (I : Inv X pins σ H s) (g : DPut H a y v H') (ry : RelV y u) (rv : RelV v r) (h : ∀ s', Inv X pins σ H' s' → Q () s') :
    wpAny (model X.prog X.w) A (setItem (.ref a) u r) Q E s := by
  rcases g with ⟨kvs, k, e, ey, l, eH⟩ | ⟨kvs, k, b, e, ey, eb, l, eH⟩
  · subst ey eH
    obtain ⟨z, hd, vs, rel, dd⟩ := dk_of I.hok e
    have hz : vs.length ≤ sizeLine := by rw [← rel.length]; exact z
    have hl : (putK kvs k v).length ≤ sizeLine := by have := length_putK kvs k v; omega
    refine wpAny_setItem_pairs (hsz := hz) (kV_is ry) dd fun h' dd' hs => h _ ?_
    have he : ∃ q, h'.get? a = some q := let ⟨q, _, _, hq, _⟩ := dd'; ⟨q, hq⟩
    exact d_write I (by rw [e]; exact True.intro) hs he (dk_new hl hd (rel.put k rv) dd')
  · subst ey eH
    cases (show u = Value.ref b from ry)
    obtain ⟨z, hd, xs, rel, dd⟩ := dt_of I.hok e
    have hz : xs.length ≤ sizeLine := by rw [← Paired.length rel]; exact z
    have hl : (putK kvs k v).length ≤ sizeLine := by have := length_putK kvs k v; omega
    refine wpAny_setItem_heap (hsz := hz) (tupleKind_room_in1 hu) (key_of I.hok eb) dd fun h' dd' hs => h _ ?_
    obtain ⟨q, es, ep, hq, h2, h3, h4, _, h5⟩ := dd'
    refine d_write I (by rw [e]; exact True.intro) hs ⟨q, hq⟩ ⟨hl, hd, _, (rel.put k eb rv).keeps fun c ys ec => ?_, q, es, ep, hq, h2, h3, h4, h5⟩
    rw [upd_ne (ne_of ec e (fun z => nomatch z))]
    exact ec
end

section
variable {X : Cx} {pins : List (Addr × Obj)} {σ : St} {H : Hp} {s : Shared} {a : Addr} {kvs : List (Key × V)} {k : Key} {u : Value} {A : Around} {E : Value → Shared → Prop}
theorem d_len {Q : Value → Shared → Prop} (I : Inv X pins σ H s) (e : Rd H a (.dK kvs)) (h : ∀ t s', Inv X pins σ H s' → Q (.int kvs.length t) s') : wpAny (model X.prog X.w) A (call (.builtin "len") [.ref a]) Q E s := by
  obtain ⟨z, hd, vs, rel, dd⟩ := dk_rd I.hok e
  refine call_len_dict hd dd (by rw [← rel.length]; rw [sizeLine_eq] at z; omega) ?_
  rw [← rel.length]
  exact h _ _ (I.tok _)
end


def NoSl (i : Expr) : Prop := ∀ ov iv, subscripted i false ov iv = operate [ov, iv] (getItem ov iv)
theorem dict_typeIs {X : Cx} {pins : List (Addr × Obj)} {σ : St} {H : Hp} {s : Shared} {a : Addr} {y : V} {o : Option V} (I : Inv X pins σ H s) (g : DGet H a y o) : s.TypeIs (.ref a) "dict" := by
  rcases g with ⟨kvs, k, e, _, _⟩ | ⟨kvs, k, b, e, _, _, _⟩
  · obtain ⟨_, _, vs, _, dd⟩ := dk_rd I.hok e
    exact dd.typeIs
  · obtain ⟨_, _, xs, _, dd⟩ := dt_rd I.hok e
    exact dd.typeIs
def tDGet (td ty : TE) : TE := fun σ H Q => td σ H fun x H1 => ty σ H1 fun y H2 => ∃ a v, x = .ref a ∧ DGet H2 a y (some v) ∧ Q v H2
def tDIn (ty td : TE) : TE := fun σ H Q => ty σ H fun y H1 => td σ H1 fun x H2 => ∃ a o, x = .ref a ∧ DGet H2 a y o ∧ Q (.bl o.isSome) H2
def tDNotIn (ty td : TE) : TE := fun σ H Q => ty σ H fun y H1 => td σ H1 fun x H2 => ∃ a o, x = .ref a ∧ DGet H2 a y o ∧ Q (.bl (!o.isSome)) H2
def sDPut (td ty tv : TE) : TS := fun D σ H => tv σ H fun v H1 => td σ H1 fun x H2 => ty σ H2 fun y H3 => ∃ a H4, x = .ref a ∧ DPut H3 a y v H4 ∧ D.nx σ H4
def sDAug (td ty tv : TE) (rd : V → V → Hp → VK → Prop) : TS := fun D σ H => td σ H fun x H1 => ty σ H1 fun y H2 => ∃ a v, x = .ref a ∧ DGet H2 a y (some v) ∧
  tv σ H2 fun y2 H3 => rd v y2 H3 fun z H4 => ∃ H5, DPut H4 a y z H5 ∧ D.nx σ H5
def sDDel (td ty : TE) : TS := fun D σ H => td σ H fun x H1 => ty σ H1 fun y H2 => ∃ a kvs k, x = .ref a ∧ H2 a = some (.dK kvs) ∧ y = kV k ∧ (valV kvs k).isSome = true ∧ D.nx σ (upd H2 a (.dK (dropK kvs k)))

section
variable {X : Cx} {o i e value : Expr} {pos pos' tpos : Pos} {td ty tv : TE}
end


theorem dk_empty {P : Program} {w : World} {H : Hp} (h : Heap) (hb : sysModules < h.objs.size) : ObjOk P w H (h.push { cls := .type "dict", data := .dict #[] }) h.objs.size (.dK []) :=
  ⟨Nat.zero_le _, beq_eq_false_iff_ne.mpr (Ne.symm (Nat.ne_of_lt hb)), [], .nil, Heap.DictOf.new h⟩
def tDNewK : TE := fun _ H Q => ∀ p, H p = none → Q (.ref p) (upd H p (.dK []))
def tDNewT : TE := fun _ H Q => ∀ p, H p = none → Q (.ref p) (upd H p (.dT []))
section
variable {X : Cx} {pos : Pos}
theorem pe_dnewK : PE X (.Dict [] [] pos) tDNewK := fun pins s σ H Q I h =>
  wpAny_Dict_empty ⟨.ref s.heap.objs.size, _, I.laid (a := s.heap.objs.size) (o := .dK []) (t' := s.toks) (fun _ _ q => Heap.get?_push_of_some _ q) (Nat.le_refl _) (dk_empty s.heap I.big), rfl, h _ (I.hok.fresh (Nat.le_refl _))⟩
end

def tPairs : List (TE × TE) → St → Hp → (List (V × V) → Hp → Prop) → Prop
  | [], _, H, Q => Q [] H
  | (tk, tv) :: r, σ, H, Q => tk σ H fun x H1 => tv σ H1 fun y H2 => tPairs r σ H2 fun ps H3 => Q ((x, y) :: ps) H3
abbrev VV : List (V × V) → List (Value × Value) → Prop := Paired fun p q => RelV p.1 q.1 ∧ RelV p.2 q.2
def PPs (X : Cx) (pos : Pos) (keys : List (Option Expr)) (values : List Expr) (trs : List (TE × TE)) : Prop :=
  ∀ (pins : List (Addr × Obj)) (s : Shared) (σ : St) (H : Hp) (Q : List (V × V) → Hp → Prop), Inv X pins σ H s → tPairs trs σ H Q →
    wpAny (model X.prog X.w) X.A (evalPairs (pairTrees keys values X.env pos)) (fun vs s' => ∃ ps H', Inv X pins σ H' s' ∧ VV ps vs ∧ Q ps H') X.xe s
def mergeK (kvs more : List (Key × V)) : List (Key × V) := more.foldl (fun acc kv => putK acc kv.1 kv.2) kvs
def tDisp (trs : List (TE × TE)) : TE := fun σ H Q => ∀ p, H p = none → tPairs trs σ (upd H p (.dK [])) fun ps H2 => H2 p = some (.dK []) ∧ ∃ kvs : List (Key × V), ps = kvs.map (fun kv => (kV kv.1, kv.2)) ∧ kvs.length ≤ 15 ∧ Q (.ref p) (upd H2 p (.dK (mergeK [] kvs)))
structure M1 (X : Cx) (o : Expr) (m : Str) (apos : Pos) (e : Expr) (cpos : Pos) : Prop where
  base : attributeBase o m X.env (eval o X.env) = eval o X.env
  few : ((backTo cpos (starEach [e] X.env)).all (fun x => !x.1) && (backToKw cpos (keywordEach [] X.env)).all (fun x => x.1.isSome)
    && decide (([e] : List Expr).length + ([] : List Keyword).length + (if ([] : List Keyword).isEmpty then 0 else 1) < 30)) = true
  line : (apos.endLine == cpos.line) = true
  trees : backTo cpos (starEach [e] X.env) = [(false, eval e X.env)]
structure M2 (X : Cx) (o : Expr) (m : Str) (apos : Pos) (e f : Expr) (cpos : Pos) : Prop where
  base : attributeBase o m X.env (eval o X.env) = eval o X.env
  few : ((backTo cpos (starEach [e, f] X.env)).all (fun x => !x.1) && (backToKw cpos (keywordEach [] X.env)).all (fun x => x.1.isSome)
    && decide (([e, f] : List Expr).length + ([] : List Keyword).length + (if ([] : List Keyword).isEmpty then 0 else 1) < 30)) = true
  line : (apos.endLine == cpos.line) = true
  trees : backTo cpos (starEach [e, f] X.env) = [(false, eval e X.env), (false, eval f X.env)]

def IsD (H : Hp) (a : Addr) : Prop := (∃ kvs, Rd H a (.dK kvs)) ∨ ∃ kvs, Rd H a (.dT kvs)
section
variable {X : Cx} {pins : List (Addr × Obj)} {σ : St} {H : Hp} {s : Shared} {a : Addr} {y d : V} {u r : Value} {o : Option V} {A : Around} {E : Value → Shared → Prop}
end

def tDGet1 (td ty : TE) : TE := fun σ H Q => td σ H fun x H1 => ∃ a, x = .ref a ∧ IsD H1 a ∧ ty σ H1 fun y H2 => ∃ o, DGet H2 a y o ∧ Q (o.getD .non) H2
def tDGet2 (td ty tx : TE) : TE := fun σ H Q => td σ H fun x H1 => ∃ a, x = .ref a ∧ IsD H1 a ∧ ty σ H1 fun y H2 => tx σ H2 fun z H3 => ∃ o, DGet H3 a y o ∧ Q (o.getD z) H3
def tDPop1 (td ty : TE) : TE := fun σ H Q => td σ H fun x H1 => ∃ a, x = .ref a ∧ IsD H1 a ∧ ty σ H1 fun y H2 => ∃ kvs k v, H2 a = some (.dK kvs) ∧ y = kV k ∧ valV kvs k = some v ∧ Q v (upd H2 a (.dK (dropK kvs k)))
def tDPop2 (td ty tx : TE) : TE := fun σ H Q => td σ H fun x H1 => ∃ a, x = .ref a ∧ IsD H1 a ∧ ty σ H1 fun y H2 => tx σ H2 fun z H3 => ∃ kvs k, H3 a = some (.dK kvs) ∧ y = kV k ∧
  (∀ v, valV kvs k = some v → Q v (upd H3 a (.dK (dropK kvs k)))) ∧ (valV kvs k = none → Q z H3)
section
variable {X : Cx} {o e f : Expr} {apos cpos : Pos} {td ty tx : TE}
end

section
variable {X : Cx} {pins : List (Addr × Obj)} {σ : St} {H : Hp} {s : Shared} {a : Addr} {kvs : List (Key × V)} {A : Around} {E : Value → Shared → Prop}
end


section
variable {X : Cx} {pins : List (Addr × Obj)} {σ : St} {H : Hp} {s : Shared} {a : Addr} {y : V} {u : Value} {A : Around} {E : Value → Shared → Prop}
end
end L2

namespace Att
open PySem PySem.W PySem.Calls PyProof.Rows

section
variable {prog : Program} {w : World} {A : Around} {E : Value → Shared → Prop} {s : Shared} {K : Frag}

end
end Att

namespace L2
open PySem PySem.Spec PyProof.Rows

end L2

namespace L2
open PySem PySem.Spec PyProof.Rows

end L2

namespace L2
open PySem PySem.Spec PyProof.Rows

section
variable {P : Program} {w : World} {K : PySem.W.Frag} {mg : Str → Option Value} {base : Heap}
end
section
variable {X : Cx}
theorem call_lenD : CallR X (.builtin "len") (fun xs H Q => ∃ a kvs, xs = [V.ref a] ∧ H a = some (.dK kvs) ∧ Q (.int kvs.length) H) := by
  intro pins s σ H xs us Q I r h
  obtain ⟨a, kvs, rfl, ha, q⟩ := h
  obtain ⟨u, rfl, ru⟩ := vals1 r
  cases ru
  exact d_len I (.inl ha) fun t s' I' => ⟨.int kvs.length, H, I', ⟨t, rfl⟩, q⟩
end

section
variable {κ : Type} [DecidableEq κ]
theorem valV_not {kvs : List (κ × V)} {k : κ} (h : valV kvs k = none) : ¬ k ∈ kvs.map (·.1) := by
  intro m
  obtain ⟨p, hp, e⟩ := List.mem_map.mp m
  have q : (kvs.any fun kv => decide (kv.1 = k)) = true := List.any_eq_true.mpr ⟨p, hp, decide_eq_true e⟩
  rw [valV_any, h] at q
  exact absurd q (by simp)
theorem valV_in {kvs : List (κ × V)} {k : κ} {v : V} (h : valV kvs k = some v) : k ∈ kvs.map (·.1) := by
  have q : (kvs.any fun kv => decide (kv.1 = k)) = true := by
    rw [valV_any, h]
    all_goals rfl
  obtain ⟨p, hp, e⟩ := List.any_eq_true.mp q
  exact List.mem_map.mpr ⟨p, hp, of_decide_eq_true e⟩
theorem dropK_pos {p : κ × V} {r : List (κ × V)} {k : κ} (e : p.1 = k) : dropK (p :: r) k = dropK r k := by
  unfold dropK
  rw [List.filter_cons, if_neg (by simp [e])]
theorem dropK_neg {p : κ × V} {r : List (κ × V)} {k : κ} (e : ¬ p.1 = k) : dropK (p :: r) k = p :: dropK r k := by
  unfold dropK
  rw [List.filter_cons, if_pos (by simp [e])]
end
end L2

set_option Elab.async false
set_option linter.all false
set_option maxRecDepth 100000
set_option maxHeartbeats 4000000
namespace L2
open PySem PySem.Spec PyProof.Rows

/-! ### a comprehension's block -/
def closOf (cells : List (Str × Addr)) : List (Str × NameKind) → List (Str × Addr) → List (Str × Addr)
  | [], cs => cs
  | (n, k) :: r, cs => if k = NameKind.free then (match cells.lookup n with | some a => closOf cells r ((n, a) :: cs) | none => closOf cells r cs) else closOf cells r cs
theorem closOf_pure {env : Env} : ∀ (names : List (Str × NameKind)) (cs : List (Str × Addr)), (∀ y ∈ names, y.2 = NameKind.free → ∃ c, env.cells.lookup y.1 = some c) →
    (forIn names cs fun (x : Str × NameKind) r => match x with
      | (name, kind) => if (kind == NameKind.free) = true then do let a ← cellOf env name; pure (ForInStep.yield ((name, a) :: r)) else pure (ForInStep.yield r)) = (pure (closOf env.cells names cs) : Sem (List (Str × Addr)))
  | [], cs, _ => rfl
  | (n, k) :: r, cs, h => by
    have ih := fun cs' => closOf_pure (env := env) r cs' fun y hy => h y (List.mem_cons_of_mem _ hy)
    rw [List.forIn_cons]
    by_cases hk : k = NameKind.free
    · obtain ⟨c, hc⟩ := h (n, k) List.mem_cons_self hk
      have hc' : env.cells.lookup n = some c := hc
      have hcell : cellOf env n = pure c := by unfold cellOf; rw [hc']
      have e1 : closOf env.cells ((n, k) :: r) cs = closOf env.cells r ((n, c) :: cs) := by
        rw [closOf, if_pos hk, hc']
      rw [e1, ← ih ((n, c) :: cs)]
      subst hk
      dsimp only
      rw [hcell]
      rfl
    · have hb : (k == NameKind.free) = false := by simpa using hk
      have e1 : closOf env.cells ((n, k) :: r) cs = closOf env.cells r cs := by
        rw [closOf, if_neg hk]
      rw [e1, ← ih cs]
      dsimp only
      rw [hb]
      rfl
theorem closure_is {scope : Scope} {env : Env} (h : ∀ y ∈ scope.names, y.2 = NameKind.free → ∃ c, env.cells.lookup y.1 = some c) : closureFor scope env = pure (closOf env.cells scope.names []) := by
  have e := closOf_pure (env := env) scope.names [] h
  unfold closureFor
  exact (congrArg (fun t : Sem (List (Str × Addr)) => t >>= fun s => pure s) e).trans rfl
theorem closOf_sound {cells : List (Str × Addr)} : ∀ (names : List (Str × NameKind)) (cs : List (Str × Addr)), (∀ x c, cs.lookup x = some c → cells.lookup x = some c) → ∀ x c, (closOf cells names cs).lookup x = some c → cells.lookup x = some c
  | [], cs, h, x, c, e => h x c e
  | (n, k) :: r, cs, h, x, c, e => by
    by_cases hk : k = NameKind.free
    · cases q : cells.lookup n with
      | none =>
        rw [closOf, if_pos hk, q] at e
        exact closOf_sound r cs h x c e
      | some a =>
        rw [closOf, if_pos hk, q] at e
        refine closOf_sound r _ (fun y d z => ?_) x c e
        rw [List.lookup_cons] at z
        by_cases hy : (y == n) = true
        · rw [hy] at z
          have hy' : y = n := by simpa using hy
          subst hy'
          exact q.trans z
        · have hy' : (y == n) = false := by simpa using hy
          rw [hy'] at z
          exact h y d z
    · rw [closOf, if_neg hk] at e
      exact closOf_sound r cs h x c e
theorem closOf_keep {cells : List (Str × Addr)} : ∀ (names : List (Str × NameKind)) (cs : List (Str × Addr)) (x : Str), (cs.lookup x).isSome = true → ((closOf cells names cs).lookup x).isSome = true
  | [], cs, x, h => h
  | (n, k) :: r, cs, x, h => by
    by_cases hk : k = NameKind.free
    · cases q : cells.lookup n with
      | none => rw [closOf, if_pos hk, q]; exact closOf_keep r cs x h
      | some a =>
        rw [closOf, if_pos hk, q]
        refine closOf_keep r _ x ?_
        rw [List.lookup_cons]
        cases hy : x == n with
        | true => rfl
        | false => exact h
    · rw [closOf, if_neg hk]; exact closOf_keep r cs x h
theorem closOf_has {cells : List (Str × Addr)} : ∀ (names : List (Str × NameKind)) (cs : List (Str × Addr)) (x : Str), (x, NameKind.free) ∈ names → (cells.lookup x).isSome = true → ((closOf cells names cs).lookup x).isSome = true
  | [], cs, x, h, _ => by simp at h
  | (n, k) :: r, cs, x, h, hc => by
    rcases List.mem_cons.mp h with e | e
    · cases e
      obtain ⟨c, hc'⟩ := Option.isSome_iff_exists.mp hc
      rw [closOf, if_pos rfl, hc']
      refine closOf_keep r _ _ ?_
      rw [List.lookup_cons, beq_self_eq_true]
      rfl
    · by_cases hk : k = NameKind.free
      · cases q : cells.lookup n with
        | none => rw [closOf, if_pos hk, q]; exact closOf_has r cs x e hc
        | some a => rw [closOf, if_pos hk, q]; exact closOf_has r _ x e hc
      · rw [closOf, if_neg hk]; exact closOf_has r cs x e hc
theorem lookup_mem {α : Type} : ∀ {l : List (Str × α)} {x : Str} {a : α}, l.lookup x = some a → (x, a) ∈ l
  | [], x, a, h => by simp at h
  | (n, k) :: r, x, a, h => by
    rw [List.lookup_cons] at h
    cases hx : x == n with
    | true =>
      rw [hx] at h
      have e : x = n := by simpa using hx
      subst e
      cases h
      exact List.mem_cons_self
    | false =>
      rw [hx] at h
      exact List.mem_cons_of_mem _ (lookup_mem h)
/-- a name's kind within the block, from its kind in the comprehension's own table -/
theorem relabel_kind {env : Env} : ∀ (names : List (Str × NameKind)) (x : Str) (k : NameKind),
    (names.map fun (p : Str × NameKind) => match p with | (n, k) => if (k == NameKind.free && env.scope.kind == .function && env.kindOf n == some .cell) then (n, NameKind.cell) else (n, k)).lookup x = some k →
      names.lookup x = some k ∨ (k = .cell ∧ names.lookup x = some .free)
  | [], x, k, h => by simp at h
  | (n, k₀) :: r, x, k, h => by
    rw [List.map_cons] at h
    dsimp only at h
    cases hx : x == n with
    | true =>
      rw [List.lookup_cons, hx]
      by_cases hc : (k₀ == NameKind.free && env.scope.kind == .function && env.kindOf n == some .cell) = true
      · rw [if_pos hc, List.lookup_cons, hx] at h
        cases h
        have : k₀ = .free := by
          simp only [Bool.and_eq_true] at hc
          simpa using hc.1.1
        subst this
        exact .inr ⟨rfl, rfl⟩
      · rw [if_neg hc, List.lookup_cons, hx] at h
        exact .inl h
    | false =>
      rw [List.lookup_cons, hx]
      by_cases hc : (k₀ == NameKind.free && env.scope.kind == .function && env.kindOf n == some .cell) = true
      · rw [if_pos hc, List.lookup_cons, hx] at h
        exact relabel_kind r x k h
      · rw [if_neg hc, List.lookup_cons, hx] at h
        exact relabel_kind r x k h
theorem relabel_free {env : Env} : ∀ (names : List (Str × NameKind)) (x : Str), names.lookup x = some .free →
    (names.map fun (p : Str × NameKind) => match p with | (n, k) => if (k == NameKind.free && env.scope.kind == .function && env.kindOf n == some .cell) then (n, NameKind.cell) else (n, k)).lookup x = some .free ∨
    (names.map fun (p : Str × NameKind) => match p with | (n, k) => if (k == NameKind.free && env.scope.kind == .function && env.kindOf n == some .cell) then (n, NameKind.cell) else (n, k)).lookup x = some .cell
  | [], x, h => by simp at h
  | (n, k₀) :: r, x, h => by
    rw [List.map_cons]
    dsimp only
    cases hx : x == n with
    | true =>
      rw [List.lookup_cons, hx] at h
      cases h
      by_cases hc : (NameKind.free == NameKind.free && env.scope.kind == .function && env.kindOf n == some .cell) = true
      · rw [if_pos hc, List.lookup_cons, hx]
        exact .inr rfl
      · rw [if_neg hc, List.lookup_cons, hx]
        exact .inl rfl
    | false =>
      rw [List.lookup_cons, hx] at h
      by_cases hc : (k₀ == NameKind.free && env.scope.kind == .function && env.kindOf n == some .cell) = true
      · rw [if_pos hc, List.lookup_cons, hx]
        exact relabel_free r x h
      · rw [if_neg hc, List.lookup_cons, hx]
        exact relabel_free r x h

def hideN (x y : Str) : Str := if y = x then Str.empty else y
/-- the context of a comprehension's block: its own name in the first slot, then those of the def (M: the def's names, the block's own one hidden) -/
abbrev blk (X : Cx) (x : Str) (scope : Scope) (M : List Str) (C : Addr) (s₀ : Shared) (H₀ : Hp) (fp : List Addr) : Cx :=
  { X with N := x :: M, s₀ := s₀, H₀ := H₀, env := compEnvC scope (closOf X.env.cells scope.names []) C X.env, outer := X.stack, stack := X.stack, ex := fp, fn := fun _ => false, pn := [], xe := fun _ _ => False }

/-- what is asked of a comprehension's table: sc is the def's own one -/
structure CompOk (N M : List Str) (sc : Scope) (x : Str) (scope : Scope) : Prop where
  kind : scope.kind = .function
  cell : ∀ y ∈ scope.names, y.2 ≠ .cell
  names : ∀ y ∈ scope.names, y.2 = .local → scope.names.lookup y.1 = some .local
  own : scope.names.lookup x = some .local
  free : ∀ y ∈ scope.names, y.2 = .free → sc.names.lookup y.1 = some .cell ∨ sc.names.lookup y.1 = some .free
  hid : N.map (hideN x) = M
  nd : (x :: M).Nodup
  others : ∀ y ∈ M, scope.names.lookup y ≠ some .local
  void : scope.names.lookup Str.empty = none

def tComp (wi : TI) (tt : TT) (te : TE) : TE := fun σ H Q => wi σ H fun J H1 => ∀ D, H1 D = none → ∃ W : Nat → Nat → List V → Hp → Prop, (∃ m, W 0 m [] (upd H1 D (.lst []))) ∧ ∀ i m ys H2, W i m ys H2 →
  (J.stop i H2 ∧ H2 D = some (.lst ys) ∧ Q (.ref D) H2) ∨ (J.go i H2 ∧ ys.length < sizeLine ∧ ∀ x H3, J.yld i H2 x H3 → tt (some x :: σ) H3 fun b H4 =>
    if b = true then te (some x :: σ) H4 fun y H5 => H5 D = some (.lst ys) ∧ ∃ m', m' < m ∧ W (i + 1) m' (ys ++ [y]) (upd H5 D (.lst (ys ++ [y]))) else ∃ m', m' < m ∧ W (i + 1) m' ys H4)
def tYes : TT := fun _ H Q => Q true H

section
variable {prog : Program} {w : World} {A : Around} {R : Result → Shared → Prop} {s : Shared}
theorem compLoop_go {elt target iter : Expr} {ifs : List Expr} {scope : Scope} {pos : Pos} {it acc : Value} {env : Env} (Jv : Nat → Shared → Prop)
    (turn : ∀ n s, Jv n s → wpAny (model prog w) A (pyNext it) (fun r s₁ => match r with
      | none => R (.ok .next) s₁
      | some v => wpAny (model prog w) A (letOwnedTupleGo target it v) (fun _ s₀ => wpAny (model prog w) A (assign target env v) (fun _ s₂ =>
          wpAny (model prog w) A (forIn ifs true fun c r => if r = true then do let ok ← isTrue c env (eval c env); pure (ForInStep.yield ok) else pure (ForInStep.yield r)) (fun ok s₃ =>
            if ok = true then wpAny (model prog w) A (eval elt env) (fun x s₄ => wpAny (model prog w) A (call (.builtin "list.append") [acc, x]) (fun _ s₅ => ∃ m, m < n ∧ Jv m s₅) (fun _ _ => False) s₄) (fun _ _ => False) s₃
            else ∃ m, m < n ∧ Jv m s₃) (fun _ _ => False) s₂) (fun _ _ => False) s₀) (fun _ _ => False) s₁) (fun _ _ => False) s)
    (n : Nat) (h : Jv n s) : codeAny (model prog w) A (.compLoop (.ListComp elt [⟨target, iter, ifs, 0⟩] scope pos) 0 it acc env) R s := by
  have no : ∀ {α : Type} {t : Sem α} {Q : α → Shared → Prop} {E : Value → Shared → Prop} {s' : Shared}, wpAny (model prog w) A t Q (fun _ _ => False) s' → wpAny (model prog w) A t Q E s' := fun h => wpAny_mono h (fun _ _ q => q) fun _ _ f => f.elim
  refine codeAny_loop rfl Jv (fun n s hI => ?_) n h
  refine wpAny_noted (env := env) ?_
  rw [compTurn_list]
  refine wpAny_bind (wpAny_standAt (wpAny_bind (thn (no (turn n s hI)) fun r s₁ h₁ => ?_)))
  cases r with
  | none => exact wpAny_pure h₁
  | some v =>
    refine wpAny_bind (thn (no h₁) fun _ s₀ h₀ => wpAny_bind (thn (no h₀) fun _ s₂ h₂ => wpAny_bind (thn (no h₂) fun ok s₃ h₃ => ?_)))
    cases ok with
    | false => exact wpAny_pure ⟨rfl, h₃⟩
    | true => exact wpAny_bind (wpAny_bind (thn (no h₃) fun x s₄ h₄ => wpAny_bind (thn (no h₄) fun _ s₅ h₅ => wpAny_pure (wpAny_pure ⟨rfl, h₅⟩))))
end

section
variable {X : Cx} {pins : List (Addr × Obj)} {σ : St} {H2 : Hp} {s2 : Shared} {E : Value → Shared → Prop}
theorem blk_ok {N M : List Str} {sc scope : Scope} {x : Str} {C : Addr} {H : Hp} {s : Shared} {fp : List Addr} (I : Inv X pins σ H s) (hsc : X.env.scope = sc) (O : CompOk N M sc x scope) (hC : s.heap.objs.size ≤ C)
    (hf : ∀ b ∈ fp, FpOk X pins H b) (hlt : ∀ b ∈ fp, b < s.heap.objs.size) : (blk X x scope M C s H fp).Ok where
  mod := I.ok.mod
  kind := O.kind
  glob := I.ok.glob
  blt := I.ok.blt
  above := hC
  inj := fun y z c e1 e2 => I.ok.inj y z c (closOf_sound _ _ (fun _ _ z => by simp at z) _ _ e1) (closOf_sound _ _ (fun _ _ z => by simp at z) _ _ e2)
  has := fun y hy => by
    have q : scope.names.lookup y = some .free := by
      rcases hy with hy | hy
      · rcases relabel_kind _ _ _ hy with z | ⟨_, z⟩
        · exact absurd rfl (O.cell _ (lookup_mem z))
        · exact z
      · rcases relabel_kind _ _ _ hy with z | ⟨z, _⟩
        · exact z
        · cases z
    have q2 := O.free _ (lookup_mem q) rfl
    rw [← hsc] at q2
    obtain ⟨c, hc⟩ := I.ok.has y q2
    exact Option.isSome_iff_exists.mp (closOf_has _ _ _ (lookup_mem q) (by rw [hc]; rfl))
  cab := fun y c h => by cases h
  hd := I.ok.hd
  frames := I.ok.frames
  stk := .inl rfl
  exf := fun b hb => ⟨Nat.ne_of_lt (Nat.lt_of_lt_of_le (hlt b hb) hC), fun y c e => (hf b hb).2.2.2.2.1 y c (closOf_sound _ _ (fun _ _ z => by simp at z) _ _ e)⟩
  bs := I.bs
  bsz := Nat.le_trans I.ok.bsz I.sz
  noex := fun b o e hb => by
    rcases (hf b hb).2.2.2.1 with z | z
    · exact I.ok.noex b o e z
    · exact absurd (Nat.lt_of_lt_of_le (Heap.lt_size (I.ok.bs b o e).1) z) (Nat.lt_irrefl _)
  exfs := fun b hb z => by
    obtain ⟨_, f1, f2, _⟩ := hf b hb
    exact (List.mem_cons.mp (I.stkSub b z)).elim f1 f2
  funs := I.stack
  frf := I.stkFree

theorem blk_inv {N M : List Str} {sc scope : Scope} {x : Str} {H : Hp} {s : Shared} {fp : List Addr} {h' : Heap} {tk : Nat} (I : Inv X pins σ H s) (hX : X.N = N) (hsc : X.env.scope = sc) (O : CompOk N M sc x scope)
    (hf : ∀ b ∈ fp, FpOk X pins H b) (hlt : ∀ b ∈ fp, b < s.heap.objs.size) {m : Str → Option Value} (hns : h'.Ns s.heap.objs.size m) (k : ∀ b u, s.heap.get? b = some u → h'.get? b = some u) :
    Inv (blk X x scope M s.heap.objs.size s H fp) [] (none :: σ) H { s with heap := h', toks := tk } where
  ok := blk_ok I hsc O (Nat.le_refl _) hf hlt
  os := rfl
  bare := I.bare
  base := Un.kept k
  loc := by
    refine ⟨m, hns, fun i y v e1 e2 e3 => ?_⟩
    cases i with
    | zero => simp at e2
    | succ i =>
      have e1' : M[i]? = some y := by simpa using e1
      have e2' : σ[i]? = some (some v) := by simpa using e2
      have hyM : y ∈ M := List.mem_of_getElem? e1'
      have hfree : scope.names.lookup y = some .free := by
        rcases e3 with e3 | e3 | e3
        · rcases relabel_kind _ _ _ e3 with z | ⟨z, _⟩
          · exact absurd z (O.others y hyM)
          · cases z
        · rcases relabel_kind _ _ _ e3 with z | ⟨_, z⟩
          · exact absurd rfl (O.cell _ (lookup_mem z))
          · exact z
        · rcases relabel_kind _ _ _ e3 with z | ⟨z, _⟩
          · exact z
          · cases z
      have hN : X.N[i]? = some y := by
        rw [hX]
        rw [← O.hid, List.getElem?_map] at e1'
        cases q : N[i]? with
        | none => rw [q] at e1'; cases e1'
        | some z =>
          rw [q] at e1'
          have e4 : hideN x z = y := Option.some.inj e1'
          unfold hideN at e4
          by_cases hz : z = x
          · rw [if_pos hz] at e4
            rw [← e4, O.void] at hfree
            cases hfree
          · rw [if_neg hz] at e4
            rw [e4]
      have q2 := O.free _ (lookup_mem hfree) rfl
      rw [← hsc] at q2
      have hvis : Vis X.env.scope y := q2.elim (fun z => .inr (.inl z)) fun z => .inr (.inr z)
      obtain ⟨m0, hn0, hl⟩ := I.loc
      obtain ⟨u, r, l⟩ := hl i y v hN e2' hvis
      refine ⟨u, r, ?_⟩
      rcases l with ⟨l, _⟩ | ⟨l, c, hc, z⟩
      · exfalso
        have l' : X.env.scope.names.lookup y = some .local := l
        rcases q2 with q2 | q2
        · have q2' : X.env.scope.names.lookup y = some .cell := q2
          rw [l'] at q2'; cases q2'
        · have q2' : X.env.scope.names.lookup y = some .free := q2
          rw [l'] at q2'; cases q2'
      · have hsome := closOf_has scope.names [] y (lookup_mem hfree) (cells := X.env.cells) (by rw [hc]; rfl)
        obtain ⟨c', hc'⟩ := Option.isSome_iff_exists.mp hsome
        have e5 := closOf_sound _ _ (fun _ _ z => by simp at z) _ _ hc'
        rw [hc] at e5
        cases e5
        obtain ⟨o, ho, hd⟩ := z
        refine .inr ⟨?_, c, hc', o, k c o ho, hd⟩
        rcases relabel_free (env := X.env) _ _ hfree with z | z
        · exact .inr z
        · exact .inl z
  cell := fun y c e => by
    obtain ⟨v, o, ho, hd⟩ := I.cell y c (closOf_sound _ _ (fun _ _ z => by simp at z) _ _ e)
    exact ⟨v, o, k c o ho, hd⟩
  free := I.hok.fresh (Nat.le_refl _)
  freeC := fun y c e => I.freeC y c (closOf_sound _ _ (fun _ _ z => by simp at z) _ _ e)
  pin := fun p hp => by simp at hp
  hok := I.hok.kept k
  len := by
    have e : N.length = M.length := by rw [← O.hid, List.length_map]
    simp only [List.length_cons]
    rw [I.len, hX, e]

variable {elt iter : Expr} {ifs : List Expr} {x : Str} {px pos : Pos} {N M : List Str} {sc scope : Scope} {tt : TT} {te : TE} {it : Addr} {fp : List Addr} {tn : Nat → Heap → Prop} {J : It}
theorem comp_block (hcalm : X.calm = true) (hX : X.N = N) (hsc : X.env.scope = sc) (O : CompOk N M sc x scope)
    (hts : ∀ (C : Addr) (s₀ : Shared) (H₀ : Hp) (fp : List Addr) (pins : List (Addr × Obj)) (s : Shared) (σ : St) (H : Hp) (Q : Bool → Hp → Prop), Inv (blk X x scope M C s₀ H₀ fp) pins σ H s → tt σ H Q →
      wpAny (model X.prog X.w) X.A (forIn ifs true fun c r => if r = true then do let ok ← isTrue c (blk X x scope M C s₀ H₀ fp).env (eval c (blk X x scope M C s₀ H₀ fp).env); pure (ForInStep.yield ok) else pure (ForInStep.yield r)) (TP (blk X x scope M C s₀ H₀ fp) pins σ Q) (fun _ _ => False) s)
    (hel : ∀ (C : Addr) (s₀ : Shared) (H₀ : Hp) (fp : List Addr), PE (blk X x scope M C s₀ H₀ fp) elt te)
    (I2 : Inv X pins σ H2 s2) (T : Turn X.prog X.w X.K (.Name x px) J fp it tn) (st2 : tn 0 s2.heap) (f2 : ∀ b ∈ fp, FpOk X pins H2 b) {Qd : Addr → Hp → Prop}
    (q : ∀ D, H2 D = none → ∃ W : Nat → Nat → List V → Hp → Prop, (∃ m, W 0 m [] (upd H2 D (.lst []))) ∧ ∀ i m ys H3, W i m ys H3 →
      (J.stop i H3 ∧ H3 D = some (.lst ys) ∧ Qd D H3) ∨ (J.go i H3 ∧ ys.length < sizeLine ∧ ∀ x H4, J.yld i H3 x H4 → tt (some x :: σ) H4 fun b H5 =>
        if b = true then te (some x :: σ) H5 fun y H6 => H6 D = some (.lst ys) ∧ ∃ m', m' < m ∧ W (i + 1) m' (ys ++ [y]) (upd H6 D (.lst (ys ++ [y]))) else ∃ m', m' < m ∧ W (i + 1) m' ys H5))
    {RR : Value → Addr → Result → Shared → Prop} (hRR : ∀ D C H' s', Inv X pins σ H' s' → FpOk X pins H' C → (∃ m, s'.heap.Ns C m) → Qd D H' → RR (.ref D) C (.ok .next) s') :
    wpAny (model X.prog X.w) X.A (newList []) (fun acc s₃ => wpAny (model X.prog X.w) X.A (newFunctionEnv scope X.env.globals (closOf X.env.cells scope.names []) [] X.env.qual none .none (some X.env)) (fun cenv s₄ =>
      codeAny (model X.prog X.w) X.A (.compStart (.ListComp elt [⟨.Name x px, iter, ifs, 0⟩] scope pos) 0 (.ref it) acc { cenv with scope := relabel scope X.env }) (RR acc cenv.locals) s₄) E s₃) E s2 := by
  have hlt2 : ∀ b ∈ fp, b < s2.heap.objs.size := fun b hb => let ⟨o, e, _⟩ := T.obj _ _ st2 b hb; Heap.lt_size e
  have nD : H2 s2.heap.objs.size = none := I2.hok.fresh (Nat.le_refl _)
  obtain ⟨W, ⟨m0, w0⟩, turn⟩ := q s2.heap.objs.size nD
  have I3 := I2.lnew (its := []) (ys := []) (t' := s2.toks) .nil (Nat.zero_le _)
  refine wpAny_newObj_type (wpAny_newFunctionEnv O.cell (by intro y hy; simp at hy) (fun h₁ hns₁ hsb₁ => ?_) O.kind)
  dsimp only at hns₁ hsb₁ ⊢
  generalize hs3 : ({ s2 with heap := s2.heap.push { cls := .type "list", data := .seq ([] : List Value).toArray }, toks := s2.toks } : Shared) = s3 at I3
  have eh : s3.heap = s2.heap.push { cls := .type "list", data := .seq ([] : List Value).toArray } := by rw [← hs3]
  have es : s3 = { s2 with heap := s2.heap.push { cls := .type "list", data := .seq ([] : List Value).toArray } } := hs3.symm
  have k1 : ∀ b u, s3.heap.get? b = some u → h₁.get? b = some u := fun b u e => by
    refine hsb₁.extBut b u ?_ (Heap.get?_push_of_some _ (by rw [← eh]; exact e))
    rw [← eh]
    exact Nat.ne_of_lt (Heap.lt_size e)
  have f3 : ∀ b ∈ fp, FpOk X pins (upd H2 s2.heap.objs.size (.lst [])) b := fun b hb => ⟨by rw [upd_ne (Nat.ne_of_lt (hlt2 b hb))]; exact (f2 b hb).1, (f2 b hb).2⟩
  have hlt3 : ∀ b ∈ fp, b < s3.heap.objs.size := fun b hb => by
    rw [eh, Heap.size_push]
    exact Nat.lt_succ_of_lt (hlt2 b hb)
  have st3 : tn 0 h₁ := T.keep _ _ _ st2 fun b hb o e => k1 b o (by rw [eh]; exact Heap.get?_push_of_some _ e)
  have hns3 : h₁.Ns s3.heap.objs.size (fun x => ([] : List (Str × Value)).reverse.lookup x) := by rw [eh]; exact hns₁
  have IB := blk_inv (tk := s2.toks) I3 hX hsc O f3 hlt3 hns3 k1
  have eC : s3.heap.objs.size = (s2.heap.push { cls := .type "list", data := .seq ([] : List Value).toArray }).objs.size := by rw [eh]
  have stat : ∀ {H' : Hp}, (∀ b ∈ fp, H' b = none) → ∀ b ∈ fp, FpOk (blk X x scope M s3.heap.objs.size s3 (upd H2 s2.heap.objs.size (.lst [])) fp) [] H' b := fun hn b hb => by
    obtain ⟨g0, g1, g2, g3, g4, g5⟩ := f3 b hb
    exact ⟨hn b hb, Nat.ne_of_lt (hlt3 b hb), fun z => (List.mem_cons.mp (I3.stkSub b z)).elim g1 g2, .inl hb, fun y c e => g4 y c (closOf_sound _ _ (fun _ _ z => by simp at z) _ _ e), fun p hp => by simp at hp⟩
  have loop : ∀ s4 : Shared, s4 = { s3 with heap := h₁, toks := s2.toks } →
      codeAny (model X.prog X.w) X.A (.compLoop (.ListComp elt [⟨.Name x px, iter, ifs, 0⟩] scope pos) 0 (.ref it) (.ref s2.heap.objs.size) (compEnvC scope (closOf X.env.cells scope.names []) s3.heap.objs.size X.env))
        (RR (.ref s2.heap.objs.size) s3.heap.objs.size) s4 := by
    rintro s4 rfl
    refine compLoop_go (fun n s' => ∃ i ys o H', Inv (blk X x scope M s3.heap.objs.size s3 (upd H2 s2.heap.objs.size (.lst [])) fp) [] (o :: σ) H' s' ∧ tn i s'.heap ∧ (∀ b ∈ fp, H' b = none) ∧ W i n ys H') ?_ m0
      ⟨0, [], none, _, IB, st3, fun b hb => (f3 b hb).1, w0⟩
    rintro n s5 ⟨i, ys, o, H5, I5, st5, fr5, w5⟩
    rcases turn i n ys H5 w5 with ⟨stop, hD, qd⟩ | ⟨go, hz, step⟩
    · refine thn (T.done (blk X x scope M s3.heap.objs.size s3 (upd H2 s2.heap.objs.size (.lst [])) fp) rfl rfl rfl hcalm i [] s5 _ H5 _ I5 (stat fr5) st5 stop) fun r s6 ⟨hr, I6⟩ => ?_
      subst hr
      have IX := I3.call' I6.os I6.base I6.hok I6.bare fun b hb => let ⟨_, g1, _, g3, g4, g5⟩ := f3 b hb; ⟨g3, g1, g4, g5⟩
      obtain ⟨mm, hmm, _⟩ := I6.loc
      exact hRR _ _ H5 s6 IX (I3.fpOk (Nat.le_refl _) I6.free) ⟨mm, hmm⟩ qd
    · refine thn (T.item (blk X x scope M s3.heap.objs.size s3 (upd H2 s2.heap.objs.size (.lst [])) fp) rfl rfl rfl hcalm i [] s5 _ H5 _ I5 (stat fr5) st5 go) fun r s6 ⟨u, hr, h6⟩ => ?_
      subst hr
      refine thn h6 fun _ s7 ⟨y, H7, I7, r7, y7, st7, fr7⟩ => ?_
      have I7' := I7.pinned (stat fr7) (T.obj _ _ st7)
      refine wpAny_assign_Name (store_ok (i := 0) I7' O.nd rfl (.inl (lookup_relabel_local O.own)) r7 (fun s8 I8 => ?_) (.inr (lookup_relabel_local O.own)))
      have I8' : Inv (blk X x scope M s3.heap.objs.size s3 (upd H2 s2.heap.objs.size (.lst [])) fp) ([] ++ pinsAt fp s7.heap) (some y :: σ) H7 s8 := I8
      refine thn (hts _ _ _ _ _ s8 _ H7 _ I8' (step y H7 y7)) fun ok s9 ⟨H9, I9, q9⟩ => ?_
      have again : ∀ {ys' : List V} {H' : Hp} {s' : Shared} {m : Nat}, Inv (blk X x scope M s3.heap.objs.size s3 (upd H2 s2.heap.objs.size (.lst [])) fp) ([] ++ pinsAt fp s7.heap) (some y :: σ) H' s' → m < n → W (i + 1) m ys' H' →
          ∃ m, m < n ∧ ∃ i ys o H', Inv (blk X x scope M s3.heap.objs.size s3 (upd H2 s2.heap.objs.size (.lst [])) fp) [] (o :: σ) H' s' ∧ tn i s'.heap ∧ (∀ b ∈ fp, H' b = none) ∧ W i m ys H' := fun {ys' H' s' m} I' hm w' => by
        refine ⟨m, hm, i + 1, ys', some y, H', I'.unpinned, T.keep _ _ _ st7 fun b hb o e => (I'.pin (b, o) (List.mem_append_right _ (List.mem_append_right _ (mem_pinsAt hb e)))).1, fun b hb => ?_, w'⟩
        obtain ⟨o, e, d⟩ := T.obj _ _ st7 b hb
        exact (I'.pin (b, o) (List.mem_append_right _ (List.mem_append_right _ (mem_pinsAt hb e)))).2.1
      cases ok with
      | false =>
        obtain ⟨m', hm, w'⟩ := q9
        exact again I9 hm w'
      | true =>
        refine thn (hel _ _ _ _ _ s9 _ H9 _ I9 q9) fun u2 s10 ⟨y2, H10, I10, r10, hD, m', hm, w'⟩ => ?_
        refine thn (mt_append _ s10 _ H10 (.ref s2.heap.objs.size) [y2] (.ref s2.heap.objs.size) [u2] (fun _ H' => H' = upd H10 s2.heap.objs.size (.lst (ys ++ [y2]))) I10 rfl (.cons r10 .nil) ⟨_, ys, y2, rfl, rfl, hD, hz, rfl⟩) fun _ s11 ⟨_, H11, I11, _, e11⟩ => ?_
        subst e11
        exact again I11 hm w'
  have fin := codeAny_compStart_list (loop _ rfl) (T.self X.A 0 _ _ _ st3 (loop _ rfl))
  rw [es] at fin
  exact fin
end
end L2

set_option Elab.async false
set_option linter.all false
set_option maxRecDepth 100000
set_option maxHeartbeats 4000000
namespace L2
open PySem PySem.Spec PyProof.Rows

section
variable {X : Cx} {elt iter c : Expr} {ifs : List Expr} {x y : Str} {px py pos spos : Pos} {scope sc : Scope} {N M : List Str} {wi : TI} {tt : TT} {te : TE}
theorem pe_compG (hcalm : X.calm = true) (hX : X.N = N) (hsc : X.env.scope = sc) (O : CompOk N M sc x scope) (hi : PI X (.Name x px) iter wi)
    (hts : ∀ (C : Addr) (s₀ : Shared) (H₀ : Hp) (fp : List Addr) (pins : List (Addr × Obj)) (s : Shared) (σ : St) (H : Hp) (Q : Bool → Hp → Prop), Inv (blk X x scope M C s₀ H₀ fp) pins σ H s → tt σ H Q →
      wpAny (model X.prog X.w) X.A (forIn ifs true fun c r => if r = true then do let ok ← isTrue c (blk X x scope M C s₀ H₀ fp).env (eval c (blk X x scope M C s₀ H₀ fp).env); pure (ForInStep.yield ok) else pure (ForInStep.yield r)) (TP (blk X x scope M C s₀ H₀ fp) pins σ Q) (fun _ _ => False) s)
    (hel : ∀ (C : Addr) (s₀ : Shared) (H₀ : Hp) (fp : List Addr), PE (blk X x scope M C s₀ H₀ fp) elt te) (hs : ∀ x, foldedSetIterable iter X.env x = pure x := by intro _; rfl) :
    PE X (.ListComp elt [⟨.Name x px, iter, ifs, 0⟩] scope pos) (tComp wi tt te) := by
  intro pins s σ H Q I h
  rw [eval_ListComp]
  have hcl : closureFor scope X.env = pure (closOf X.env.cells scope.names []) := closure_is fun z hz hf => by
    have q := O.free z hz hf
    rw [← hsc] at q
    exact I.ok.has z.1 q
  refine wpAny_comprehension_free (use := none) rfl hs hcl O.kind O.names (thn (hi pins s σ H _ I h) fun v s1 h1 => thn h1 fun itv s2 h2 => ?_)
  obtain ⟨it, fp, tn, J, H2, e, I2, T, st2, f2, q2⟩ := h2
  subst e
  refine comp_block (Qd := fun D H' => Q (.ref D) H') (RR := fun acc C => compPost (model X.prog X.w) X.A X.xe none (EP X pins σ Q) acc C) hcalm hX hsc O hts hel I2 T st2 f2 (fun D hD => q2 D hD) ?_
  intro D C H' s' I' hC hm q'
  obtain ⟨m, hm⟩ := hm
  obtain ⟨c0, c1, c2, c3, c4, c5⟩ := hC
  exact ⟨m, hm, fun h' hs' => ⟨.ref D, H', I'.turned (t' := s'.toks) (fun b o hb e => hs'.extBut b o hb e) c0 c1 c3 c4 c5, rfl, q'⟩⟩
theorem ps_setcG {i : Nat} (hcalm : X.calm = true) (hX : X.N = N) (hsc : X.env.scope = sc) (O : CompOk N M sc x scope) (hi : PI X (.Name x px) iter wi)
    (hts : ∀ (C : Addr) (s₀ : Shared) (H₀ : Hp) (fp : List Addr) (pins : List (Addr × Obj)) (s : Shared) (σ : St) (H : Hp) (Q : Bool → Hp → Prop), Inv (blk X x scope M C s₀ H₀ fp) pins σ H s → tt σ H Q →
      wpAny (model X.prog X.w) X.A (forIn ifs true fun c r => if r = true then do let ok ← isTrue c (blk X x scope M C s₀ H₀ fp).env (eval c (blk X x scope M C s₀ H₀ fp).env); pure (ForInStep.yield ok) else pure (ForInStep.yield r)) (TP (blk X x scope M C s₀ H₀ fp) pins σ Q) (fun _ _ => False) s)
    (hel : ∀ (C : Addr) (s₀ : Shared) (H₀ : Hp) (fp : List Addr), PE (blk X x scope M C s₀ H₀ fp) elt te)
    (hNd : X.N.Nodup) (hiy : X.N[i]? = some y) (hy : X.env.scope.names.lookup y = some .local)
    (hsw : swapsWith (.ListComp elt [⟨.Name x px, iter, ifs, 0⟩] scope pos) (some (.Name y py)) spos.line X.env = pure true) (hs : ∀ x, foldedSetIterable iter X.env x = pure x := by intro _; rfl) :
    PS X (.Assign [.Name y py] (.ListComp elt [⟨.Name x px, iter, ifs, 0⟩] scope pos) spos) (tAsg (tComp wi tt te) (gName i)) := by
  intro pins s σ H D I h
  have hcl : closureFor scope X.env = pure (closOf X.env.cells scope.names []) := closure_is fun z hz hf => by
    have q := O.free z hz hf
    rw [← hsc] at q
    exact I.ok.has z.1 q
  have key : wpAny (model X.prog X.w) X.A (comprehension (.ListComp elt [⟨.Name x px, iter, ifs, 0⟩] scope pos) scope X.env (firstIterPos [⟨.Name x px, iter, ifs, 0⟩] pos) (newList []) false (eval iter X.env) (some (assign (.Name y py) X.env)))
      (fun _ s' => SP X pins D .next s') X.xe s := by
    refine wpAny_comprehension_free (use := some (assign (.Name y py) X.env)) (Q := fun _ s' => SP X pins D .next s') rfl hs hcl O.kind O.names (thn (hi pins s σ H _ I h) fun v s1 h1 => thn h1 fun itv s2 h2 => ?_)
    obtain ⟨it, fp, tn, J, H2, e, I2, T, st2, f2, q2⟩ := h2
    subst e
    refine comp_block (Qd := fun D0 H' => D.nx (σ.set i (some (.ref D0))) H') (RR := fun acc C => compPost (model X.prog X.w) X.A X.xe (some (assign (.Name y py) X.env)) (fun _ s' => SP X pins D .next s') acc C) hcalm hX hsc O hts hel I2 T st2 f2 (fun D0 hD => q2 D0 hD) ?_
    intro D0 C H' s' I' hC hm q'
    obtain ⟨m, hm⟩ := hm
    obtain ⟨c0, c1, c2, c3, c4, c5⟩ := hC
    show wpAny _ _ (assign (.Name y py) X.env (.ref D0)) _ _ s'
    refine wpAny_assign_Name (store_ok2 (v := .ref D0) I' hNd hiy (.inl hy) rfl (fun s'' I'' ⟨a, sb, ha⟩ => ?_) (.inr hy))
    have hCa : C ≠ a := by
      rcases ha with ha | ha
      · rw [ha]; exact c1
      · exact (c4 _ _ ha).symm
    exact ⟨m, hm.sameBut sb hCa, fun h' hs' => ⟨_, H', I''.turned (t' := s''.toks) (fun b o hb e => hs'.extBut b o hb e) c0 c1 c3 c4 c5, q'⟩⟩
  rw [exec_Assign_Name_used _ _ _ _ hsw]
  refine wpAny_bind (wpAny_standAt (wpAny_bind ?_))
  show wpAny _ _ (do let _ ← comprehension (.ListComp elt [⟨.Name x px, iter, ifs, 0⟩] scope pos) scope X.env (firstIterPos [⟨.Name x px, iter, ifs, 0⟩] pos) (newList []) false (eval iter X.env) (some (assign (.Name y py) X.env))) _ _ s
  exact wpAny_bind (wpAny_mono key (fun _ s' hq => wpAny_pure (wpAny_pure hq)) fun _ _ e => e)
/-- [elt for x in iter] -/
theorem pe_comp (N M : List Str) (sc : Scope) (O : CompOk N M sc x scope) (hi : PI X (.Name x px) iter wi) (hel : ∀ (C : Addr) (s₀ : Shared) (H₀ : Hp) (fp : List Addr), PE (blk X x scope M C s₀ H₀ fp) elt te)
    (hcalm : X.calm = true := by rfl) (hX : X.N = N := by rfl) (hsc : X.env.scope = sc := by rfl) (hs : ∀ x, foldedSetIterable iter X.env x = pure x := by intro _; rfl) :
    PE X (.ListComp elt [⟨.Name x px, iter, [], 0⟩] scope pos) (tComp wi tYes te) :=
  pe_compG hcalm hX hsc O hi (fun C s₀ H₀ fp pins s σ H Q I h => wpAny_tests_nil ⟨H, I, h⟩) hel hs
/-- y = [elt for x in iter] -/
theorem ps_setc {i : Nat} (N M : List Str) (sc : Scope) (O : CompOk N M sc x scope) (hi : PI X (.Name x px) iter wi) (hel : ∀ (C : Addr) (s₀ : Shared) (H₀ : Hp) (fp : List Addr), PE (blk X x scope M C s₀ H₀ fp) elt te)
    (hNd : X.N.Nodup) (hiy : X.N[i]? = some y := by rfl) (hy : X.env.scope.names.lookup y = some .local := by rfl)
    (hsw : swapsWith (.ListComp elt [⟨.Name x px, iter, [], 0⟩] scope pos) (some (.Name y py)) spos.line X.env = pure true := by rfl)
    (hcalm : X.calm = true := by rfl) (hX : X.N = N := by rfl) (hsc : X.env.scope = sc := by rfl) (hs : ∀ x, foldedSetIterable iter X.env x = pure x := by intro _; rfl) :
    PS X (.Assign [.Name y py] (.ListComp elt [⟨.Name x px, iter, [], 0⟩] scope pos) spos) (tAsg (tComp wi tYes te) (gName i)) :=
  ps_setcG hcalm hX hsc O hi (fun C s₀ H₀ fp pins s σ H Q I h => wpAny_tests_nil ⟨H, I, h⟩) hel hNd hiy hy hsw hs
end

/-! ### the walk of a comprehension by its items -/
/-! ### texts as lists of codes -/
abbrev S (l : List Nat) : Str := ⟨l.toArray⟩
theorem S_of (z : Str) : z = S z.cps.toList := by cases z; simp [S]
theorem S_inj {a b : List Nat} (h : S a = S b) : a = b := by
  have h' : a.toArray = b.toArray := congrArg Str.cps h
  simpa using congrArg Array.toList h'
theorem S_len (l : List Nat) : (S l).length = l.length := by show l.toArray.size = l.length; simp
theorem S_app (a b : List Nat) : S a ++ S b = S (a ++ b) := by
  show (⟨a.toArray ++ b.toArray⟩ : Str) = ⟨(a ++ b).toArray⟩
  simp
def cutL (l : List Nat) (lo hi : Option Int) : List Nat := (l.drop (HT.sIx l.length 0 lo)).take (HT.sIx l.length l.length hi - HT.sIx l.length 0 lo)
theorem cutL_le (l : List Nat) (lo hi : Option Int) : (cutL l lo hi).length ≤ l.length := by
  unfold cutL
  rw [List.length_take, List.length_drop]
  omega
def clipI (d : Int) (n : Nat) : Option Int → Int
  | none => d
  | some i => max 0 (min (if i < 0 then i + (n : Int) else i) (n : Int))
theorem clipI_eq (d n : Nat) (o : Option Int) : clipI (d : Int) n o = ((HT.sIx n d o : Nat) : Int) := by
  cases o with
  | none => rfl
  | some i =>
    simp only [HT.sIx, clipI]
    by_cases h : i < 0
    · simp only [h, if_true] <;> omega
    · simp only [h, if_false] <;> omega
theorem sliceIdx_eq (lo hi : Option Int) (n : Nat) : Builtin.Str.strSliceIndices lo hi 1 n = (List.range (HT.sIx n n hi - HT.sIx n 0 lo)).map (HT.sIx n 0 lo + ·) := by
  have key : Builtin.Str.strSliceIndices lo hi 1 n = sliceRange (clipI ((0 : Nat) : Int) n lo) (clipI (n : Int) n hi) 1 := by
    unfold Builtin.Str.strSliceIndices
    cases lo <;> cases hi <;> simp [clipI]
  rw [key, clipI_eq, clipI_eq, sliceRange_one]
section
variable {X : Cx}
def rSlS : V → Option Int → Option Int → Hp → VK → Prop := fun x lo hi H Q => ∃ l, x = .str (S l) ∧ l.length ≤ sizeLine ∧ Q (.str (S (cutL l lo hi))) H
theorem part_of {v : Value} {o : Option Int} (p : IsPart v o) : ∃ l : Option (Int × Tok), v = partValue l ∧ l.map (·.1) = o := by
  cases p with
  | none => exact ⟨none, rfl, rfl⟩
  | int i t => exact ⟨some (i, t), rfl, rfl⟩
theorem sl_str : SlR X rSlS := by
  intro pins s σ H x v vl vu lo hi sl Q I rx hs pl pu h
  obtain ⟨l, rfl, hz, q⟩ := h
  obtain ⟨t, rfl⟩ := rx
  obtain ⟨a, rfl, rfl⟩ := part_of pl
  obtain ⟨b, rfl, rfl⟩ := part_of pu
  refine ⟨"str", _, F.slot_str_getitem.lookup, typeIs_str _ _ _, ?_⟩
  refine wpAny_getItem_str_slice (l := a) (u := b) (st := none) hs rfl ?_
  have ep : slicePicked (S l) a b none = (List.range (HT.sIx l.length l.length (b.map (·.1)) - HT.sIx l.length 0 (a.map (·.1)))).map (HT.sIx l.length 0 (a.map (·.1)) + ·) := by
    have e := sliceIdx_eq (a.map (·.1)) (b.map (·.1)) (S l).length
    rw [S_len] at e
    unfold slicePicked
    rw [S_len]
    exact e
  have ec : (slicePicked (S l) a b none).filterMap ((S l).cps[·]?) = cutL l (a.map (·.1)) (b.map (·.1)) := by
    rw [ep, pick_run]
    simp only [cutL]
  unfold sliceMade
  split
  · rename_i hc
    have hlen : (slicePicked (S l) a b none).length = l.length := by
      rw [Bool.and_eq_true] at hc
      have := hc.2
      rw [beq_iff_eq, S_len] at this
      exact this
    have e : cutL l (a.map (·.1)) (b.map (·.1)) = l := by
      rw [ep, List.length_map, List.length_range] at hlen
      have h1 := HT.sIx_le l.length l.length (Nat.le_refl _) (b.map (·.1))
      unfold cutL
      have h2 : HT.sIx l.length 0 (a.map (·.1)) = 0 := by
        by_cases hl : l.length = 0
        · have := HT.sIx_le l.length 0 (Nat.zero_le _) (a.map (·.1))
          omega
        · omega
      rw [hlen, h2, List.drop_zero, List.take_length]
    rw [e] at q
    exact ⟨.str (S l), H, I, ⟨t, rfl⟩, q⟩
  · refine ⟨?_, .str (S ((slicePicked (S l) a b none).filterMap ((S l).cps[·]?))), H, I.tok _, ⟨_, rfl⟩, ?_⟩
    · rw [ec]
      show (cutL l _ _).toArray.size ≤ sizeLine
      rw [List.size_toArray]
      exact Nat.le_trans (cutL_le _ _ _) hz
    · rw [ec]
      exact q
end

/-! ### the signs of a text, walked -/
def Its (z : Str) : It := ⟨fun i _ => i < z.cps.size, fun i H x H' => H' = H ∧ ∃ c, z.cps[i]? = some c ∧ x = .str ⟨#[c]⟩, fun i _ => z.cps.size ≤ i⟩
theorem walks_str {P : Program} {w : World} {A : Around} (hA : A.handled = none) (it : Addr) (z : Str) (t : Tok) : Walks P w A it [it] [it] z.cps.size (SignAt z) (fun i h => h.IsStrIter it (strIterType z) z t i) := by
  unfold strIterType
  split
  · exact Walks.strAscii hA it z t
  · exact Walks.strWide hA it z t
theorem strIter_plain (z : Str) : ["enumerate", "zip", "dict_itemiterator", "dict_reverseitemiterator", "odict_iterator", "itertools.zip_longest", "itertools.pairwise"].contains (strIterType z) = false := by
  unfold strIterType
  split <;> decide
theorem turn_str {P : Program} {w : World} {K : PySem.W.Frag} {tg : Expr} (it : Addr) (z : Str) (t : Tok) : Turn P w K tg (Its z) [it] it (fun i h => h.IsStrIter it (strIterType z) z t i) where
  mem := by simp
  obj := fun i h st b hb => by
    have e : b = it := by simpa using hb
    subst e
    obtain ⟨o, e, c, d⟩ := st
    exact ⟨o, e, fun v z => by rw [d] at z; cases z⟩
  keep := fun i h h' st k => let ⟨o, e, r⟩ := st; ⟨o, k it (by simp) o e, r⟩
  item := by
    intro X hP hw hK hc i pins s σ H E I hf st hg
    subst hP hw hK
    obtain ⟨f0, f1, f2, f3, f4, f5⟩ := hf it (by simp)
    refine (walks_str (I.ok.hd hc) it z t).item i s _ _ hg st fun v h' tk hv st' kk => ?_
    obtain ⟨c, u, hcz, rfl⟩ := hv
    have I1 : Inv X pins σ H { s with heap := h', toks := tk } := I.turned (fun b o hb e => kk b o (by simpa using hb) e) f0 f1 f3 f4 f5
    obtain ⟨o, e, ec, d⟩ := id st'
    exact ⟨_, rfl, go_of (s := { s with heap := h', toks := tk }) e ec d (strIter_plain z) ⟨.str ⟨#[c]⟩, H, I1, ⟨u, rfl⟩, ⟨rfl, c, hcz, rfl⟩, st', fun b hb => (hf b hb).1⟩⟩
  done := by
    intro X hP hw hK hc i pins s σ H E I hf st hg
    subst hP hw hK
    obtain ⟨f0, f1, f2, f3, f4, f5⟩ := hf it (by simp)
    have hg' : z.cps.size ≤ i := hg
    by_cases ha : z.cps.all (· < 128) = true
    · have st' : s.heap.IsStrIter it "str_ascii_iterator" z t i := by
        have e : strIterType z = "str_ascii_iterator" := by unfold strIterType; rw [if_pos ha]
        rw [← e]; exact st
      exact wpAny_pyNext_ascii_end (I.ok.hd hc) st' (by simpa using hg') fun h' eb => ⟨rfl, I.turned (t' := s.toks) (fun b o hb e => eb b o hb e) f0 f1 f3 f4 f5⟩
    · have st' : s.heap.IsStrIter it "str_iterator" z t i := by
        have e : strIterType z = "str_iterator" := by unfold strIterType; rw [if_neg ha]
        rw [← e]; exact st
      exact wpAny_pyNext_wide_end (I.ok.hd hc) st' (by simpa using hg') fun h' eb => ⟨rfl, I.turned (t' := s.toks) (fun b o hb e => eb b o hb e) f0 f1 f3 f4 f5⟩
  self := fun A i s Q E st h => by
    by_cases ha : z.cps.all (· < 128) = true
    · have e : strIterType z = "str_ascii_iterator" := by unfold strIterType; rw [if_pos ha]
      exact wpAny_pyIter_striter_ascii (by rw [← e]; exact st) h
    · have e : strIterType z = "str_iterator" := by unfold strIterType; rw [if_neg ha]
      exact wpAny_pyIter_striter_wide (by rw [← e]; exact st) h
section
variable {X : Cx} {tg : Expr}
def iStr (tl : TE) : TI := fun σ H R => tl σ H fun x H1 => ∃ z, x = .str z ∧ R (Its z) H1
end
theorem for_str {z : Str} {g : TG} {tb : TS} {D : Ends} {σ : St} {H : Hp} (Pv : Nat → St → Hp → Prop) (h0 : Pv 0 σ H)
    (hs : ∀ i c σ H, z.cps[i]? = some c → Pv i σ H → g (.str ⟨#[c]⟩) σ H fun σ2 H2 => tb { D with nx := Pv (i + 1), ct := Pv (i + 1), bk := D.nx } σ2 H2) (hd : ∀ σ H, Pv z.cps.size σ H → D.nx σ H) :
    ∃ W : Nat → Nat → St → Hp → Prop, (∃ m, W 0 m σ H) ∧ ∀ i m σ H, W i m σ H →
      ((Its z).stop i H ∧ D.nx σ H) ∨ ((Its z).go i H ∧ ∃ N : St → Hp → Prop, (∀ σ' H', N σ' H' → ∃ m', m' < m ∧ W (i + 1) m' σ' H') ∧ ∀ x H', (Its z).yld i H x H' → g x σ H' fun σ2 H2 => tb { D with nx := N, ct := N, bk := D.nx } σ2 H2) := by
  refine ⟨fun i m σ H => m = z.cps.size - i ∧ i ≤ z.cps.size ∧ Pv i σ H, ⟨z.cps.size, rfl, Nat.zero_le _, h0⟩, ?_⟩
  rintro i m σ H ⟨rfl, hi, p⟩
  by_cases hlt : i < z.cps.size
  · refine .inr ⟨hlt, Pv (i + 1), fun σ' H' p' => ⟨z.cps.size - (i + 1), by omega, rfl, hlt, p'⟩, fun x H' y => ?_⟩
    obtain ⟨e, c, hc, rfl⟩ := y
    subst e
    exact hs i c σ _ hc p
  · have e : i = z.cps.size := by omega
    subst e
    exact .inl ⟨Nat.le_refl _, hd σ H p⟩
end L2

set_option Elab.async false
set_option linter.all false
set_option maxRecDepth 100000
set_option maxHeartbeats 4000000
namespace L2
open PySem PySem.Spec PyProof.Rows

theorem hU {k : Nat} {A : Around} (hr : Room k A) : A.units + 64 < cLine := hr.units
theorem hU1 {k : Nat} {A : Around} (hr : Room k A) : A.units + 1 < cLine := hu_of hr

/-! ### module constants -/
def GConst (mg : Str → Option Value) (x : Str) (v : V) : Prop := ∃ u, mg x = some u ∧ RelV v u
theorem pe_const {X : Cx} {x : Str} {v : V} {pos : Pos} (c : GConst X.mg x v) (hg : Gl X x := by rfl) (hd : (x == ("__debug__" : Str)) = false := by decide) : PE X (.Name x pos) (tC v) := by
  obtain ⟨u, h1, h2⟩ := c
  exact pe_glob hg h1 h2 hd

/-! ### data: what a value is worth, down to its leaves -/
mutual
inductive Den (K : PySem.W.Frag) (H : Hp) : V → PyData → Prop
  | non : Den K H .non .none
  | bl (b : Bool) : Den K H (.bl b) (.bool b)
  | int (i : Int) : Den K H (.int i) (.int i)
  | str (x : Str) : Den K H (.str x) (.str x)
  | lst {a : Addr} {xs : List V} {ds : List PyData} : SqL K H a xs → DenAll K H xs ds → Den K H (.ref a) (.list ds)
  | tup {a : Addr} {xs : List V} {ds : List PyData} : SqT K H a xs → DenAll K H xs ds → Den K H (.ref a) (.tuple ds)
inductive DenAll (K : PySem.W.Frag) (H : Hp) : List V → List PyData → Prop
  | nil : DenAll K H [] []
  | cons {v : V} {d : PyData} {vs : List V} {ds : List PyData} : Den K H v d → DenAll K H vs ds → DenAll K H (v :: vs) (d :: ds)
end
mutual
theorem Den.reads {X : Cx} {pins : List (Addr × Obj)} {σ : St} {H : Hp} {s : Shared} (I : Inv X pins σ H s) : ∀ {v : V} {d : PyData} {u : Value}, Den X.K H v d → RelV v u → ∃ as, Reads s.heap u d as
  | _, _, _, .non, r => by cases (show _ = Value.none from r); exact ⟨_, .none⟩
  | _, _, _, .bl b, r => by cases (show _ = Value.bool b from r); exact ⟨_, .bool b⟩
  | _, _, _, .int i, r => by obtain ⟨t, rfl⟩ := r; exact ⟨_, .int i t⟩
  | _, _, _, .str x, r => by obtain ⟨t, rfl⟩ := r; exact ⟨_, .str x t⟩
  | _, _, _, .lst h hd, r => by
    cases (show _ = Value.ref _ from r)
    obtain ⟨its, rv, p, hz⟩ := I.list h
    obtain ⟨o, ho, hc, n, hdt⟩ := p.isList
    obtain ⟨as, ra⟩ := DenAll.reads I hd rv
    exact ⟨_, .list ho hc hdt (by simpa using ra)⟩
  | _, _, _, .tup h hd, r => by
    cases (show _ = Value.ref _ from r)
    obtain ⟨its, rv, p, hz⟩ := I.tuple h
    obtain ⟨o, ho, hc, n, hdt⟩ := p
    obtain ⟨as, ra⟩ := DenAll.reads I hd rv
    exact ⟨_, .tuple ho hc hdt (by simpa using ra)⟩
theorem DenAll.reads {X : Cx} {pins : List (Addr × Obj)} {σ : St} {H : Hp} {s : Shared} (I : Inv X pins σ H s) : ∀ {vs : List V} {ds : List PyData} {us : List Value}, DenAll X.K H vs ds → Vals vs us → ∃ as, ReadsAll s.heap us ds as
  | _, _, _, .nil, .nil => ⟨_, .nil⟩
  | _, _, _, .cons h t, .cons r rr => by
    obtain ⟨a, ha⟩ := Den.reads I h r
    obtain ⟨b, hb⟩ := DenAll.reads I t rr
    exact ⟨_, .cons ha hb⟩
end
def isRef : V → Bool
  | .ref _ => true
  | _ => false
def rEqD (K : PySem.W.Frag) (neg : Bool) : R2 := fun x y H Q => (isRef x || isRef y) = true ∧ ∃ d e, Den K H x d ∧ Den K H y e ∧ SeqAt.shaped d = true ∧ SeqAt.shaped e = true ∧ Q (.bl (if neg then !PyData.eqv d e else PyData.eqv d e)) H
section
variable {X : Cx}
theorem op_eqD (hu : X.A.units + 64 < cLine) : OpR X (compareOp .Eq) (rEqD X.K false) := by
  intro pins s σ H x y v u Q I rx ry h
  obtain ⟨_, d, e, hd, he, sd, se, q⟩ := h
  obtain ⟨as, ra⟩ := hd.reads I rx
  obtain ⟨bs, rb⟩ := he.reads I ry
  exact eq_dataH ra rb sd se hu ⟨.bl (PyData.eqv d e), H, I, rfl, q⟩
theorem op_neD (hu : X.A.units + 64 < cLine) : OpR X (compareOp .NotEq) (rEqD X.K true) := by
  intro pins s σ H x y v u Q I rx ry h
  obtain ⟨_, d, e, hd, he, sd, se, q⟩ := h
  obtain ⟨as, ra⟩ := hd.reads I rx
  obtain ⟨bs, rb⟩ := he.reads I ry
  exact ne_dataH ra rb sd se hu ⟨.bl (!PyData.eqv d e), H, I, rfl, q⟩
theorem op_eqA (hu : X.A.units + 64 < cLine) : OpR X (compareOp .Eq) (fun x y H Q => rEq x y H Q ∨ rEqD X.K false x y H Q) := op_eq.or (op_eqD hu)
theorem op_neA (hu : X.A.units + 64 < cLine) : OpR X (compareOp .NotEq) (fun x y H Q => rNe x y H Q ∨ rEqD X.K true x y H Q) := op_ne.or (op_neD hu)

/-! ### < <= > >= of ints and of texts -/
def rStrs (p : List Nat → List Nat → Bool) : R2 := fun x y H Q => ∃ i j, x = .str i ∧ y = .str j ∧ Q (.bl (p i.cps.toList j.cps.toList)) H
theorem op_ltS : OpR X (compareOp .Lt) (rStrs fun a b => decide (a < b)) := by
  intro pins s σ H x y v u Q I rx ry h
  obtain ⟨i, j, rfl, rfl, q⟩ := h
  obtain ⟨t, rfl⟩ := rx
  obtain ⟨t', rfl⟩ := ry
  exact PySem.P.lt_str ⟨.bl (decide (i.cps.toList < j.cps.toList)), H, I, rfl, q⟩
theorem op_leS : OpR X (compareOp .LtE) (rStrs fun a b => !decide (b < a)) := by
  intro pins s σ H x y v u Q I rx ry h
  obtain ⟨i, j, rfl, rfl, q⟩ := h
  obtain ⟨t, rfl⟩ := rx
  obtain ⟨t', rfl⟩ := ry
  exact PySem.P.le_str ⟨.bl (!decide (j.cps.toList < i.cps.toList)), H, I, rfl, q⟩
theorem op_ltA : OpR X (compareOp .Lt) (fun x y H Q => rI0 (fun i j => .bl (decide (i < j))) x y H Q ∨ rStrs (fun a b => decide (a < b)) x y H Q) := op_lt.or op_ltS
theorem op_leA : OpR X (compareOp .LtE) (fun x y H Q => rI0 (fun i j => .bl (decide (i ≤ j))) x y H Q ∨ rStrs (fun a b => !decide (b < a)) x y H Q) := op_le.or op_leS
/-! ### + -/
def rCatS (K : PySem.W.Frag) : R2 := fun x y H Q => ∃ l b xs zs, x = .ref l ∧ y = .ref b ∧ SqL K H l xs ∧ SqL K H b zs ∧ xs.length + zs.length ≤ sizeLine ∧ ∀ p, H p = none → Q (.ref p) (upd H p (.lst (xs ++ zs)))
theorem op_catS : OpR X (binaryOp .Add) (rCatS X.K) := by
  intro pins s σ H x y v u Q I rx ry h
  obtain ⟨l, b, xs, zs, rfl, rfl, hH, hB, hz, q⟩ := h
  cases rx
  cases ry
  obtain ⟨its, r, p, z1⟩ := I.list hH
  obtain ⟨its2, r2, p2, z2⟩ := I.list hB
  have h1 := r.length
  have h2 := r2.length
  obtain ⟨⟨cl, dc, dt, sl⟩, ho, hc, n, hd⟩ := p.isList
  obtain ⟨⟨cl2, dc2, dt2, sl2⟩, ho2, hc2, n2, hd2⟩ := p2.isList
  simp only at hc hd hc2 hd2
  subst hc hd hc2 hd2
  refine concat_meets ⟨_, ho, rfl⟩ ⟨_, ho2, rfl⟩ PySem.noFill_list_add PySem.seq_list_add F.slot_list_add F.entry_list_add (F.args_list_add_2 _ _) (list_addW l b its.toArray its2.toArray n n2 dc dc2 sl sl2 (by rw [List.size_toArray, List.size_toArray]; omega)) ⟨ho, ho2, ?_⟩
  have ea : its.toArray ++ its2.toArray = (its ++ its2).toArray := by simp
  rw [ea]
  exact ⟨.ref _, _, I.lnew (t' := s.toks) (r.append r2) (by rw [List.length_append]; omega), rfl, q _ I.fresh⟩
def rCatT2 : R2 := fun x y H Q => ∃ i j, x = .str (S i) ∧ y = .str (S j) ∧ i.length + j.length ≤ sizeLine ∧ Q (.str (S (i ++ j))) H
theorem op_catT2 : OpR X (binaryOp .Add) rCatT2 := by
  intro pins s σ H x y v u Q I rx ry h
  obtain ⟨i, j, rfl, rfl, hz, q⟩ := h
  refine op_add_str pins s σ H _ _ v u Q I rx ry ⟨S i, S j, rfl, rfl, ?_, ?_⟩
  · rw [S_len, S_len]; exact hz
  · rw [S_app]; exact q
theorem op_plus : OpR X (binaryOp .Add) (fun x y H Q => rI0 (fun i j => .int (i + j)) x y H Q ∨ (rCatT2 x y H Q ∨ rCatS X.K x y H Q)) := op_add.or (op_catT2.or op_catS)
theorem iop_plus : PIp X .Add (fun x y H Q => rI0 (fun i j => .int (i + j)) x y H Q) := fun pins s σ H x y v u Q I rx ry h => iop_add pins s σ H x y v u Q I rx ry h

/-! ### len, isinstance -/
theorem call_lenT : CallR X (.builtin "len") (fun xs H Q => ∃ l, xs = [.str (S l)] ∧ l.length ≤ sizeLine ∧ Q (.int l.length) H) := by
  intro pins s σ H xs us Q I r h
  obtain ⟨l, rfl, hz, q⟩ := h
  refine call_len_str pins s σ H _ us Q I r ⟨S l, rfl, ?_, ?_⟩
  · rw [S_len]; exact hz
  · rw [S_len]; exact q
theorem call_lenA : CallR X (.builtin "len") (fun xs H Q => (∃ p ys, xs = [.ref p] ∧ (SqL X.K H p ys ∨ SqT X.K H p ys) ∧ Q (.int ys.length) H) ∨ ((∃ l, xs = [.str (S l)] ∧ l.length ≤ sizeLine ∧ Q (.int l.length) H) ∨ (∃ a kvs, xs = [V.ref a] ∧ H a = some (.dK kvs) ∧ Q (.int kvs.length) H))) :=
  call_len_seq.or (call_lenT.or call_lenD)
def rIsi (K : PySem.W.Frag) : List V → Hp → VK → Prop := fun xs H Q => (∃ x t n b, xs = [x, .ty n] ∧ TyOf K H x t ∧ PySem.W.kitOne K t (.type n) = some b ∧ Q (.bl b) H) ∨ (∃ x t C b, xs = [x, .ref C] ∧ TyOf K H x t ∧ PySem.W.kitOne K t (.ref C) = some b ∧ Q (.bl b) H)
theorem call_isinstanceA : CallR X (.builtin "isinstance") (rIsi X.K) := by
  intro pins s σ H xs us Q I r h
  rcases h with ⟨x, t, n, b, rfl, ty, e, q⟩ | ⟨x, t, n, b, rfl, ty, e, q⟩
  · obtain ⟨u, w, rfl, rx, rw'⟩ := vals2 r
    cases rw'
    exact isinst_ok I rx ty e fun tk => ⟨.bl b, H, I.tok tk, rfl, q⟩
  · obtain ⟨u, w, rfl, rx, rw'⟩ := vals2 r
    cases rw'
    exact isinst_ok I rx ty e fun tk => ⟨.bl b, H, I.tok tk, rfl, q⟩
theorem call_ordA : CallR X (.builtin "ord") (fun xs H Q => ∃ c, xs = [.str (S [c])] ∧ Q (.int (c : Nat)) H) := by
  intro pins s σ H xs us Q I r h
  obtain ⟨c, rfl, q⟩ := h
  exact call_ord pins s σ H _ us Q I r ⟨S [c], rfl, rfl, q⟩

/-! ### o[i] -/
theorem ix_dict (hu : X.A.units + 1 < cLine) : IxR X (fun x y H Q => ∃ a v, x = .ref a ∧ DGet H a y (some v) ∧ Q v H) := by
  intro value slice pins s σ H x y v u Q I rx ry h hs
  obtain ⟨a, z, rfl, g, q⟩ := h
  cases (show v = Value.ref a from rx)
  exact tail_any (dict_typeIs I g) PySem.F.slot_dict_getitem.lookup (d_getItem hu I g ry fun w' s3 I3 rw' => ⟨z, H, I3, rw', q⟩) hs
def rIxS2 : R2 := fun x y H Q => ∃ l i c, x = .str (S l) ∧ y = .int i ∧ l.length ≤ sizeLine ∧ atI l i = some c ∧ Q (.str (S [c])) H
theorem ix_str2 : IxR X rIxS2 := by
  intro value slice pins s σ H x y v u Q I rx ry h hs
  obtain ⟨l, i, c, rfl, rfl, hz, he, q⟩ := h
  exact ix_str value slice pins s σ H _ _ v u Q I rx ry ⟨S l, i, c, rfl, rfl, (by rw [S_len]; exact hz), (by simpa using he), q⟩ hs
def rIxA (K : PySem.W.Frag) : R2 := fun x y H Q => rIxL K x y H Q ∨ (rIxT K x y H Q ∨ (rIxS2 x y H Q ∨ (∃ a v, x = .ref a ∧ DGet H a y (some v) ∧ Q v H)))
theorem ix_any (hu : X.A.units + 1 < cLine) : IxR X (rIxA X.K) := ix_list.or (ix_tup.or (ix_str2.or (ix_dict hu)))
def rSlA (K : PySem.W.Frag) : V → Option Int → Option Int → Hp → VK → Prop := fun x lo hi H Q => rSlL K x lo hi H Q ∨ rSlS x lo hi H Q
theorem sl_any : SlR X (rSlA X.K) := sl_list.or sl_str
def rSetA : V → V → V → Hp → (Hp → Prop) → Prop := fun o i v H Q => rSetL o i v H Q ∨ ∃ a H', o = .ref a ∧ DPut H a i v H' ∧ Q H'
theorem set_any (hu : X.A.units + 1 < cLine) : PSet X rSetA := by
  intro pins s σ H o i v ov iv u Q I ro ri rv h
  rcases h with h | ⟨a, H', rfl, g, q⟩
  · exact set_list pins s σ H o i v ov iv u Q I ro ri rv h
  · cases (show ov = Value.ref a from ro)
    exact d_setItem hu I g ri rv fun s4 I4 => ⟨H', I4, q⟩

/-! ### in -/
theorem op_inD (hu : X.A.units + 1 < cLine) : OpR X (compareOp .In) (fun y x H Q => ∃ a o, x = .ref a ∧ DGet H a y o ∧ Q (.bl o.isSome) H) := by
  intro pins s σ H y x v u Q I ry rx h
  obtain ⟨a, o, rfl, g, q⟩ := h
  cases (show u = Value.ref a from rx)
  exact d_in hu I g ry fun s3 I3 => ⟨.bl o.isSome, H, I3, rfl, q⟩
def occB (j i : Str) : Bool := !(Builtin.Str.occurrences j i 0 j.length 1).isEmpty
theorem op_inA (hu : X.A.units + 1 < cLine) : OpR X (compareOp .In) (fun x y H Q => rIn X.K false x y H Q ∨ ((∃ i j, x = .str i ∧ y = .str j ∧ Q (.bl (occB j i)) H) ∨ (∃ a o, y = .ref a ∧ DGet H a x o ∧ Q (.bl o.isSome) H))) :=
  op_in_seq.or (OpR.or (r := fun x y H Q => ∃ i j, x = .str i ∧ y = .str j ∧ Q (.bl (occB j i)) H) op_in_str (op_inD hu))
/-! ### sep.join(xs) -/
def joinL (sep : List Nat) : List (List Nat) → List Nat
  | [] => []
  | [x] => x
  | x :: rest => x ++ sep ++ joinL sep rest
theorem joinL_nil (ls : List (List Nat)) : joinL [] ls = ls.flatten := by
  induction ls with
  | nil => rfl
  | cons a r ih =>
    cases r with
    | nil => simp [joinL]
    | cons b t => rw [joinL, ih]; simp; intro h; cases h
theorem join_S (sep : List Nat) : ∀ ls : List (List Nat), Str.join (S sep) (ls.map S) = S (joinL sep ls)
  | [] => rfl
  | [x] => rfl
  | x :: y :: r => by
    have ih := join_S sep (y :: r)
    show S x ++ S sep ++ Str.join (S sep) ((y :: r).map S) = S (x ++ sep ++ joinL sep (y :: r))
    rw [ih, S_app, S_app]
theorem strsAre_of {ls : List (List Nat)} : ∀ {us : List Value}, Vals (ls.map fun l => V.str (S l)) us → StrsAre us (ls.map S) := by
  induction ls with
  | nil => intro us r; cases r; exact .nil
  | cons a r ih =>
    intro us h
    cases h with
    | cons h1 h2 =>
      obtain ⟨t, rfl⟩ := h1
      exact .cons _ t (ih h2)
def rJoin (K : PySem.W.Frag) : V → List V → Hp → VK → Prop := fun x vs H Q => ∃ sep p ls, x = .str (S sep) ∧ vs = [.ref p] ∧ SqL K H p (ls.map fun l => V.str (S l)) ∧ (ls.map List.length).sum + ls.length * sep.length ≤ 16777216 ∧ Q (.str (S (joinL sep ls))) H
theorem mt_join : MtR X "str.join" (rJoin X.K) := by
  intro pins s σ H x vs v us Q I rx rv h
  obtain ⟨sep, p, ls, rfl, rfl, hq, hz, q⟩ := h
  obtain ⟨t, rfl⟩ := rx
  obtain ⟨u, rfl, ru⟩ := vals1 rv
  cases ru
  obtain ⟨its, r, pl, _⟩ := I.list hq
  refine join_list pl.isList (ys := ls.map S) (by simpa using strsAre_of r) ?_ fun t' k => ?_
  · rw [List.map_map, List.length_map]
    have e : (Str.length ∘ S) = List.length := by funext l; exact S_len l
    rw [e, S_len]
    exact hz
  · have e : Txt.join (S sep) (ls.map S) = S (joinL sep ls) := (StrLaws.glued_eq_join _ _).trans (join_S sep ls)
    rw [e]
    exact ⟨.str (S (joinL sep ls)), H, I.tok k, ⟨t', rfl⟩, q⟩

/-! ### for x in (a list, a tuple, a text) -/
def iAny (K : PySem.W.Frag) (tl : TE) : TI := fun σ H R => tl σ H fun x H1 => (∃ a, x = .ref a ∧ (∃ xs, SqL K H1 a xs) ∧ R (Itl K a) H1) ∨ ((∃ a, x = .ref a ∧ (∃ xs, SqT K H1 a xs) ∧ R (Itt K a) H1) ∨ (∃ z, x = .str z ∧ R (Its z) H1))
theorem pi_any {tg l : Expr} {tl : TE} (hl : PE X l tl) : PI X tg l (iAny X.K tl) := by
  intro pins s σ H R I h
  refine thn (hl pins s σ H _ I h) fun v s1 ⟨x, H1, I1, r1, q1⟩ => ?_
  have aux : ∀ {e : Value} {t : TE} {R' : It → Hp → Prop}, True := fun {_ _ _} => trivial
  have fp : ∀ b, b ∈ [s1.heap.objs.size] → FpOk X pins H1 b := fun b hb => by
    have e : b = s1.heap.objs.size := by simpa using hb
    subst e
    exact I1.fpOk (Nat.le_refl _) (I1.hok.fresh (Nat.le_refl _))
  rcases q1 with ⟨a, e, ⟨xs, hq⟩, q⟩ | ⟨a, e, ⟨xs, hq⟩, q⟩ | ⟨z, e, q⟩
  · subst e
    cases r1
    obtain ⟨its, rv, p, hz⟩ := I1.list hq
    refine wpAny_pyIter_list p.isList ?_
    exact ⟨s1.heap.objs.size, [s1.heap.objs.size], _, _, H1, rfl, I1.kept (t' := s1.toks) fun b o e => Heap.get?_push_of_some _ e, turn_list a _, ⟨_, Heap.get?_push_size _ rfl, rfl, rfl⟩, fp, q⟩
  · subst e
    cases r1
    obtain ⟨its, rv, p, hz⟩ := I1.tuple hq
    refine wpAny_pyIter_tuple (show s1.heap.IsTuple a its.toArray from p) ?_
    exact ⟨s1.heap.objs.size, [s1.heap.objs.size], _, _, H1, rfl, I1.kept (t' := s1.toks) fun b o e => Heap.get?_push_of_some _ e, turn_tuple a _, ⟨_, Heap.get?_push_size _ rfl, rfl, rfl⟩, fp, q⟩
  · subst e
    obtain ⟨t, rfl⟩ := r1
    refine wpAny_pyIter_strU ?_
    exact ⟨s1.heap.objs.size, [s1.heap.objs.size], _, _, H1, rfl, I1.kept (t' := s1.toks) fun b o e => Heap.get?_push_of_some _ e, turn_str _ z t, ⟨_, Heap.get?_push_size _ rfl, rfl, rfl⟩, fp, q⟩
end
end L2

set_option Elab.async false
set_option linter.all false
set_option maxRecDepth 100000
set_option maxHeartbeats 4000000
namespace L2
open PySem PySem.Spec PyProof.Rows

/-! ### a comprehension whose test and element leave all that was there as it was -/
theorem comp_mapf {J : It} {tt : TT} {te : TE} {σ : St} {H : Hp} {D : Addr} {Q : Hp → Prop} (n : Nat) (hn : n ≤ sizeLine) (hD : H D = none) (item f : Nat → V) (p : Nat → Bool)
    (hstop : ∀ H', Same H H' → J.stop n H') (hgo : ∀ i H', Same H H' → i < n → J.go i H') (hy : ∀ i H' x H'', Same H H' → i < n → J.yld i H' x H'' → H'' = H' ∧ x = item i)
    (ht : ∀ i H', i < n → Same H H' → ∀ Qt : Bool → Hp → Prop, (∀ H'', Same H' H'' → Qt (p i) H'') → tt (some (item i) :: σ) H' Qt)
    (he : ∀ i H', i < n → p i = true → Same H H' → ∀ Qe : VK, (∀ H'', Same H' H'' → Qe (f i) H'') → te (some (item i) :: σ) H' Qe)
    (hd : ∀ H', Same H H' → H' D = some (.lst (((List.range n).filter p).map f)) → Q H') :
    ∃ W : Nat → Nat → List V → Hp → Prop, (∃ m, W 0 m [] (upd H D (.lst []))) ∧ ∀ i m ys H2, W i m ys H2 →
      (J.stop i H2 ∧ H2 D = some (.lst ys) ∧ Q H2) ∨ (J.go i H2 ∧ ys.length < sizeLine ∧ ∀ x H3, J.yld i H2 x H3 → tt (some x :: σ) H3 fun b H4 =>
        if b = true then te (some x :: σ) H4 fun y H5 => H5 D = some (.lst ys) ∧ ∃ m', m' < m ∧ W (i + 1) m' (ys ++ [y]) (upd H5 D (.lst (ys ++ [y]))) else ∃ m', m' < m ∧ W (i + 1) m' ys H4) := by
  have same0 : ∀ {H' : Hp} {ys : List V}, Same H H' → Same H (upd H' D (.lst ys)) := fun {H' ys} h b o e => by
    rw [upd_ne (ne_of_none e hD)]
    exact h b o e
  refine ⟨fun i m ys H2 => m = n - i ∧ i ≤ n ∧ ys = ((List.range i).filter p).map f ∧ H2 D = some (.lst ys) ∧ Same H H2, ⟨n, rfl, Nat.zero_le _, rfl, upd_same, same0 (Same.refl _)⟩, ?_⟩
  rintro i m ys H2 ⟨rfl, hi, e, hH, hs⟩
  have hlen : ys.length ≤ i := by
    rw [e, List.length_map]
    exact Nat.le_trans (List.length_filter_le _ _) (by rw [List.length_range]; exact Nat.le_refl _)
  by_cases hlt : i < n
  · refine .inr ⟨hgo i H2 hs hlt, by omega, fun x H3 y => ?_⟩
    obtain ⟨rfl, rfl⟩ := hy i H2 x H3 hs hlt y
    have grow : ((List.range (i + 1)).filter p).map f = if p i = true then ys ++ [f i] else ys := by
      rw [List.range_succ, List.filter_append, List.map_append, ← e]
      by_cases hp : p i = true
      · rw [if_pos hp]; simp [hp]
      · have hp' : p i = false := by simpa using hp
        rw [if_neg hp]; simp [hp']
    refine ht i _ hlt hs _ fun H4 s4 => ?_
    by_cases hp : p i = true
    · rw [hp, if_pos rfl]
      rw [if_pos hp] at grow
      refine he i H4 hlt hp (hs.trans s4) _ fun H5 s5 => ⟨s5 _ _ (s4 _ _ hH), n - (i + 1), by omega, rfl, hlt, grow.symm, upd_same, same0 ((hs.trans s4).trans s5)⟩
    · have hp' : p i = false := by simpa using hp
      rw [hp', if_neg Bool.false_ne_true]
      rw [if_neg hp] at grow
      exact ⟨n - (i + 1), by omega, rfl, hlt, grow.symm, s4 _ _ hH, hs.trans s4⟩
  · have ei : i = n := by omega
    subst ei
    rw [e] at hH
    exact .inl ⟨hstop _ hs, by rw [e]; exact hH, hd _ hs hH⟩
theorem filter_true {α : Type} (l : List α) : l.filter (fun _ => true) = l := by induction l <;> simp_all
/-- [f i for i in range(..)] -/
theorem comp_range {te : TE} {σ : St} {H : Hp} {D : Addr} {Q : Hp → Prop} (lo : Int) (n : Nat) (hn : n ≤ sizeLine) (hD : H D = none) (f : Nat → V)
    (he : ∀ i H', i < n → Same H H' → ∀ Qe : VK, (∀ H'', Same H' H'' → Qe (f i) H'') → te (some (.int (lo + i)) :: σ) H' Qe)
    (hd : ∀ H', Same H H' → H' D = some (.lst ((List.range n).map f)) → Q H') :
    ∃ W : Nat → Nat → List V → Hp → Prop, (∃ m, W 0 m [] (upd H D (.lst []))) ∧ ∀ i m ys H2, W i m ys H2 →
      ((Itr lo n).stop i H2 ∧ H2 D = some (.lst ys) ∧ Q H2) ∨ ((Itr lo n).go i H2 ∧ ys.length < sizeLine ∧ ∀ x H3, (Itr lo n).yld i H2 x H3 → tYes (some x :: σ) H3 fun b H4 =>
        if b = true then te (some x :: σ) H4 fun y H5 => H5 D = some (.lst ys) ∧ ∃ m', m' < m ∧ W (i + 1) m' (ys ++ [y]) (upd H5 D (.lst (ys ++ [y]))) else ∃ m', m' < m ∧ W (i + 1) m' ys H4) :=
  comp_mapf (J := Itr lo n) n hn hD (fun i => .int (lo + i)) f (fun _ => true) (fun _ _ => Nat.le_refl _) (fun i _ _ h => h) (fun i H' x H'' _ _ y => y) (fun i H' _ _ Qt q => q H' (Same.refl _)) (fun i H' h _ s Qe q => he i H' h s Qe q)
    (fun H' s h => hd H' s (by rw [filter_true] at h; exact h))
theorem Same.upd {H : Hp} {D : Addr} {o : HO} (hD : H D = none) : Same H (upd H D o) := fun b u e => by
  rw [upd_ne (ne_of_none e hD)]
  exact e
/-- a list's place, in bounds -/
theorem atI_get? {α : Type} {xs : List α} {i : Int} {v : α} (h0 : 0 ≤ i) (h : xs[i.toNat]? = some v) : atI xs i = some v := by
  have := atI_nat (xs := xs) (j := i.toNat) h
  rwa [show ((i.toNat : Nat) : Int) = i by omega] at this
theorem Same.tup {K : PySem.W.Frag} {H H' : Hp} {a : Addr} {xs : List V} (e : Same H H') (h : SqT K H a xs) : SqT K H' a xs := by
  rcases h with (h | ⟨o, h⟩) | h
  · exact .inl (.inl (e _ _ h))
  · exact .inl (.inr ⟨o, e _ _ h⟩)
  · exact .inr h
mutual
theorem Den.same {K : PySem.W.Frag} {H H' : Hp} (s : Same H H') : ∀ {v : V} {d : PyData}, Den K H v d → Den K H' v d
  | _, _, .non => .non
  | _, _, .bl b => .bl b
  | _, _, .int i => .int i
  | _, _, .str x => .str x
  | _, _, .lst h t => .lst (s.seq h) (DenAll.same s t)
  | _, _, .tup h t => .tup (s.tup h) (DenAll.same s t)
theorem DenAll.same {K : PySem.W.Frag} {H H' : Hp} (s : Same H H') : ∀ {v : List V} {d : List PyData}, DenAll K H v d → DenAll K H' v d
  | _, _, .nil => .nil
  | _, _, .cons h t => .cons (Den.same s h) (DenAll.same s t)
end
/-- what isinstance tells of the plain values -/
theorem rIsi_iff {K : PySem.W.Frag} {H : Hp} {Q : VK} {x : V} {n T : String} {b : Bool} (hT : ∀ t, TyOf K H x t ↔ t = .type T) (hk : PySem.W.kitOne K (.type T) (.type n) = some b) : rIsi K [x, .ty n] H Q ↔ Q (.bl b) H := by
  constructor
  · rintro (⟨x', t, n', b', e, ty, k, q⟩ | ⟨x', t, C, b', e, ty, k, q⟩)
    · simp only [List.cons.injEq, V.ty.injEq, and_true] at e
      obtain ⟨rfl, rfl⟩ := e
      rw [(hT t).mp ty, hk] at k
      cases k
      exact q
    · simp at e
  · intro q
    exact .inl ⟨x, _, n, b, rfl, (hT _).mpr rfl, hk, q⟩
theorem tyOf_non {K : PySem.W.Frag} {H : Hp} (t : Value) : TyOf K H .non t ↔ t = .type "NoneType" := ⟨fun h => by cases h; rfl, fun h => h ▸ .non⟩
theorem tyOf_bl {K : PySem.W.Frag} {H : Hp} (b : Bool) (t : Value) : TyOf K H (.bl b) t ↔ t = .type "bool" := ⟨fun h => by cases h; rfl, fun h => h ▸ .bl b⟩
theorem tyOf_int {K : PySem.W.Frag} {H : Hp} (b : Int) (t : Value) : TyOf K H (.int b) t ↔ t = .type "int" := ⟨fun h => by cases h; rfl, fun h => h ▸ .int b⟩
theorem tyOf_str {K : PySem.W.Frag} {H : Hp} (b : Str) (t : Value) : TyOf K H (.str b) t ↔ t = .type "str" := ⟨fun h => by cases h; rfl, fun h => h ▸ .str b⟩
theorem tyOf_lst {K : PySem.W.Frag} {H : Hp} {a : Addr} {xs : List V} (e : H a = some (.lst xs)) (t : Value) : TyOf K H (.ref a) t ↔ t = .type "list" := by
  constructor
  · intro h
    cases h <;> first | rfl | (rename_i e'; rw [e] at e'; cases e') | (rename_i e' _ _ _ _ _; rw [e] at e'; cases e')
  · intro h
    exact h ▸ .lst e
theorem tyOf_tup {K : PySem.W.Frag} {H : Hp} {a : Addr} {xs : List V} (e : H a = some (.tup xs)) (t : Value) : TyOf K H (.ref a) t ↔ t = .type "tuple" := by
  constructor
  · intro h
    cases h <;> first | rfl | (rename_i e'; rw [e] at e'; cases e') | (rename_i e' _ _ _ _ _; rw [e] at e'; cases e')
  · intro h
    exact h ▸ .tup e
theorem tyOf_dK {K : PySem.W.Frag} {H : Hp} {a : Addr} {xs : List (Key × V)} (e : H a = some (.dK xs)) (t : Value) : TyOf K H (.ref a) t ↔ t = .type "dict" := by
  constructor
  · intro h
    cases h <;> first | rfl | (rename_i e'; rw [e] at e'; cases e') | (rename_i e' _ _ _ _ _; rw [e] at e'; cases e')
  · intro h
    exact h ▸ .dK e
theorem isi_non_int {K : PySem.W.Frag} {H : Hp} {Q : VK} : rIsi K [.non, .ty "int"] H Q ↔ Q (.bl false) H := rIsi_iff (tyOf_non) (by rfl)
theorem isi_non_bool {K : PySem.W.Frag} {H : Hp} {Q : VK} : rIsi K [.non, .ty "bool"] H Q ↔ Q (.bl false) H := rIsi_iff (tyOf_non) (by rfl)
theorem isi_non_str {K : PySem.W.Frag} {H : Hp} {Q : VK} : rIsi K [.non, .ty "str"] H Q ↔ Q (.bl false) H := rIsi_iff (tyOf_non) (by rfl)
theorem isi_non_list {K : PySem.W.Frag} {H : Hp} {Q : VK} : rIsi K [.non, .ty "list"] H Q ↔ Q (.bl false) H := rIsi_iff (tyOf_non) (by rfl)
theorem isi_non_tuple {K : PySem.W.Frag} {H : Hp} {Q : VK} : rIsi K [.non, .ty "tuple"] H Q ↔ Q (.bl false) H := rIsi_iff (tyOf_non) (by rfl)
theorem isi_non_dict {K : PySem.W.Frag} {H : Hp} {Q : VK} : rIsi K [.non, .ty "dict"] H Q ↔ Q (.bl false) H := rIsi_iff (tyOf_non) (by rfl)
theorem isi_bl_int {K : PySem.W.Frag} {H : Hp} {Q : VK} {b : Bool} : rIsi K [(.bl b), .ty "int"] H Q ↔ Q (.bl true) H := rIsi_iff (tyOf_bl _) (by rfl)
theorem isi_bl_bool {K : PySem.W.Frag} {H : Hp} {Q : VK} {b : Bool} : rIsi K [(.bl b), .ty "bool"] H Q ↔ Q (.bl true) H := rIsi_iff (tyOf_bl _) (by rfl)
theorem isi_bl_str {K : PySem.W.Frag} {H : Hp} {Q : VK} {b : Bool} : rIsi K [(.bl b), .ty "str"] H Q ↔ Q (.bl false) H := rIsi_iff (tyOf_bl _) (by rfl)
theorem isi_bl_list {K : PySem.W.Frag} {H : Hp} {Q : VK} {b : Bool} : rIsi K [(.bl b), .ty "list"] H Q ↔ Q (.bl false) H := rIsi_iff (tyOf_bl _) (by rfl)
theorem isi_bl_tuple {K : PySem.W.Frag} {H : Hp} {Q : VK} {b : Bool} : rIsi K [(.bl b), .ty "tuple"] H Q ↔ Q (.bl false) H := rIsi_iff (tyOf_bl _) (by rfl)
theorem isi_bl_dict {K : PySem.W.Frag} {H : Hp} {Q : VK} {b : Bool} : rIsi K [(.bl b), .ty "dict"] H Q ↔ Q (.bl false) H := rIsi_iff (tyOf_bl _) (by rfl)
theorem isi_int_int {K : PySem.W.Frag} {H : Hp} {Q : VK} {b : Int} : rIsi K [(.int b), .ty "int"] H Q ↔ Q (.bl true) H := rIsi_iff (tyOf_int _) (by rfl)
theorem isi_int_bool {K : PySem.W.Frag} {H : Hp} {Q : VK} {b : Int} : rIsi K [(.int b), .ty "bool"] H Q ↔ Q (.bl false) H := rIsi_iff (tyOf_int _) (by rfl)
theorem isi_int_str {K : PySem.W.Frag} {H : Hp} {Q : VK} {b : Int} : rIsi K [(.int b), .ty "str"] H Q ↔ Q (.bl false) H := rIsi_iff (tyOf_int _) (by rfl)
theorem isi_int_list {K : PySem.W.Frag} {H : Hp} {Q : VK} {b : Int} : rIsi K [(.int b), .ty "list"] H Q ↔ Q (.bl false) H := rIsi_iff (tyOf_int _) (by rfl)
theorem isi_int_tuple {K : PySem.W.Frag} {H : Hp} {Q : VK} {b : Int} : rIsi K [(.int b), .ty "tuple"] H Q ↔ Q (.bl false) H := rIsi_iff (tyOf_int _) (by rfl)
theorem isi_int_dict {K : PySem.W.Frag} {H : Hp} {Q : VK} {b : Int} : rIsi K [(.int b), .ty "dict"] H Q ↔ Q (.bl false) H := rIsi_iff (tyOf_int _) (by rfl)
theorem isi_str_int {K : PySem.W.Frag} {H : Hp} {Q : VK} {b : Str} : rIsi K [(.str b), .ty "int"] H Q ↔ Q (.bl false) H := rIsi_iff (tyOf_str _) (by rfl)
theorem isi_str_bool {K : PySem.W.Frag} {H : Hp} {Q : VK} {b : Str} : rIsi K [(.str b), .ty "bool"] H Q ↔ Q (.bl false) H := rIsi_iff (tyOf_str _) (by rfl)
theorem isi_str_str {K : PySem.W.Frag} {H : Hp} {Q : VK} {b : Str} : rIsi K [(.str b), .ty "str"] H Q ↔ Q (.bl true) H := rIsi_iff (tyOf_str _) (by rfl)
theorem isi_str_list {K : PySem.W.Frag} {H : Hp} {Q : VK} {b : Str} : rIsi K [(.str b), .ty "list"] H Q ↔ Q (.bl false) H := rIsi_iff (tyOf_str _) (by rfl)
theorem isi_str_tuple {K : PySem.W.Frag} {H : Hp} {Q : VK} {b : Str} : rIsi K [(.str b), .ty "tuple"] H Q ↔ Q (.bl false) H := rIsi_iff (tyOf_str _) (by rfl)
theorem isi_str_dict {K : PySem.W.Frag} {H : Hp} {Q : VK} {b : Str} : rIsi K [(.str b), .ty "dict"] H Q ↔ Q (.bl false) H := rIsi_iff (tyOf_str _) (by rfl)
theorem isi_lst_int {K : PySem.W.Frag} {H : Hp} {Q : VK} {a : Addr} {xs : List V} (e : H a = some (.lst xs)) : rIsi K [.ref a, .ty "int"] H Q ↔ Q (.bl false) H := rIsi_iff (tyOf_lst e) (by rfl)
theorem isi_lst_str {K : PySem.W.Frag} {H : Hp} {Q : VK} {a : Addr} {xs : List V} (e : H a = some (.lst xs)) : rIsi K [.ref a, .ty "str"] H Q ↔ Q (.bl false) H := rIsi_iff (tyOf_lst e) (by rfl)
theorem isi_lst_list {K : PySem.W.Frag} {H : Hp} {Q : VK} {a : Addr} {xs : List V} (e : H a = some (.lst xs)) : rIsi K [.ref a, .ty "list"] H Q ↔ Q (.bl true) H := rIsi_iff (tyOf_lst e) (by rfl)
theorem isi_lst_tuple {K : PySem.W.Frag} {H : Hp} {Q : VK} {a : Addr} {xs : List V} (e : H a = some (.lst xs)) : rIsi K [.ref a, .ty "tuple"] H Q ↔ Q (.bl false) H := rIsi_iff (tyOf_lst e) (by rfl)
theorem isi_tup_int {K : PySem.W.Frag} {H : Hp} {Q : VK} {a : Addr} {xs : List V} (e : H a = some (.tup xs)) : rIsi K [.ref a, .ty "int"] H Q ↔ Q (.bl false) H := rIsi_iff (tyOf_tup e) (by rfl)
theorem isi_tup_str {K : PySem.W.Frag} {H : Hp} {Q : VK} {a : Addr} {xs : List V} (e : H a = some (.tup xs)) : rIsi K [.ref a, .ty "str"] H Q ↔ Q (.bl false) H := rIsi_iff (tyOf_tup e) (by rfl)
theorem isi_tup_list {K : PySem.W.Frag} {H : Hp} {Q : VK} {a : Addr} {xs : List V} (e : H a = some (.tup xs)) : rIsi K [.ref a, .ty "list"] H Q ↔ Q (.bl false) H := rIsi_iff (tyOf_tup e) (by rfl)
theorem isi_tup_tuple {K : PySem.W.Frag} {H : Hp} {Q : VK} {a : Addr} {xs : List V} (e : H a = some (.tup xs)) : rIsi K [.ref a, .ty "tuple"] H Q ↔ Q (.bl true) H := rIsi_iff (tyOf_tup e) (by rfl)
theorem isi_dK_list {K : PySem.W.Frag} {H : Hp} {Q : VK} {a : Addr} {xs : List (Key × V)} (e : H a = some (.dK xs)) : rIsi K [.ref a, .ty "list"] H Q ↔ Q (.bl false) H := rIsi_iff (tyOf_dK e) (by rfl)
/-! ### loops, kept folded while a body is read -/
def forW (J : It) (g : TG) (tb : TS) (D : Ends) (σ : St) (H1 : Hp) : Prop := ∃ W : Nat → Nat → St → Hp → Prop, (∃ m, W 0 m σ H1) ∧ ∀ i m σ H, W i m σ H →
  (J.stop i H ∧ D.nx σ H) ∨ (J.go i H ∧ ∃ N : St → Hp → Prop, (∀ σ' H', N σ' H' → ∃ m', m' < m ∧ W (i + 1) m' σ' H') ∧ ∀ x H', J.yld i H x H' → g x σ H' fun σ2 H2 => tb { D with nx := N, ct := N, bk := D.nx } σ2 H2)
theorem tFor_eq (wi : TI) (g : TG) (tb : TS) (D : Ends) (σ : St) (H : Hp) : tFor wi g tb D σ H = wi σ H fun J H1 => forW J g tb D σ H1 := rfl
def compW (J : It) (tt : TT) (te : TE) (σ : St) (H1 : Hp) (Q : VK) : Prop := ∀ D, H1 D = none → ∃ W : Nat → Nat → List V → Hp → Prop, (∃ m, W 0 m [] (upd H1 D (.lst []))) ∧ ∀ i m ys H2, W i m ys H2 →
  (J.stop i H2 ∧ H2 D = some (.lst ys) ∧ Q (.ref D) H2) ∨ (J.go i H2 ∧ ys.length < sizeLine ∧ ∀ x H3, J.yld i H2 x H3 → tt (some x :: σ) H3 fun b H4 =>
    if b = true then te (some x :: σ) H4 fun y H5 => H5 D = some (.lst ys) ∧ ∃ m', m' < m ∧ W (i + 1) m' (ys ++ [y]) (upd H5 D (.lst (ys ++ [y]))) else ∃ m', m' < m ∧ W (i + 1) m' ys H4)
theorem tComp_eq (wi : TI) (tt : TT) (te : TE) (σ : St) (H : Hp) (Q : VK) : tComp wi tt te σ H Q = wi σ H fun J H1 => compW J tt te σ H1 Q := rfl
theorem forW_str {z : Str} {g : TG} {tb : TS} {D : Ends} {σ : St} {H : Hp} (Pv : Nat → St → Hp → Prop) (h0 : Pv 0 σ H)
    (hs : ∀ i c σ H, z.cps[i]? = some c → Pv i σ H → g (.str (S [c])) σ H fun σ2 H2 => tb { D with nx := Pv (i + 1), ct := Pv (i + 1), bk := D.nx } σ2 H2) (hd : ∀ σ H, Pv z.cps.size σ H → D.nx σ H) : forW (Its z) g tb D σ H :=
  for_str Pv h0 hs hd
theorem forW_list {K : PySem.W.Frag} {a : Addr} {xs : List V} {g : TG} {tb : TS} {D : Ends} {σ : St} {H : Hp} (Pv : Nat → St → Hp → Prop) (h0 : Pv 0 σ H) (hl : ∀ i σ H, i ≤ xs.length → Pv i σ H → SqL K H a xs)
    (hs : ∀ i x σ H, xs[i]? = some x → Pv i σ H → g x σ H fun σ2 H2 => tb { D with nx := Pv (i + 1), ct := Pv (i + 1), bk := D.nx } σ2 H2) (hd : ∀ σ H, Pv xs.length σ H → D.nx σ H) : forW (Itl K a) g tb D σ H :=
  for_list Pv h0 hl hs hd
theorem forW_range {lo : Int} {n : Nat} {g : TG} {tb : TS} {D : Ends} {σ : St} {H : Hp} (Pv : Nat → St → Hp → Prop) (h0 : Pv 0 σ H)
    (hs : ∀ i σ H, i < n → Pv i σ H → g (.int (lo + i)) σ H fun σ2 H2 => tb { D with nx := Pv (i + 1), ct := Pv (i + 1), bk := D.nx } σ2 H2) (hd : ∀ σ H, Pv n σ H → D.nx σ H) : forW (Itr lo n) g tb D σ H :=
  for_range Pv h0 hs hd
theorem compW_range {te : TE} {σ : St} {H : Hp} {Q : VK} {lo : Int} {n : Nat} (hn : n ≤ sizeLine) (f : Nat → V)
    (he : ∀ i H', i < n → Same H H' → ∀ Qe : VK, (∀ H'', Same H' H'' → Qe (f i) H'') → te (some (.int (lo + i)) :: σ) H' Qe)
    (hd : ∀ D H', H D = none → Same H H' → H' D = some (.lst ((List.range n).map f)) → Q (.ref D) H') : compW (Itr lo n) tYes te σ H Q :=
  fun D hD => comp_range lo n hn hD f he fun H' s h => hd D H' hD s h
theorem cx_K {CX : CXT} {P : Program} {w : World} {K : PySem.W.Frag} {mg : Str → Option Value} {base : Heap} {N : List Str} {qual : Str} {scope : Scope} {f : Addr} {cd : Value} {A : Around} {outer : List Env} {s : Shared} {H : Hp} {E : XK} :
    (cxOf CX P w K mg base N qual scope f cd A outer s H E).K = K := rfl
theorem S_iff (a b : List Nat) : (S a = S b) = (a = b) := propext ⟨S_inj, fun h => by rw [h]⟩
end L2

set_option Elab.async false
set_option linter.all false
set_option maxRecDepth 100000
set_option maxHeartbeats 4000000
namespace L2
open PySem PySem.Spec PyProof.Rows
/-! ### the joined rules by name -/
def rPlus (K : PySem.W.Frag) : R2 := fun x y H Q => rI0 (fun i j => .int (i + j)) x y H Q ∨ (rCatT2 x y H Q ∨ rCatS K x y H Q)
def rEqq (K : PySem.W.Frag) : R2 := fun x y H Q => rEq x y H Q ∨ rEqD K false x y H Q
def rNeq (K : PySem.W.Frag) : R2 := fun x y H Q => rNe x y H Q ∨ rEqD K true x y H Q
def rLt : R2 := fun x y H Q => rI0 (fun i j => .bl (decide (i < j))) x y H Q ∨ rStrs (fun a b => decide (a < b)) x y H Q
def rLe : R2 := fun x y H Q => rI0 (fun i j => .bl (decide (i ≤ j))) x y H Q ∨ rStrs (fun a b => !decide (b < a)) x y H Q
def rLen (K : PySem.W.Frag) : List V → Hp → VK → Prop := fun xs H Q => (∃ p ys, xs = [.ref p] ∧ (SqL K H p ys ∨ SqT K H p ys) ∧ Q (.int ys.length) H) ∨ ((∃ l, xs = [.str (S l)] ∧ l.length ≤ sizeLine ∧ Q (.int l.length) H) ∨ (∃ a kvs, xs = [V.ref a] ∧ H a = some (.dK kvs) ∧ Q (.int kvs.length) H))
def rInn (K : PySem.W.Frag) : R2 := fun x y H Q => rIn K false x y H Q ∨ ((∃ i j, x = .str i ∧ y = .str j ∧ Q (.bl (occB j i)) H) ∨ (∃ a o, y = .ref a ∧ DGet H a x o ∧ Q (.bl o.isSome) H))
def rNin (K : PySem.W.Frag) : R2 := fun x y H Q => rIn K true x y H Q ∨ ((∃ i j, x = .str i ∧ y = .str j ∧ Q (.bl (!occB j i)) H) ∨ (∃ a o, y = .ref a ∧ DGet H a x o ∧ Q (.bl (!o.isSome)) H))
def rListOf (K : PySem.W.Frag) : List V → Hp → VK → Prop := fun xs H Q => ∃ p ys, xs = [.ref p] ∧ (SqL K H p ys ∨ SqT K H p ys) ∧ ∀ l, H l = none → Q (.ref l) (upd H l (.lst ys))
def rOrd : List V → Hp → VK → Prop := fun xs H Q => ∃ c, xs = [.str (S [c])] ∧ Q (.int (c : Nat)) H
def rAny (K : PySem.W.Frag) (x : V) (H1 : Hp) (R : It → Hp → Prop) : Prop := (∃ a, x = .ref a ∧ (∃ xs, SqL K H1 a xs) ∧ R (Itl K a) H1) ∨ ((∃ a, x = .ref a ∧ (∃ xs, SqT K H1 a xs) ∧ R (Itt K a) H1) ∨ (∃ z, x = .str z ∧ R (Its z) H1))
theorem iAny_eq (K : PySem.W.Frag) (tl : TE) (σ : St) (H : Hp) (R : It → Hp → Prop) : iAny K tl σ H R = tl σ H fun x H1 => rAny K x H1 R := rfl
def tTru (K : PySem.W.Frag) (ta : TE) : TT := fun σ H Q => ta σ H fun x H' => ∃ k, TruV K x H' k ∧ Q k H'
/-! ### the joined rules, read: by equations where no object is met, by lemmas where one is -/
section
variable {K : PySem.W.Frag} {H : Hp} {Q : VK} {R : It → Hp → Prop} {x y : V} {a b p : Addr} {xs zs ys : List V}
theorem rPlus_ii (i j : Int) : rPlus K (.int i) (.int j) H Q = Q (.int (i + j)) H := by simp [rPlus, rI0, rCatT2, rCatS]
theorem rPlus_ss (i j : Str) : rPlus K (.str i) (.str j) H Q = ∃ l m, i = S l ∧ j = S m ∧ l.length + m.length ≤ sizeLine ∧ Q (.str (S (l ++ m))) H := by simp [rPlus, rI0, rCatT2, rCatS]
theorem rPlus_l (h1 : SqL K H a xs) (h2 : SqL K H b zs) (hz : xs.length + zs.length ≤ sizeLine) (q : ∀ p, H p = none → Q (.ref p) (upd H p (.lst (xs ++ zs)))) : rPlus K (.ref a) (.ref b) H Q := .inr (.inr ⟨a, b, xs, zs, rfl, rfl, h1, h2, hz, q⟩)
theorem rEqq_ii (i j : Int) : rEqq K (.int i) (.int j) H Q = Q (.bl (decide (i = j))) H := by simp [rEqq, rEq, rEqD, scal, isRef]
theorem rNeq_ii (i j : Int) : rNeq K (.int i) (.int j) H Q = Q (.bl (!(decide (i = j)))) H := by simp [rNeq, rNe, rEqD, scal, isRef]
theorem rEqq_ss (i j : Str) : rEqq K (.str i) (.str j) H Q = Q (.bl (decide (i = j))) H := by simp [rEqq, rEq, rEqD, scal, isRef]
theorem rNeq_ss (i j : Str) : rNeq K (.str i) (.str j) H Q = Q (.bl (!(decide (i = j)))) H := by simp [rNeq, rNe, rEqD, scal, isRef]
theorem rEqq_bb (i j : Bool) : rEqq K (.bl i) (.bl j) H Q = Q (.bl (decide (i = j))) H := by simp [rEqq, rEq, rEqD, scal, isRef]
theorem rNeq_bb (i j : Bool) : rNeq K (.bl i) (.bl j) H Q = Q (.bl (!(decide (i = j)))) H := by simp [rNeq, rNe, rEqD, scal, isRef]
theorem rEqq_nn  : rEqq K .non .non H Q = Q (.bl (true)) H := by simp [rEqq, rEq, rEqD, scal, isRef]
theorem rNeq_nn  : rNeq K .non .non H Q = Q (.bl (!(true))) H := by simp [rNeq, rNe, rEqD, scal, isRef]
theorem rEqq_ni (j : Int) : rEqq K .non (.int j) H Q = Q (.bl (false)) H := by simp [rEqq, rEq, rEqD, scal, isRef]
theorem rNeq_ni (j : Int) : rNeq K .non (.int j) H Q = Q (.bl (!(false))) H := by simp [rNeq, rNe, rEqD, scal, isRef]
theorem rEqq_in (j : Int) : rEqq K (.int j) .non H Q = Q (.bl (false)) H := by simp [rEqq, rEq, rEqD, scal, isRef]
theorem rNeq_in (j : Int) : rNeq K (.int j) .non H Q = Q (.bl (!(false))) H := by simp [rNeq, rNe, rEqD, scal, isRef]
theorem rEqq_ns (j : Str) : rEqq K .non (.str j) H Q = Q (.bl (false)) H := by simp [rEqq, rEq, rEqD, scal, isRef]
theorem rNeq_ns (j : Str) : rNeq K .non (.str j) H Q = Q (.bl (!(false))) H := by simp [rNeq, rNe, rEqD, scal, isRef]
theorem rEqq_sn (j : Str) : rEqq K (.str j) .non H Q = Q (.bl (false)) H := by simp [rEqq, rEq, rEqD, scal, isRef]
theorem rNeq_sn (j : Str) : rNeq K (.str j) .non H Q = Q (.bl (!(false))) H := by simp [rNeq, rNe, rEqD, scal, isRef]
theorem rEqq_nb (j : Bool) : rEqq K .non (.bl j) H Q = Q (.bl (false)) H := by simp [rEqq, rEq, rEqD, scal, isRef]
theorem rNeq_nb (j : Bool) : rNeq K .non (.bl j) H Q = Q (.bl (!(false))) H := by simp [rNeq, rNe, rEqD, scal, isRef]
theorem rEqq_bn (j : Bool) : rEqq K (.bl j) .non H Q = Q (.bl (false)) H := by simp [rEqq, rEq, rEqD, scal, isRef]
theorem rNeq_bn (j : Bool) : rNeq K (.bl j) .non H Q = Q (.bl (!(false))) H := by simp [rNeq, rNe, rEqD, scal, isRef]
theorem rEqq_is (i : Int) (j : Str) : rEqq K (.int i) (.str j) H Q = Q (.bl (false)) H := by simp [rEqq, rEq, rEqD, scal, isRef]
theorem rNeq_is (i : Int) (j : Str) : rNeq K (.int i) (.str j) H Q = Q (.bl (!(false))) H := by simp [rNeq, rNe, rEqD, scal, isRef]
theorem rEqq_si (i : Int) (j : Str) : rEqq K (.str j) (.int i) H Q = Q (.bl (false)) H := by simp [rEqq, rEq, rEqD, scal, isRef]
theorem rNeq_si (i : Int) (j : Str) : rNeq K (.str j) (.int i) H Q = Q (.bl (!(false))) H := by simp [rNeq, rNe, rEqD, scal, isRef]
theorem rEqq_d {d e : PyData} (hr : (isRef x || isRef y) = true) (h1 : Den K H x d) (h2 : Den K H y e) (s1 : SeqAt.shaped d = true) (s2 : SeqAt.shaped e = true) (q : Q (.bl (PyData.eqv d e)) H) : rEqq K x y H Q := .inr ⟨hr, d, e, h1, h2, s1, s2, q⟩
theorem rNeq_d {d e : PyData} (hr : (isRef x || isRef y) = true) (h1 : Den K H x d) (h2 : Den K H y e) (s1 : SeqAt.shaped d = true) (s2 : SeqAt.shaped e = true) (q : Q (.bl (!PyData.eqv d e)) H) : rNeq K x y H Q := .inr ⟨hr, d, e, h1, h2, s1, s2, q⟩
theorem rLt_ii (i j : Int) : rLt (.int i) (.int j) H Q = Q (.bl (decide (i < j))) H := by simp [rLt, rI0, rStrs]
theorem rLt_ss (i j : Str) : rLt (.str i) (.str j) H Q = Q (.bl (decide (i.cps.toList < j.cps.toList))) H := by simp [rLt, rI0, rStrs]
theorem rLe_ii (i j : Int) : rLe (.int i) (.int j) H Q = Q (.bl (decide (i ≤ j))) H := by simp [rLe, rI0, rStrs]
theorem rLe_ss (i j : Str) : rLe (.str i) (.str j) H Q = Q (.bl (!decide (j.cps.toList < i.cps.toList))) H := by simp [rLe, rI0, rStrs]
theorem rLen_s (i : Str) : rLen K [.str i] H Q = ∃ l, i = S l ∧ l.length ≤ sizeLine ∧ Q (.int l.length) H := by simp [rLen]
theorem rLen_l (h : SqL K H p ys) (q : Q (.int ys.length) H) : rLen K [.ref p] H Q := .inl ⟨p, ys, rfl, .inl h, q⟩
theorem rLen_t (h : SqT K H p ys) (q : Q (.int ys.length) H) : rLen K [.ref p] H Q := .inl ⟨p, ys, rfl, .inr h, q⟩
theorem rInn_s (i j : Str) : rInn K (.str i) (.str j) H Q = Q (.bl (occB j i)) H := by simp [rInn, rIn]
theorem rInn_f (h : SqL K H p xs ∨ SqT K H p xs) (f : flatV x = true) (g : xs.all flatV = true) (q : Q (.bl (inV x xs)) H) : rInn K x (.ref p) H Q := .inl ⟨p, xs, rfl, h, f, g, q⟩
theorem rNin_s (i j : Str) : rNin K (.str i) (.str j) H Q = Q (.bl (!occB j i)) H := by simp [rNin, rIn]
theorem rListOf_l (h : SqL K H p ys ∨ SqT K H p ys) (q : ∀ l, H l = none → Q (.ref l) (upd H l (.lst ys))) : rListOf K [.ref p] H Q := ⟨p, ys, rfl, h, q⟩
theorem rIxA_s (i : Str) : rIxA K (.str i) y H Q = rIxS2 (.str i) y H Q := by simp [rIxA, rIxL, rIxT]
theorem rIxA_l {i : Int} {v : V} (h : SqL K H p xs) (e : atI xs i = some v) (q : Q v H) : rIxA K (.ref p) (.int i) H Q := .inl ⟨p, xs, i, v, rfl, rfl, h, e, q⟩
theorem rIxA_t {i : Int} {v : V} (h : SqT K H p xs) (e : atI xs i = some v) (q : Q v H) : rIxA K (.ref p) (.int i) H Q := .inr (.inl ⟨p, xs, i, v, rfl, rfl, h, e, q⟩)
theorem rSlA_s (i : Str) (lo hi : Option Int) : rSlA K (.str i) lo hi H Q = rSlS (.str i) lo hi H Q := by simp [rSlA, rSlL]
theorem rSlA_l {lo hi : Option Int} (h : SqL K H a xs) (q : ∀ p, H p = none → Q (.ref p) (upd H p (.lst (cutV xs lo hi)))) : rSlA K (.ref a) lo hi H Q := .inl ⟨a, xs, rfl, h, q⟩
theorem rAny_s (z : Str) : rAny K (.str z) H R = R (Its z) H := by simp [rAny]
theorem rAny_l (h : SqL K H a xs) (q : R (Itl K a) H) : rAny K (.ref a) H R := .inl ⟨a, rfl, ⟨xs, h⟩, q⟩
theorem rSetA_l {v : V} {k : Int} {j : Nat} {Qh : Hp → Prop} (h : H p = some (.lst xs)) (e : ixN xs.length k = some j) (q : Qh (upd H p (.lst (xs.set j v)))) : rSetA (.ref p) (.int k) v H Qh := .inl ⟨p, xs, k, j, rfl, rfl, h, e, q⟩
theorem TruV_b (b k : Bool) : TruV K (.bl b) H k = (k = b) := rfl
theorem TruV_n (k : Bool) : TruV K .non H k = (k = false) := rfl
theorem TruV_i (i : Int) (k : Bool) : TruV K (.int i) H k = (k = (i != 0)) := rfl
end
/-! ### the same rules, the written part named (so that a block's rule does not hang on the block) -/
section
variable {X : Cx} {K : PySem.W.Frag} {a b c e o l tg : Expr} {es : List Expr} {ta tb to te tl : TE} {t : TA} {pos apos cpos p2 : Pos} {f name : Str} {lo hi : Option Expr} {tlo thi : TO}
theorem op_plusK (hK : X.K = K := by rfl) : OpR X (binaryOp .Add) (rPlus K) := hK ▸ op_plus
theorem op_eqK (hu : X.A.units + 64 < cLine) (hK : X.K = K := by rfl) : OpR X (compareOp .Eq) (rEqq K) := hK ▸ op_eqA hu
theorem op_neK (hu : X.A.units + 64 < cLine) (hK : X.K = K := by rfl) : OpR X (compareOp .NotEq) (rNeq K) := hK ▸ op_neA hu
theorem call_lenK (hK : X.K = K := by rfl) : CallR X (.builtin "len") (rLen K) := hK ▸ call_lenA
theorem call_ordK : CallR X (.builtin "ord") rOrd := call_ordA
theorem op_ltK : OpR X (compareOp .Lt) rLt := op_ltA
theorem op_leK : OpR X (compareOp .LtE) rLe := op_leA
theorem call_isinstanceK (hK : X.K = K := by rfl) : CallR X (.builtin "isinstance") (rIsi K) := hK ▸ call_isinstanceA
theorem call_listK (hK : X.K = K := by rfl) : CallR X (.type "list") (rListOf K) := hK ▸ call_list_of
theorem ix_anyK (hu : X.A.units + 1 < cLine) (hK : X.K = K := by rfl) : IxR X (rIxA K) := hK ▸ ix_any hu
theorem sl_anyK (hK : X.K = K := by rfl) : SlR X (rSlA K) := hK ▸ sl_any
theorem op_inK (hu : X.A.units + 1 < cLine) (hK : X.K = K := by rfl) : OpR X (compareOp .In) (rInn K) := hK ▸ op_inA hu
theorem mt_joinK (hK : X.K = K := by rfl) : MtR X "str.join" (rJoin K) := hK ▸ mt_join
theorem pi_anyK (hl : PE X l tl) (hK : X.K = K := by rfl) : PI X tg l (iAny K tl) := hK ▸ pi_any hl
theorem pe_fldK (he : PE X e ta) (hb : attributeBase e f X.env (eval e X.env) = eval e X.env) (hK : X.K = K := by rfl) : PE X (.Attribute e f pos) (tFld K ta f) := hK ▸ pe_fld he hb
theorem pt_truthK (ha : PE X a ta) (he : ∀ whole, isTrue a X.env whole = (do let v ← whole; standAt a.pos; holding [v] (truthy v))) (hK : X.K = K := by rfl) :
    PT X a (tTru K ta) := hK ▸ pt_truth ha he
theorem pe_bm0K {T id : String} {r : V → List V → Hp → VK → Prop} (pa : PlainAttrs T) (slot : Slot T name id) (hty : typeOf (.builtin id) = pure (.type "method_descriptor")) (hm : MtR X id r) (ho : PE X o to)
    (hbase : attributeBase o name X.env (eval o X.env) = eval o X.env := by rfl) (hline : (apos.endLine == cpos.line) = true := by rfl) (hK : X.K = K := by rfl) : PE X (.Call (.Attribute o name apos) [] [] cpos) (tBM0 K T r to) := hK ▸ pe_bm0 pa slot hty hm ho hbase hline
theorem pe_bmK {T id : String} {r : V → List V → Hp → VK → Prop} (pa : PlainAttrs T) (slot : Slot T name id) (hty : typeOf (.builtin id) = pure (.type "method_descriptor")) (hm : MtR X id r) (ho : PE X o to) (ha : PA X (e :: es) t)
    (hbase : attributeBase o name X.env (eval o X.env) = eval o X.env := by rfl)
    (hfew : ((backTo cpos (starEach (e :: es) X.env)).all (fun x => !x.1) && (backToKw cpos (keywordEach [] X.env)).all (fun x => x.1.isSome)
      && decide ((e :: es).length + ([] : List Keyword).length + (if ([] : List Keyword).isEmpty then 0 else 1) < 30)) = true := by rfl)
    (hline : (apos.endLine == cpos.line) = true := by rfl) (hs : starEach (e :: es) X.env = (false, eval e X.env) :: starEach es X.env := by rfl) (hplain : (backTo cpos (starEach es X.env)).any (·.1) = false := by rfl) (hK : X.K = K := by rfl) :
    PE X (.Call (.Attribute o name apos) (e :: es) [] cpos) (tBM K T r to t) := hK ▸ pe_bm pa slot hty hm ho ha hbase hfew hline hs hplain
theorem pg_tupK {es : List Expr} {k : Nat} {t : TGs} {n : Nat} (hc : X.calm = true) (h : PGs X es t)
    (hn : (assignEach es X.env).length = n := by rfl) (hst : (assignEach es X.env).findIdx? (·.1) = none := by rfl) (hK : X.K = K := by rfl) : PG X (.Tuple es k pos) (gTup K n t) := hK ▸ pg_tup hc h hn hst
end
end L2

set_option Elab.async false
set_option linter.all false
set_option maxRecDepth 100000
set_option maxHeartbeats 4000000
namespace L2
open PySem PySem.Spec PyProof.Rows

/-! ### x in range(a, b) -/
section
variable {X : Cx}
def tInRng (neg : Bool) (ta : TE) (tr : TA) : TE := fun σ H Q => ta σ H fun x H1 => tr σ H1 fun vs H2 => ∃ i a b : Int, x = .int i ∧ vs = [.int a, .int b] ∧ Q (.bl (if neg then !(decide (a ≤ i) && decide (i < b)) else (decide (a ≤ i) && decide (i < b)))) H2
def tInRng1 (neg : Bool) (ta : TE) (tr : TA) : TE := fun σ H Q => ta σ H fun x H1 => tr σ H1 fun vs H2 => ∃ i b : Int, x = .int i ∧ vs = [.int b] ∧ Q (.bl (if neg then !(decide (0 ≤ i) && decide (i < b)) else (decide (0 ≤ i) && decide (i < b)))) H2
/-! ### all, any, sum of a list -/
theorem boolsAre_of {bs : List Bool} : ∀ {us : List Value}, Vals (bs.map V.bl) us → LSm.BoolsAre us bs := by
  induction bs with
  | nil => intro us r; cases r; exact .nil
  | cons a r ih =>
    intro us h
    cases h with
    | cons h1 h2 =>
      cases (show _ = Value.bool a from h1)
      exact .cons _ (ih h2)
def rAll (K : PySem.W.Frag) : List V → Hp → VK → Prop := fun xs H Q => ∃ (p : Addr) (bs : List Bool), xs = [.ref p] ∧ SqL K H p (bs.map V.bl) ∧ Q (.bl (bs.all id)) H
def rAnyB (K : PySem.W.Frag) : List V → Hp → VK → Prop := fun xs H Q => ∃ (p : Addr) (bs : List Bool), xs = [.ref p] ∧ SqL K H p (bs.map V.bl) ∧ Q (.bl (bs.any id)) H
theorem kept_iter' {h h' : Heap} {o : Obj} (hk : ∀ b x, b ∉ [h.objs.size] → (h.push o).get? b = some x → h'.get? b = some x) : ∀ b x, h.get? b = some x → h'.get? b = some x :=
  fun b x e => hk b x (fun hm => by rw [List.mem_singleton.mp hm] at e; exact Nat.lt_irrefl _ (Heap.lt_size e)) (Heap.get?_push_of_some _ e)
theorem call_allH (hc : X.calm = true) : CallR X (.builtin "all") (rAll X.K) := by
  intro pins s σ H xs us Q I r h
  obtain ⟨p, bs, rfl, hq, q⟩ := h
  obtain ⟨u, rfl, ru⟩ := vals1 r
  cases ru
  obtain ⟨its, rv, pl, hz⟩ := I.list hq
  have hb := boolsAre_of rv
  have hl := pl.isList
  have hlt : p < s.heap.objs.size := by obtain ⟨_, e, _⟩ := hl; exact Heap.lt_size e
  refine call_all_walk (wpAny_pyIter_list hl ?_)
  refine ⟨s.heap.objs.size, [s.heap.objs.size, p], [s.heap.objs.size], its.toArray.size, _, _, fun i => (bs[i]?).getD true, rfl, Walks.list (A := X.A.in1) (I.ok.hd hc) _ p (Nat.ne_of_lt hlt) its.toArray,
    ⟨⟨_, Heap.get?_push_size _ rfl, rfl, rfl⟩, hl.push _⟩, fun i v s' Q' E' hP hQ => ?_, fun h' tk hk => ?_⟩
  · obtain ⟨b, e, rfl⟩ := hb.get i v (by simpa using hP)
    simp only [e, Option.getD_some] at hQ
    exact wpAny_truthy_bool hQ
  · have e : ((List.range its.toArray.size).all fun i => (bs[i]?).getD true) = bs.all id := by
      rw [List.size_toArray, hb.length]; exact LSm.range_all bs
    rw [e]
    exact ⟨.bl _, H, I.kept (kept_iter' hk), rfl, q⟩
def rSum (K : PySem.W.Frag) : List V → Hp → VK → Prop := fun xs H Q => ∃ (p : Addr) (ns : List Int), xs = [.ref p] ∧ SqL K H p (ns.map V.int) ∧ Q (.int ns.sum) H
theorem call_sumH (hc : X.calm = true) : CallR X (.builtin "sum") (rSum X.K) := by
  intro pins s σ H xs us Q I r h
  obtain ⟨p, ns, rfl, hq, q⟩ := h
  obtain ⟨u, rfl, ru⟩ := vals1 r
  cases ru
  obtain ⟨its, rv, pl, hz⟩ := I.list hq
  have hi := intsAre_of rv
  obtain ⟨xs, hx⟩ := hi.allInts.items
  have hl' : s.heap.IsList p (intItems xs) := hx ▸ pl.isList
  refine sum_intListG (I.ok.hd hc) hl' fun h' tk t' hk => ?_
  have e1 : ns = xs.toList.map (·.1) := by
    rw [← nums_intItems, ← hx]
    exact (show numsOf its.toArray.toList = ns from hi.numsOf).symm
  have e2 : preSum (numAt xs) xs.size = ns.sum := by
    rw [preSum_eq, List.take_of_length_le (by simp), e1]
  rw [e2]
  exact ⟨.int _, H, I.kept hk, ⟨_, rfl⟩, q⟩
theorem call_allK {K : PySem.W.Frag} (hc : X.calm = true := by rfl) (hK : X.K = K := by rfl) : CallR X (.builtin "all") (rAll K) := hK ▸ call_allH hc
theorem call_sumK {K : PySem.W.Frag} (hc : X.calm = true := by rfl) (hK : X.K = K := by rfl) : CallR X (.builtin "sum") (rSum K) := hK ▸ call_sumH hc
theorem rAll_l {K : PySem.W.Frag} {H : Hp} {Q : VK} {p : Addr} {bs : List Bool} (h : SqL K H p (bs.map V.bl)) (q : Q (.bl (bs.all id)) H) : rAll K [.ref p] H Q := ⟨p, bs, rfl, h, q⟩
/-! ### min, max, int, str -/
def rMax : List V → Hp → VK → Prop := fun xs H Q => ∃ i j, xs = [.int i, .int j] ∧ Q (.int (max i j)) H
def rMin : List V → Hp → VK → Prop := fun xs H Q => ∃ i j, xs = [.int i, .int j] ∧ Q (.int (min i j)) H
def rInt : List V → Hp → VK → Prop := fun xs H Q => (∃ i, xs = [.int i] ∧ Q (.int i) H) ∨ ∃ k, xs = [.bl k] ∧ Q (.int (if k = true then 1 else 0)) H
theorem rInt_i {H : Hp} {Q : VK} (i : Int) : rInt [.int i] H Q = Q (.int i) H := by simp [rInt]
theorem rInt_b {H : Hp} {Q : VK} (k : Bool) : rInt [.bl k] H Q = Q (.int (if k = true then 1 else 0)) H := by simp [rInt]
/-- the figures of a whole number -/
def strI (i : Int) : List Nat := (toString i : Str).cps.toList
def rStrI : List V → Hp → VK → Prop := fun xs H Q => ∃ i, xs = [.int i] ∧ i.natAbs.log2 < 1920 ∧ Q (.str (S (strI i))) H
end
end L2

set_option Elab.async false
set_option linter.all false
set_option maxRecDepth 100000
set_option maxHeartbeats 4000000
namespace L2
open PySem PySem.Spec PyProof.Rows

/-! ### a def with defaults -/
structure FunD (K : PySem.W.Frag) (x qual : Str) (st : Stmt) (f : Addr) (fd : FuncData) (items : List Value) : Prop where
  ex : ∃ (oc : Value) (od : Option Addr) (kV doc pm : Value) (an : Option Addr) (cdv ct : Value) (osl : Array (Option Value)) (tD : Addr) (o : Obj) (n : Nat),
    fd = PySem.W.fnOf x qual (defArgs st) (defBody st) (defScope st) (.ref tD) kV doc pm an cdv ct ∧ K.lookup f = some ⟨oc, od, .func fd, osl⟩ ∧ PySem.W.codeIn K cdv qual = true ∧ K.lookup tD = some o ∧ o.data = .seq items.toArray n
  kp : PySem.W.keepIn K (.ref f) = true
section
variable {P : Program} {w : World} {K : PySem.W.Frag} {mg : Str → Option Value} {base : Heap}
theorem FunD.ok {x qual : Str} {st : Stmt} {f : Addr} {fd : FuncData} {items : List Value} {N ps : List Str} {k : Nat} {sp : Sp} (F : FunD K x qual st f fd items) (S : FnScope N ps (defScope st)) (len : ∀ vs H Q E, sp vs H Q E → vs.length = ps.length)
    (hbody : ∀ (cdv : Value) (A : Around) (outer : List Env) (s : Shared) (H : Hp) (vs : List V) (Q : VK) (E : XK), Room k (A.deeper (envOfC qual (defScope st) s.heap.objs.size f cdv)) → sp vs H Q E →
      ∃ t, PSs (cxOf CX0 P w K mg base N qual (defScope st) f cdv A outer s H E).nox (defBody st) t ∧ t { nx := fun _ H' => Q .non H', rt := Q } (start N vs) H) : FnOk P w K mg base CX0 (k + 1) f fd ps sp := by
  obtain ⟨oc, od, kV, doc, pm, an, cdv, ct, osl, tD, o, n, rfl, lk, hcd, _⟩ := F.ex
  refine fn_of lk hcd S len fun A outer s H vs Q E hr hsp => ?_
  obtain ⟨t, h, q⟩ := hbody cdv A outer s H vs Q E hr hsp
  exact ⟨t, h.nox, q⟩
/-- how its arguments bind, ds the defaults that fill up -/
theorem FunD.binds {x qual : Str} {st : Stmt} {f : Addr} {fd : FuncData} {items : List Value} {ps : List Str} (ds : List Value) (m : Nat) (hm : m + ds.length = ps.length) (F : FunD K x qual st f fd items)
    (h : ∀ (tD : Addr) (kV doc pm : Value) (an : Option Addr) (cdv ct : Value) (us : List Value), us.length = m →
      ∃ kk, bindArgs (PySem.W.fnOf x qual (defArgs st) (defBody st) (defScope st) (.ref tD) kV doc pm an cdv ct) ⟨us, []⟩ = seqItems? (.ref tD) >>= kk ∧ kk (some items.toArray) = pure (ps.zip (us ++ ds))) : Binds K fd ps ds := by
  obtain ⟨oc, od, kV, doc, pm, an, cdv, ct, osl, tD, o, n, rfl, lk, hcd, ho, hs⟩ := F.ex
  intro s us X hl
  rw [List.length_append] at hl
  obtain ⟨kk, h1, h2⟩ := h tD kV doc pm an cdv ct us (by omega)
  exact BindsTo.of_defaults rfl (X _ _ ho) hs h1 h2
end

/-! ### what a step may change -/
/-- of what stood only the objects at A may have changed, tuples never -/
structure Chg (A : List Addr) (H H' : Hp) : Prop where
  keep : ∀ b o, H b = some o → b ∉ A → H' b = some o
  tup : ∀ b xs, H b = some (.tup xs) → H' b = some (.tup xs)
theorem Chg.refl {A : List Addr} (H : Hp) : Chg A H H := ⟨fun _ _ h _ => h, fun _ _ h => h⟩
theorem Chg.of_same {A : List Addr} {H H' : Hp} (s : Same H H') : Chg A H H' := ⟨fun b o h _ => s b o h, fun b xs h => s b _ h⟩
theorem Chg.same {H H' : Hp} (s : Chg [] H H') : Same H H' := fun b o h => s.keep b o h (by simp)
theorem Chg.trans {A : List Addr} {H H1 H2 : Hp} (x : Chg A H H1) (y : Chg A H1 H2) : Chg A H H2 := ⟨fun b o h n => y.keep b o (x.keep b o h n) n, fun b xs h => y.tup b xs (x.tup b xs h)⟩
theorem Chg.mono {A B : List Addr} {H H' : Hp} (x : Chg A H H') (h : ∀ b, b ∈ A → b ∈ B) : Chg B H H' := ⟨fun b o e n => x.keep b o e fun z => n (h b z), x.tup⟩
theorem Chg.upd {A : List Addr} {H : Hp} {a : Addr} {o : HO} (ha : a ∈ A) (hm : ∀ xs, H a ≠ some (.tup xs)) : Chg A H (L2.upd H a o) := by
  refine ⟨fun b u e n => ?_, fun b xs e => ?_⟩
  · have hb : b ≠ a := fun z => by subst z; exact n ha
    rw [upd_ne hb]; exact e
  · have hb : b ≠ a := fun z => by subst z; exact hm xs e
    rw [upd_ne hb]; exact e
theorem Chg.new {A : List Addr} {H : Hp} {a : Addr} {o : HO} (ha : H a = none) : Chg A H (L2.upd H a o) := .of_same (Same.upd ha)
/-- an address that was free stays out of what was there -/
theorem Chg.free {H H' : Hp} {l b : Addr} {A : List Addr} {o : HO} (x : Chg A H H') (h : H' l = none) (e : H b = some o) (n : b ∉ A) : l ≠ b := fun z => by
  have := x.keep b o e n
  rw [← z, h] at this
  cases this
theorem mut_lst {H : Hp} {a : Addr} {kvs : List V} (h : H a = some (.lst kvs)) : ∀ xs, H a ≠ some (.tup xs) := fun xs z => by rw [h] at z; cases z
theorem mut_ins {H : Hp} {a C dx : Addr} {fs : List (Str × V)} (h : H a = some (.ins C dx fs)) : ∀ xs, H a ≠ some (.tup xs) := fun xs z => by rw [h] at z; cases z
/-! ### comprehensions with a test, over a range; over a list -/
/-- a comprehension over a list that stays: the items by a function -/
theorem compW_listIf {K : PySem.W.Frag} {tt : TT} {te : TE} {σ : St} {H : Hp} {Q : VK} {a : Addr} {xs : List V} (hl : SqL K H a xs) (hn : xs.length ≤ sizeLine) (p : V → Bool) (f : V → V)
    (ht : ∀ x H', x ∈ xs → Same H H' → ∀ Qt : Bool → Hp → Prop, (∀ H'', Same H' H'' → Qt (p x) H'') → tt (some x :: σ) H' Qt)
    (he : ∀ x H', x ∈ xs → p x = true → Same H H' → ∀ Qe : VK, (∀ H'', Same H' H'' → Qe (f x) H'') → te (some x :: σ) H' Qe)
    (hd : ∀ D H', H D = none → Same H H' → H' D = some (.lst ((xs.filter p).map f)) → Q (.ref D) H') : compW (Itl K a) tt te σ H Q := fun D hD =>
  comp_mapf (J := Itl K a) xs.length hn hD (fun i => xs.getD i .non) (fun i => f (xs.getD i .non)) (fun i => p (xs.getD i .non)) (fun H' s => ⟨xs, s.seq hl, Nat.le_refl _⟩)
    (fun i H' s h => ⟨xs, xs[i], s.seq hl, by simp⟩)
    (fun i H' x H'' s hi y => by
      obtain ⟨rfl, z⟩ := y
      have hz := z xs (s.seq hl)
      refine ⟨rfl, ?_⟩
      rw [List.getD_eq_getElem?_getD, hz]
      rfl)
    (fun i H' h s Qt q => ht _ H' (by rw [List.getD_eq_getElem?_getD, List.getElem?_eq_getElem h]; exact List.getElem_mem h) s Qt q)
    (fun i H' h hp s Qe q => he _ H' (by rw [List.getD_eq_getElem?_getD, List.getElem?_eq_getElem h]; exact List.getElem_mem h) hp s Qe q)
    (fun H' s h => hd D H' hD s (by
      rw [h]
      congr 2
      have e : (List.range xs.length).map (fun i => xs.getD i .non) = xs := by
        refine List.ext_getElem (by simp) fun i h1 h2 => ?_
        simp at h1 h2 ⊢
        rw [List.getElem?_eq_getElem h2]
        rfl
      conv => rhs; rw [← e]
      rw [List.filter_map, List.map_map]
      rfl))
theorem compW_list {K : PySem.W.Frag} {te : TE} {σ : St} {H : Hp} {Q : VK} {a : Addr} {xs : List V} (hl : SqL K H a xs) (hn : xs.length ≤ sizeLine) (f : V → V)
    (he : ∀ x H', x ∈ xs → Same H H' → ∀ Qe : VK, (∀ H'', Same H' H'' → Qe (f x) H'') → te (some x :: σ) H' Qe)
    (hd : ∀ D H', H D = none → Same H H' → H' D = some (.lst (xs.map f)) → Q (.ref D) H') : compW (Itl K a) tYes te σ H Q :=
  compW_listIf hl hn (fun _ => true) f (fun x H' _ s Qt q => q H' (Same.refl _)) (fun x H' h _ s Qe q => he x H' h s Qe q) (fun D H' h s e => hd D H' h s (by rw [filter_true] at e; exact e))
/-! ### addresses apart -/
/-- all there -/
def Pres (H : Hp) (l : List Addr) : Prop := ∀ a ∈ l, H a ≠ none
theorem Pres.nil (H : Hp) : Pres H [] := fun a h => by cases h
theorem Pres.same {H H' : Hp} {l : List Addr} (p : Pres H l) (s : Same H H') : Pres H' l := fun a h z => by
  cases e : H a with
  | none => exact p a h e
  | some o => rw [s a o e] at z; cases z
theorem Pres.cons {H : Hp} {l : List Addr} {a : Addr} {o : HO} (p : Pres H l) (h : H a = some o) : Pres H (a :: l) := fun b hb => by
  rcases List.mem_cons.mp hb with rfl | hb
  · rw [h]; intro z; cases z
  · exact p b hb
theorem Pres.new {H : Hp} {l : List Addr} {a : Addr} (p : Pres H l) (nd : l.Nodup) (h : H a = none) : (a :: l).Nodup := List.nodup_cons.mpr ⟨fun hm => p a hm h, nd⟩
end L2

set_option Elab.async false
set_option linter.all false
set_option maxRecDepth 100000
set_option maxHeartbeats 4000000
namespace L2
open PySem PySem.Spec PyProof.Rows
section
variable {X : Cx} {pins : List (Addr × Obj)} {σ : St} {H : Hp} {s : Shared} {h' : Heap}
/-- untracked records of ours have turned -/
theorem Inv.turnedL {t' : Nat} {l : List Addr} (I : Inv X pins σ H s) (k : ∀ b o, b ∉ l → s.heap.get? b = some o → h'.get? b = some o) (hf : ∀ b ∈ l, FpOk X pins H b) : Inv X pins σ H { s with heap := h', toks := t' } := by
  have nit : ∀ b u, H b = some u → b ∉ l := fun b u e z => by rw [(hf b z).1] at e; cases e
  refine I.step (g' := s.gens) (d' := s.drawn) (ch := l) (fun b hb => ?_) (fun b o _ _ hc e _ => k b o hc e) (fun b o _ _ hc e _ => ⟨o.slots, k b o hc e⟩) (fun _ _ _ _ n => n)
    (fun b o hc e => ⟨o, k b o hc e⟩) (fun _ _ e => e) (fun _ _ _ e => e) (fun b ps e => ⟨#[], by rw [e]; simp⟩) (fun m hm => ?_) (fun b u e => ?_) I.bare
  · obtain ⟨f0, f1, f2, f3, f4, f5⟩ := hf b hb
    exact ⟨f3, f1, f4, f5⟩
  · obtain ⟨o, es, ep, ho, r⟩ := hm
    exact ⟨o, es, ep, k _ o (fun z => (hf _ z).2.1 rfl) ho, r⟩
  · refine (I.hok b u e).stay (fun c v hc q => k c v ?_ q) (fun _ q => q) fun _ _ q => q
    rcases hc with z | z
    · rw [z]; exact nit b u e
    · exact nit c _ z
/-- an untracked record of ours is tracked from now on -/
theorem Inv.track {t' : Nat} {T : Addr} {o : HO} (I : Inv X pins σ H s) (f : FpOk X pins H T) (new : ObjOk X.prog X.w (upd H T o) s.heap T o) (ht : ∀ xs, o = .tup xs → True) : Inv X pins σ (upd H T o) { s with toks := t' } := by
  obtain ⟨f0, f1, f2, f3, f4, f5⟩ := f
  refine I.step (h' := s.heap) (g' := s.gens) (d' := s.drawn) (ch := [T]) (fun b hb => ?_) (fun b ob _ _ hc e _ => e) (fun b ob _ _ hc e _ => ⟨ob.slots, e⟩) (fun b ob hc e n => ?_)
    (fun b ob hc e => ⟨ob, e⟩) (fun b xs e => ?_) (fun b ob u e => ?_) (fun b ps e => ⟨#[], ?_⟩) (fun m hm => hm) (fun b u e => ?_) I.bare
  · have e : b = T := by simpa using hb
    subst e
    exact ⟨f3, f1, f4, f5⟩
  · rw [upd_ne (fun z => hc (by simp [z]))]; exact n
  · rw [upd_ne (ne_of_none e f0)]; exact e
  · rw [upd_ne (ne_of_none e f0)]; exact e
  · rw [upd_ne (ne_of_none e f0), e]; simp
  · by_cases hb : b = T
    · subst hb
      rw [upd_same] at e
      cases e
      exact new
    · rw [upd_ne hb] at e
      refine (I.hok b u e).stay (fun c v _ q => q) (fun c q => ?_) fun c xs q => ?_
      · rw [upd_ne (ne_of_none q f0)]; exact q
      · rw [upd_ne (ne_of_none q f0)]; exact q
end

/-! ### zip of two lists -/
def Itz (K : PySem.W.Frag) (a b : Addr) : It :=
  ⟨fun i H => ∃ xs ys x y, SqL K H a xs ∧ SqL K H b ys ∧ xs[i]? = some x ∧ ys[i]? = some y,
   fun i H v H' => ∃ T x y, v = .ref T ∧ H T = none ∧ H' = upd H T (.tup [x, y]) ∧ (∀ xs, SqL K H a xs → xs[i]? = some x) ∧ ∀ ys, SqL K H b ys → ys[i]? = some y,
   fun i H => ∃ xs ys, SqL K H a xs ∧ SqL K H b ys ∧ (xs.length ≤ i ∨ ys.length ≤ i)⟩
section
variable {X : Cx}
def iZip (K : PySem.W.Frag) (ta : TA) : TI := fun σ H R => ta σ H fun vs H1 => ∃ a b xs ys, vs = [.ref a, .ref b] ∧ SqL K H1 a xs ∧ SqL K H1 b ys ∧ R (Itz K a b) H1
/-! ### enumerate of a list -/
end
def Ite (K : PySem.W.Frag) (a : Addr) : It :=
  ⟨fun i H => ∃ xs x, SqL K H a xs ∧ xs[i]? = some x,
   fun i H v H' => ∃ T x, v = .ref T ∧ H T = none ∧ H' = upd H T (.tup [.int (i : Nat), x]) ∧ ∀ xs, SqL K H a xs → xs[i]? = some x,
   fun i H => ∃ xs, SqL K H a xs ∧ xs.length ≤ i⟩
theorem turn_enum {P : Program} {w : World} {K : PySem.W.Frag} {elts : List Expr} {k0 : Nat} {pos : Pos} (a e it : Addr) (hei : e ≠ it) :
    Turn P w K (.Tuple elts k0 pos) (Ite K a) [e, it] e (fun i h => (∃ old, IsEnum h e it ((i : Nat) : Int) old) ∧ h.IsListIter it a i) where
  mem := by simp
  obj := fun i h st c hc => by
    obtain ⟨⟨old, he⟩, ⟨o1, e1, c1, d1⟩⟩ := st
    simp only [List.mem_cons, List.not_mem_nil, or_false] at hc
    rcases hc with rfl | rfl
    · exact ⟨_, he, fun v q => by cases q⟩
    · exact ⟨_, e1, fun v q => by rw [d1] at q; cases q⟩
  keep := fun i h h' st k => by
    obtain ⟨⟨old, he⟩, h1⟩ := st
    exact ⟨⟨old, k _ (by simp) _ he⟩, h1.at fun o e => k _ (by simp) o e⟩
  item := by
    intro X hP hw hK hc i pins s σ H E I hf st hg
    subst hP hw hK
    obtain ⟨⟨old, he⟩, h1⟩ := st
    obtain ⟨xs, x, hx, ex⟩ := hg
    obtain ⟨its, rv, p, _⟩ := I.list hx
    obtain ⟨u, hu, ru⟩ := rv.get ex
    refine wpAny_pyNext_enum_item he h1 p.isList (x := u) (by simpa using hu) hei fun h' a1 a2 a3 a4 hk => ?_
    refine ⟨_, rfl, wpAny_letOwnedTupleGo_enum a1 fun h'' he'' sb => ?_⟩
    have fT : FpOk X pins H s.heap.objs.size := I.fpOk (Nat.le_refl _) I.fresh
    have I1 : Inv X pins σ H { s with heap := h'', toks := s.toks + 1 } := I.turnedL (t' := s.toks + 1) (l := [e, it]) (fun c o hc q => sb.extBut _ _ (fun z => hc (by simp [z])) (hk c o (fun z => hc (by simp [z])) (fun z => hc (by simp [z])) q)) hf
    have hTe : s.heap.objs.size ≠ e := Nat.ne_of_gt (Heap.lt_size he)
    have hT'' : h''.get? s.heap.objs.size = some { cls := .type "tuple", data := .seq #[.int i s.toks, u] } := sb.extBut _ _ hTe a3
    have I2 : Inv X pins σ (upd H s.heap.objs.size (.tup [.int (i : Nat), x])) { s with heap := h'', toks := s.toks + 1 } := I1.track (t' := s.toks + 1) fT ⟨(by show 2 ≤ sizeLine; decide), [.int i s.toks, u], .cons ⟨_, rfl⟩ (.cons ru .nil), _, hT'', rfl, _, rfl⟩ (fun _ _ => trivial)
    refine ⟨.ref s.heap.objs.size, _, I2, rfl, ⟨_, x, rfl, I.fresh, rfl, fun zs hq => by rw [I.list_inj hq hx]; exact ex⟩, ?_, fun c hc => ?_⟩
    · exact ⟨⟨u, by rw [show (((i + 1 : Nat)) : Int) = (i : Int) + 1 by omega]; exact he''⟩, a2.extBut sb.extBut (Ne.symm hei)⟩
    · have hcl : c < s.heap.objs.size := by
        obtain ⟨o1, e1, _⟩ := h1
        simp only [List.mem_cons, List.not_mem_nil, or_false] at hc
        rcases hc with rfl | rfl
        · exact Heap.lt_size he
        · exact Heap.lt_size e1
      rw [upd_ne (Nat.ne_of_lt hcl)]
      exact (hf c hc).1
  done := by
    intro X hP hw hK hc i pins s σ H E I hf st hg
    subst hP hw hK
    obtain ⟨⟨old, he⟩, h1⟩ := st
    obtain ⟨xs, hx, hend⟩ := hg
    obtain ⟨its, rv, p, _⟩ := I.list hx
    have l1 := rv.length
    refine wpAny_pyNext_enum_end (I.ok.hd hc) he h1 p.isList (by simp; omega) fun h' hk => ⟨rfl, ?_⟩
    exact I.turnedL (t' := s.toks) (l := [e, it]) (fun c o hc q => hk c o (fun z => hc (by simp [z])) q) hf
  self := fun _ _ _ _ _ st h => by
    obtain ⟨⟨old, he⟩, _⟩ := st
    exact wpAny_pyIter_enum he h
section
variable {X : Cx}
def iEnum (K : PySem.W.Frag) (ta : TA) : TI := fun σ H R => ta σ H fun vs H1 => ∃ a xs, vs = [.ref a] ∧ SqL K H1 a xs ∧ R (Ite K a) H1
theorem pi_enumH {elts : List Expr} {k0 : Nat} {tpos : Pos} {a : Expr} {ta : TA} {p pos : Pos} (hg : Gl X "enumerate") (hm : X.mg "enumerate" = none) (ha : PA X [a] ta) (hs : starEach [a] X.env = [(false, eval a X.env)] := by rfl) :
    PI X (.Tuple elts k0 tpos) (.Call (.Name "enumerate" p) [a] [] pos) (iEnum X.K ta) := by
  intro pins s σ H R I h
  refine Call_ (ld_blt I hg hm boot_enumerate (PyProof.Rows.callWith_type1 (thn (ha pos pins s σ H _ I h) fun us s1 ⟨vs, H1, I1, r1, q1⟩ => ?_) hs rfl))
  obtain ⟨l1, xs, rfl, hx, q⟩ := q1
  obtain ⟨u, rfl, ru⟩ := vals1 r1
  cases ru
  obtain ⟨its, rx, px, _⟩ := I1.list hx
  refine call_enumerate_list px.isList fun h' z1 z2 z3 hk => ?_
  have I2 : Inv X pins σ H1 { s1 with heap := h' } := I1.kept (t' := s1.toks) hk
  refine wpAny_pyIter_enum z1 ⟨_, _, _, _, H1, rfl, I2, turn_enum l1 _ _ (Nat.ne_of_gt (Nat.lt_succ_self _)), ⟨⟨_, z1⟩, z2⟩, fun c hc => ?_, q⟩
  have hcl : s1.heap.objs.size ≤ c := by
    simp only [List.mem_cons, List.not_mem_nil, or_false] at hc
    rcases hc with rfl | rfl <;> omega
  exact I1.fpOk hcl (I1.hok.fresh hcl)
theorem pi_enumerate {K : PySem.W.Frag} {elts : List Expr} {k0 : Nat} {tpos : Pos} {a : Expr} {ta : TA} {p pos : Pos} (hg : Gl X "enumerate") (hm : X.mg "enumerate" = none) (ha : PA X [a] ta) (hs : starEach [a] X.env = [(false, eval a X.env)] := by rfl)
    (hK : X.K = K := by rfl) : PI X (.Tuple elts k0 tpos) (.Call (.Name "enumerate" p) [a] [] pos) (iEnum K ta) := hK ▸ pi_enumH hg hm ha hs
end
/-! ### loops over these -/
theorem forW_enum {K : PySem.W.Frag} {a : Addr} {xs : List V} {g : TG} {tb : TS} {D : Ends} {σ : St} {H : Hp} (Pv : Nat → St → Hp → Prop) (h0 : Pv 0 σ H) (hl : ∀ i σ H, i ≤ xs.length → Pv i σ H → SqL K H a xs)
    (hs : ∀ i x T σ H, xs[i]? = some x → H T = none → Pv i σ H → g (.ref T) σ (upd H T (.tup [.int (i : Nat), x])) fun σ2 H2 => tb { D with nx := Pv (i + 1), ct := Pv (i + 1), bk := D.nx } σ2 H2)
    (hd : ∀ σ H, Pv xs.length σ H → D.nx σ H) : forW (Ite K a) g tb D σ H := by
  refine ⟨fun i m σ H => m = xs.length - i ∧ i ≤ xs.length ∧ Pv i σ H, ⟨_, rfl, Nat.zero_le _, h0⟩, ?_⟩
  rintro i m σ H ⟨rfl, hi, p⟩
  have lx := hl i σ H hi p
  by_cases hlt : i < xs.length
  · refine .inr ⟨⟨xs, xs[i], lx, by simp⟩, Pv (i + 1), fun σ' H' p' => ⟨xs.length - (i + 1), by omega, rfl, hlt, p'⟩, fun v H' y => ?_⟩
    obtain ⟨T, x, rfl, hT, rfl, h1⟩ := y
    exact hs i x T σ _ (h1 xs lx) hT p
  · have e : i = xs.length := by omega
    subst e
    exact .inl ⟨⟨xs, lx, by omega⟩, hd σ H p⟩
end L2

set_option Elab.async false
set_option linter.all false
set_option maxRecDepth 100000
set_option maxHeartbeats 4000000
namespace L2
open PySem PySem.Spec PyProof.Rows
/-! ### what the laws' own small defs are worth -/
def mixN (c k : Int) : Int := ((c % 2147483647 * 48271 + 7919 * k + 1) % 2147483647) * ((c % 2147483647 * 48271 + 7919 * k + 1) % 2147483647) % 2147483647
theorem mixN_bd (c k : Int) : 0 ≤ mixN c k ∧ mixN c k < 2147483647 := by unfold mixN; omega
def sp_mixed : Sp := fun vs H Q _ => ∃ c k, vs = [.int c, .int k] ∧ Q (.int (mixN c k)) H
def sp_cell_at (K : PySem.W.Frag) : Sp := fun vs H Q _ => ∃ (p : Addr) (ns : List Int) (k : Int), vs = [.ref p, .int k] ∧ SqL K H p (ns.map V.int) ∧ 0 ≤ k ∧ Q (.int (ns.getD k.toNat 0)) H
def T62 : List Nat := [48, 49, 50, 51, 52, 53, 54, 55, 56, 57, 97, 98, 99, 100, 101, 102, 103, 104, 105, 106, 107, 108, 109, 110, 111, 112, 113, 114, 115, 116, 117, 118, 119, 120, 121, 122, 65, 66, 67, 68, 69, 70, 71, 72, 73, 74, 75, 76, 77, 78, 79, 80, 81, 82, 83, 84, 85, 86, 87, 88, 89, 90]
def T34 : List Nat := [32, 33, 34, 35, 36, 38, 39, 40, 41, 42, 43, 44, 45, 46, 47, 58, 59, 60, 61, 62, 63, 64, 91, 92, 93, 94, 95, 96, 123, 124, 125, 126, 10, 9]
def T96 : List Nat := T62 ++ T34
def sgn (n m : Int) : Nat := T96.getD (n % m).toNat 0
def sp_sign : Sp := fun vs H Q _ => ∃ n m : Int, vs = [.int n, .int m] ∧ 0 < m ∧ m ≤ 96 ∧ Q (.str (S [sgn n m])) H
theorem sgn_at (n m : Int) (h0 : 0 < m) (h1 : m ≤ 96) : T96[(n % m).toNat]? = some (sgn n m) := by
  have hl : (n % m).toNat < T96.length := by
    have h2 := Int.emod_lt_of_pos n h0
    have h3 := Int.emod_nonneg n (show m ≠ 0 by omega)
    have h4 : T96.length = 96 := by decide
    omega
  show T96[(n % m).toNat]? = some (T96.getD (n % m).toNat 0)
  rw [List.getD_eq_getElem?_getD, List.getElem?_eq_getElem hl]
  rfl
/-- texts of the blank to ~ but the per cent sign -/
def okSign (c : Nat) : Bool := decide (32 ≤ c) && decide (c ≤ 126) && decide (c ≠ 37)
def sp_law (K : PySem.W.Frag) : Sp := fun vs H Q _ => ∃ (p : Addr) (ns : List Int), vs = [.ref p] ∧ SqL K H p (ns.map V.int) ∧ ns.length ≤ 63 ∧ ∀ H', Q (.bl true) H'
/-- joined single signs -/
theorem join_signs (z : List Nat) : joinL [] (z.map fun k => [k]) = z := by
  rw [joinL_nil]
  induction z with
  | nil => rfl
  | cons x r ih => simp_all
theorem sum_signs (z : List Nat) : (List.map List.length (z.map fun k => [k])).sum = z.length := by
  induction z with
  | nil => rfl
  | cons x r ih => simp_all; omega
/-- a comprehension over the signs of a text -/
theorem compW_str {te : TE} {σ : St} {H : Hp} {Q : VK} {l : List Nat} (hn : l.length ≤ sizeLine) (f : Nat → V)
    (he : ∀ c H', c ∈ l → Same H H' → ∀ Qe : VK, (∀ H'', Same H' H'' → Qe (f c) H'') → te (some (.str (S [c])) :: σ) H' Qe)
    (hd : ∀ D H', H D = none → Same H H' → H' D = some (.lst (l.map f)) → Q (.ref D) H') : compW (Its (S l)) tYes te σ H Q := fun D hD =>
  comp_mapf (J := Its (S l)) l.length hn hD (fun i => .str (S [l.getD i 0])) (fun i => f (l.getD i 0)) (fun _ => true) (fun _ _ => by show (S l).cps.size ≤ l.length; simp) (fun i _ _ h => by show i < (S l).cps.size; simpa using h)
    (fun i H' x H'' _ hi y => by
      obtain ⟨rfl, c, hc, rfl⟩ := y
      have hc' : l[i]? = some c := by simpa using hc
      refine ⟨rfl, ?_⟩
      rw [List.getD_eq_getElem?_getD, hc']
      rfl)
    (fun i H' _ _ Qt q => q H' (Same.refl _))
    (fun i H' h _ s Qe q => he _ H' (by rw [List.getD_eq_getElem?_getD, List.getElem?_eq_getElem h]; exact List.getElem_mem h) s Qe q)
    (fun H' s h => hd D H' hD s (by
      rw [filter_true] at h
      rw [h]
      congr 2
      refine List.ext_getElem (by simp) fun i h1 h2 => ?_
      simp at h1 h2 ⊢
      rw [List.getElem?_eq_getElem h2]
      rfl))
theorem ixN_of {n : Nat} {i : Int} (h0 : 0 ≤ i) (h1 : i.toNat < n) : ixN n i = some i.toNat := by
  unfold ixN
  rw [if_pos h0, if_pos (by omega)]
end L2

set_option Elab.async false
set_option linter.all false
set_option maxRecDepth 100000
set_option maxHeartbeats 4000000
namespace L2
open PySem PySem.Spec PyProof.Rows
/-! ### equal data -/
def okS (l : List Nat) : Prop := ∀ c ∈ l, c < 1114112
def wd (n : Nat) (d : PyData) : Prop := d.canLay0 = true ∧ d.depth ≤ n
theorem wd_non (n : Nat) : wd n .none := ⟨rfl, Nat.zero_le _⟩
theorem wd_bl (n : Nat) (b : Bool) : wd n (.bool b) := ⟨rfl, Nat.zero_le _⟩
theorem wd_int (n : Nat) (i : Int) : wd n (.int i) := ⟨rfl, Nat.zero_le _⟩
theorem wd_str (n : Nat) {l : List Nat} (h : okS l) : wd n (.str (S l)) := by
  refine ⟨?_, Nat.zero_le _⟩
  show (S l).cps.all (· < 0x110000) = true
  simp
  exact h
theorem wd_all {n : Nat} : ∀ {ds : List PyData}, (∀ d ∈ ds, wd n d) → PyData.canLayAll0 ds = true ∧ PyData.depthAll ds ≤ n
  | [], _ => ⟨rfl, Nat.zero_le _⟩
  | d :: r, h => by
    obtain ⟨h1, h2⟩ := h d List.mem_cons_self
    obtain ⟨h3, h4⟩ := wd_all (n := n) (ds := r) fun x hx => h x (List.mem_cons_of_mem _ hx)
    refine ⟨?_, ?_⟩
    · rw [PyData.canLayAll0, h1, h3]; rfl
    · rw [PyData.depthAll]; exact Nat.max_le.mpr ⟨h2, h4⟩
theorem wd_list {n : Nat} {ds : List PyData} (h : ∀ d ∈ ds, wd n d) : wd (n + 1) (.list ds) := by
  obtain ⟨h1, h2⟩ := wd_all h
  exact ⟨by rw [PyData.canLay0]; exact h1, by rw [PyData.depth]; omega⟩
theorem wd_tuple {n : Nat} {ds : List PyData} (h : ∀ d ∈ ds, wd n d) : wd (n + 1) (.tuple ds) := by
  obtain ⟨h1, h2⟩ := wd_all h
  exact ⟨by rw [PyData.canLay0]; exact h1, by rw [PyData.depth]; omega⟩
theorem wd.shaped {n : Nat} {d : PyData} (h : wd n d) (hn : n ≤ 64 := by decide) : SeqAt.shaped d = true := by
  unfold SeqAt.shaped
  rw [h.1, decide_eq_true (Nat.le_trans h.2 hn)]
  rfl
theorem rNeq_same {K : PySem.W.Frag} {H : Hp} {Q : VK} {x y : V} {n : Nat} {d : PyData} (h1 : Den K H x d) (h2 : Den K H y d) (hw : wd n d) (hr : (isRef x || isRef y) = true) (q : Q (.bl false) H) (hn : n ≤ 64 := by decide) : rNeq K x y H Q :=
  rNeq_d hr h1 h2 (hw.shaped hn) (hw.shaped hn) (by rw [SeqAt.eqv_refl d hw.1]; exact q)
theorem rEqq_same {K : PySem.W.Frag} {H : Hp} {Q : VK} {x y : V} {n : Nat} {d : PyData} (h1 : Den K H x d) (h2 : Den K H y d) (hw : wd n d) (hr : (isRef x || isRef y) = true) (q : Q (.bl true) H) (hn : n ≤ 64 := by decide) : rEqq K x y H Q :=
  rEqq_d hr h1 h2 (hw.shaped hn) (hw.shaped hn) (by rw [SeqAt.eqv_refl d hw.1]; exact q)
theorem denAll_ints {K : PySem.W.Frag} {H : Hp} : ∀ ns : List Int, DenAll K H (ns.map V.int) (ns.map PyData.int)
  | [] => .nil
  | n :: r => .cons (.int n) (denAll_ints r)
theorem den_ints {K : PySem.W.Frag} {H : Hp} {p : Addr} {ns : List Int} (h : SqL K H p (ns.map V.int)) : Den K H (.ref p) (.list (ns.map PyData.int)) := .lst h (denAll_ints ns)
theorem wd_ints (ns : List Int) : wd 1 (.list (ns.map PyData.int)) := wd_list fun d hd => by
  obtain ⟨n, _, rfl⟩ := List.mem_map.mp hd
  exact wd_int 0 n
/-! ### a list that stays, whatever is done to the objects at A -/
def Scr (K : PySem.W.Frag) (H : Hp) (A : List Addr) (p : Addr) (xs : List V) : Prop := (SqL K H p xs ∧ p ∉ A) ∨ ∀ H', SqL K H' p xs
theorem Scr.chg {K : PySem.W.Frag} {H H' : Hp} {A : List Addr} {p : Addr} {xs : List V} (h : Scr K H A p xs) (c : Chg A H H') : Scr K H' A p xs := by
  rcases h with ⟨h, hp⟩ | h
  · refine .inl ⟨?_, hp⟩
    rcases h with (h | ⟨o, h⟩) | h
    · exact .inl (.inl (c.keep _ _ h hp))
    · exact .inl (.inr ⟨o, c.keep _ _ h hp⟩)
    · exact .inr h
  · exact .inr h
theorem Scr.mono {K : PySem.W.Frag} {H : Hp} {A B : List Addr} {p : Addr} {xs : List V} (h : Scr K H A p xs) (s : ∀ b ∈ B, b ∈ A) : Scr K H B p xs := h.elim (fun h => .inl ⟨h.1, fun z => h.2 (s _ z)⟩) .inr
theorem Scr.of {K : PySem.W.Frag} {H : Hp} {A : List Addr} {p : Addr} {xs : List V} (h : SqL K H p xs) (f : ∀ b ∈ A, H b = none) : Scr K H A p xs := by
  rcases h with (h' | ⟨o, h'⟩) | h'
  · exact .inl ⟨.inl (.inl h'), fun z => by rw [f p z] at h'; cases h'⟩
  · exact .inl ⟨.inl (.inr ⟨o, h'⟩), fun z => by rw [f p z] at h'; cases h'⟩
  · exact .inr fun _ => .inr h'
/-! ### lists of tuples of plain values -/
def scalD : V → PyData
  | .bl b => .bool b
  | .int i => .int i
  | .str x => .str x
  | _ => .none
theorem den_scal {K : PySem.W.Frag} {H : Hp} {v : V} (f : flatV v = true) : Den K H v (scalD v) := by
  cases v with
  | non => exact .non
  | bl b => exact .bl b
  | int i => exact .int i
  | str x => exact .str x
  | _ => exact absurd (show false = true from f) Bool.false_ne_true
theorem denAll_scal {K : PySem.W.Frag} {H : Hp} : ∀ {vs : List V}, vs.all flatV = true → DenAll K H vs (vs.map scalD)
  | [], _ => .nil
  | v :: r, h => by
    rw [List.all_cons, Bool.and_eq_true] at h
    exact .cons (den_scal h.1) (denAll_scal h.2)
def okV : V → Prop
  | .str x => okS x.cps.toList
  | _ => True
theorem wd_scal (n : Nat) {v : V} (h : okV v) : wd n (scalD v) := by
  cases v with
  | str x => have := wd_str n (l := x.cps.toList) h; rwa [← S_of] at this
  | bl b => exact wd_bl n b
  | int i => exact wd_int n i
  | _ => exact wd_non n
/-- the tuples at these addresses -/
def TupsAt (H : Hp) : List Addr → List (List V) → Prop := Paired fun t xs => H t = some (.tup xs)
def LTups (H : Hp) (D : Addr) (rows : List (List V)) : Prop := ∃ ts, H D = some (.lst (ts.map V.ref)) ∧ TupsAt H ts rows
theorem TupsAt.chg {A : List Addr} {H H' : Hp} {ts : List Addr} {rows : List (List V)} (h : TupsAt H ts rows) (c : Chg A H H') : TupsAt H' ts rows := Paired.mapP h fun _ _ e => c.tup _ _ e
theorem LTups.chg {A : List Addr} {H H' : Hp} {D : Addr} {rows : List (List V)} (h : LTups H D rows) (c : Chg A H H') (hD : D ∉ A) : LTups H' D rows := by
  obtain ⟨ts, e, t⟩ := h
  exact ⟨ts, c.keep _ _ e hD, t.chg c⟩
theorem LTups.same {H H' : Hp} {D : Addr} {rows : List (List V)} (h : LTups H D rows) (s : Same H H') : LTups H' D rows := h.chg (A := []) (Chg.of_same s) (by simp)
theorem TupsAt.den {K : PySem.W.Frag} {H : Hp} {ts : List Addr} {rows : List (List V)} (h : TupsAt H ts rows) : (∀ r ∈ rows, r.all flatV = true) → DenAll K H (ts.map V.ref) (rows.map fun r => .tuple (r.map scalD)) := by
  intro f
  unfold TupsAt at h
  induction h with
  | nil => exact .nil
  | @cons t xs ts rows e r ih =>
    exact .cons (.tup (.inl (.inl e)) (denAll_scal (f xs List.mem_cons_self))) (ih fun z hz => f z (List.mem_cons_of_mem _ hz))
theorem LTups.den {K : PySem.W.Frag} {H : Hp} {D : Addr} {rows : List (List V)} (h : LTups H D rows) (f : ∀ r ∈ rows, r.all flatV = true) : Den K H (.ref D) (.list (rows.map fun r => .tuple (r.map scalD))) := by
  obtain ⟨ts, e, t⟩ := h
  exact .lst (.inl (.inl e)) (t.den f)
theorem wd_rows {rows : List (List V)} (h : ∀ r ∈ rows, ∀ v ∈ r, okV v) : wd 2 (.list (rows.map fun r => .tuple (r.map scalD))) := wd_list fun d hd => by
  obtain ⟨r, hr, rfl⟩ := List.mem_map.mp hd
  exact wd_tuple fun e he => by
    obtain ⟨v, hv, rfl⟩ := List.mem_map.mp he
    exact wd_scal 0 (h r hr v hv)
theorem TupsAt.get {H : Hp} {ts : List Addr} {rows : List (List V)} (h : TupsAt H ts rows) : ∀ {i : Nat} {t : Addr}, ts[i]? = some t → ∃ xs, rows[i]? = some xs ∧ H t = some (.tup xs) := by
  unfold TupsAt at h
  induction h with
  | nil => intro i t e; simp at e
  | @cons a b as bs e r ih =>
    intro i t q
    cases i with
    | zero => simp at q; subst q; exact ⟨b, rfl, e⟩
    | succ i => simpa using ih (by simpa using q)
theorem TupsAt.length {H : Hp} {ts : List Addr} {rows : List (List V)} (h : TupsAt H ts rows) : ts.length = rows.length := Paired.length h
theorem TupsAt.snoc {H : Hp} {ts : List Addr} {rows : List (List V)} {t : Addr} {xs : List V} (h : TupsAt H ts rows) (e : H t = some (.tup xs)) : TupsAt H (ts ++ [t]) (rows ++ [xs]) := by
  unfold TupsAt at h ⊢
  induction h with
  | nil => exact .cons e .nil
  | cons e' r ih => exact .cons e' ih
theorem TupsAt.filter {H : Hp} {ts : List Addr} {rows : List (List V)} (h : TupsAt H ts rows) (p : Addr → Bool) (q : List V → Bool) (hpq : ∀ t xs, H t = some (.tup xs) → t ∈ ts → p t = q xs) : TupsAt H (ts.filter p) (rows.filter q) := by
  unfold TupsAt at h ⊢
  induction h with
  | nil => exact .nil
  | @cons t xs ts rows e r ih =>
    have ih' := ih fun t' xs' e' m' => hpq t' xs' e' (List.mem_cons_of_mem _ m')
    have hp := hpq t xs e List.mem_cons_self
    by_cases hq : q xs = true
    · rw [List.filter_cons_of_pos hq, List.filter_cons_of_pos (hp.trans hq)]
      exact .cons e ih'
    · rw [List.filter_cons_of_neg hq, List.filter_cons_of_neg (by rw [hp]; exact hq)]
      exact ih'
theorem TupsAt.take {H : Hp} {ts : List Addr} {rows : List (List V)} (h : TupsAt H ts rows) (n : Nat) : TupsAt H (ts.take n) (rows.take n) := by
  unfold TupsAt at h ⊢
  induction h generalizing n with
  | nil => simp; exact .nil
  | cons e r ih =>
    cases n with
    | zero => exact .nil
    | succ n => exact .cons e (ih n)
end L2

set_option Elab.async false
set_option linter.all false
set_option maxRecDepth 100000
set_option maxHeartbeats 4000000
namespace L2
open PySem PySem.Spec PyProof.Rows
/-! ### a row, as it stands -/
abbrev Ltr := List Nat × Option (List Nat) × Int
def wV : Option (List Nat) → V
  | none => .non
  | some l => .str (S l)
def letV (x : Ltr) : List V := [.str (S x.1), wV x.2.1, .int x.2.2]
structure RowM where
  first : Int
  last : Int
  drawn : Int
  L : Int → Option Ltr
def row0 : RowM := ⟨0, 0, 0, fun _ => none⟩
def rowF (M : RowM) (d : Addr) : List (Str × V) := [("first", .int M.first), ("end", .int M.last), ("drawn", .int M.drawn), ("letters", .ref d)]
/-- what a value says of a place: nothing, or the letter's tuple -/
def LetVal (H : Hp) : Option Ltr → V → Prop
  | none, v => v = .non
  | some x, v => ∃ t, v = .ref t ∧ H t = some (.tup (letV x))
def LetsAt (H : Hp) (kvs : List (Key × V)) (L : Int → Option Ltr) : Prop := ∀ p : Int, LetVal H (L p) ((valV kvs (.inl p)).getD .non) ∧ ((valV kvs (.inl p)).isSome = (L p).isSome)
theorem LetVal.chg {A : List Addr} {H H' : Hp} {o : Option Ltr} {v : V} (c : Chg A H H') (h : LetVal H o v) : LetVal H' o v := by
  cases o with
  | none => exact h
  | some x => obtain ⟨t, e, ht⟩ := h; exact ⟨t, e, c.tup _ _ ht⟩
theorem LetsAt.chg {A : List Addr} {H H' : Hp} {kvs : List (Key × V)} {L : Int → Option Ltr} (c : Chg A H H') (h : LetsAt H kvs L) : LetsAt H' kvs L := fun p => ⟨(h p).1.chg c, (h p).2⟩
theorem LetsAt.none {H : Hp} {kvs : List (Key × V)} {L : Int → Option Ltr} (h : LetsAt H kvs L) {p : Int} (e : L p = Option.none) : valV kvs (.inl p) = Option.none := by
  have := (h p).2
  rw [e] at this
  simpa using this
theorem LetsAt.some {H : Hp} {kvs : List (Key × V)} {L : Int → Option Ltr} (h : LetsAt H kvs L) {p : Int} {x : Ltr} (e : L p = Option.some x) : ∃ t, valV kvs (.inl p) = Option.some (.ref t) ∧ H t = Option.some (.tup (letV x)) := by
  obtain ⟨h1, h2⟩ := h p
  rw [e] at h1 h2
  obtain ⟨v, hv⟩ := Option.isSome_iff_exists.mp (h2.trans rfl)
  rw [hv] at h1
  obtain ⟨t, et, ht⟩ := h1
  refine ⟨t, ?_, ht⟩
  rw [hv]
  exact congrArg Option.some et
theorem LetsAt.put {H : Hp} {kvs : List (Key × V)} {L : Int → Option Ltr} (h : LetsAt H kvs L) {p : Int} {x : Ltr} {t : Addr} (ht : H t = Option.some (.tup (letV x))) : LetsAt H (putK kvs (.inl p) (.ref t)) (fun q => if q = p then Option.some x else L q) := by
  intro q
  rw [valV_put]
  by_cases e : q = p
  · subst e
    rw [if_pos rfl]
    dsimp only
    rw [if_pos rfl]
    exact ⟨⟨t, rfl, ht⟩, rfl⟩
  · have e' : ¬ (Sum.inl q : Key) = Sum.inl p := fun z => e (Sum.inl.inj z)
    rw [if_neg e']
    dsimp only
    rw [if_neg e]
    exact h q
theorem valV_drop {κ : Type} [DecidableEq κ] (kvs : List (κ × V)) (k j : κ) : valV (dropK kvs k) j = if j = k then Option.none else valV kvs j := by
  induction kvs with
  | nil => rw [show dropK ([] : List (κ × V)) k = [] from rfl, valV_nil]; split <;> rfl
  | cons p r ih =>
    by_cases e : p.1 = k
    · rw [dropK_pos e, ih]
      by_cases ej : j = k
      · rw [if_pos ej, if_pos ej]
      · rw [if_neg ej, if_neg ej, valV_neg (fun z => ej (z.symm.trans e))]
    · rw [dropK_neg e]
      by_cases ep : p.1 = j
      · rw [valV_pos ep, valV_pos ep, if_neg (fun z => e (ep.trans z))]
      · rw [valV_neg ep, valV_neg ep, ih]
theorem LetsAt.drop {H : Hp} {kvs : List (Key × V)} {L : Int → Option Ltr} (h : LetsAt H kvs L) (p : Int) : LetsAt H (dropK kvs (.inl p)) (fun q => if q = p then Option.none else L q) := by
  intro q
  rw [valV_drop]
  by_cases e : q = p
  · subst e
    rw [if_pos rfl]
    dsimp only
    rw [if_pos rfl]
    exact ⟨rfl, rfl⟩
  · have e' : ¬ (Sum.inl q : Key) = Sum.inl p := fun z => e (Sum.inl.inj z)
    rw [if_neg e']
    dsimp only
    rw [if_neg e]
    exact h q
structure RowAt (C : Addr) (H : Hp) (r d : Addr) (M : RowM) : Prop where
  obj : ∃ dx, H r = some (.ins C dx (rowF M d))
  dict : ∃ kvs, H d = some (.dK kvs) ∧ (kvs.length : Int) ≤ M.last ∧ LetsAt H kvs M.L
  f0 : 0 ≤ M.first
  fl : M.first ≤ M.last
  dr : 0 ≤ M.drawn
  within : ∀ p, (M.L p).isSome = true → M.first ≤ p ∧ p < M.last
theorem RowAt.chg {A : List Addr} {C : Addr} {H H' : Hp} {r d : Addr} {M : RowM} (h : RowAt C H r d M) (c : Chg A H H') (hr : r ∉ A) (hd : d ∉ A) : RowAt C H' r d M := by
  obtain ⟨dx, e⟩ := h.obj
  obtain ⟨kvs, e2, l, t⟩ := h.dict
  exact ⟨⟨dx, c.keep _ _ e hr⟩, ⟨kvs, c.keep _ _ e2 hd, l, t.chg c⟩, h.f0, h.fl, h.dr, h.within⟩
theorem RowAt.ne {C : Addr} {H : Hp} {r d : Addr} {M : RowM} (h : RowAt C H r d M) : r ≠ d := by
  obtain ⟨dx, e⟩ := h.obj
  obtain ⟨kvs, e2, _⟩ := h.dict
  exact ne_of e e2 (by intro z; cases z)
def RowM.add (M : RowM) (x : Ltr) : RowM := { M with last := M.last + 1, L := fun q => if q = M.last then some x else M.L q }
def RowM.out (M : RowM) (p : Int) : RowM := { M with L := fun q => if q = p then none else M.L q }
def RowM.upto (M : RowM) (p : Int) : Int := min p M.last
def RowM.cut (M : RowM) (p : Int) : RowM := { M with first := max M.first (M.upto p), L := fun q => if q < M.upto p then none else M.L q }
def RowM.raised (M : RowM) (p : Int) : RowM := { M with drawn := max M.drawn p }
/-- the places from lo on, n of them, where a letter stands -/
def RowM.standing (M : RowM) (lo : Int) (n : Nat) : List Int := ((List.range n).map fun (i : Nat) => lo + (i : Int)).filter fun q => (M.L q).isSome
def okL (x : Ltr) : Prop := okS x.1 ∧ ∀ w, x.2.1 = some w → okS w
def wordD : Option (List Nat) → PyData
  | none => .none
  | some l => .str (S l)
def letD (x : Ltr) : PyData := .tuple [.str (S x.1), wordD x.2.1, .int x.2.2]
/-- what is told of a place -/
def RowM.rowV (M : RowM) (p : Int) : List V := match M.L p with
  | some x => [.int p, .str (S x.1), wV x.2.1]
  | none => []
def RowM.seenP (M : RowM) (start limit most : Int) : List Int := (M.standing (max start M.first) (min limit M.last - max start M.first).toNat).take most.toNat
def sp_row_seen (C : Addr) : Sp := fun vs H Q _ => ∃ (r d : Addr) (M : RowM) (st li mo : Int), vs = [.ref r, .int st, .int li, .int mo] ∧ RowAt C H r d M ∧ M.last ≤ 100000 ∧ 0 ≤ st ∧ st ≤ 10 ^ 12 ∧ 0 ≤ li ∧ 0 ≤ mo ∧
  ∀ D H', H D = none → Same H H' → LTups H' D ((M.seenP st li mo).map M.rowV) → Q (.ref D) H'
def sp_row_init (C : Addr) : Sp := fun vs H Q _ => ∃ x dx, vs = [.ref x] ∧ H x = some (.ins C dx []) ∧ ∀ d H', H d = none → d ≠ x → Chg [x] H H' → RowAt C H' x d row0 → Q .non H'
def sp_row_add (C : Addr) : Sp := fun vs H Q _ => ∃ (r d : Addr) (M : RowM) (x : Ltr), vs = [.ref r, .str (S x.1), wV x.2.1, .int x.2.2] ∧ RowAt C H r d M ∧ M.last ≤ 100000 ∧ ∀ H', Chg [r, d] H H' → RowAt C H' r d (M.add x) → Q (.int M.last) H'
def sp_row_at (C : Addr) : Sp := fun vs H Q _ => ∃ (r d : Addr) (M : RowM) (p : Int), vs = [.ref r, .int p] ∧ RowAt C H r d M ∧ ∀ v, LetVal H (M.L p) v → Q v H
def sp_row_out (C : Addr) : Sp := fun vs H Q _ => ∃ (r d : Addr) (M : RowM) (p : Int), vs = [.ref r, .int p] ∧ RowAt C H r d M ∧ ∀ H', Chg [d] H H' → RowAt C H' r d (M.out p) → Q (.bl (M.L p).isSome) H'
def sp_row_cut (C : Addr) : Sp := fun vs H Q _ => ∃ (r d : Addr) (M : RowM) (p : Int), vs = [.ref r, .int p] ∧ RowAt C H r d M ∧ M.last ≤ 100000 ∧ -100000000000 ≤ p ∧
  ∀ D H', H D = none → Chg [r, d] H H' → RowAt C H' r d (M.cut p) → H' D = some (.lst ((M.standing M.first (M.upto p - M.first).toNat).map V.int)) → Q (.ref D) H'
def sp_row_raise (C : Addr) : Sp := fun vs H Q _ => ∃ (r d : Addr) (M : RowM) (p : Int), vs = [.ref r, .int p] ∧ RowAt C H r d M ∧ ∀ H', Chg [r] H H' → RowAt C H' r d (M.raised p) → Q .non H'
end L2

set_option Elab.async false
set_option linter.all false
set_option maxRecDepth 100000
set_option maxHeartbeats 4000000
namespace L2
open PySem PySem.Spec PyProof.Rows

/-! ### list(range(..)) -/
section
variable {X : Cx}
def rngV (lo : Int) (n : Nat) : List V := (List.range n).map fun (i : Nat) => V.int (lo + (i : Int))
def rngI (lo : Int) (n : Nat) : List Int := (List.range n).map fun (i : Nat) => lo + (i : Int)
def tLR1 (ta : TA) : TE := fun σ H Q => ta σ H fun vs H1 => ∃ j : Int, vs = [.int j] ∧ -(2 ^ 62) ≤ j ∧ j ≤ sizeLine ∧ ∀ l, H1 l = none → Q (.ref l) (upd H1 l (.lst (rngV 0 j.toNat)))
def tLR2 (ta : TA) : TE := fun σ H Q => ta σ H fun vs H1 => ∃ i j : Int, vs = [.int i, .int j] ∧ (-(2 ^ 62) ≤ i ∧ i < 2 ^ 62 ∧ -(2 ^ 62) ≤ j ∧ j < 2 ^ 62) ∧ j - i ≤ sizeLine ∧ ∀ l, H1 l = none → Q (.ref l) (upd H1 l (.lst (rngV i (j - i).toNat)))
theorem vals_items {lo : Int} {n : Nat} {acc : Array Value} (h : ItemsOf (fun i v => ∃ t, v = .int (lo + i * 1) t) acc n) : Vals (rngV lo n) acc.toList := by
  obtain ⟨hs, hv⟩ := h
  have key : ∀ (k : Nat) (l : List Value), l.length = k → ∀ lo : Int, (∀ (j : Nat) v, l[j]? = some v → ∃ t, v = Value.int (lo + (j : Int) * 1) t) → Vals (rngV lo k) l := by
    intro k
    induction k with
    | zero => intro l hl lo _; cases l with
      | nil => exact .nil
      | cons => cases hl
    | succ k ih =>
      intro l hl lo hv
      cases l with
      | nil => cases hl
      | cons u us =>
        have e : rngV lo (k + 1) = V.int lo :: rngV (lo + 1) k := by
          unfold rngV
          rw [List.range_succ_eq_map, List.map_cons, List.map_map]
          congr 1
          · simp
          · refine List.map_congr_left fun a _ => ?_
            simp only [Function.comp]
            congr 1
            push_cast
            omega
        rw [e]
        obtain ⟨t, ht⟩ := hv 0 u rfl
        refine .cons ⟨t, by rw [ht]; simp⟩ (ih us (by simpa using hl) (lo + 1) fun j v hj => ?_)
        obtain ⟨t', ht'⟩ := hv (j + 1) v (by simpa using hj)
        exact ⟨t', by rw [ht']; congr 1; push_cast; omega⟩
  exact key n acc.toList (by simpa using hs) lo fun j v hj => by simpa using hv j v (by simpa using hj)
theorem list_rangeH {pins : List (Addr × Obj)} {σ : St} {H : Hp} {s : Shared} {Q : VK} {E : Value → Shared → Prop} {lo hi : Int} {t u v : Tok} {tk : Nat} (hc : X.calm = true) (I : Inv X pins σ H s) (h1 : -(2 ^ 62) ≤ lo) (h2 : lo < 2 ^ 62) (h3 : -(2 ^ 62) ≤ hi) (h4 : hi < 2 ^ 62)
    (hn : hi - lo ≤ sizeLine) (q : ∀ l, H l = none → Q (.ref l) (upd H l (.lst (rngV lo (hi - lo).toNat)))) :
    wpAny (model X.prog X.w) X.A (call (.type "list") [.ref s.heap.objs.size]) (EP X pins σ Q) E { s with heap := s.heap.push { cls := .type "range", data := .fields #[.int lo t, .int hi u, .int 1 v] }, toks := tk } := by
  have I1 : Inv X pins σ H { s with heap := s.heap.push { cls := .type "range", data := .fields #[.int lo t, .int hi u, .int 1 v] }, toks := tk } := I.kept fun b o e => Heap.get?_push_of_some _ e
  have e2 : Builtin.Range.rangeSize lo hi 1 = (((hi - lo).toNat : Nat) : Int) := by rw [rangeSize_one]; split <;> omega
  have hsl : sizeLine ≤ 2 ^ 24 := by decide
  refine call_list_range (n := (hi - lo).toNat) (I.ok.hd hc) (IsRange.new ..) (small_one h1 h2 h3 h4) e2 (by omega) fun h' tk' acc' c' kp e hacc => ?_
  have hv := vals_items hacc
  exact ⟨.ref _, _, I1.laid (t' := tk') kp (Nat.le_refl _) (show ObjOk X.prog X.w _ h' _ (.lst _) from ⟨by rw [rngV]; simp; omega, acc'.toList, c', hv, e⟩), rfl, q _ (I1.hok.fresh (Nat.le_refl _))⟩
theorem pe_listRange2 {a b : Expr} {ta : TA} {p p' pos pos' : Pos} (hc : X.calm = true) (hg' : Gl X "list") (hm' : X.mg "list" = none) (hg : Gl X "range") (hm : X.mg "range" = none) (ha : PA X [a, b] ta)
    (hs : starEach [a, b] X.env = [(false, eval a X.env), (false, eval b X.env)] := by rfl) (hs2 : starEach [b] X.env = [(false, eval b X.env)] := by rfl)
    (he : starEach [.Call (.Name "range" p) [a, b] [] pos] X.env = [(false, eval (.Call (.Name "range" p) [a, b] [] pos) X.env)] := by rfl) :
    PE X (.Call (.Name "list" p') [.Call (.Name "range" p) [a, b] [] pos] [] pos') (tLR2 ta) := by
  intro pins s σ H Q I h
  refine wpAny_Call_Name_kw (ld_blt I hg' hm' boot_list ?_ (by decide) (by decide))
  refine PyProof.Rows.callWith_type1 ?_ he rfl
  rw [he]
  show wpAny _ _ (spliced [(false, eval (.Call (.Name "range" p) [a, b] [] pos) X.env)]) _ _ s
  refine Calls.spliced_cons (Call_ (ld_blt I hg hm boot_range (PyProof.Rows.callWith_type1 (thn (ha pos pins s σ H _ I h) fun us s1 ⟨vs, H1, I1, r1, q1⟩ => ?_) (by rw [hs, hs2]) (by rw [hs2]; rfl))))
  obtain ⟨i, j, e, ⟨q1, q2, q3, q4⟩, q5, q⟩ := q1
  subst e
  cases r1 with
  | cons r rr =>
    cases rr with
    | cons r' rr =>
      cases rr
      obtain ⟨t, rfl⟩ := r
      obtain ⟨t', rfl⟩ := r'
      exact call_range_2 (Calls.spliced_nil (list_rangeH hc I1 q1 q2 q3 q4 q5 q))
/-! ### sorted(list of ints) -/
def rSortI (K : PySem.W.Frag) : List V → Hp → VK → Prop := fun xs H Q => ∃ (p : Addr) (ns : List Int), xs = [.ref p] ∧ SqL K H p (ns.map V.int) ∧ ns.length < 64 ∧
  ∀ l (ms : List Int), H l = none → ms.Perm ns → ms.Pairwise (· ≤ ·) → Q (.ref l) (upd H l (.lst (ms.map V.int)))
end

/-! ### len(set(list of texts)) -/
def addS (l : List Str) (x : Str) : List Str := if l.any (· == x) then l else l ++ [x]
def onceS (l : List Str) : List Str := l.foldl addS []
theorem onceS_snoc (l : List Str) (x : Str) : onceS (l ++ [x]) = addS (onceS l) x := by simp [onceS]
theorem onceS_any : ∀ (n : Nat) (l : List Str), l.length = n → ∀ k, (onceS l).any (· == k) = l.any (· == k) := by
  intro n
  induction n with
  | zero => intro l hl k; cases l with
    | nil => rfl
    | cons => cases hl
  | succ n ih =>
    intro l hl k
    obtain ⟨m, x, rfl⟩ : ∃ m x, l = m ++ [x] := ⟨l.dropLast, l.getLast (by intro z; rw [z] at hl; cases hl), (List.dropLast_concat_getLast _).symm⟩
    have hm : m.length = n := by simpa using hl
    rw [onceS_snoc, List.any_append]
    unfold addS
    split
    · rename_i h
      rw [ih m hm] at h ⊢
      by_cases e : x = k
      · subst e; rw [h]; simp
      · simp [e]
    · rw [List.any_append, ih m hm]
theorem onceS_len_le : ∀ (n : Nat) (l : List Str), l.length = n → (onceS l).length ≤ n := by
  intro n
  induction n with
  | zero => intro l hl; cases l with
    | nil => exact Nat.le_refl _
    | cons => cases hl
  | succ n ih =>
    intro l hl
    obtain ⟨m, x, rfl⟩ : ∃ m x, l = m ++ [x] := ⟨l.dropLast, l.getLast (by intro z; rw [z] at hl; cases hl), (List.dropLast_concat_getLast _).symm⟩
    have := ih m (by simpa using hl)
    rw [onceS_snoc]
    unfold addS
    split
    · omega
    · rw [List.length_append, List.length_singleton]; omega
theorem onceS_nodup : ∀ (n : Nat) (l : List Str), l.length = n → l.Nodup → (onceS l).length = n := by
  intro n
  induction n with
  | zero => intro l hl; cases l with
    | nil => intro _; rfl
    | cons => cases hl
  | succ n ih =>
    intro l hl hd
    obtain ⟨m, x, rfl⟩ : ∃ m x, l = m ++ [x] := ⟨l.dropLast, l.getLast (by intro z; rw [z] at hl; cases hl), (List.dropLast_concat_getLast _).symm⟩
    have hm : m.length = n := by simpa using hl
    have hx : x ∉ m := fun z => by
      have := List.nodup_append.mp hd
      exact this.2.2 x z x (by simp) rfl
    rw [onceS_snoc]
    unfold addS
    rw [if_neg, List.length_append, ih m hm (List.nodup_append.mp hd).1, List.length_singleton]
    rw [onceS_any n m hm]
    intro z
    obtain ⟨y, hy, e⟩ := List.any_eq_true.mp z
    exact hx (by rw [← eq_of_beq e]; exact hy)
section
variable {prog : Program} {w : World} {A : Around} {s : Shared}
theorem setOf_re {K : Type} [DecidableEq K] [BEq K] [LawfulBEq K] {knd : KeyKind prog w K} {h : Heap} {a : Addr} {S S' : K → Bool} {n n' : Nat} (hS : h.SetOf knd a S n) (e : ∀ k, S k = S' k) (en : n = n') : h.SetOf knd a S' n' := by
  rw [← funext e, ← en]; exact hS
/-- the loop of set(..) over texts: what stands of them is in the set, each once -/
theorem loop_setT {R : Result → Shared → Prop} {I S : Addr} {fp wr : List Addr} {G : Array GenState → Array GenState → Prop} {ls : List Str} {P : Nat → Value → Prop} {St : Nat → Shared → Prop} (W : WalksS prog w A.in1 I fp wr G ls.length P St) (hSf : S ∉ fp)
    (hval : ∀ i v, P i v → ∃ x t, ls[i]? = some x ∧ v = .str x t) (hb : ls.length + 1 < scanBound) :
    ∀ (k i : Nat) (s : Shared), ls.length - i = k → i ≤ ls.length → St i s →
      s.heap.SetOf (strKind prog w) S (fun x => (onceS (ls.take i)).any (· == x)) (onceS (ls.take i)).length →
      (∀ s', Moved (S :: wr) G s s' → s'.heap.SetOf (strKind prog w) S (fun x => (onceS ls).any (· == x)) (onceS ls).length → R (.ok (.ret .none)) s') →
      codeAny (model prog w) A (.builtin "set.update.loop" ⟨[.ref S, .ref I], []⟩) R s := by
  have hSw : S ∉ wr := fun h => hSf (W.sub _ h)
  have hsub : ∀ b ∈ wr, b ∈ S :: wr := fun b hb => List.mem_cons_of_mem _ hb
  have carry : ∀ {T : Str → Bool} {m : Nat} {s s' : Shared}, Moved wr G s s' → s.heap.SetOf (strKind prog w) S T m → s'.heap.SetOf (strKind prog w) S T m := by
    rintro T m s s' hm ⟨o, es, ep, t, ho, rest⟩
    exact ⟨o, es, ep, t, hm.heap S _ hSw ho, rest⟩
  intro k
  induction k with
  | zero =>
    intro i s hk hi hst hS hR
    have hin : i = ls.length := by omega
    refine codeAny_builtin PyProof.Rows.F.entry_set_update_loop ?_
    rw [Around.under_plainId PyProof.Rows.F.plain_set_update_loop _]
    show wpAny _ A.in1 (pyNext (.ref I) >>= _) _ _ s
    rw [hin] at hst hS
    rw [List.take_length] at hS
    refine wpAny_bind (W.done s _ _ hst fun s' hm => ?_)
    show wpAny _ A.in1 (ret Value.none) _ _ s'
    exact wpAny_pure (hR s' (hm.mono hsub) (carry hm hS))
  | succ k ih =>
    intro i s hk hi hst hS hR
    refine codeAny_builtin PyProof.Rows.F.entry_set_update_loop ?_
    rw [Around.under_plainId PyProof.Rows.F.plain_set_update_loop _]
    show wpAny _ A.in1 (pyNext (.ref I) >>= _) _ _ s
    refine wpAny_bind (W.item i s _ _ (by omega) hst fun v s' hP hst' hm => ?_)
    obtain ⟨x, t, hx, rfl⟩ := hval i v hP
    have hS' := carry hm hS
    show wpAny _ A.in1 (holding [Value.str x t] (setAdd S (.str x t)) >>= _) _ _ s'
    refine wpAny_bind (wpAny_holding ?_)
    unfold setAdd
    refine wpAny_holding ?_
    refine wpAny_bind ((strKind prog w).pyHash (k := x) (strKind_is _ _ _ _) ?_)
    have hroom : (onceS (ls.take i)).length + 1 < scanBound := by
      have := onceS_len_le _ (ls.take i) rfl
      rw [List.length_take] at this
      omega
    refine wpAny_setAddHashed_of (knd := strKind prog w) (s := { s' with toks := s'.toks + 1 }) (strKind_is _ _ _ _) rfl hS' hroom fun h' hsb hS2 => ?_
    have et : ls.take (i + 1) = ls.take i ++ [x] := by rw [List.take_succ, hx]; rfl
    have hSi : h'.SetOf (strKind prog w) S (fun y => (onceS (ls.take (i + 1))).any (· == y)) (onceS (ls.take (i + 1))).length := by
      refine setOf_re hS2 (fun y => ?_) ?_
      · rw [et, onceS_snoc]
        unfold addS
        by_cases h : (onceS (ls.take i)).any (· == x) = true
        · rw [if_pos h]
          by_cases e : y = x
          · subst e; rw [h]; rfl
          · simp [e]
        · rw [if_neg h, List.any_append]
          by_cases e : y = x
          · subst e; simp
          · have e' : ¬ x = y := fun z => e z.symm
            simp [e, e']
      · rw [et, onceS_snoc]
        unfold addS
        split <;> simp
    refine wpAny_pure ⟨plainId_quiet PyProof.Rows.F.plain_set_update_loop _, ih (i + 1) _ (by omega) (by omega) (W.frame _ s' _ _ hst' (Nat.le_succ _) fun b hb o e => ?_) hSi fun s'' hm'' hS'' => ?_⟩
    · rw [hsb.2 b (fun h : b = S => hSf (by rw [← h]; exact hb))]; exact e
    · refine hR s'' (Moved.trans W.gtrans ((hm.mono hsub).then_heap (Nat.le_succ _) fun b o hb e => ?_) hm'') hS''
      rw [hsb.2 b (fun h : b = S => hb (by rw [h]; exact List.mem_cons_self))]; exact e
end
section
variable {prog : Program} {w : World} {A : Around} {E : Value → Shared → Prop} {s : Shared}
def emptySet (led : Bool) : Obj := { cls := .type "set", dict := none, data := .set #[] 0 (.fresh 0 0 led) }
/-- what the init of a set leaves -/
def SetDone (prog : Program) (w : World) (s : Shared) (ls : List Str) (s₂ : Shared) : Prop := ∃ h' tk, s₂ = { s with heap := h', toks := tk } ∧ h'.SetOf (strKind prog w) s.heap.objs.size (fun x => (onceS ls).any (· == x)) (onceS ls).length ∧
  ∀ b o, s.heap.get? b = some o → h'.get? b = some o
theorem init_setT {l : Addr} {items : Array Value} {ls : List Str} {led : Bool} (hh : A.handled = none) (hl : s.heap.IsList l items) (hs : items.size = ls.length) (hi : ∀ (i : Nat) (v : Value), items[i]? = some v → ∃ x t, ls[i]? = some x ∧ v = .str x t) (hb : ls.length + 1 < scanBound) :
    wpAny (model prog w) A.in1.in1 (Builtin.«set.__init__» ⟨[.ref s.heap.objs.size, .ref l], []⟩)
      (fun fin s' => match fin with | .done f => wants (fun r s₂ => r = .none ∧ SetDone prog w s ls s₂) E (.ok f) s' | .again c' => c'.quiet = true ∧ codeAny (model prog w) A.in1 c' (wants (fun r s₂ => r = .none ∧ SetDone prog w s ls s₂) E) s')
      (fun e s' => wants (fun r s₂ => r = .none ∧ SetDone prog w s ls s₂) E (.error e) s') { s with heap := s.heap.push (emptySet led) } := by
  obtain ⟨⟨ocls, odict, odata, oslots⟩, hol, hcl, nl, hdl⟩ := id hl
  simp only at hcl hdl
  subst hcl; subst hdl
  have hlS : l < s.heap.objs.size := Heap.lt_size hol
  have hol' : (s.heap.push (emptySet led)).get? l = some { cls := .type "list", dict := odict, data := .seq items nl, slots := oslots } := Heap.get?_push_of_some _ hol
  have hS : (s.heap.push (emptySet led)).get? s.heap.objs.size = some (emptySet led) := Heap.get?_push_size _ rfl
  have hl1 : (s.heap.push (emptySet led)).IsList l items := ⟨_, hol', rfl, nl, rfl⟩
  have hsls := PySem.F.sub_list_set
  have hslf := PySem.F.sub_list_frozenset
  have hne : (Value.type "list" == Value.type "dict") = false := by decide
  unfold Builtin.«set.__init__» noKeywords Builtin.Frozenset.updateFrom
  generalize hPI : pyIter = PI
  wp_walk
  subst hPI
  refine wpAny_pyIter_list hl1 ?_
  refine wpAny_bind (wpAny_runValue ?_)
  have hneI : l ≠ (s.heap.push (emptySet led)).objs.size := by rw [Heap.size_push]; exact Nat.ne_of_lt (Nat.lt_succ_of_lt hlS)
  have hSf : s.heap.objs.size ∉ [(s.heap.push (emptySet led)).objs.size, l] := by
    rw [Heap.size_push]
    simp only [List.mem_cons, List.not_mem_nil, or_false, not_or]
    exact ⟨Nat.ne_of_lt (Nat.lt_succ_self _), Nat.ne_of_gt hlS⟩
  have W := (Walks.list (prog := prog) (w := w) (A := A.in1.in1.in1) (by simp [hh]) _ l hneI items).toS
  rw [hs] at W
  refine loop_setT W hSf hi hb (ls.length - 0) 0 _ (by omega) (Nat.zero_le _) ⟨⟨_, Heap.get?_push_size _ rfl, rfl, rfl⟩, (hl1.push _)⟩ ?_ fun s' hm hS' => ?_
  · exact setOf_re ((PyProof.Rows.setObjOf_fresh (knd := strKind prog w) led).setOf (Heap.get?_push_of_some _ hS) (by unfold scanBound; omega)) (fun _ => rfl) rfl
  · obtain ⟨h', g', d', tk', os'⟩ := s'
    have eg : g' = s.gens := hm.gens
    have ed : d' = s.drawn := hm.drawn
    have eo : os' = s.os := hm.os
    subst eg; subst ed; subst eo
    show wpAny _ _ _ _ _ _
    refine wpAny_pure ?_
    show wpAny _ _ (ret Value.none) _ _ _
    refine wpAny_pure ⟨rfl, h', tk', rfl, hS', fun b o e => ?_⟩
    have hb' := Heap.lt_size e
    refine hm.heap b o ?_ (Heap.get?_push_of_some _ (Heap.get?_push_of_some _ e))
    rw [Heap.size_push]
    simp only [List.mem_cons, List.not_mem_nil, or_false, not_or]
    exact ⟨Nat.ne_of_lt hb', Nat.ne_of_lt (Nat.lt_succ_of_lt hb')⟩
theorem call_setT {l : Addr} {items : Array Value} {ls : List Str} {Q : Value → Shared → Prop} (hh : A.handled = none) (hl : s.heap.IsList l items) (hs : items.size = ls.length) (hi : ∀ (i : Nat) (v : Value), items[i]? = some v → ∃ x t, ls[i]? = some x ∧ v = .str x t) (hb : ls.length + 1 < scanBound)
    (h : ∀ s', SetDone prog w s ls s' → Q (.ref s.heap.objs.size) s') : wpAny (model prog w) A (call (.type "set") [.ref l]) Q E s := by
  have ft := PySem.F.called_set
  obtain ⟨c, tl, hmro⟩ := ft.mro
  have hmade := ft.made
  have hsub := ft.sub
  refine wpAny_call (codeAny_of_tree ?_)
  show wpAny _ _ (callAny (.type "set") _) _ _ _
  refine wpAny_pure ⟨Code.quiet_builtin _ (by decide +kernel), codeAny_builtin PySem.F.entry_type_call ?_⟩
  rw [Around.under_plain (weight_type_call_type "set" [.ref l] []) rfl]
  have h1 := ft.notType
  have h2 := ft.canCreate
  have hct := PySem.F.typeCall_set_1 (.ref l)
  repeat (any_goals (first | assumption | wp_step))
  refine codeAny_mono (code_set_new_1 (.ref l) (E := E) (Q₁ := fun obj s₁ => ∃ led : Bool, obj = .ref s.heap.objs.size ∧ s₁ = { s with heap := s.heap.push (emptySet led) }) fun led => ⟨led, rfl, rfl⟩) fun r s₁ hr => ?_
  cases r with
  | error e => exact hr
  | ok fl =>
    cases fl with
    | ret obj =>
      obtain ⟨led, rfl, rfl⟩ := hr
      have hS : (s.heap.push (emptySet led)).get? s.heap.objs.size = some (emptySet led) := Heap.get?_push_size _ rfl
      have hT : Shared.TypeIs { s with heap := s.heap.push (emptySet led) } (.ref s.heap.objs.size) "set" := ⟨_, hS, rfl⟩
      have hli := ft.init.lookup
      have hbi := ft.init.bind (.ref s.heap.objs.size)
      repeat (any_goals (first | assumption | wp_step))
      refine codeAny_mono (codeAny_call_builtin ft.init.plain PySem.F.entry_set_init (check_set_init_1 hT (init_setT (E := E) hh hl hs hi hb))) fun r₂ s₂ hr₂ => ?_
      cases r₂ with
      | error e => exact hr₂
      | ok fl₂ =>
        cases fl₂ with
        | ret r =>
          obtain ⟨rfl, hd⟩ := hr₂
          repeat (any_goals (first | assumption | wp_step))
          exact h _ hd
        | _ => exact hr₂.elim
    | _ => exact hr.elim
end
section
variable {X : Cx}
theorem strs_at : ∀ {ls : List Str} {us : List Value}, Vals (ls.map V.str) us → ∀ (i : Nat) (v : Value), us[i]? = some v → ∃ x t, ls[i]? = some x ∧ v = .str x t
  | [], us, r, i, v, h => by cases r; simp at h
  | x :: ls, us, r, i, v, h => by
    cases r with
    | cons r1 r2 =>
      cases i with
      | zero => obtain ⟨t, rfl⟩ := r1; simp at h; exact ⟨x, t, rfl, h.symm⟩
      | succ i => simpa using strs_at r2 i v (by simpa using h)
def tLenSet (K : PySem.W.Frag) (te : TE) : TE := fun σ H Q => te σ H fun x H1 => ∃ (p : Addr) (ls : List Str), x = .ref p ∧ SqL K H1 p (ls.map V.str) ∧ ls.length ≤ 4000 ∧ Q (.int (onceS ls).length) H1
theorem pe_lenSet {K : PySem.W.Frag} {e : Expr} {te : TE} {p p' pos pos' : Pos} (hc : X.calm = true) (hg' : Gl X "len") (hm' : X.mg "len" = none) (hg : Gl X "set") (hm : X.mg "set" = none) (hE : PE X e te) (hK : X.K = K := by rfl)
    (hs : starEach [e] X.env = [(false, eval e X.env)] := by rfl)
    (he : starEach [.Call (.Name "set" p) [e] [] pos] X.env = [(false, eval (.Call (.Name "set" p) [e] [] pos) X.env)] := by rfl) :
    PE X (.Call (.Name "len" p') [.Call (.Name "set" p) [e] [] pos] [] pos') (tLenSet K te) := by
  subst hK
  intro pins s σ H Q I h
  refine wpAny_Call_Name_kw (ld_blt I hg' hm' boot_len ?_ (by decide) (by decide))
  refine PyProof.Rows.callWith_builtin1 ?_ he rfl
  rw [he]
  show wpAny _ _ (spliced [(false, eval (.Call (.Name "set" p) [e] [] pos) X.env)]) _ _ s
  refine Calls.spliced_cons (Call_ (ld_blt I hg hm boot_set (PyProof.Rows.callWith_type1 ?_ hs rfl)))
  rw [hs]
  show wpAny _ _ (spliced [(false, eval e X.env)]) _ _ s
  refine Calls.spliced_cons (thn (hE pins s σ H _ I h) fun u s1 ⟨v, H1, I1, r1, q1⟩ => ?_)
  obtain ⟨a, ls, rfl, hq, hl, q⟩ := q1
  cases r1
  obtain ⟨its, rv, pl, hz⟩ := I1.list hq
  have hlen : its.length = ls.length := by have := rv.length; simpa using this.symm
  refine Calls.spliced_nil (call_setT (ls := ls) (I1.ok.hd hc) pl.isList (by simpa using hlen) (fun i v hi => strs_at rv i v (by simpa using hi)) (by rw [show scanBound = 4096 from rfl]; omega) fun s2 hd => ?_)
  obtain ⟨h', tk, rfl, hS, kp⟩ := hd
  have I2 : Inv X pins σ H1 { s1 with heap := h', toks := tk } := I1.kept kp
  obtain ⟨o, es, ep, t, ho, hex, hd, hel, hmem, hb, hf, hn⟩ := hS
  have hle := onceS_len_le _ ls rfl
  refine Calls.spliced_nil (call_len_set ho hex hd hf (by omega) ?_)
  rw [hn]
  exact ⟨.int (onceS ls).length, H1, I2.tok _, ⟨_, rfl⟩, q⟩
/-- a tuple of the module -/
def TConst (K : PySem.W.Frag) (mg : Str → Option Value) (x : Str) (xs : List V) : Prop := ∃ p, mg x = some (.ref p) ∧ ∀ H, SqT K H p xs
def tCT (K : PySem.W.Frag) (xs : List V) : TE := fun _ H Q => ∀ p, (∀ H', SqT K H' p xs) → Q (.ref p) H
theorem pe_constT {K : PySem.W.Frag} {x : Str} {xs : List V} {pos : Pos} (c : TConst K X.mg x xs) (hg : Gl X x := by rfl) (hd : (x == ("__debug__" : Str)) = false := by decide) : PE X (.Name x pos) (tCT K xs) := by
  intro pins s σ H Q I h
  obtain ⟨p, hm, hq⟩ := c
  exact pe_glob (v := .ref p) hg hm rfl hd pins s σ H Q I (h p hq)
end
end L2

set_option Elab.async false
set_option linter.all false
set_option maxRecDepth 100000
set_option maxHeartbeats 4000000
namespace L2
open PySem PySem.Spec PyProof.Rows
/-! ### a comprehension whose target is a tuple of names -/
def hideT (xs : List Str) (y : Str) : Str := if y ∈ xs then Str.empty else y
abbrev blkT (X : Cx) (xs : List Str) (scope : Scope) (M : List Str) (C : Addr) (s₀ : Shared) (H₀ : Hp) (fp : List Addr) : Cx :=
  { X with N := xs ++ M, s₀ := s₀, H₀ := H₀, env := compEnvC scope (closOf X.env.cells scope.names []) C X.env, outer := X.stack, stack := X.stack, ex := fp, fn := fun _ => false, pn := [], xe := fun _ _ => False }
structure CompOkT (N M : List Str) (sc : Scope) (xs : List Str) (scope : Scope) : Prop where
  kind : scope.kind = .function
  cell : ∀ y ∈ scope.names, y.2 ≠ .cell
  names : ∀ y ∈ scope.names, y.2 = .local → scope.names.lookup y.1 = some .local
  free : ∀ y ∈ scope.names, y.2 = .free → sc.names.lookup y.1 = some .cell ∨ sc.names.lookup y.1 = some .free
  hid : N.map (hideT xs) = M
  others : ∀ y ∈ M, scope.names.lookup y ≠ some .local
  void : scope.names.lookup Str.empty = none
def tCompT (n : Nat) (wi : TI) (g : TG) (tt : TT) (te : TE) : TE := fun σ H Q => wi σ H fun J H1 => ∀ D, H1 D = none → ∃ W : Nat → Nat → List V → Hp → Prop, (∃ m, W 0 m [] (upd H1 D (.lst []))) ∧ ∀ i m ys H2, W i m ys H2 →
  (J.stop i H2 ∧ H2 D = some (.lst ys) ∧ Q (.ref D) H2) ∨ (J.go i H2 ∧ ys.length < sizeLine ∧ ∀ x H3, J.yld i H2 x H3 → ∀ o : St, o.length = n → g x (o ++ σ) H3 fun σ' H3' => (∃ o' : St, o'.length = n ∧ σ' = o' ++ σ) ∧ tt σ' H3' fun b H4 =>
    if b = true then te σ' H4 fun y H5 => H5 D = some (.lst ys) ∧ ∃ m', m' < m ∧ W (i + 1) m' (ys ++ [y]) (upd H5 D (.lst (ys ++ [y]))) else ∃ m', m' < m ∧ W (i + 1) m' ys H4)
section
variable {X : Cx} {pins : List (Addr × Obj)} {σ : St} {H2 : Hp} {s2 : Shared} {E : Value → Shared → Prop}
variable {elt iter tg : Expr} {ifs : List Expr} {xs : List Str} {pos : Pos} {g : TG} {N M : List Str} {sc scope : Scope} {tt : TT} {te : TE} {it : Addr} {fp : List Addr} {tn : Nat → Heap → Prop} {J : It}
end
section
variable {X : Cx} {elt iter c tg : Expr} {ifs : List Expr} {xs : List Str} {y : Str} {py pos spos : Pos} {scope sc : Scope} {N M : List Str} {wi : TI} {tt : TT} {te : TE} {g : TG}
end
end L2

set_option Elab.async false
set_option linter.all false
set_option maxRecDepth 100000
set_option maxHeartbeats 4000000
namespace L2
open PySem PySem.Spec PyProof.Rows
/-! ### a dict is walked: frozen while the loop runs, thawed behind it -/
section
variable {X : Cx} {pins : List (Addr × Obj)} {σ : St} {H : Hp} {s : Shared} {d : Addr} {kvs : List (Key × V)} {od : Obj}
/-- a dict that is not frozen at the entry: it may be frozen and thawed here -/
structure Cold (X : Cx) (d : Addr) : Prop where
  tup : ∀ xs, X.H₀ d ≠ some (.tup xs)
  frz : ∀ o u, X.H₀ d ≠ some (.frz o u)
  tbl : ∀ ps, X.H₀ d ≠ some (.tbl ps)
end
/-- the pairs of the dict at d -/
def Iti (d : Addr) (od : Obj) (kvs : List (Key × V)) : It :=
  ⟨fun i H => H d = some (.frz od (.dK kvs)) ∧ i < kvs.length, fun i H v H' => ∃ T k x, v = .ref T ∧ H T = none ∧ H' = upd H T (.tup [kV k, x]) ∧ kvs[i]? = some (k, x) ∧ valV kvs k = some x, fun i H => H d = some (.frz od (.dK kvs)) ∧ kvs.length ≤ i⟩
/-- its keys -/
def Itk (d : Addr) (od : Obj) (kvs : List (Key × V)) : It :=
  ⟨fun i H => H d = some (.frz od (.dK kvs)) ∧ i < kvs.length, fun i H v H' => H' = H ∧ ∃ k x, v = kV k ∧ kvs[i]? = some (k, x) ∧ valV kvs k = some x, fun i H => H d = some (.frz od (.dK kvs)) ∧ kvs.length ≤ i⟩
/-- its values -/
def Itv (d : Addr) (od : Obj) (kvs : List (Key × V)) : It :=
  ⟨fun i H => H d = some (.frz od (.dK kvs)) ∧ i < kvs.length, fun i H v H' => H' = H ∧ ∃ k, kvs[i]? = some (k, v), fun i H => H d = some (.frz od (.dK kvs)) ∧ kvs.length ≤ i⟩
/-- what the object od says -/
def Says (P : Program) (w : World) (d : Addr) (od : Obj) (kvs : List (Key × V)) (vs : List (Key × Value)) (ep : Nat) : Prop := KV kvs vs ∧ ∀ h : Heap, h.get? d = some od → h.DictAt (mixKind P w) d vs ep
/-! the judgement: an iterator over a frozen dict has come -/
abbrev TIF := St → Hp → (Addr → Obj → List (Key × V) → It → Hp → Prop) → Prop
def PIEF (X : Cx) (pins : List (Addr × Obj)) (σ : St) (tg : Expr) (R : Addr → Obj → List (Key × V) → It → Hp → Prop) (itv : Value) (s2 : Shared) : Prop :=
  ∃ (it : Addr) (fp : List Addr) (tn : Nat → Heap → Prop) (J : It) (H' : Hp) (d : Addr) (od : Obj) (kvs : List (Key × V)), itv = .ref it ∧ Inv X pins σ H' s2 ∧ Turn X.prog X.w X.K tg J fp it tn ∧ tn 0 s2.heap ∧ (∀ b ∈ fp, FpOk X pins H' b) ∧ Cold X d ∧ R d od kvs J H'
def PIF (X : Cx) (tg iter : Expr) (wi : TIF) : Prop :=
  ∀ (pins : List (Addr × Obj)) (s : Shared) (σ : St) (H : Hp) (R : Addr → Obj → List (Key × V) → It → Hp → Prop), Inv X pins σ H s → wi σ H R →
    wpAny (model X.prog X.w) X.A (eval iter X.env) (fun v s1 => wpAny (model X.prog X.w) X.A (pyIter v) (PIEF X pins σ tg R) X.xe s1) X.xe s
def iItems (td : TE) : TIF := fun σ H R => td σ H fun x H1 => ∃ d kvs, x = .ref d ∧ H1 d = some (.dK kvs) ∧ ∀ od, R d od kvs (Iti d od kvs) (upd H1 d (.frz od (.dK kvs)))
def iKeys (td : TE) : TIF := fun σ H R => td σ H fun x H1 => ∃ d kvs, x = .ref d ∧ H1 d = some (.dK kvs) ∧ ∀ od, R d od kvs (Itk d od kvs) (upd H1 d (.frz od (.dK kvs)))
def iVals (td : TE) : TIF := fun σ H R => td σ H fun x H1 => ∃ d kvs, x = .ref d ∧ H1 d = some (.dK kvs) ∧ ∀ od, R d od kvs (Itv d od kvs) (upd H1 d (.frz od (.dK kvs)))
section
variable {X : Cx} {o : Expr} {apos cpos : Pos} {td : TE}
end
/-! ### for -/
def thawE (d : Addr) (od : Obj) (kvs : List (Key × V)) (D : Ends) : Ends :=
  { D with nx := fun σ H => H d = some (.frz od (.dK kvs)) ∧ D.nx σ (upd H d (.dK kvs)), rt := fun v H => H d = some (.frz od (.dK kvs)) ∧ D.rt v (upd H d (.dK kvs)) }
def tForD (wi : TIF) (g : TG) (tb : TS) : TS := fun D σ H => wi σ H fun d od kvs J H1 => forW J g tb (thawE d od kvs D) σ H1
section
variable {X : Cx} {tg : Expr}
end
theorem tForD_eq (wi : TIF) (g : TG) (tb : TS) (D : Ends) (σ : St) (H : Hp) : tForD wi g tb D σ H = wi σ H fun d od kvs J H1 => forW J g tb (thawE d od kvs D) σ H1 := rfl
/-! ### a comprehension over a dict -/
def tCompD (n : Nat) (wi : TIF) (g : TG) (tt : TT) (te : TE) : TE := fun σ H Q => wi σ H fun d od kvs J H1 => ∀ D, H1 D = none → ∃ W : Nat → Nat → List V → Hp → Prop, (∃ m, W 0 m [] (upd H1 D (.lst []))) ∧ ∀ i m ys H2, W i m ys H2 →
  (J.stop i H2 ∧ H2 D = some (.lst ys) ∧ H2 d = some (.frz od (.dK kvs)) ∧ Q (.ref D) (upd H2 d (.dK kvs))) ∨ (J.go i H2 ∧ ys.length < sizeLine ∧ ∀ x H3, J.yld i H2 x H3 → ∀ o : St, o.length = n → g x (o ++ σ) H3 fun σ' H3' => (∃ o' : St, o'.length = n ∧ σ' = o' ++ σ) ∧ tt σ' H3' fun b H4 =>
    if b = true then te σ' H4 fun y H5 => H5 D = some (.lst ys) ∧ ∃ m', m' < m ∧ W (i + 1) m' (ys ++ [y]) (upd H5 D (.lst (ys ++ [y]))) else ∃ m', m' < m ∧ W (i + 1) m' ys H4)
section
variable {X : Cx} {elt iter c tg : Expr} {ifs : List Expr} {xs : List Str} {y : Str} {py pos spos : Pos} {scope sc : Scope} {N M : List Str} {wi : TIF} {tt : TT} {te : TE} {g : TG}
end
end L2

set_option Elab.async false
set_option linter.all false
set_option maxRecDepth 100000
set_option maxHeartbeats 4000000
namespace L2
open PySem PySem.Spec PyProof.Rows
/-! ### text * int -/
def repL (n : Nat) (l : List Nat) : List Nat := (List.replicate n l).flatten
theorem foldl_app_toList (xs : List (Array Nat)) : ∀ a : Array Nat, (xs.foldl (· ++ ·) a).toList = a.toList ++ (xs.map Array.toList).flatten := by
  induction xs with
  | nil => intro a; simp
  | cons x r ih => intro a; rw [List.foldl_cons, ih]; simp
theorem mul_S (l : List Nat) (n : Int) : Txt.mul (S l) n = S (repL n.toNat l) := by
  unfold Txt.mul repL
  by_cases h1 : n < 1
  · rw [if_pos h1]
    have : n.toNat = 0 := by omega
    rw [this]
    rfl
  · rw [if_neg h1]
    by_cases h2 : (n == 1 || (S l).length == 0) = true
    · rw [if_pos h2]
      rw [Bool.or_eq_true] at h2
      rcases h2 with h2 | h2
      · have : n = 1 := by simpa using h2
        subst this
        simp
      · have : l = [] := by
          have : (S l).length = 0 := by simpa using h2
          rw [S_len] at this
          exact List.length_eq_zero_iff.mp this
        subst this
        congr 1
        simp
    · rw [if_neg h2]
      show (⟨_⟩ : Str) = ⟨_⟩
      congr 1
      apply Array.toList_inj.mp
      rw [foldl_app_toList]
      simp
def rRepT : R2 := fun x y H Q => ∃ l n, x = .str (S l) ∧ y = .int n ∧ -(2 ^ 62) ≤ n ∧ n ≤ 65536 ∧ l.length ≤ 200 ∧ Q (.str (S (repL n.toNat l))) H
section
variable {X : Cx}
theorem op_repT : OpR X (binaryOp .Mult) rRepT := by
  intro pins s σ H x y v u Q I rx ry h
  obtain ⟨l, n, rfl, rfl, h0, h1, hl, q⟩ := h
  obtain ⟨t, rfl⟩ := rx
  obtain ⟨t', rfl⟩ := ry
  refine SB.mul ⟨?_, fun h2 _ => ?_, fun h2 _ => ?_⟩ fun t'' k => ⟨.str (S (repL n.toNat l)), H, I.tok k, ⟨t'', by rw [mul_S]⟩, q⟩
  · rw [decide_eq_false (by omega), decide_eq_false (by omega)]; rfl
  · rw [S_len]
    intro h3
    have h4 : (2 ^ 63 - 1 : Int) / n ≥ (2 ^ 63 - 1) / 65536 := by
      refine Int.le_ediv_of_mul_le (by omega) ?_
      have : (2 ^ 63 - 1 : Int) / 65536 * n ≤ (2 ^ 63 - 1 : Int) / 65536 * 65536 := Int.mul_le_mul_of_nonneg_left h1 (by decide)
      have : (2 ^ 63 - 1 : Int) / 65536 * 65536 ≤ 2 ^ 63 - 1 := by decide
      omega
    have h5 : (2 ^ 63 - 1 : Int) / 65536 > 200 := by decide
    omega
  · rw [S_len]
    have h3 : l.length * n.toNat ≤ 200 * 65536 := Nat.mul_le_mul hl (by omega)
    have e : Builtin.Str.tooLong (l.length * n.toNat) = decide (l.length * n.toNat > sizeLine) := rfl
    rw [e, decide_eq_false]
    rw [sizeLine_eq]
    omega
def rMulA : R2 := fun x y H Q => rI CMul (fun i j => .int (i * j)) x y H Q ∨ rRepT x y H Q
theorem op_mulA : OpR X (binaryOp .Mult) rMulA := op_mul.or op_repT
theorem rMul_ii {H : Hp} {Q : VK} (i j : Int) : rMulA (.int i) (.int j) H Q = (CMul i j ∧ Q (.int (i * j)) H) := by
  simp [rMulA, rI, rRepT]
theorem rMul_si {H : Hp} {Q : VK} (z : Str) (n : Int) : rMulA (.str z) (.int n) H Q = ∃ l, z = S l ∧ -(2 ^ 62) ≤ n ∧ n ≤ 65536 ∧ l.length ≤ 200 ∧ Q (.str (S (repL n.toNat l))) H := by
  simp [rMulA, rI, rRepT]
/-! ### isinstance(x, (A, B)) -/
def rIsiT (K : PySem.W.Frag) : List V → Hp → VK → Prop := fun xs H Q => ∃ (x : V) (t : Value) (p : Addr) (ns : List String) (b : Bool), xs = [x, .ref p] ∧ H p = some (.tup (ns.map V.ty)) ∧ TyOf K H x t ∧ PySem.W.kitAny K t (ns.map Value.type) = some b ∧ Q (.bl b) H
/-! ### d.clear() -/
def rDClear : V → List V → Hp → VK → Prop := fun x vs H Q => ∃ a kvs, x = .ref a ∧ vs = [] ∧ H a = some (.dK kvs) ∧ Q .non (upd H a (.dK []))
def tDClear (td : TE) : TE := fun σ H Q => td σ H fun x H1 => ∃ a kvs, x = .ref a ∧ H1 a = some (.dK kvs) ∧ Q .non (upd H1 a (.dK []))
end
/-! ### reversed(list) -/
def Itv' (K : PySem.W.Frag) (a : Addr) (n : Nat) : It :=
  ⟨fun i H => i < n ∧ ∃ xs, SqL K H a xs ∧ xs.length = n, fun i H x H' => H' = H ∧ ∀ xs, SqL K H a xs → xs[n - 1 - i]? = some x, fun i H => n ≤ i⟩
section
variable {X : Cx}
def iRev (K : PySem.W.Frag) (ta : TA) : TI := fun σ H R => ta σ H fun vs H1 => ∃ a xs, vs = [.ref a] ∧ SqL K H1 a xs ∧ R (Itv' K a xs.length) H1
end
end L2

set_option Elab.async false
set_option linter.all false
set_option maxRecDepth 100000
set_option maxHeartbeats 4000000
namespace L2
open PySem PySem.Spec PyProof.Rows
/-! ### a lending, as it stands -/
abbrev Loan := Int × List Nat × Int
def loanV (x : Loan) : List V := [.int x.1, .str (S x.2.1), .int x.2.2]
structure LendM where
  row : Int
  start : Int
  turns : Int
  tries : Int
  width : Int
  lent : Int
  F : Int → Option Str
  T : Int → Int
  L : Int → Option Loan
  sz : Nat
def lend0 (r s t n w : Int) : LendM := ⟨r, s, t, n, w, 0, fun _ => none, fun _ => 0, fun _ => none, 0⟩
def lendF (M : LendM) (f t l : Addr) : List (Str × V) := [("row", .int M.row), ("start", .int M.start), ("turns", .int M.turns), ("tries", .int M.tries), ("width", .int M.width), ("lent", .int M.lent), ("fates", .ref f), ("tried", .ref t), ("loans", .ref l)]
/-- what a dict's answer says of a loan -/
def LoanO (H : Hp) : Option Loan → Option V → Prop
  | none, v => v = none
  | some x, v => ∃ t, v = some (.ref t) ∧ H t = some (.tup (loanV x))
/-- what a value says of a loan -/
def LoanVal (H : Hp) : Option Loan → V → Prop
  | none, v => v = .non
  | some x, v => ∃ t, v = .ref t ∧ H t = some (.tup (loanV x))
theorem LoanO.val {H : Hp} {o : Option Loan} {v : Option V} (h : LoanO H o v) : LoanVal H o (v.getD .non) := by
  cases o with
  | none => rw [show v = none from h]; rfl
  | some x => obtain ⟨t, e, ht⟩ := h; exact ⟨t, by rw [e]; rfl, ht⟩
theorem LoanO.chg {A : List Addr} {H H' : Hp} {o : Option Loan} {v : Option V} (c : Chg A H H') (h : LoanO H o v) : LoanO H' o v := by
  cases o with
  | none => exact h
  | some x => obtain ⟨t, e, ht⟩ := h; exact ⟨t, e, c.tup _ _ ht⟩
def fateV : Option Str → V
  | none => .non
  | some z => .str z
structure LendAt (C : Addr) (H : Hp) (r f t l : Addr) (M : LendM) : Prop where
  obj : ∃ dx, H r = some (.ins C dx (lendF M f t l))
  fat : ∃ kvs, H f = some (.dK kvs) ∧ kvs.length ≤ M.sz ∧ (∀ p : Int, valV kvs (.inl p) = (M.F p).map V.str) ∧ ∀ z, valV kvs (.inr z) = none
  tri : ∃ kvs, H t = some (.dK kvs) ∧ kvs.length ≤ M.sz ∧ ∀ p : Int, (valV kvs (.inl p)).getD (.int 0) = .int (M.T p)
  loa : ∃ kvs, H l = some (.dK kvs) ∧ kvs.length ≤ M.sz ∧ (∀ p : Int, LoanO H (M.L p) (valV kvs (.inl p))) ∧ ∀ z, valV kvs (.inr z) = none
  rf : r ≠ f
  rt : r ≠ t
  rl : r ≠ l
  ft : f ≠ t
  fl : f ≠ l
  tl : t ≠ l
theorem LendAt.chg {A : List Addr} {C : Addr} {H H' : Hp} {r f t l : Addr} {M : LendM} (h : LendAt C H r f t l M) (c : Chg A H H') (hr : r ∉ A) (hf : f ∉ A) (ht : t ∉ A) (hl : l ∉ A) : LendAt C H' r f t l M := by
  obtain ⟨dx, e⟩ := h.obj
  obtain ⟨k1, e1, l1, v1, w1⟩ := h.fat
  obtain ⟨k2, e2, l2, v2⟩ := h.tri
  obtain ⟨k3, e3, l3, v3, w3⟩ := h.loa
  exact ⟨⟨dx, c.keep _ _ e hr⟩, ⟨k1, c.keep _ _ e1 hf, l1, v1, w1⟩, ⟨k2, c.keep _ _ e2 ht, l2, v2⟩, ⟨k3, c.keep _ _ e3 hl, l3, fun p => (v3 p).chg c, w3⟩, h.rf, h.rt, h.rl, h.ft, h.fl, h.tl⟩
def LendM.lend (M : LendM) (p : Int) (tk : List Nat) (turn : Int) : LendM :=
  { M with lent := M.lent + 1, L := fun q => if q = p then some (M.lent + 1, tk, turn + M.turns) else M.L q, T := fun q => if q = p then M.T p + 1 else M.T q, sz := M.sz + 1 }
def LendM.back (M : LendM) (p : Int) : LendM := { M with L := fun q => if q = p then none else M.L q }
def LendM.fate (M : LendM) (p : Int) (z : Str) : LendM := { M with L := fun q => if q = p then none else M.L q, F := fun q => if q = p then some z else M.F q, sz := M.sz + 1 }
def LendM.isLent (M : LendM) (p turn : Int) : Bool := match M.L p with
  | some x => decide (turn < x.2.2)
  | none => false
def sp_l_init (C : Addr) : Sp := fun vs H Q _ => ∃ (x dx : Addr) (r s t n w : Int), vs = [.ref x, .int r, .int s, .int t, .int n, .int w] ∧ H x = some (.ins C dx []) ∧
  ∀ f u l H', H f = none → H u = none → H l = none → Chg [x] H H' → LendAt C H' x f u l (lend0 r s t n w) → Q .non H'
def sp_l_lend (C : Addr) : Sp := fun vs H Q _ => ∃ (r f t l : Addr) (M : LendM) (p : Int) (tk : List Nat) (turn : Int), vs = [.ref r, .int p, .str (S tk), .int turn] ∧ LendAt C H r f t l M ∧ M.sz ≤ 100000 ∧
  ∀ H', Chg [r, t, l] H H' → LendAt C H' r f t l (M.lend p tk turn) → Q (.int (M.lent + 1)) H'
def sp_l_next (C : Addr) : Sp := fun vs H Q _ => ∃ (r f t l : Addr) (M : LendM), vs = [.ref r] ∧ LendAt C H r f t l M ∧ Q (.int (M.lent + 1)) H
def sp_l_loan_at (C : Addr) : Sp := fun vs H Q _ => ∃ (r f t l : Addr) (M : LendM) (p : Int), vs = [.ref r, .int p] ∧ LendAt C H r f t l M ∧ ∀ v, LoanVal H (M.L p) v → Q v H
def sp_l_tried_at (C : Addr) : Sp := fun vs H Q _ => ∃ (r f t l : Addr) (M : LendM) (p : Int), vs = [.ref r, .int p] ∧ LendAt C H r f t l M ∧ Q (.int (M.T p)) H
def sp_l_fate_at (C : Addr) : Sp := fun vs H Q _ => ∃ (r f t l : Addr) (M : LendM) (p : Int), vs = [.ref r, .int p] ∧ LendAt C H r f t l M ∧ Q (fateV (M.F p)) H
def sp_l_back (C : Addr) : Sp := fun vs H Q _ => ∃ (r f t l : Addr) (M : LendM) (p : Int), vs = [.ref r, .int p] ∧ LendAt C H r f t l M ∧ ∀ H', Chg [l] H H' → LendAt C H' r f t l (M.back p) → Q .non H'
def sp_l_fate (C : Addr) (z : Str) : Sp := fun vs H Q _ => ∃ (r f t l : Addr) (M : LendM) (p : Int), vs = [.ref r, .int p] ∧ LendAt C H r f t l M ∧ M.sz ≤ 100000 ∧ ∀ H', Chg [f, l] H H' → LendAt C H' r f t l (M.fate p z) → Q .non H'
def sp_l_place_of (C : Addr) : Sp := fun vs H Q _ => ∃ (r f t l : Addr) (M : LendM) (p turn : Int) (x : Loan), vs = [.ref r, .int x.1, .int turn] ∧ LendAt C H r f t l M ∧ M.L p = some x ∧ 1 ≤ x.1 ∧ turn < x.2.2 ∧
  (∀ q y, M.L q = some y → y.1 = x.1 → q = p) ∧ ∀ H', Same H H' → Q (.int p) H'
def sp_l_is_lent (C : Addr) : Sp := fun vs H Q _ => ∃ (r f t l : Addr) (M : LendM) (p turn : Int), vs = [.ref r, .int p, .int turn] ∧ LendAt C H r f t l M ∧ Q (.bl (M.isLent p turn)) H
end L2

set_option Elab.async false
set_option linter.all false
set_option maxRecDepth 100000
set_option maxHeartbeats 4000000
namespace L2
open PySem PySem.Spec PyProof.Rows
/-! ### tables of letters -/
/-- place, key, word -/
abbrev L3 := Int × List Nat × Option (List Nat)
def l3V (x : L3) : List V := [.int x.1, .str (S x.2.1), wV x.2.2]
def lastW : List L3 → List Nat → Option (Option (List Nat))
  | [], _ => none
  | x :: r, k => match lastW r k with
    | some y => some y
    | none => if x.2.1 = k then some x.2.2 else none
theorem lastW_app (a b : List L3) (k : List Nat) : lastW (a ++ b) k = match lastW b k with
    | some y => some y
    | none => lastW a k := by
  induction a with
  | nil => rw [List.nil_append]; cases lastW b k <;> rfl
  | cons x r ih =>
    rw [List.cons_append, lastW, ih]
    cases hb : lastW b k with
    | some y => rfl
    | none => rw [lastW]
theorem lastW_snoc (a : List L3) (x : L3) (k : List Nat) : lastW (a ++ [x]) k = if x.2.1 = k then some x.2.2 else lastW a k := by
  rw [lastW_app]
  by_cases h : x.2.1 = k
  · rw [if_pos h]; simp [lastW, h]
  · rw [if_neg h]; simp [lastW, h]
/-- the word that a table of the letters has for a key -/
def wordAt (l : List L3) (k : List Nat) : Option (List Nat) := (lastW l k).join
def NdK (kvs : List (Key × V)) : Prop := (kvs.map (·.1)).Nodup
theorem nd_sub_len {α : Type} [DecidableEq α] : ∀ {l m : List α}, l.Nodup → (∀ x ∈ l, x ∈ m) → l.length ≤ m.length
  | [], m, _, _ => Nat.zero_le _
  | a :: r, m, h, s => by
    rw [List.nodup_cons] at h
    have ha : a ∈ m := s a List.mem_cons_self
    have ih := nd_sub_len (l := r) (m := m.erase a) h.2 fun x hx => (List.mem_erase_of_ne (fun (z : x = a) => h.1 (by rw [← z]; exact hx))).mpr (s x (List.mem_cons_of_mem _ hx))
    rw [List.length_erase_of_mem ha] at ih
    have : 0 < m.length := List.length_pos_of_mem ha
    rw [List.length_cons]
    omega
theorem NdK.nil : NdK [] := List.nodup_nil
theorem NdK.put {kvs : List (Key × V)} (h : NdK kvs) (k : Key) (v : V) : NdK (putK kvs k v) := by
  unfold putK
  by_cases a : (kvs.any fun kv => decide (kv.1 = k)) = true
  · rw [if_pos a]
    unfold NdK
    rw [List.map_map]
    have e : ((fun x : Key × V => x.1) ∘ fun kv : Key × V => if kv.1 = k then (kv.1, v) else kv) = fun x => x.1 := by
      funext x
      show (if x.1 = k then (x.1, v) else x).1 = x.1
      split <;> rfl
    rw [e]
    exact h
  · rw [if_neg a]
    unfold NdK
    rw [List.map_append, List.nodup_append]
    refine ⟨h, by simp, fun x hx y hy => ?_⟩
    have hy' : y = k := by simpa using hy
    subst hy'
    rintro rfl
    obtain ⟨p, hp, e⟩ := List.mem_map.mp hx
    exact a (List.any_eq_true.mpr ⟨p, hp, decide_eq_true e⟩)
theorem NdK.drop {kvs : List (Key × V)} (h : NdK kvs) (k : Key) : NdK (dropK kvs k) := by
  unfold NdK dropK
  exact List.Nodup.sublist (List.Sublist.map _ List.filter_sublist) h
/-- two tables with the same keys have one length -/
theorem NdK.len {a b : List (Key × V)} (ha : NdK a) (hb : NdK b) (h : ∀ k, (valV a k).isSome = (valV b k).isSome) : a.length = b.length := by
  have sub : ∀ {x y : List (Key × V)}, (∀ k, (valV x k).isSome = (valV y k).isSome) → ∀ k, k ∈ x.map (·.1) → k ∈ y.map (·.1) := by
    intro x y h k hk
    have h1 : (valV x k).isSome = true := by
      cases e : valV x k with
      | none => exact absurd hk (valV_not e)
      | some v => rfl
    rw [h k] at h1
    obtain ⟨v, hv⟩ := Option.isSome_iff_exists.mp h1
    exact valV_in hv
  have l1 : (a.map (·.1)).length ≤ (b.map (·.1)).length := nd_sub_len ha fun k hk => sub h k hk
  have l2 : (b.map (·.1)).length ≤ (a.map (·.1)).length := nd_sub_len hb fun k hk => sub (fun k => (h k).symm) k hk
  simp only [List.length_map] at l1 l2
  omega
/-- a dict that is the table of these letters -/
structure TabOf (H : Hp) (d : Addr) (f : List Nat → Option (List Nat)) (n : Nat) : Prop where
  dict : ∃ kvs, H d = some (.dK kvs) ∧ kvs.length ≤ n ∧ NdK kvs ∧ (∀ k : List Nat, valV kvs (.inr (S k)) = (f k).map fun z => V.str (S z)) ∧ ∀ i : Int, valV kvs (.inl i) = none
end L2

set_option Elab.async false
set_option linter.all false
set_option maxRecDepth 100000
set_option maxHeartbeats 4000000
namespace L2
open PySem PySem.Spec PyProof.Rows
/-! ### slices by places -/
theorem cutV_pre (l : List V) (k : Nat) : cutV l none (some (k : Int)) = l.take k := by
  unfold cutV
  rw [HT.sIx_nat, HT.sIx_none, List.drop_zero, Nat.sub_zero]
  by_cases h : k ≤ l.length
  · rw [Nat.min_eq_left h]
  · rw [Nat.min_eq_right (by omega), List.take_of_length_le (Nat.le_refl _), List.take_of_length_le (by omega)]
theorem cutV_suf (l : List V) (k : Nat) : cutV l (some (k : Int)) none = l.drop k := by
  unfold cutV
  rw [HT.sIx_nat, HT.sIx_none]
  by_cases h : k ≤ l.length
  · rw [Nat.min_eq_left h, List.take_of_length_le (by rw [List.length_drop]; omega)]
  · rw [Nat.min_eq_right (by omega), List.drop_of_length_le (Nat.le_refl _), List.drop_of_length_le (by omega), List.take_nil]
end L2

set_option Elab.async false
set_option linter.all false
set_option maxRecDepth 100000
set_option maxHeartbeats 4000000
namespace L2
open PySem PySem.Spec PyProof.Rows
/-! ### comprehensions over lists of tuples -/
def tupV (H : Hp) : V → List V
  | .ref t => match H t with
    | some (.tup xs) => xs
    | _ => []
  | _ => []
theorem TupsAt.comp {H : Hp} {ts : List Addr} {rows : List (List V)} (h : TupsAt H ts rows) (q : List V → Bool) (g : List V → V) : ((ts.map V.ref).filter fun x => q (tupV H x)).map (fun x => g (tupV H x)) = (rows.filter q).map g := by
  unfold TupsAt at h
  induction h with
  | nil => rfl
  | @cons t xs ts' rows' e _ ih =>
    have et : tupV H (.ref t) = xs := by simp only [tupV, e]
    simp only [List.map_cons, List.filter_cons, et]
    cases q xs with
    | true => simp only [if_true, List.map_cons, et]; rw [ih]
    | false => simpa using ih
theorem TupsAt.mem {H : Hp} {ts : List Addr} {rows : List (List V)} (h : TupsAt H ts rows) {x : V} (hx : x ∈ ts.map V.ref) : ∃ t xs, x = .ref t ∧ xs ∈ rows ∧ H t = some (.tup xs) := by
  obtain ⟨t, ht, rfl⟩ := List.mem_map.mp hx
  obtain ⟨i, hi⟩ := List.getElem?_of_mem ht
  obtain ⟨xs, h1, h2⟩ := h.get hi
  exact ⟨t, xs, rfl, List.mem_of_getElem? h1, h2⟩
theorem compW_tupsIf {K : PySem.W.Frag} {tt : TT} {te : TE} {σ : St} {H : Hp} {Q : VK} {a : Addr} {rows : List (List V)} (hl : LTups H a rows) (hn : rows.length ≤ sizeLine) (q : List V → Bool) (g : List V → V)
    (ht : ∀ t xs H', xs ∈ rows → Same H H' → H' t = some (.tup xs) → ∀ Qt : Bool → Hp → Prop, (∀ H'', Same H' H'' → Qt (q xs) H'') → tt (some (.ref t) :: σ) H' Qt)
    (he : ∀ t xs H', xs ∈ rows → Same H H' → H' t = some (.tup xs) → ∀ Qe : VK, (∀ H'', Same H' H'' → Qe (g xs) H'') → te (some (.ref t) :: σ) H' Qe)
    (hd : ∀ D H', H D = none → Same H H' → H' D = some (.lst ((rows.filter q).map g)) → Q (.ref D) H') : compW (Itl K a) tt te σ H Q := by
  obtain ⟨ts, e, hT⟩ := hl
  refine compW_listIf (xs := ts.map V.ref) (.inl (.inl e)) (by rw [List.length_map, hT.length]; exact hn) (fun x => q (tupV H x)) (fun x => g (tupV H x)) ?_ ?_ ?_
  · intro x H' hx s Qt qt
    obtain ⟨t, xs, rfl, hm, h1⟩ := hT.mem hx
    have et : tupV H (.ref t) = xs := by simp only [tupV, h1]
    rw [et] at qt
    exact ht t xs H' hm s (s _ _ h1) Qt qt
  · intro x H' hx _ s Qe qe
    obtain ⟨t, xs, rfl, hm, h1⟩ := hT.mem hx
    have et : tupV H (.ref t) = xs := by simp only [tupV, h1]
    rw [et] at qe
    exact he t xs H' hm s (s _ _ h1) Qe qe
  · intro D H' hD s h
    refine hd D H' hD s ?_
    rw [h, hT.comp]
theorem compW_tups {K : PySem.W.Frag} {te : TE} {σ : St} {H : Hp} {Q : VK} {a : Addr} {rows : List (List V)} (hl : LTups H a rows) (hn : rows.length ≤ sizeLine) (g : List V → V)
    (he : ∀ t xs H', xs ∈ rows → Same H H' → H' t = some (.tup xs) → ∀ Qe : VK, (∀ H'', Same H' H'' → Qe (g xs) H'') → te (some (.ref t) :: σ) H' Qe)
    (hd : ∀ D H', H D = none → Same H H' → H' D = some (.lst (rows.map g)) → Q (.ref D) H') : compW (Itl K a) tYes te σ H Q :=
  compW_tupsIf hl hn (fun _ => true) g (fun t xs H' _ s _ Qt qt => qt H' (Same.refl _)) he (fun D H' h s e => hd D H' h s (by rw [filter_true] at e; exact e))

/-! ### things, texts, names -/
inductive Thg (H : Hp) : V → Prop
  | non : Thg H .non
  | bl (b : Bool) : Thg H (.bl b)
  | int (i : Int) : Thg H (.int i)
  | str (l : List Nat) (h : l.length ≤ 1000) : Thg H (.str (S l))
  | lst {p : Addr} {xs : List V} (h : H p = some (.lst xs)) : Thg H (.ref p)
  | tup {p : Addr} {xs : List V} (h : H p = some (.tup xs)) : Thg H (.ref p)
def textV (x : V) (lo hi : Int) : Bool := match x with
  | .str z => decide (lo ≤ z.length) && decide ((z.length : Int) ≤ hi)
  | _ => false
def formV (x : V) (lo hi : Int) (p : Nat → Bool) : Bool := match x with
  | .str z => decide (lo ≤ z.length) && (decide ((z.length : Int) ≤ hi) && z.cps.toList.all p)
  | _ => false
def wholeV (x : V) (lo hi : Int) : Bool := match x with
  | .int i => decide (lo ≤ i) && decide (i ≤ hi)
  | _ => false
def T36 : List Nat := [97, 98, 99, 100, 101, 102, 103, 104, 105, 106, 107, 108, 109, 110, 111, 112, 113, 114, 115, 116, 117, 118, 119, 120, 121, 122, 48, 49, 50, 51, 52, 53, 54, 55, 56, 57]
theorem T36_is : (Str.ofString "abcdefghijklmnopqrstuvwxyz0123456789") = S T36 := by decide +kernel
def inN (c : Nat) : Bool := decide (c ∈ T36)
theorem occ_one (l : List Nat) (c : Nat) : occB (S l) (S [c]) = decide (c ∈ l) := by
  have := PySem.StrLaws.found_one (S l) c
  unfold occB
  exact this.trans (by simp)
def sp_is_text : Sp := fun vs H Q _ => ∃ (x : V) (lo hi : Int), vs = [x, .int lo, .int hi] ∧ Thg H x ∧ Q (.bl (textV x lo hi)) H
def sp_is_name : Sp := fun vs H Q _ => ∃ x : V, vs = [x] ∧ Thg H x ∧ ∀ H', Same H H' → Q (.bl (formV x 1 12 inN)) H'
def sp_is_whole : Sp := fun vs H Q _ => ∃ (x : V) (lo hi : Int), vs = [x, .int lo, .int hi] ∧ Thg H x ∧ Q (.bl (wholeV x lo hi)) H
theorem all_map_id {l : List Nat} {p : Nat → Bool} : (l.map p).all id = l.all p := by simp [List.all_map, Function.comp_def]
theorem formV_yes {l : List Nat} {lo hi : Int} {p : Nat → Bool} (h : textV (.str (S l)) lo hi = true) : formV (.str (S l)) lo hi p = l.all p := by
  simp only [textV, formV, Bool.and_eq_true] at h ⊢
  rw [h.1, h.2]
  simp
theorem formV_no {x : V} {lo hi : Int} {p : Nat → Bool} (h : ¬ textV x lo hi = true) : formV x lo hi p = false := by
  cases x with
  | str z =>
    simp only [textV, formV, Bool.and_eq_true] at h ⊢
    by_cases h1 : decide (lo ≤ (z.length : Int)) = true
    · rw [h1, Bool.true_and]
      have h2 : ¬ decide ((z.length : Int) ≤ hi) = true := fun e => h ⟨h1, e⟩
      rw [Bool.eq_false_iff.mpr h2, Bool.false_and]
    · rw [Bool.eq_false_iff.mpr h1, Bool.false_and]
  | _ => rfl
theorem text_is {H : Hp} {x : V} {lo hi : Int} (t : Thg H x) (h : textV x lo hi = true) : ∃ l : List Nat, x = .str (S l) ∧ l.length ≤ 1000 := by
  cases t with
  | str l hl => exact ⟨l, rfl, hl⟩
  | _ => simp [textV] at h

/-! ### the spread of a key -/
def foldK (l : List Nat) : Int := l.foldl (fun (h : Int) (c : Nat) => Builtin.bitAnd (h * 37 + (c : Int)) 65535) 1
def sprN (l : List Nat) : Int := Builtin.bitXor (foldK l) (foldK l / 2 ^ (8 : Int).toNat)
theorem foldK_snoc {l : List Nat} {i c : Nat} (h : (S l).cps[i]? = some c) : foldK (l.take (i + 1)) = Builtin.bitAnd (foldK (l.take i) * 37 + (c : Int)) 65535 := by
  have h' : l[i]? = some c := by simpa using h
  rw [List.take_add_one, h']
  simp [foldK, List.foldl_append]

/-! ### shelves -/
structure Shf where
  name : List Nat
  rows : Nat
  kind : Str
def Shf.v (x : Shf) : List V := [.str (S x.name), .int x.rows, .str x.kind]
def okShf (x : Shf) : Prop := (1 ≤ x.name.length ∧ x.name.length ≤ 12 ∧ x.name.all inN = true) ∧ (1 ≤ x.rows ∧ x.rows ≤ 9) ∧ (x.kind = Str.ofString "table" ∨ x.kind = Str.ofString "stream")
structure OkShfs (xs : List Shf) : Prop where
  lo : 1 ≤ xs.length
  hi : xs.length ≤ 6
  each : ∀ x ∈ xs, okShf x
  nd : (xs.map Shf.name).Nodup
structure ShAt (C : Addr) (H : Hp) (s l : Addr) (xs : List Shf) : Prop where
  obj : ∃ dx, H s = some (.ins C dx [("shelves", .ref l)])
  lst : LTups H l (xs.map Shf.v)
theorem ShAt.chg {A : List Addr} {C : Addr} {H H' : Hp} {s l : Addr} {xs : List Shf} (h : ShAt C H s l xs) (c : Chg A H H') (hs : s ∉ A) (hl : l ∉ A) : ShAt C H' s l xs := by
  obtain ⟨dx, e⟩ := h.obj
  exact ⟨⟨dx, c.keep _ _ e hs⟩, h.lst.chg c hl⟩
def startOf (xs : List Shf) (k : Nat) : Nat := ((xs.take k).map Shf.rows).sum
theorem startOf_succ {xs : List Shf} {k : Nat} {x : Shf} (h : xs[k]? = some x) : startOf xs (k + 1) = startOf xs k + x.rows := by
  unfold startOf
  rw [List.take_add_one, h]
  simp
theorem startOf_le {xs : List Shf} (h : ∀ x ∈ xs, x.rows ≤ 9) : ∀ k, startOf xs k ≤ 9 * k := by
  intro k
  induction k with
  | zero => simp [startOf]
  | succ k ih =>
    cases e : xs[k]? with
    | none =>
      have : startOf xs (k + 1) = startOf xs k := by unfold startOf; rw [List.take_add_one, e]; simp
      omega
    | some x =>
      have := h x (List.mem_of_getElem? e)
      rw [startOf_succ e]
      omega
def sp_is_kind : Sp := fun vs H Q _ => ∃ z : Str, vs = [.str z] ∧ (z = Str.ofString "table" ∨ z = Str.ofString "stream") ∧ Q (.bl true) H
def sp_is_shelf : Sp := fun vs H Q _ => ∃ (t : Addr) (x : Shf), vs = [.ref t] ∧ H t = some (.tup x.v) ∧ okShf x ∧ ∀ H', Same H H' → Q (.bl true) H'
def sp_are_shelves : Sp := fun vs H Q _ => ∃ (p : Addr) (xs : List Shf), vs = [.ref p] ∧ LTups H p (xs.map Shf.v) ∧ OkShfs xs ∧ ∀ H', Same H H' → Q (.bl true) H'
def sp_sh_init (C : Addr) : Sp := fun vs H Q _ => ∃ (x dx p : Addr) (xs : List Shf), vs = [.ref x, .ref p] ∧ H x = some (.ins C dx []) ∧ LTups H p (xs.map Shf.v) ∧ OkShfs xs ∧ ∀ l H', H l = none → Chg [x] H H' → ShAt C H' x l xs → Q .non H'
def sp_sh_many (C : Addr) : Sp := fun vs H Q _ => ∃ (s l : Addr) (xs : List Shf), vs = [.ref s] ∧ ShAt C H s l xs ∧ xs.length ≤ 1000 ∧ ∀ H', Same H H' → Q (.int (startOf xs xs.length)) H'
def sp_sh_rows_of (C : Addr) : Sp := fun vs H Q _ => ∃ (s l : Addr) (xs : List Shf) (k : Nat) (x : Shf), vs = [.ref s, .str (S x.name)] ∧ ShAt C H s l xs ∧ OkShfs xs ∧ xs[k]? = some x ∧ ∀ D H', H D = none → Same H H' → H' D = some (.lst (rngV (startOf xs k) x.rows)) → Q (.ref D) H'
def rowNo (xs : List Shf) (k : Nat) (x : Shf) (key : List Nat) : Nat := startOf xs k + (sprN key % (x.rows : Int)).toNat
def sp_sh_row_for (C : Addr) : Sp := fun vs H Q _ => ∃ (s l : Addr) (xs : List Shf) (k : Nat) (x : Shf) (key : List Nat), vs = [.ref s, .str (S x.name), .str (S key)] ∧ ShAt C H s l xs ∧ OkShfs xs ∧ xs[k]? = some x ∧ ∀ H', Same H H' → Q (.int (rowNo xs k x key)) H'
def sp_spread : Sp := fun vs H Q _ => ∃ l : List Nat, vs = [.str (S l)] ∧ Q (.int (sprN l)) H
def sp_row_in : Sp := fun vs H Q _ => ∃ (l : List Nat) (m : Int), vs = [.str (S l), .int m] ∧ 0 < m ∧ Q (.int (sprN l % m)) H

/-! ### rows told by a list of letters put there in turn -/
abbrev KW := List Nat × List Nat
def rowOf (c : List KW) : RowM := ⟨0, c.length, 0, fun p => if 0 ≤ p then (c[p.toNat]?).map fun x => (x.1, some x.2, 0) else none⟩
def seenV (c : List KW) (k : Nat) : List (List V) := (c.zipIdx k).map fun y => [.int (y.2 : Nat), .str (S y.1.1), .str (S y.1.2)]
def it (i : Nat) (xs : List V) : V := xs.getD i .non
def kwV (x : KW) : List V := [.str (S x.1), .str (S x.2)]
structure RowsAt (C : Addr) (H : Hp) (R : Addr) (rs : List (Addr × Addr)) (f : Nat → List KW) : Prop where
  lst : H R = some (.lst (rs.map fun y => V.ref y.1))
  row : ∀ (i : Nat) r d, rs[i]? = some (r, d) → RowAt C H r d (rowOf (f i))
theorem RowsAt.same {C : Addr} {H H' : Hp} {R : Addr} {rs : List (Addr × Addr)} {f : Nat → List KW} (h : RowsAt C H R rs f) (s : Same H H') : RowsAt C H' R rs f :=
  ⟨s _ _ h.lst, fun i r d e => (h.row i r d e).chg (A := []) (Chg.of_same s) (by simp) (by simp)⟩
def ofKey (P : List KW) (key : List Nat) : List V := (P.filter fun x => decide (x.1 = key)).map fun x => .str (S x.2)
def sp_of_key : Sp := fun vs H Q _ => ∃ (p : Addr) (P : List KW) (key : List Nat), vs = [.ref p, .str (S key)] ∧ LTups H p (P.map kwV) ∧ P.length ≤ 1000 ∧ ∀ D H', H D = none → Same H H' → H' D = some (.lst (ofKey P key)) → Q (.ref D) H'
/-- the letters of a shelf stand in its own rows by their keys -/
structure Parted (P : List KW) (f : Nat → List KW) (lo n : Nat) : Prop where
  pos : 0 < n
  each : ∀ i, lo ≤ i → i < lo + n → f i = P.filter fun x => decide (lo + (sprN x.1 % (n : Int)).toNat = i)
  few : P.length ≤ 63
  ok : ∀ x ∈ P, okS x.1 ∧ okS x.2
theorem rngV_get {lo : Nat} {n j : Nat} {y : V} (h : (rngV (lo : Int) n)[j]? = some y) : j < n ∧ y = .int ((lo + j : Nat) : Int) := by
  unfold rngV at h
  rw [List.getElem?_map] at h
  by_cases hj : j < n
  · rw [List.getElem?_range hj] at h
    refine ⟨hj, ?_⟩
    rw [← Option.some.inj h]
    push_cast
    rfl
  · rw [List.getElem?_eq_none (by simp; omega)] at h
    cases h
def sp_shelf_holds (C : Addr) : Sp := fun vs H Q _ => ∃ (R N p kl : Addr) (rs : List (Addr × Addr)) (f : Nat → List KW) (P : List KW) (lo n : Nat) (keys : List (List Nat)), vs = [.ref R, .ref N, .ref p, .ref kl] ∧ RowsAt C H R rs f ∧ H N = some (.lst (rngV lo n)) ∧
  LTups H p (P.map kwV) ∧ H kl = some (.lst (keys.map fun l => .str (S l))) ∧ keys.length ≤ 100 ∧ lo + n ≤ rs.length ∧ n ≤ 9 ∧ Parted P f lo n ∧ ∀ H', Same H H' → Q (.bl true) H'
def ltr36 (n : Int) : Nat := T36.getD (n % 36).toNat 0
theorem ltr36_at (n : Int) : T36[(n % 36).toNat]? = some (ltr36 n) := by
  have h : (n % 36).toNat < T36.length := by
    show (n % 36).toNat < 36
    omega
  unfold ltr36
  rw [List.getD_eq_getElem?_getD, List.getElem?_eq_getElem h]
  rfl
theorem ltr36_in (n : Int) : inN (ltr36 n) = true := by
  unfold inN
  exact decide_eq_true (List.mem_of_getElem? (ltr36_at n))
theorem ltr36_inj {n m : Int} (h : ltr36 n = ltr36 m) : n % 36 = m % 36 := by
  have hn : T36.Nodup := by decide
  have h1 := ltr36_at n
  have h2 := ltr36_at m
  rw [h] at h1
  obtain ⟨i1, e1⟩ := List.getElem?_eq_some_iff.mp h1
  obtain ⟨i2, e2⟩ := List.getElem?_eq_some_iff.mp h2
  have hp := List.pairwise_iff_getElem.mp hn
  rcases Nat.lt_trichotomy (n % 36).toNat (m % 36).toNat with z | z | z
  · exact absurd (e1.trans e2.symm) (hp _ _ i1 i2 z)
  · omega
  · exact absurd (e2.trans e1.symm) (hp _ _ i2 i1 z)
def sp_wholeI : Sp := fun vs H Q _ => ∃ x y : Int, vs = [.int x, .int y] ∧ Q (.bl (decide (x = y))) H
def sp_letter : Sp := fun vs H Q _ => ∃ n : Int, vs = [.int n] ∧ Q (.str (S [ltr36 n])) H
def sp_names : Sp := fun vs H Q _ => ∃ (c m : Int), vs = [.int c, .int m] ∧ 1 ≤ m ∧ m ≤ 36 ∧ ∀ D H' (ns : List (List Nat)), H D = none → Same H H' → H' D = some (.lst (ns.map fun l => .str (S l))) → ns.length = m.toNat →
  (∀ l ∈ ns, 1 ≤ l.length ∧ l.length ≤ 12 ∧ l.all inN = true) → ns.Nodup → Q (.ref D) H'
def sp_keys : Sp := fun vs H Q _ => ∃ c : Int, vs = [.int c] ∧ ∀ D H' (ks : List (List Nat)), H D = none → Same H H' → H' D = some (.lst (ks.map fun l => .str (S l))) → ks.length = 12 → (∀ l ∈ ks, okS l ∧ l.length ≤ 24) → Q (.ref D) H'
/-! ### comprehensions whose items are made anew -/
theorem compW_listI {K : PySem.W.Frag} {te : TE} {σ : St} {H : Hp} {Q : VK} {a : Addr} {xs : List V} (hn : xs.length ≤ sizeLine) (Pv : Addr → Nat → List V → Hp → Prop) (h0 : ∀ D, H D = none → Pv D 0 [] (upd H D (.lst [])))
    (hl : ∀ D i ys H', i ≤ xs.length → Pv D i ys H' → H' D = some (.lst ys) ∧ ys.length ≤ i ∧ SqL K H' a xs)
    (hs : ∀ D i ys H' x, H D = none → xs[i]? = some x → Pv D i ys H' → ∀ Qe : VK, (∀ y H5, H5 D = some (.lst ys) → Pv D (i + 1) (ys ++ [y]) (upd H5 D (.lst (ys ++ [y]))) → Qe y H5) → te (some x :: σ) H' Qe)
    (hd : ∀ D ys H', H D = none → Pv D xs.length ys H' → Q (.ref D) H') : compW (Itl K a) tYes te σ H Q := by
  intro D hD
  refine ⟨fun i m ys H => m = xs.length - i ∧ i ≤ xs.length ∧ Pv D i ys H, ⟨xs.length, rfl, Nat.zero_le _, h0 D hD⟩, ?_⟩
  rintro i m ys H2 ⟨rfl, hi, p⟩
  obtain ⟨h1, h2, h3⟩ := hl D i ys H2 hi p
  by_cases hlt : i < xs.length
  · refine .inr ⟨⟨xs, xs[i], h3, by simp⟩, by omega, fun x H3 y => ?_⟩
    obtain ⟨rfl, z⟩ := y
    simp only [tYes, if_true]
    exact hs D i ys _ x hD (z xs h3) p _ fun y H5 z1 z2 => ⟨z1, xs.length - (i + 1), by omega, rfl, hlt, z2⟩
  · have e : i = xs.length := by omega
    subst e
    exact .inl ⟨⟨xs, h3, Nat.le_refl _⟩, h1, hd D ys H2 hD p⟩
def addrs (rs : List (Addr × Addr)) : List Addr := rs.flatMap fun y => [y.1, y.2]
theorem startOf_lt {xs : List Shf} {a b : Nat} {x : Shf} (hx : xs[a]? = some x) (h : a < b) : startOf xs a + x.rows ≤ startOf xs b := by
  rw [← startOf_succ hx]
  have mono : ∀ m n : Nat, m ≤ n → startOf xs m ≤ startOf xs n := by
    intro m n hmn
    induction n with
    | zero => have : m = 0 := by omega
              subst this; exact Nat.le_refl _
    | succ n ih =>
      by_cases e : m = n + 1
      · subst e; exact Nat.le_refl _
      · refine Nat.le_trans (ih (by omega)) ?_
        cases e2 : xs[n]? with
        | none => unfold startOf; rw [List.take_add_one, e2]; simp
        | some y => rw [startOf_succ e2]; omega
  exact mono _ _ h
/-- a letter more: it comes into the row of its key, and the other shelves' rows stay -/
theorem Parted.put {P : List KW} {f : Nat → List KW} {lo n : Nat} (h : Parted P f lo n) (x : KW) (hf : P.length < 63) (ok : okS x.1 ∧ okS x.2) :
    Parted (P ++ [x]) (fun i => if i = lo + (sprN x.1 % (n : Int)).toNat then f i ++ [x] else f i) lo n := by
  refine ⟨h.pos, fun i h1 h2 => ?_, by simp; omega, fun y hy => ?_⟩
  · show (if i = lo + (sprN x.1 % (n : Int)).toNat then f i ++ [x] else f i) = _
    rw [List.filter_append, ← h.each i h1 h2]
    by_cases e : i = lo + (sprN x.1 % (n : Int)).toNat
    · rw [if_pos e]
      simp [e]
    · rw [if_neg e]
      have e' : ¬ lo + (sprN x.1 % (n : Int)).toNat = i := fun z => e z.symm
      simp [e']
  · rcases List.mem_append.mp hy with z | z
    · exact h.ok y z
    · rw [List.mem_singleton.mp z]; exact ok
theorem Parted.other {P : List KW} {f g : Nat → List KW} {lo n : Nat} (h : Parted P f lo n) (e : ∀ i, lo ≤ i → i < lo + n → g i = f i) : Parted P g lo n :=
  ⟨h.pos, fun i h1 h2 => (e i h1 h2).trans (h.each i h1 h2), h.few, h.ok⟩
def shf (c : Int) (i : Nat) (n : List Nat) : Shf := ⟨n, (1 + mixN c (6 + (i : Int)) % 9).toNat, if i % 2 = 0 then Str.ofString "table" else Str.ofString "stream"⟩
def mkS (c : Int) (ns : List (List Nat)) : List Shf := ns.mapIdx fun i n => shf c i n
end L2

set_option Elab.async false
set_option linter.all false
set_option maxRecDepth 100000
set_option maxHeartbeats 4000000
namespace L2
open PySem PySem.Spec PyProof.Rows
/-! ### what the laws of the lending share -/
/-- the mixed cell at a place -/
def cellN (ns : List Int) (k : Int) : Int := mixN (if k < (ns.length : Int) then ns.getD k.toNat 0 else 104729 * k + 7) k
def sp_cellN (K : PySem.W.Frag) : Sp := fun vs H Q _ => ∃ (p : Addr) (ns : List Int) (k : Int), vs = [.ref p, .int k] ∧ SqL K H p (ns.map V.int) ∧ 0 ≤ k ∧ Q (.int (cellN ns k)) H
def manyN (ns : List Int) (f m : Int) : Int := min m (max (cellN ns (f - 1) / 7 % (m + 1)) ((ns.length : Int) - f))
def sp_many (K : PySem.W.Frag) : Sp := fun vs H Q _ => ∃ (p : Addr) (ns : List Int) (f m : Int), vs = [.ref p, .int f, .int m] ∧ SqL K H p (ns.map V.int) ∧ 1 ≤ f ∧ 0 ≤ m ∧ Q (.int (manyN ns f m)) H
def sp_namesL : Sp := fun vs H Q _ => ∃ (c o m : Int), vs = [.int c, .int o, .int m] ∧ 0 ≤ c ∧ 0 ≤ o ∧ 0 ≤ m ∧ m ≤ 36 ∧ ∀ D H' (ns : List (List Nat)), H D = none → Same H H' → (ns.length : Int) = m → H' D = some (.lst (ns.map fun l => V.str (S l))) → Q (.ref D) H'
def sp_loan_eq : Sp := fun vs H Q _ => ∃ (v u : V) (o : Option Loan), vs = [v, u] ∧ LoanVal H o v ∧ LoanVal H o u ∧ Q (.bl true) H
end L2

set_option Elab.async false
set_option linter.all false
set_option maxRecDepth 100000
set_option maxHeartbeats 4000000
namespace L2
open PySem PySem.Spec PyProof.Rows
/-! ### tables, by their pairs -/
structure TabK (kvs : List (Key × V)) (f : List Nat → Option (List Nat)) (n : Nat) : Prop where
  len : kvs.length ≤ n
  nd : NdK kvs
  val : ∀ k : List Nat, valV kvs (.inr (S k)) = (f k).map fun z => V.str (S z)
  int : ∀ i : Int, valV kvs (.inl i) = none
theorem TabK.nil : TabK [] (fun _ => none) 0 := ⟨Nat.le_refl _, NdK.nil, fun _ => rfl, fun _ => rfl⟩
theorem inr_S {q k : List Nat} : (Sum.inr (S q) : Key) = Sum.inr (S k) ↔ q = k := ⟨fun h => S_inj (Sum.inr.inj h), fun h => by rw [h]⟩
theorem TabK.put {kvs : List (Key × V)} {f : List Nat → Option (List Nat)} {n : Nat} (h : TabK kvs f n) (k w : List Nat) : TabK (putK kvs (.inr (S k)) (.str (S w))) (fun q => if q = k then some w else f q) (n + 1) := by
  refine ⟨?_, h.nd.put _ _, fun q => ?_, fun i => ?_⟩
  · have := length_putK kvs (.inr (S k) : Key) (.str (S w)); have := h.len; omega
  · rw [valV_put]
    by_cases e : q = k
    · rw [if_pos (inr_S.mpr e), if_pos e]; rfl
    · rw [if_neg (fun z => e (inr_S.mp z)), if_neg e]; exact h.val q
  · rw [valV_put, if_neg (by intro z; cases z)]; exact h.int i
theorem TabK.drop {kvs : List (Key × V)} {f : List Nat → Option (List Nat)} {n : Nat} (h : TabK kvs f n) (k : List Nat) : TabK (dropK kvs (.inr (S k))) (fun q => if q = k then none else f q) n := by
  refine ⟨Nat.le_trans (dropK_le _ _) h.len, h.nd.drop _, fun q => ?_, fun i => ?_⟩
  · rw [valV_drop]
    by_cases e : q = k
    · rw [if_pos (inr_S.mpr e), if_pos e]; rfl
    · rw [if_neg (fun z => e (inr_S.mp z)), if_neg e]; exact h.val q
  · rw [valV_drop, if_neg (by intro z; cases z)]; exact h.int i
theorem TabK.mono {kvs : List (Key × V)} {f g : List Nat → Option (List Nat)} {n m : Nat} (h : TabK kvs f n) (e : ∀ q, f q = g q) (hn : n ≤ m) : TabK kvs g m := ⟨Nat.le_trans h.len hn, h.nd, fun k => by rw [← e k]; exact h.val k, h.int⟩
/-- a dict that is such a table -/
def Tab (H : Hp) (d : Addr) (f : List Nat → Option (List Nat)) (n : Nat) : Prop := ∃ kvs, H d = some (.dK kvs) ∧ TabK kvs f n
theorem Tab.same {H H' : Hp} {d : Addr} {f : List Nat → Option (List Nat)} {n : Nat} (h : Tab H d f n) (s : Same H H') : Tab H' d f n := let ⟨kvs, e, t⟩ := h; ⟨kvs, s _ _ e, t⟩
theorem Tab.chg {A : List Addr} {H H' : Hp} {d : Addr} {f : List Nat → Option (List Nat)} {n : Nat} (h : Tab H d f n) (c : Chg A H H') (hd : d ∉ A) : Tab H' d f n := let ⟨kvs, e, t⟩ := h; ⟨kvs, c.keep _ _ e hd, t⟩
theorem Tab.ne {H : Hp} {d e : Addr} {f : List Nat → Option (List Nat)} {n : Nat} (h : Tab H d f n) (he : H e = none) : d ≠ e := fun z => by
  obtain ⟨kvs, hk, _⟩ := h
  rw [z, he] at hk
  cases hk
theorem TupsAt.drop {H : Hp} {ts : List Addr} {rows : List (List V)} (h : TupsAt H ts rows) (n : Nat) : TupsAt H (ts.drop n) (rows.drop n) := by
  unfold TupsAt at h ⊢
  induction h generalizing n with
  | nil => simp; exact .nil
  | cons r t ih =>
    cases n with
    | zero => exact .cons r t
    | succ n => exact ih n
def sp_table (K : PySem.W.Frag) : Sp := fun vs H Q _ => ∃ (p : Addr) (ls : List L3), vs = [.ref p] ∧ LTups H p (ls.map l3V) ∧ ls.length ≤ 100 ∧ ∀ D H', H D = none → Same H H' → Tab H' D (wordAt ls) ls.length → Q (.ref D) H'
def sp_is_table : Sp := fun vs H Q _ => ∃ (d e : Addr) (f : List Nat → Option (List Nat)) (n m : Nat), vs = [.ref d, .ref e] ∧ Tab H d f n ∧ Tab H e f m ∧ d ≠ e ∧ ∀ H', Same H H' → Q (.bl true) H'
def sp_sign94 : Sp := fun vs H Q _ => ∃ n : Int, vs = [.int n] ∧ Q (.str (S [sgn n 94])) H
def sp_keysT : Sp := fun vs H Q _ => ∃ (c m : Int), vs = [.int c, .int m] ∧ 0 ≤ m ∧ m ≤ 36 ∧ ∀ D H' (ks : List (List Nat)), H D = none → Same H H' → (ks.length : Int) = m → (∀ k ∈ ks, okS k) → H' D = some (.lst (ks.map fun l => V.str (S l))) → Q (.ref D) H'
def sp_word : Sp := fun vs H Q _ => ∃ c : Int, vs = [.int c] ∧ ∀ w : List Nat, okS w → Q (.str (S w)) H
theorem LTups.at {K : PySem.W.Frag} {H : Hp} {p : Addr} {rows : List (List V)} (h : LTups H p rows) : ∃ ts : List Addr, SqL K H p (ts.map V.ref) ∧ ts.length = rows.length ∧ ∀ (i : Nat) (x : V), (ts.map V.ref)[i]? = some x → ∃ t r, x = .ref t ∧ rows[i]? = some r ∧ H t = some (.tup r) := by
  obtain ⟨ts, h1, h2⟩ := h
  refine ⟨ts, .inl (.inl h1), h2.length, fun i x hx => ?_⟩
  rw [List.getElem?_map] at hx
  cases e : ts[i]? with
  | none => rw [e] at hx; cases hx
  | some t =>
    rw [e] at hx
    obtain ⟨r, hr, ht⟩ := h2.get e
    exact ⟨t, r, (Option.some.inj hx).symm, hr, ht⟩
theorem same_back {H H' : Hp} {b : Addr} (s : Same H H') (h : H' b = none) : H b = none := by
  cases e : H b with
  | none => rfl
  | some o => rw [s _ _ e] at h; cases h
theorem Same.wr {H H' : Hp} {b : Addr} {o : HO} (s : Same H H') (h : H b = none) : Same H (L2.upd H' b o) := fun c u hc => (upd_ne (ne_of_none hc h)).trans (s c u hc)
def okL3 (x : L3) : Prop := okS x.2.1 ∧ ∀ w, x.2.2 = some w → okS w
end L2

set_option Elab.async false
set_option linter.all false
set_option maxRecDepth 100000
set_option maxHeartbeats 4000000
namespace L2
open PySem PySem.Spec PyProof.Rows
/-! ### plain things: None, texts, ints, lists and tuples of these -/
def Pl (H : Hp) : Nat → V → Prop
  | _, .non => True
  | _, .int _ => True
  | _, .str _ => True
  | n + 1, .ref a => ∃ xs, (H a = some (.lst xs) ∨ H a = some (.tup xs)) ∧ ∀ x ∈ xs, Pl H n x
  | _, _ => False
theorem Pl.same {H H' : Hp} (s : Same H H') : ∀ {n : Nat} {v : V}, Pl H n v → Pl H' n v := by
  intro n
  induction n with
  | zero =>
    intro v h
    cases v with
    | non => trivial
    | int i => trivial
    | str x => trivial
    | _ => exact (show False from h).elim
  | succ n ih =>
    intro v h
    cases v with
    | non => trivial
    | int i => trivial
    | str x => trivial
    | ref a =>
      obtain ⟨xs, h, hx⟩ := (show ∃ xs, (H a = some (.lst xs) ∨ H a = some (.tup xs)) ∧ ∀ x ∈ xs, Pl H n x from h)
      exact ⟨xs, h.elim (fun h => .inl (s _ _ h)) fun h => .inr (s _ _ h), fun x m => ih (hx x m)⟩
    | _ => exact (show False from h).elim
def sp_plainN : Nat → Sp
  | 0 => fun _ _ _ _ => False
  | n + 1 => fun vs H Q _ => ∃ v, vs = [v] ∧ Pl H n v ∧ ∀ H', Same H H' → Q (.bl true) H'
def sp_same (K : PySem.W.Frag) : Sp := fun vs H Q _ => ∃ (x y : V) (d : PyData), vs = [x, y] ∧ Pl H 2 x ∧ Den K H x d ∧ Den K H y d ∧ wd 3 d ∧ ∀ H', Same H H' → Q (.bl true) H'
end L2

set_option Elab.async false
set_option linter.all false
set_option maxRecDepth 100000
set_option maxHeartbeats 4000000
namespace L2
open PySem PySem.Spec PyProof.Rows
/-! ### what stands in a row, and what of it is drawn away -/
def RowM.rowL (M : RowM) (p : Int) : L3 := match M.L p with
  | some x => (p, x.1, x.2.1)
  | none => (p, [], none)
/-- all letters that stand -/
def RowM.stand (M : RowM) : List L3 := (M.standing 0 M.last.toNat).map M.rowL
/-! the last of each key -/
def lastP : List L3 → List Nat → Option Int
  | [], _ => none
  | x :: r, k => match lastP r k with
    | some y => some y
    | none => if x.2.1 = k then some x.1 else none
theorem lastP_snoc (a : List L3) (x : L3) (k : List Nat) : lastP (a ++ [x]) k = if x.2.1 = k then some x.1 else lastP a k := by
  induction a with
  | nil => rw [List.nil_append]; simp [lastP]
  | cons y r ih =>
    rw [List.cons_append, lastP, ih]
    by_cases h : x.2.1 = k
    · rw [if_pos h, if_pos h]
    · rw [if_neg h, if_neg h, lastP]
def laterB (ls : List L3) (k : Nat) : Bool := (ls.drop (k + 1)).any fun y => decide (y.2.1 = (ls.getD k (0, [], none)).2.1)
def awayL (ls : List L3) (passed : Int) : List Int := (ls.filter fun x => !(lastP ls x.2.1 == some x.1) || (x.2.2.isNone && decide (x.1 < passed))).map (·.1)
def at3 (ls : List L3) (k : Nat) : L3 := ls.getD k (0, [], none)
open Classical in
noncomputable def tupP (H : Hp) (P : L3 → Bool) (x : V) : Bool := decide (∃ t y, x = .ref t ∧ H t = some (.tup (l3V y)) ∧ P y = true)
open Classical in
theorem Chg.wr {A : List Addr} {H H' : Hp} {b : Addr} {o : HO} (c : Chg A H H') (h : H b = none) : Chg A H (L2.upd H' b o) :=
  ⟨fun e u he n => (upd_ne (ne_of_none he h)).trans (c.keep e u he n), fun e xs he => (upd_ne (ne_of_none he h)).trans (c.tup e xs he)⟩
theorem wd.mono {n m : Nat} {d : PyData} (h : wd n d) (hn : n ≤ m) : wd m d := ⟨h.1, Nat.le_trans h.2 hn⟩
theorem Pl.ints {H : Hp} {p : Addr} {ns : List Int} (h : H p = some (.lst (ns.map V.int))) : Pl H 2 (.ref p) := ⟨_, .inl h, fun x hx => by
  obtain ⟨n, _, rfl⟩ := List.mem_map.mp hx
  trivial⟩
theorem Pl.l3 {H : Hp} {p : Addr} {ls : List L3} (h : LTups H p (ls.map l3V)) : Pl H 2 (.ref p) := by
  obtain ⟨ts, hts, htl, hat⟩ := h.at (K := [])
  obtain ⟨ts', h1, h2⟩ := h
  refine ⟨_, .inl h1, fun x hx => ?_⟩
  obtain ⟨t, ht, rfl⟩ := List.mem_map.mp hx
  obtain ⟨i, hi, e⟩ := List.getElem_of_mem ht
  obtain ⟨r, hr, htr⟩ := h2.get (i := i) (t := t) (by rw [List.getElem?_eq_getElem hi, e])
  rw [List.getElem?_map] at hr
  cases e2 : ls[i]? with
  | none => rw [e2] at hr; cases hr
  | some y =>
    rw [e2] at hr
    cases hr
    refine ⟨_, .inr htr, fun v hv => ?_⟩
    obtain ⟨p0, k, w⟩ := y
    simp only [l3V, List.mem_cons, List.not_mem_nil, or_false] at hv
    rcases hv with rfl | rfl | rfl
    · trivial
    · trivial
    · cases w <;> trivial
def sp_drawn (C : Addr) : Sp := fun vs H Q _ => ∃ (r d : Addr) (M : RowM) (fl pa : Int), vs = [.ref r, .int fl, .int pa] ∧ RowAt C H r d M ∧ M.last ≤ 1000 ∧ 0 ≤ fl ∧ ∀ D H', H D = none → Same H H' → H' D = some (.lst ((awayL (M.stand.filter fun x => decide (x.1 < fl)) pa).map V.int)) → Q (.ref D) H'
def sp_later (K : PySem.W.Frag) : Sp := fun vs H Q _ => ∃ (p : Addr) (ls : List L3) (k : Nat), vs = [.ref p, .int k] ∧ LTups H p (ls.map l3V) ∧ k < ls.length ∧ ∀ H', Same H H' → Q (.bl (laterB ls k)) H'
def dueL (ls : List L3) (v : Int) : List Int := ((List.range (ls.filter fun x => decide (x.1 < v)).length).filter fun k => laterB (ls.filter fun x => decide (x.1 < v)) k).map fun k => (at3 (ls.filter fun x => decide (x.1 < v)) k).1
end L2

set_option Elab.async false
set_option linter.all false
set_option maxRecDepth 100000
set_option maxHeartbeats 4000000
namespace L2
open PySem PySem.Spec PyProof.Rows
/-! ### x is True -/
def rIsB : R2 := fun x y H Q => ∃ b c, x = .bl b ∧ y = .bl c ∧ Q (.bl (decide (b = c))) H
def rNotB : R2 := fun x y H Q => ∃ b c, x = .bl b ∧ y = .bl c ∧ Q (.bl (!decide (b = c))) H
section
variable {X : Cx}
theorem rIsB_bb {H : Hp} {Q : VK} (b c : Bool) : rIsB (.bl b) (.bl c) H Q = Q (.bl (decide (b = c))) H := by simp [rIsB]
theorem rNotB_bb {H : Hp} {Q : VK} (b c : Bool) : rNotB (.bl b) (.bl c) H Q = Q (.bl (!decide (b = c))) H := by simp [rNotB]
end
/-! ### what is left once it is drawn -/
/-- goes when drawn -/
def goes (ls : List L3) (pa : Int) (x : L3) : Bool := !(lastP ls x.2.1 == some x.1) || (x.2.2.isNone && decide (x.1 < pa))
end L2

set_option Elab.async false
set_option linter.all false
set_option maxRecDepth 100000
set_option maxHeartbeats 4000000
namespace L2
open PySem PySem.Spec PyProof.Rows
def RowM.outs (M : RowM) (l : List Int) : RowM := { M with L := fun q => if q ∈ l then none else M.L q }
end L2

set_option Elab.async false
set_option linter.all false
set_option maxRecDepth 100000
set_option maxHeartbeats 4000000
namespace L2
open PySem PySem.Spec PyProof.Rows
/-! ### max(list of ints), max(list of ints, default=d) -/
section
variable {prog : Program} {w : World} {A : Around} {R : Result → Shared → Prop} {I : Addr} {fp wr : List Addr} {n : Nat} {P : Nat → Value → Prop} {St : Nat → Heap → Prop} {kw : List (Str × Value)}
end
section
variable {prog : Program} {w : World} {A : Around} {E : Value → Shared → Prop} {s : Shared}
end
section
variable {X : Cx}
def rMaxL (K : PySem.W.Frag) : List V → Hp → VK → Prop := fun xs H Q => ∃ (p : Addr) (ns : List Int), xs = [.ref p] ∧ SqL K H p (ns.map V.int) ∧ ns ≠ [] ∧ ∀ m ∈ ns, (∀ a ∈ ns, a ≤ m) → Q (.int m) H
def tMaxD (K : PySem.W.Frag) (te td : TE) : TE := fun σ H Q => te σ H fun x H1 => td σ H1 fun y H2 => ∃ (p : Addr) (ns : List Int) (d : Int), x = .ref p ∧ y = .int d ∧ SqL K H2 p (ns.map V.int) ∧ ∀ m, (ns = [] → m = d) → (ns ≠ [] → m ∈ ns ∧ ∀ a ∈ ns, a ≤ m) → Q (.int m) H2
end
end L2

set_option Elab.async false
set_option linter.all false
set_option maxRecDepth 100000
set_option maxHeartbeats 4000000
namespace L2
open PySem PySem.Spec PyProof.Rows
theorem TupsAt.append {H : Hp} {ts us : List Addr} {rows more : List (List V)} (h : TupsAt H ts rows) (h2 : TupsAt H us more) : TupsAt H (ts ++ us) (rows ++ more) := by
  unfold TupsAt at h h2 ⊢
  induction h with
  | nil => exact h2
  | cons r t ih => exact .cons r ih
/-! ### a table that takes letters -/
def tblF (pl : Int) (w l : Addr) : List (Str × V) := [("place", .int pl), ("words", .ref w), ("lasts", .ref l)]
structure WrdK (kvs : List (Key × V)) (tk : List L3) : Prop where
  len : kvs.length ≤ tk.length
  nd : NdK kvs
  val : ∀ k : List Nat, valV kvs (.inr (S k)) = (lastW tk k).map wV
  int : ∀ i : Int, valV kvs (.inl i) = none
structure LstK (kvs : List (Key × V)) (tk : List L3) : Prop where
  len : kvs.length ≤ tk.length
  val : ∀ k : List Nat, valV kvs (.inr (S k)) = (lastP tk k).map V.int
theorem WrdK.nil : WrdK [] [] := ⟨Nat.le_refl _, NdK.nil, fun _ => rfl, fun _ => rfl⟩
theorem LstK.nil : LstK [] [] := ⟨Nat.le_refl _, fun _ => rfl⟩
theorem WrdK.put {kvs : List (Key × V)} {tk : List L3} (h : WrdK kvs tk) (x : L3) : WrdK (putK kvs (.inr (S x.2.1)) (wV x.2.2)) (tk ++ [x]) := by
  refine ⟨?_, h.nd.put _ _, fun q => ?_, fun i => ?_⟩
  · have := length_putK kvs (.inr (S x.2.1) : Key) (wV x.2.2); have := h.len; rw [List.length_append, List.length_singleton]; omega
  · rw [valV_put, lastW_snoc]
    by_cases e : q = x.2.1
    · rw [if_pos (inr_S.mpr e), if_pos e.symm]; rfl
    · rw [if_neg (fun z => e (inr_S.mp z)), if_neg (Ne.symm e)]; exact h.val q
  · rw [valV_put, if_neg (by intro z; cases z)]; exact h.int i
theorem LstK.put {kvs : List (Key × V)} {tk : List L3} (h : LstK kvs tk) (x : L3) : LstK (putK kvs (.inr (S x.2.1)) (.int x.1)) (tk ++ [x]) := by
  refine ⟨?_, fun q => ?_⟩
  · have := length_putK kvs (.inr (S x.2.1) : Key) (.int x.1); have := h.len; rw [List.length_append, List.length_singleton]; omega
  · rw [valV_put, lastP_snoc]
    by_cases e : q = x.2.1
    · rw [if_pos (inr_S.mpr e), if_pos e.symm]; rfl
    · rw [if_neg (fun z => e (inr_S.mp z)), if_neg (Ne.symm e)]; exact h.val q
structure TblAt (C : Addr) (H : Hp) (t w l : Addr) (tk : List L3) (pl : Int) : Prop where
  obj : ∃ dx, H t = some (.ins C dx (tblF pl w l))
  words : ∃ kvs, H w = some (.dK kvs) ∧ WrdK kvs tk
  lasts : ∃ kvs, H l = some (.dK kvs) ∧ LstK kvs tk
  nwl : w ≠ l
theorem TblAt.chg {A : List Addr} {C : Addr} {H H' : Hp} {t w l : Addr} {tk : List L3} {pl : Int} (h : TblAt C H t w l tk pl) (c : Chg A H H') (ht : t ∉ A) (hw : w ∉ A) (hl : l ∉ A) : TblAt C H' t w l tk pl := by
  obtain ⟨dx, e⟩ := h.obj
  obtain ⟨k1, e1, a1⟩ := h.words
  obtain ⟨k2, e2, a2⟩ := h.lasts
  exact ⟨⟨dx, c.keep _ _ e ht⟩, ⟨k1, c.keep _ _ e1 hw, a1⟩, ⟨k2, c.keep _ _ e2 hl, a2⟩, h.nwl⟩
theorem TblAt.same {C : Addr} {H H' : Hp} {t w l : Addr} {tk : List L3} {pl : Int} (h : TblAt C H t w l tk pl) (s : Same H H') : TblAt C H' t w l tk pl := h.chg (A := []) (Chg.of_same s) (by simp) (by simp) (by simp)
/-- what is another thing than a table's parts -/
theorem TblAt.apart {C : Addr} {H : Hp} {t w l b : Addr} {tk : List L3} {pl : Int} (h : TblAt C H t w l tk pl) (hb : ∀ o, H b = some o → (∀ dx, o ≠ .ins C dx (tblF pl w l)) ∧ ∀ kvs, o ≠ .dK kvs) : b ∉ [t, w, l] := by
  obtain ⟨dx, e⟩ := h.obj
  obtain ⟨k1, e1, a1⟩ := h.words
  obtain ⟨k2, e2, a2⟩ := h.lasts
  intro m
  simp only [List.mem_cons, List.not_mem_nil, or_false] at m
  rcases m with rfl | rfl | rfl
  · exact (hb _ e).1 _ rfl
  · exact (hb _ e1).2 _ rfl
  · exact (hb _ e2).2 _ rfl
def sp_tbl_init (C : Addr) : Sp := fun vs H Q _ => ∃ x dx, vs = [.ref x] ∧ H x = some (.ins C dx []) ∧ ∀ w l H', H w = none → H l = none → Chg [x] H H' → TblAt C H' x w l [] 0 → Q .non H'
def sp_tbl_take (C : Addr) : Sp := fun vs H Q _ => ∃ (t w l : Addr) (tk : List L3) (pl : Int) (p : Addr) (ls : List L3) (up : Int), vs = [.ref t, .ref p, .int up] ∧ TblAt C H t w l tk pl ∧ LTups H p (ls.map l3V) ∧ tk.length + ls.length ≤ 1000 ∧
  ∀ H', Chg [t, w, l] H H' → TblAt C H' t w l (tk ++ ls.filter fun x => decide (pl ≤ x.1)) (max pl up) → Q .non H'
def sp_tbl_shown (C : Addr) : Sp := fun vs H Q _ => ∃ (t w l : Addr) (tk : List L3) (pl : Int), vs = [.ref t] ∧ TblAt C H t w l tk pl ∧ tk.length ≤ 1000 ∧ ∀ D H', H D = none → Same H H' → Tab H' D (wordAt tk) tk.length → Q (.ref D) H'
def sp_tbl_last (C : Addr) : Sp := fun vs H Q _ => ∃ (t w l : Addr) (tk : List L3) (pl : Int) (k : List Nat), vs = [.ref t, .str (S k)] ∧ TblAt C H t w l tk pl ∧ Q (.int ((lastP tk k).getD (-1))) H
def sp_last : Sp := fun vs H Q _ => ∃ (p : Addr) (ls : List L3) (k : List Nat), vs = [.ref p, .str (S k)] ∧ LTups H p (ls.map l3V) ∧ ls.length ≤ 100 ∧ (ls.Pairwise fun x y => x.1 < y.1) ∧ ∀ H', Same H H' → Q (.int ((lastP ls k).getD (-1))) H'
def sp_stands (K : PySem.W.Frag) (C : Addr) : Sp := fun vs H Q _ => ∃ (t w l : Addr) (tk : List L3) (pl : Int) (kp p : Addr) (ks : List (List Nat)), vs = [.ref t, .ref kp, .ref p, .int pl] ∧ TblAt C H t w l tk pl ∧ H kp = some (.lst (ks.map fun z => V.str (S z))) ∧ LTups H p (tk.map l3V) ∧ tk.length ≤ 100 ∧ (tk.Pairwise fun x y => x.1 < y.1) ∧
  ∀ H', Same H H' → Q (.bl true) H'
def sp_letters (K : PySem.W.Frag) : Sp := fun vs H Q _ => ∃ (p kp : Addr) (ns : List Int) (ks : List (List Nat)), vs = [.ref p, .ref kp] ∧ SqL K H p (ns.map V.int) ∧ H kp = some (.lst (ks.map fun z => V.str (S z))) ∧ 5 ≤ ks.length ∧ (∀ k ∈ ks, okS k) ∧
  ∀ D H' (ls : List L3), H D = none → Same H H' → ls.length = 30 → (ls.Pairwise fun x y => x.1 < y.1) → (∀ x ∈ ls, okL3 x ∧ 0 ≤ x.1) → LTups H' D (ls.map l3V) → Q (.ref D) H'
end L2

set_option Elab.async false
set_option linter.all false
set_option maxRecDepth 100000
set_option maxHeartbeats 4000000
namespace L2
open PySem PySem.Spec PyProof.Rows
/-! ### lendings: reads while the loans are walked, what is due -/
def LoanAt (C : Addr) (H : Hp) (r l : Addr) (M : LendM) : Prop := (∃ dx f t, H r = some (.ins C dx (lendF M f t l))) ∧ ∃ kvs, Rd H l (.dK kvs) ∧ ∀ p : Int, LoanO H (M.L p) (valV kvs (.inl p))
theorem LendAt.loan {C : Addr} {H : Hp} {r f t l : Addr} {M : LendM} (h : LendAt C H r f t l M) : LoanAt C H r l M := by
  obtain ⟨dx, e⟩ := h.obj
  obtain ⟨kvs, e2, _, v, _⟩ := h.loa
  exact ⟨⟨dx, f, t, e⟩, kvs, .inl e2, v⟩
theorem LendAt.same {C : Addr} {H H' : Hp} {r f t l : Addr} {M : LendM} (h : LendAt C H r f t l M) (s : Same H H') : LendAt C H' r f t l M := h.chg (A := []) (Chg.of_same s) (by simp) (by simp) (by simp) (by simp)
theorem RowAt.same {C : Addr} {H H' : Hp} {r d : Addr} {M : RowM} (h : RowAt C H r d M) (s : Same H H') : RowAt C H' r d M := h.chg (A := []) (Chg.of_same s) (by simp) (by simp)
def LSz (H : Hp) (l : Addr) (c : Nat) : Prop := ∃ kvs, H l = some (.dK kvs) ∧ kvs.length ≤ c
theorem LSz.same {H H' : Hp} {l : Addr} {c : Nat} (h : LSz H l c) (s : Same H H') : LSz H' l c := let ⟨k, e, b⟩ := h; ⟨k, s _ _ e, b⟩
theorem LSz.chg {A : List Addr} {H H' : Hp} {l : Addr} {c : Nat} (h : LSz H l c) (s : Chg A H H') (n : l ∉ A) : LSz H' l c := let ⟨k, e, b⟩ := h; ⟨k, s.keep _ _ e n, b⟩
theorem LSz.mono {H : Hp} {l : Addr} {c d : Nat} (h : LSz H l c) (s : c ≤ d) : LSz H l d := let ⟨k, e, b⟩ := h; ⟨k, e, Nat.le_trans b s⟩
def dueS (M : LendM) (turn : Int) (acc : List Int × Option Int) (p : Int) : List Int × Option Int := match acc.2 with
  | some _ => acc
  | none => if M.isLent p turn = true then acc else if M.T p < M.tries then (acc.1, some p) else (acc.1 ++ [p], none)
def dueG (M : LendM) (turn : Int) (l : List Int) : List Int × Option Int := l.foldl (dueS M turn) ([], none)
def oV : Option Int → V
  | none => .non
  | some p => .int p
def sp_r_loan_at (C : Addr) : Sp := fun vs H Q _ => ∃ (r l : Addr) (M : LendM) (p : Int), vs = [.ref r, .int p] ∧ LoanAt C H r l M ∧ ∀ v, LoanVal H (M.L p) v → Q v H
def sp_r_is_lent (C : Addr) : Sp := fun vs H Q _ => ∃ (r l : Addr) (M : LendM) (p turn : Int), vs = [.ref r, .int p, .int turn] ∧ LoanAt C H r l M ∧ Q (.bl (M.isLent p turn)) H
def sp_l_lend2 (C : Addr) : Sp := fun vs H Q _ => ∃ (r f t l : Addr) (M : LendM) (p : Int) (tk : List Nat) (turn : Int) (c : Nat), vs = [.ref r, .int p, .str (S tk), .int turn] ∧ LendAt C H r f t l M ∧ LSz H l c ∧ M.sz ≤ 100000 ∧
  ∀ H', Chg [r, t, l] H H' → LendAt C H' r f t l (M.lend p tk turn) → LSz H' l (if (M.L p).isSome = true then c else c + 1) → Q (.int (M.lent + 1)) H'
def pwf (M : LendM) (R : RowM) (fr : Int) : List Int := (R.seenP M.start fr R.last).filter fun p => (M.F p).isNone
def sp_pwf (C CR : Addr) : Sp := fun vs H Q _ => ∃ (r f t l : Addr) (M : LendM) (row d : Addr) (R : RowM) (fr : Int), vs = [.ref r, .ref row, .int fr] ∧ LendAt C H r f t l M ∧ RowAt CR H row d R ∧ R.last ≤ 1000 ∧ 0 ≤ M.start ∧ M.start ≤ 1000 ∧ 0 ≤ fr ∧
  ∀ D H', H D = none → Same H H' → H' D = some (.lst ((pwf M R fr).map V.int)) → Q (.ref D) H'
def sp_due_in (C CR : Addr) : Sp := fun vs H Q _ => ∃ (r f t l : Addr) (M : LendM) (row d : Addr) (R : RowM) (fr turn : Int) (c : Nat), vs = [.ref r, .ref row, .int fr, .int turn] ∧ LendAt C H r f t l M ∧ RowAt CR H row d R ∧ R.last ≤ 1000 ∧ 0 ≤ M.start ∧ M.start ≤ 1000 ∧ 0 ≤ fr ∧ LSz H l c ∧ (c : Int) < M.width ∧ c ≤ 1000 ∧
  ∀ A u H', H A = none → H u = none → Same H H' → H' A = some (.lst ((dueG M turn (pwf M R fr)).1.map V.int)) → H' u = some (.tup [.ref A, oV (dueG M turn (pwf M R fr)).2]) → Q (.ref u) H'
def sp_is_due (K : PySem.W.Frag) : Sp := fun vs H Q _ => ∃ (u A B : Addr) (xs : List Int) (o : Option Int), vs = [.ref u, .ref B, oV o] ∧ H u = some (.tup [.ref A, oV o]) ∧ H A = some (.lst (xs.map V.int)) ∧ H B = some (.lst (xs.map V.int)) ∧ xs.length ≤ 1000 ∧ ∀ H', Same H H' → Q (.bl true) H'
end L2

set_option Elab.async false
set_option linter.all false
set_option maxRecDepth 100000
set_option maxHeartbeats 4000000
namespace L2
open PySem PySem.Spec PyProof.Rows
/-! ### list.remove of an int -/
section
variable {X : Cx}
def rRemove : V → List V → Hp → VK → Prop := fun x vs H Q => ∃ (l : Addr) (ns : List Int) (k : Int) (j : Nat), x = .ref l ∧ vs = [.int k] ∧ H l = some (.lst (ns.map V.int)) ∧ ns[j]? = some k ∧ (∀ m, m < j → ns[m]? ≠ some k) ∧ Q .non (upd H l (.lst ((ns.eraseIdx j).map V.int)))
def isIntV (k : Int) : Value → Bool
  | .int n _ => n == k
  | _ => false
end
end L2

set_option Elab.async false
set_option linter.all false
set_option maxRecDepth 100000
set_option maxHeartbeats 4000000
namespace L2
open PySem
/-! ### an exception on its way, its own dict with it -/
/-- the exception at e: its class, its dict, its arguments, and where the newest entry of its tale stands -/
def TrD (h B : Heap) (e : Addr) (cls : Value) (dc : Option Addr) (a0 fl : Value) : Prop :=
  ∃ oe vs T oT ts, h.get? e = some oe ∧ oe.cls = cls ∧ oe.dict = dc ∧ oe.data = .fields vs ∧ vs[0]? = some a0 ∧ vs[1]? = some (.ref T) ∧ B.get? T = none ∧ T ≠ e ∧ h.get? T = some oT ∧ oT.data = .fields ts ∧ ts[3]? = some fl
/-- it flies through the frames l -/
structure Fly (B : Heap) (l : List Env) (e : Addr) (cls : Value) (dc : Option Addr) (a0 fl : Value) (h : Heap) : Prop where
  stay : B.StaysIn h
  new : B.get? e = none
  fun' : h.FunFrames B l
  tale : TrD h B e cls dc a0 fl
section
variable {M : Model} {A : Around} {E : Value → Shared → Prop} {s : Shared}
theorem mapF_dict (g : Array Value → Array Value) (o : Obj) : (o.mapFields g).dict = o.dict := by
  obtain ⟨c, d, t, sl⟩ := o
  cases t <;> rfl
/-- the newest entry is written -/
theorem entry_new {B : Heap} {env : Env} {out : List Env} {L e : Addr} {oe : Obj} {vs : Array Value} {top a0 : Value} {nx : Bool} {Q : Unit → Shared → Prop}
    (fr : A.frames = some (env :: out)) (ff : s.heap.FunFrames B (env :: out)) (ef : env.frame = some L) (ge : s.heap.get? e = some oe) (kb : B.StaysIn s.heap) (nb : B.get? e = none) (dt : oe.data = .fields vs) (sz : 1 < vs.size) (z0 : vs[0]? = some a0)
    (k : ∀ h', Fly B (env :: out) e oe.cls oe.dict a0 (rawInt L) h' → s.heap.UpToSlots h' → Q () { s with heap := h' }) :
    wpAny M A (do
      let fo ← frameOf env
      let pl ← entryPlaceOf L nx
      let en ← EntryCells.newEntry top fo .none (rawInt L) .none pl
      setField (.ref e) 1 en) Q E s := by
  have apart : e ∉ (env :: out).filterMap (·.frame) := by
    intro m
    obtain ⟨_, o, g, nf⟩ := ff.mem m
    rw [ge] at g
    cases g
    exact nf vs dt
  refine wpAny_bind (wpAny_frameOf_fun fr ff ef fun g1 so => wpAny_bind (wpAny_entryPlaceOf fun pl ip => ?_))
  unfold EntryCells.newEntry newFields
  refine wpAny_bind (wpAny_newObj_type ?_ (ip.sizeOk5 _ _ _ _ _))
  generalize hen : ([top, Value.ref L, Value.none, rawInt L, Value.none] ++ (if pl.isEmpty then List.replicate 6 Value.none else pl)).toArray = ts
  have e3 : ts[3]? = some (rawInt L) := by rw [← hen]; simp
  generalize ho : ({ cls := .type "traceback", dict := none, data := .fields ts } : Obj) = on
  have ge1 : g1.get? e = some oe := (so.2.1 e apart).trans ge
  have kb1 : B.StaysIn g1 := fun b o q => by
    refine (so.2.1 b fun m => ?_).trans (kb b o q)
    rw [(ff.mem m).1] at q
    cases q
  have ge2 : (g1.push on).get? e = some oe := Heap.get?_push_of_some _ ge1
  have norec : ∀ b o, s.heap.get? b = some o → (∀ ws, o.data ≠ .fields ws) → b ≠ e := fun b o q nf z => by
    subst z
    rw [ge] at q
    cases q
    exact nf vs dt
  refine wpAny_setField ge2 dt sz (k _ ?_ ?_)
  all_goals have nTe : g1.objs.size ≠ e := Nat.ne_of_gt (Heap.lt_size ge1)
  all_goals have dt3 := Obj.data_mapFields dt (·.setIfInBounds 1 (Value.ref g1.objs.size))
  all_goals have ge3 := Heap.get?_update_self (Obj.mapFields (·.setIfInBounds 1 (Value.ref g1.objs.size))) ge2 (Obj.isFreed_of_fields dt3)
  all_goals have gT : ((g1.push on).update e (Obj.mapFields (·.setIfInBounds 1 (Value.ref g1.objs.size)))).get? g1.objs.size = some on := (Heap.get?_update_other _ _ (Ne.symm nTe)).trans (Heap.get?_push_size g1 (by rw [← ho]; rfl))
  all_goals have keep : ∀ b o, b ≠ e → g1.get? b = some o → ((g1.push on).update e (Obj.mapFields (·.setIfInBounds 1 (Value.ref g1.objs.size)))).get? b = some o := fun b o nbe q => (Heap.get?_update_other _ _ (Ne.symm nbe)).trans (Heap.get?_push_of_some _ q)
  · refine ⟨fun b o q => keep b o (fun z => by rw [z, nb] at q; cases q) (kb1 b o q), nb, ff.of_keeps fun b o q nf => ?_, ?_⟩
    · obtain ⟨sl, q'⟩ := so.2.2 b o q
      exact ⟨_, keep b _ (norec b o q nf) q', rfl⟩
    · refine ⟨_, _, g1.objs.size, on, ts, ge3, Obj.cls_mapFields _ _, mapF_dict _ _, dt3, ?_, by simp [sz], kb1.fresh, nTe, gT, by rw [← ho], e3⟩
      rw [Array.getElem?_setIfInBounds_ne (by decide)]
      exact z0
  · intro b o q nf
    obtain ⟨sl, q'⟩ := so.2.2 b o q
    exact ⟨sl, keep b _ (norec b o q nf) q'⟩
/-- the first frame is noted -/
theorem note_first {B : Heap} {env : Env} {out : List Env} {L e : Addr} {oe : Obj} {vs : Array Value} {a0 : Value} {Q : Unit → Shared → Prop}
    (fr : A.frames = some (env :: out)) (ff : s.heap.FunFrames B (env :: out)) (ef : env.frame = some L) (ge : s.heap.get? e = some oe) (kb : B.StaysIn s.heap) (nb : B.get? e = none) (dt : oe.data = .fields vs) (z1 : vs[1]? = some .none) (z0 : vs[0]? = some a0)
    (k : ∀ h', Fly B (env :: out) e oe.cls oe.dict a0 (rawInt L) h' → s.heap.UpToSlots h' → Q () { s with heap := h' }) : wpAny M A (noteFrame (.ref e) env) Q E s := by
  unfold noteFrame
  simp only [ef]
  refine wpAny_bind (wpAny_field ge dt z1 ?_)
  rw [if_neg (by decide)]
  exact entry_new fr ff ef ge kb nb dt (Array.getElem?_eq_some_iff.mp z1).1 z0 k
/-- a next frame is noted -/
theorem note_next {B : Heap} {env : Env} {out : List Env} {L e : Addr} {cls : Value} {dc : Option Addr} {a0 : Value} {Q : Unit → Shared → Prop}
    (fr : A.frames = some (env :: out)) (ef : env.frame = some L) (fl : Fly B (env :: out) e cls dc a0 .none s.heap)
    (k : ∀ h', Fly B (env :: out) e cls dc a0 (rawInt L) h' → s.heap.UpToSlots h' → Q () { s with heap := h' }) : wpAny M A (noteFrame (.ref e) env) Q E s := by
  obtain ⟨kb, nb, ff, oe, vs, T, oT, ts, ge, hc, hdc, dt, z0, z1, nT, nTe, gT, dT, z3⟩ := fl
  subst hc hdc
  unfold noteFrame
  simp only [ef]
  refine wpAny_bind (wpAny_field ge dt z1 ?_)
  rw [if_pos (by simp)]
  refine wpAny_bind (wpAny_field gT dT z3 ?_)
  rw [if_neg (by simp [rawInt])]
  refine wpAny_bind (wpAny_setField gT dT (Array.getElem?_eq_some_iff.mp z3).1 ?_)
  have oth : ∀ b, b ≠ T → (s.heap.update T (Obj.mapFields (·.setIfInBounds 3 Value.none))).get? b = s.heap.get? b := fun b q => Heap.get?_update_other _ _ (Ne.symm q)
  have norec : ∀ b o, s.heap.get? b = some o → (∀ ws, o.data ≠ .fields ws) → b ≠ T := fun b o q nf z => by
    subst z
    rw [gT] at q
    cases q
    exact nf ts dT
  refine entry_new fr (ff.of_keeps fun b o q nf => ⟨o, (oth b (norec b o q nf)).trans q, rfl⟩) ef ((oth e (Ne.symm nTe)).trans ge) (fun b o q => (oth b fun z => by rw [z, nT] at q; cases q).trans (kb b o q)) nb dt (Array.getElem?_eq_some_iff.mp z1).1 z0 fun h' f' u' => k h' f' fun b o q nf => u' b o ((oth b (norec b o q nf)).trans q) nf
/-- it is on its way again -/
theorem flight_none {B : Heap} {l : List Env} {e : Addr} {cls : Value} {dc : Option Addr} {a0 fl : Value} {Q : Unit → Shared → Prop} (f : Fly B l e cls dc a0 fl s.heap)
    (k : ∀ h', Fly B l e cls dc a0 .none h' → s.heap.UpToSlots h' → Q () { s with heap := h' }) : wpAny M A (setFlight (.ref e) none) Q E s := by
  obtain ⟨kb, nb, ff, oe, vs, T, oT, ts, ge, hc, hdc, dt, z0, z1, nT, nTe, gT, dT, z3⟩ := f
  have z3' : 3 < ts.size := (Array.getElem?_eq_some_iff.mp z3).1
  have oth : ∀ b, b ≠ T → (s.heap.update T (Obj.mapFields (·.setIfInBounds 3 ((none : Option Addr).elim Value.none fun f => rawInt f)))).get? b = s.heap.get? b := fun b q => Heap.get?_update_other _ _ (Ne.symm q)
  have norec : ∀ b o, s.heap.get? b = some o → (∀ ws, o.data ≠ .fields ws) → b ≠ T := fun b o q nf z => by
    subst z
    rw [gT] at q
    cases q
    exact nf ts dT
  unfold setFlight
  refine wpAny_bind (wpAny_field ge dt z1 ?_)
  rw [if_pos (by simp)]
  refine wpAny_setField gT dT z3' (k _ ⟨fun b o q => (oth b fun z => by rw [z, nT] at q; cases q).trans (kb b o q), nb, ff.of_keeps fun b o q nf => ⟨o, (oth b (norec b o q nf)).trans q, rfl⟩, ?_⟩ fun b o q nf => ⟨o.slots, (oth b (norec b o q nf)).trans q⟩)
  exact ⟨oe, vs, T, _, _, (oth e (Ne.symm nTe)).trans ge, hc, hdc, dt, z0, z1, nT, nTe, Heap.get?_update_self _ gT (Obj.isFreed_of_fields (Obj.data_mapFields dT _)), Obj.data_mapFields dT _, by simp [z3']⟩
theorem Fly.pop {B : Heap} {env : Env} {out : List Env} {e : Addr} {cls : Value} {dc : Option Addr} {a0 fl : Value} {h : Heap} (f : Fly B (env :: out) e cls dc a0 fl h) : Fly B out e cls dc a0 fl h :=
  ⟨f.stay, f.new, let ⟨_, _, z⟩ := f.fun'; z, f.tale⟩
/-- it leaves a frame: the first one -/
theorem leave_first {B : Heap} {env : Env} {out : List Env} {L e : Addr} {oe : Obj} {vs : Array Value} {a0 : Value} {Q : Unit → Shared → Prop}
    (fr : A.frames = some (env :: out)) (ff : s.heap.FunFrames B (env :: out)) (ef : env.frame = some L) (ge : s.heap.get? e = some oe) (kb : B.StaysIn s.heap) (nb : B.get? e = none) (dt : oe.data = .fields vs) (z1 : vs[1]? = some .none) (z0 : vs[0]? = some a0)
    (k : ∀ h', Fly B out e oe.cls oe.dict a0 .none h' → s.heap.UpToSlots h' → Q () { s with heap := h' }) : wpAny M A (leaving env (.ref e)) Q E s := by
  unfold leaving
  exact wpAny_bind (note_first fr ff ef ge kb nb dt z1 z0 fun h1 f1 u1 => flight_none f1 fun h2 f2 u2 => k h2 f2.pop (u1.trans u2))
/-- .. any other one -/
theorem leave_next {B : Heap} {env : Env} {out : List Env} {L e : Addr} {cls : Value} {dc : Option Addr} {a0 : Value} {Q : Unit → Shared → Prop}
    (fr : A.frames = some (env :: out)) (ef : env.frame = some L) (fl : Fly B (env :: out) e cls dc a0 .none s.heap)
    (k : ∀ h', Fly B out e cls dc a0 .none h' → s.heap.UpToSlots h' → Q () { s with heap := h' }) : wpAny M A (leaving env (.ref e)) Q E s := by
  unfold leaving
  exact wpAny_bind (note_next fr ef fl fun h1 f1 u1 => flight_none f1 fun h2 f2 u2 => k h2 f2.pop (u1.trans u2))
end
end L2

set_option Elab.async false
set_option linter.all false
set_option maxRecDepth 100000
set_option maxHeartbeats 4000000
namespace L2
open PySem PySem.Spec PyProof.Rows
/-! ### an exception leaves a def -/
/-- what B (the heap at the throw, without the frames and the exception) keeps of h -/
structure Bas (l : List Env) (H H' : Hp) (h B : Heap) : Prop where
  keep : ∀ b o, h.get? b = some o → H b = none → b ∉ frs l → B.get? b = some o
  free : ∀ b o, h.get? b = some o → H b = none → H' b = none
  there : ∀ b o, h.get? b = some o → b ∉ frs l → ∃ o', B.get? b = some o'
  tups : ∀ b xs, H b = some (.tup xs) → H' b = some (.tup xs)
  frzs : ∀ b o u, H b = some (.frz o u) → H' b = some (.frz o u)
  tbls : ∀ b ps, H b = some (.tbl ps) → ∃ more, H' b = some (.tbl (ps ++ more))
/-- of the frames only the slots changed -/
def Slo (l : List Env) (h h' : Heap) : Prop := ∀ b o, b ∈ frs l → h.get? b = some o → ∃ sl, h'.get? b = some { o with slots := sl }
structure Thr (P : Program) (w : World) (l : List Env) (H : Hp) (s : Shared) (ea C : Addr) (dx : Option Addr) (fl : Value) (B : Heap) (H' : Hp) (s' : Shared) : Prop where
  os : s'.os = s.os
  bare : AllBare s'.gens
  fly : ∃ a0, Fly B l ea (.ref C) dx a0 fl s'.heap
  hok : HOk P w H' B
  bas : Bas l H H' s.heap B
  slo : Slo l s.heap s'.heap
def CXv (P : Program) (w : World) : CXT := fun l H s E e s' => ∃ ea C dx B H', e = .ref ea ∧ Thr P w l H s ea C dx .none B H' s' ∧ E (.ref C) dx H'
section
variable {P : Program} {w : World} {l : List Env} {H H' : Hp} {s s' : Shared} {ea C : Addr} {dx : Option Addr} {fl : Value} {B : Heap}
theorem Thr.stay (t : Thr P w l H s ea C dx fl B H' s') : B.StaysIn s'.heap := let ⟨_, f⟩ := t.fly; f.stay
theorem Thr.held (t : Thr P w l H s ea C dx fl B H' s') : HOk P w H' s'.heap := t.hok.kept t.stay
theorem Thr.un (t : Thr P w l H s ea C dx fl B H' s') : Un (frs l) [] H H' s.heap s'.heap where
  keep := fun b o e n hb _ => t.stay b o (t.bas.keep b o e n hb)
  slot := fun b o e _ hb _ => t.slo b o hb e
  free := fun b o e n _ => t.bas.free b o e n
  there := fun b o e _ => by
    by_cases hb : b ∈ frs l
    · obtain ⟨sl, q⟩ := t.slo b o hb e; exact ⟨_, q⟩
    · obtain ⟨o', q⟩ := t.bas.there b o e hb; exact ⟨o', t.stay b o' q⟩
  tups := t.bas.tups
  frzs := t.bas.frzs
  tbls := t.bas.tbls
/-- none leaves -/
theorem passv0 {X : Cx} : Passes (CXv P w) X E0 := fun _ _ _ _ _ _ _ ⟨_, _, _, _, _, _, _, h⟩ => h.elim
end
section
variable {X : Cx} {pins : List (Addr × Obj)} {σ : St} {H H' : Hp} {s s' : Shared} {ea C : Addr} {dx : Option Addr} {fl : Value} {B : Heap}
theorem Inv.low (I : Inv X pins σ H s) {b : Addr} {o : Obj} (e : X.s₀.heap.get? b = some o) (hb : b ∉ frs X.outer) : b ∉ frs X.stack := fun z => by
  rcases List.mem_cons.mp (I.stkSub b z) with r | r
  · exact absurd (Heap.lt_size e) (by rw [r]; exact Nat.not_lt.mpr I.ok.above)
  · exact hb r
/-- from a body to its caller -/
theorem Bas.out (I : Inv X pins σ H s) (hex : X.ex = []) (t : Bas X.stack H H' s.heap B) : Bas X.outer X.H₀ H' X.s₀.heap B where
  keep := fun b o e n hb => t.keep b o (I.base.keep b o e n hb (by rw [hex]; simp)) (I.base.free b o e n (by rw [hex]; simp)) (I.low e hb)
  free := fun b o e n => by
    obtain ⟨o', q⟩ := I.base.there b o e (by rw [hex]; simp)
    exact t.free b o' q (I.base.free b o e n (by rw [hex]; simp))
  there := fun b o e hb => by
    obtain ⟨o', q⟩ := I.base.there b o e (by rw [hex]; simp)
    exact t.there b o' q (I.low e hb)
  tups := fun b xs q => t.tups b xs (I.base.tups b xs q)
  frzs := fun b o u q => t.frzs b o u (I.base.frzs b o u q)
  tbls := fun b ps q => by
    obtain ⟨m1, e1⟩ := I.base.tbls b ps q
    obtain ⟨m2, e2⟩ := t.tbls b _ e1
    exact ⟨m1 ++ m2, by rw [e2, Array.append_assoc]⟩
theorem Inv.inner (I : Inv X pins σ H s) {b : Addr} (hb : b ∈ frs X.outer) : b ∈ frs X.stack := by
  rcases I.ok.stk with e | ⟨e, hf⟩
  · rw [e]; exact hb
  · rw [e]
    unfold frs
    rw [List.filterMap_cons, hf]
    exact List.mem_cons_of_mem _ hb
theorem Slo.out {h' : Heap} (I : Inv X pins σ H s) (hex : X.ex = []) (t : Slo X.stack s.heap s'.heap) (u : s'.heap.UpToSlots h') : Slo X.outer X.s₀.heap h' := fun b o hb e => by
  obtain ⟨_, o1, ho1, nf⟩ := I.ok.funs.mem hb
  rw [e] at ho1
  cases ho1
  obtain ⟨sl, e1⟩ := I.base.slot b o e (I.ok.frf b hb) hb (by rw [hex]; simp)
  obtain ⟨sl2, e2⟩ := t b _ (I.inner hb) e1
  obtain ⟨sl3, e3⟩ := u b _ e2 nf
  exact ⟨sl3, e3⟩
end
section
variable {P : Program} {w : World} {K : PySem.W.Frag} {mg : Str → Option Value} {base : Heap} {N : List Str} {qual : Str} {scope : Scope} {f : Addr} {cd : Value} {A : Around} {outer : List Env} {s : Shared} {H : Hp} {E : XK}
/-- a callee's exception leaves this def too -/
theorem passX : Passes (CXv P w) (cxOf (CXv P w) P w K mg base N qual scope f cd A outer s H E) E := by
  rintro pins σ H1 s1 e s' I ⟨ea, C, dx, B, H', rfl, T, q⟩
  obtain ⟨a0, fl⟩ := T.fly
  show wpAny _ _ (leaving _ _) _ _ _
  refine leave_next I.ok.frames rfl fl fun h2 f2 u2 => ⟨ea, C, dx, B, H', rfl, ⟨T.os.trans I.os, T.bare, ⟨a0, f2⟩, T.hok, T.bas.out I rfl, T.slo.out I rfl u2⟩, q⟩
end
/-! ### an exception's object -/
abbrev XObj (C t : Addr) (dx : Option Addr) : Obj := { cls := .ref C, dict := dx, data := .fields #[.ref t, .none, .none, .none, .bool false, .none] }
def xo (ea C t : Addr) (dx : Option Addr) : HO := .ext fun h => h.get? ea = some (XObj C t dx)
theorem xo_ok {P : Program} {w : World} {H : Hp} {h : Heap} {ea C t : Addr} {dx : Option Addr} (e : h.get? ea = some (XObj C t dx)) : ObjOk P w H h ea (xo ea C t dx) :=
  ⟨e, ⟨_, e⟩, fun _ _ q k => k _ q⟩
theorem xo_get {P : Program} {w : World} {H : Hp} {h : Heap} {ea C t : Addr} {dx : Option Addr} (x : HOk P w H h) (e : H ea = some (xo ea C t dx)) : h.get? ea = some (XObj C t dx) :=
  (show ObjOk P w H h ea (xo ea C t dx) from x _ _ e).1
def del (H : Hp) (a : Addr) : Hp := fun b => if b = a then none else H b
theorem del_ne {H : Hp} {a b : Addr} (h : b ≠ a) : del H a b = H b := by unfold del; rw [if_neg h]
theorem del_self {H : Hp} {a : Addr} : del H a a = none := by unfold del; rw [if_pos rfl]
/-- where a fresh exception goes -/
def RaiseTo (X : Cx) (E : XK) : Prop := ∀ (pins : List (Addr × Obj)) (σ : St) (H : Hp) (s : Shared) (ea C t : Addr) (dx : Option Addr), Inv X pins σ H s → H ea = some (xo ea C t dx) → X.s₀.heap.objs.size ≤ ea → E (.ref C) dx (del H ea) → X.xe (.ref ea) s
section
variable {X : Cx} {pins : List (Addr × Obj)} {σ : St} {H : Hp} {s : Shared} {ea C t : Addr} {dx : Option Addr}
/-- the heap at the throw -/
def atThrow (X : Cx) (s : Shared) (ea : Addr) : Heap := PySem.W.hideAll s.heap (ea :: frs X.stack)
theorem at_hok (I : Inv X pins σ H s) (he : H ea = some (xo ea C t dx)) : HOk X.prog X.w (del H ea) (atThrow X s ea) := fun b u q => by
  have nb : b ≠ ea := fun z => by rw [z, del_self] at q; cases q
  rw [del_ne nb] at q
  have nown : ∀ c y, H c = some (.own y) → c ≠ ea := fun c y r z => by rw [z, he] at r; cases r
  have ntup : ∀ c xs, H c = some (.tup xs) → c ≠ ea := fun c xs r z => by rw [z, he] at r; cases r
  have nfr : ∀ c u, H c = some u → c ∉ frs X.stack := fun c u r z => by rw [I.stkFree c z] at r; cases r
  refine (I.hok b u q).stay (fun c v hc r => PySem.W.hideAll_get _ r fun m => ?_) (fun c r => by rw [del_ne (nown c b r)]; exact r) fun c xs r => by rw [del_ne (ntup c xs r)]; exact r
  rcases List.mem_cons.mp m with z | z
  · rcases hc with r' | r'
    · exact nb (r'.symm.trans z)
    · exact nown c b r' z
  · rcases hc with r' | r'
    · rw [r'] at z; exact nfr b u q z
    · exact nfr c _ r' z
theorem at_bas (I : Inv X pins σ H s) (hex : X.ex = []) (he : H ea = some (xo ea C t dx)) (hn : X.s₀.heap.objs.size ≤ ea) : Bas X.outer X.H₀ (del H ea) X.s₀.heap (atThrow X s ea) where
  keep := fun b o e n hb => PySem.W.hideAll_get _ (I.base.keep b o e n hb (by rw [hex]; simp)) fun m => by
    rcases List.mem_cons.mp m with z | z
    · exact absurd (Heap.lt_size e) (by rw [z]; exact Nat.not_lt.mpr hn)
    · exact I.low e hb z
  free := fun b o e n => by
    rw [del_ne fun z => absurd (Heap.lt_size e) (by rw [z]; exact Nat.not_lt.mpr hn)]
    exact I.base.free b o e n (by rw [hex]; simp)
  there := fun b o e hb => by
    obtain ⟨o', q⟩ := I.base.there b o e (by rw [hex]; simp)
    refine ⟨o', PySem.W.hideAll_get _ q fun m => ?_⟩
    rcases List.mem_cons.mp m with z | z
    · exact absurd (Heap.lt_size e) (by rw [z]; exact Nat.not_lt.mpr hn)
    · exact I.low e hb z
  tups := fun b xs q => by
    have r := I.base.tups b xs q
    rw [del_ne fun z => by rw [z, he] at r; cases r]
    exact r
  frzs := fun b o u q => by
    have r := I.base.frzs b o u q
    rw [del_ne fun z => by rw [z, he] at r; cases r]
    exact r
  tbls := fun b ps q => by
    obtain ⟨m, r⟩ := I.base.tbls b ps q
    exact ⟨m, by rw [del_ne fun z => by rw [z, he] at r; cases r]; exact r⟩
theorem at_funs (I : Inv X pins σ H s) : s.heap.FunFrames (atThrow X s ea) X.stack := by
  refine PySem.W.funFrames_hide I.stack fun env hm a e => List.mem_cons_of_mem _ ?_
  exact List.mem_filterMap.mpr ⟨env, hm, e⟩
end
section
variable {P : Program} {w : World} {K : PySem.W.Frag} {mg : Str → Option Value} {base : Heap} {N : List Str} {qual : Str} {scope : Scope} {f : Addr} {cd : Value} {A : Around} {outer : List Env} {s : Shared} {H : Hp} {E : XK}
theorem raiseX : RaiseTo (cxOf (CXv P w) P w K mg base N qual scope f cd A outer s H E) E := by
  intro pins σ H1 s1 ea C t dx I he hn q
  have ge := xo_get I.hok he
  show wpAny _ _ (leaving _ _) _ _ _
  refine leave_first (B := atThrow _ s1 ea) I.ok.frames (at_funs I) rfl ge (fun b o z => PySem.W.of_hideAll _ z) (PySem.W.hideAll_none _ List.mem_cons_self) rfl rfl rfl fun h2 f2 u2 => ?_
  exact ⟨ea, C, dx, _, _, rfl, ⟨I.os, I.bare, ⟨_, f2⟩, at_hok I he, at_bas I rfl he hn, Slo.out I rfl (fun b o _ e => ⟨o.slots, e⟩) u2⟩, q⟩
end
section
variable {P : Program} {w : World} {K : PySem.W.Frag} {mg : Str → Option Value} {base : Heap}
/-- the rule for a def that may raise -/
theorem Fun.okX {x qual : Str} {st : Stmt} {f : Addr} {fd : FuncData} {N ps : List Str} {k : Nat} {sp : Sp} (F : Fun K x qual st f fd) (S : FnScope N ps (defScope st)) (len : ∀ vs H Q E, sp vs H Q E → vs.length = ps.length)
    (hbody : ∀ (cdv : Value) (A : Around) (outer : List Env) (s : Shared) (H : Hp) (vs : List V) (Q : VK) (E : XK), Room k (A.deeper (envOfC qual (defScope st) s.heap.objs.size f cdv)) → sp vs H Q E →
      ∃ t, PSs (cxOf (CXv P w) P w K mg base N qual (defScope st) f cdv A outer s H E) (defBody st) t ∧ t { nx := fun _ H' => Q .non H', rt := Q } (start N vs) H) : FnOk P w K mg base (CXv P w) (k + 1) f fd ps sp := by
  obtain ⟨oc, od, kV, doc, pm, an, cdv, ct, osl, rfl, lk, hcd⟩ := F.ex
  exact fn_of lk hcd S len fun A outer s H vs Q E hr hsp => hbody cdv A outer s H vs Q E hr hsp
end
end L2

set_option Elab.async false
set_option linter.all false
set_option maxRecDepth 100000
set_option maxHeartbeats 4000000
namespace L2
open PySem PySem.Spec PyProof.Rows Builtin Builtin.ObjectAttr
/-! ### an own exception's class, by the text -/
def valTail : List Value := [.type "ValueError", .type "Exception", .type "BaseException", .type "object"]
def xOver : List Value → Bool
  | .ref _ :: r => xOver r
  | l => l == valTail
theorem xOver_shape : ∀ {l : List Value}, xOver l = true → ∃ rs : List Addr, l = rs.map Value.ref ++ valTail
  | [], h => by cases h
  | v :: r, h => by
    cases v with
    | ref a =>
      obtain ⟨rs, e⟩ := xOver_shape (l := r) h
      exact ⟨a :: rs, by rw [e]; rfl⟩
    | _ => exact ⟨[], beq_iff_eq.mp h⟩
theorem tail_has {X : String} {b : Bool} (e : valTail.contains (.type X) = b) : ∀ rs : List Addr, (rs.map Value.ref ++ valTail).contains (.type X) = b
  | [] => e
  | a :: r => by
    rw [List.map_cons, List.cons_append, List.contains_cons, tail_has e r]
    rfl
theorem xOver_has {l : List Value} (h : xOver l = true) {X : String} {b : Bool} (e : valTail.contains (.type X) = b) : l.contains (.type X) = b := by
  obtain ⟨rs, rfl⟩ := xOver_shape h
  exact tail_has e rs
theorem xOver_pass (self : Value) {l : List Value} (h : xOver l = true) : refuseLoop self "__setattr__" l = pure () := by
  obtain ⟨rs, rfl⟩ := xOver_shape h
  clear h
  induction rs with
  | nil => exact PySem.F.store_ValueError.passes self
  | cons a r ih => rw [List.map_cons, List.cons_append, refuseLoop_ref]; exact ih
def xIn (K : PySem.W.Frag) (C : Addr) : Bool := match K.lookup C with
  | some ⟨.type "type", _, .cls cd, sl⟩ => (match cd.mro, sl.toList with
    | .ref C' :: bm, [_, _, _, _, some (.builtin n), _] => C' == C && (!cd.hasDel && (cd.hasDict && (xOver bm && n == "ValueError.__new__")))
    | _, _ => false)
  | _ => false
theorem xIn_cls {K : PySem.W.Frag} {C : Addr} (q : xIn K C = true) : ∃ nm qn N bs bm sn sub ab col dd k0 k1 k2 k3 k5,
    K.lookup C = some (excClassObj nm qn C N bs bm true sn sub ab col dd k0 k1 k2 k3 k5 "ValueError.__new__") ∧ xOver bm = true := by
  unfold xIn at q
  split at q
  · rename_i dd cd sl ho
    split at q
    · rename_i C' bm k0 k1 k2 k3 n k5 hm hs
      simp only [Bool.and_eq_true, beq_iff_eq, Bool.not_eq_true'] at q
      obtain ⟨rfl, q1, q2, q3, rfl⟩ := q
      obtain ⟨nm, bs, mro, ns, qn, hd, sn, sub, ab, col, de⟩ := cd
      dsimp only at hm q1 q2
      subst hm q1 q2
      obtain ⟨sl⟩ := sl
      dsimp only at hs
      subst hs
      exact ⟨nm, qn, ns, bs, bm, sn, sub, ab, col, dd, k0, k1, k2, k3, k5, ho, q3⟩
    · cases q
  · cases q
structure XCls (K : PySem.W.Frag) (C : Addr) : Prop where
  x : xIn K C = true
  kp : PySem.W.keepIn K (.ref C) = true
  sa : PySem.W.findIn K (.ref C) "__setattr__" = some (some (.builtin "object.__setattr__"))
  ga : PySem.W.findIn K (.ref C) "__getattribute__" = some (some (.builtin "BaseException.__getattribute__"))
  gn : PySem.W.findIn K (.ref C) "__getattr__" = some none
  hd : PySem.W.hasDictIn K C = true
section
variable {M : Model} {A : Around} {E : Value → Shared → Prop} {h : Heap} {g : Array GenState} {d : Drawn} {t : Nat} {os : OsState}
variable {nm qn : Str} {C N : Addr} {bs bm : List Value} {hdct : Bool} {sn : List Str} {sub : List Value} {ab : Bool} {col : Option Bool} {dd : Option Addr} {k0 k1 k2 k3 k5 : Option Value}
theorem x_check {us : List Value} {Q : Unit → Shared → Prop} (hC : h.get? C = some (excClassObj nm qn C N bs bm hdct sn sub ab col dd k0 k1 k2 k3 k5 "ValueError.__new__")) (ho : xOver bm = true)
    (q : Q () ⟨h, g, d, t, os⟩) : wpAny M A (checkBuiltinCall "ValueError.__new__" ⟨.ref C :: us, []⟩) Q E ⟨h, g, d, t, os⟩ := by
  have F := PySem.F.excBase_ValueError
  have c1 : (Value.ref C :: bm).contains (.type "ValueError") = true := by rw [List.contains_cons, xOver_has ho (b := true) (by decide), Bool.or_true]
  have st := F.noStar
  simp only [checkBuiltinCall, F.newKind, F.newSplit, F.newRow]
  repeat (first | (refine wpAny_loadPart_at hC ?_) | (refine wpAny_isSubtype_exc hC ?_; rw [c1]) | (refine wpAny_staticBase_exc hC ?_) | (refine wpAny_madeBy_exc hC ?_) | (simp only [bne_self_eq_false, Bool.false_eq_true, if_false]) | wp_step)
  exact q
end
section
variable {prog : Program} {w : World} {A : Around} {R : Result → Shared → Prop} {h : Heap} {g : Array GenState} {d : Drawn} {t : Nat} {os : OsState}
variable {nm qn : Str} {C N : Addr} {bs bm : List Value} {hdct : Bool} {sn : List Str} {sub : List Value} {ab : Bool} {col : Option Bool} {dd : Option Addr} {k0 k1 k2 k3 k5 : Option Value}
abbrev xTup (us : List Value) : Obj := { cls := .type "tuple", data := .seq us.toArray }
theorem x_new {us : List Value} (hC : h.get? C = some (excClassObj nm qn C N bs bm hdct sn sub ab col dd k0 k1 k2 k3 k5 "ValueError.__new__")) (ho : xOver bm = true)
    (q : R (.ok (.ret (.ref (h.objs.size + 1)))) ⟨(h.push (xTup us)).push (XObj C h.objs.size none), g, d, t, os⟩) (hl : us.length ≤ sizeLine) :
    codeAny (model prog w) A (.builtin "ValueError.__new__" ⟨.ref C :: us, []⟩) R ⟨h, g, d, t, os⟩ := by
  have F := PySem.F.excBase_ValueError
  have en := F.ends
  have c1 : (Value.ref C :: bm).contains (.type "ValueError") = true := by rw [List.contains_cons, xOver_has ho (b := true) (by decide), Bool.or_true]
  have c2 : (Value.ref C :: bm).contains (.type "AttributeError") = false := by rw [List.contains_cons, xOver_has ho (b := false) (by decide)]; rfl
  have c3 : (Value.ref C :: bm).contains (.type "NameError") = false := by rw [List.contains_cons, xOver_has ho (b := false) (by decide)]; rfl
  refine codeAny_builtinAt F.entry ?_
  unfold Builtin.«BaseException.__new__»
  refine PySem.wpAt_bind ?_
  show PySem.wpAt _ _ _ (stack >>= _) _ _ _
  refine PySem.wpAt_bind (PySem.wpAt_stack fun _ _ => PySem.wpAt_of_wpAny ?_)
  wp_walk
  refine PySem.wpAt_of_wpAny ?_
  rw [F.owner]
  repeat (first | (with_reducible refine wpAny_madeHere_exc F.canon hC ?_) | (with_reducible refine wpAny_loadPart_at hC ?_) | (with_reducible refine wpAny_isSubtype_exc hC ?_; first | rw [c1] | rw [c2] | rw [c3]) | wp_step)
  show R _ _
  rw [Heap.size_push]
  exact q
theorem x_tcall {K : PySem.W.Frag} {f : Addr} {hh : Heap} {us : List Value} {Q : Fin → Shared → Prop} {E : Value → Shared → Prop} (X : K.In hh) (c : XCls K C) (hi : PySem.W.findIn K (.ref C) "__init__" = some (some (.ref f))) (hf : PySem.W.isFn K (.ref f) = true) (hl : us.length ≤ sizeLine)
    (hq : wpAny (model prog w) A (call (.ref f) (.ref (hh.objs.size + 1) :: us)) (fun r s' => r = .none ∧ Q (.done (.ret (.ref (hh.objs.size + 1)))) s') E ⟨(hh.push (xTup us)).push (XObj C hh.objs.size none), g, d, t, os⟩) :
    wpAny (model prog w) A (Builtin.«type.__call__» ⟨.ref C :: us, []⟩) Q E ⟨hh, g, d, t, os⟩ := by
  obtain ⟨nm, qn, N, bs, bm, sn, sub, ab, col, dd, k0, k1, k2, k3, k5, hK, ho⟩ := xIn_cls c.x
  have hC := X _ _ hK
  have F := PySem.F.excBase_ValueError
  have k : ∀ b o, hh.get? b = some o → ((hh.push (xTup us)).push (XObj C hh.objs.size none)).get? b = some o := fun b o e => Heap.get?_push_of_some _ (Heap.get?_push_of_some _ e)
  repeat (first | (with_reducible refine wpAny_loadPart_at hC ?_) | (with_reducible refine wpAny_madeBy_exc hC ?_) | wp_step)
  refine codeAny_call_builtin_code (Code.quiet_builtin _ F.quiet) (x_check hC ho ?_)
  refine x_new hC ho ?_ hl
  show wpAny _ _ _ _ _ _
  have hC1 := k _ _ hC
  have hx : ((hh.push (xTup us)).push (XObj C hh.objs.size none)).get? (hh.objs.size + 1) = some ({ cls := .ref C, dict := none, data := .fields #[.ref hh.objs.size, .none, .none, .none, .bool false, .none] } : Obj) := by heap_get
  have c4 : (Value.ref C :: bm).contains (.ref C) = true := by simp
  unfold isInstance
  repeat (first | (with_reducible refine wpAny_loadPart_at hx ?_) | (with_reducible refine wpAny_isSubtype_exc hC1 ?_; rw [c4]) | wp_step)
  show wpAny _ _ (typeLookup (.ref C) _) _ _ _
  refine ((PySem.W.looks_findIn X hi).keeps k).at ?_
  refine wpAny_holding (wpAny_bind (((PySem.W.bind_fn X (.ref (hh.objs.size + 1)) (beq_iff_eq.mp hf)).keeps k).at ?_))
  refine wpAny_bind (wpAny_mono hq (fun r s' z => ?_) fun _ _ z => z)
  obtain ⟨rfl, z⟩ := z
  wp_walk
  exact z
/-- C(..): the object, then its __init__ -/
theorem x_call {K : PySem.W.Frag} {f : Addr} {s : Shared} {us : List Value} {Q : Value → Shared → Prop} {E : Value → Shared → Prop} (X : K.In s.heap) (c : XCls K C) (hi : PySem.W.findIn K (.ref C) "__init__" = some (some (.ref f))) (hf : PySem.W.isFn K (.ref f) = true) (hl : us.length ≤ sizeLine)
    (hq : wpAny (model prog w) (A.under (.builtin "type.__call__" ⟨.ref C :: us, []⟩)) (call (.ref f) (.ref (s.heap.objs.size + 1) :: us)) (fun r s' => r = .none ∧ Q (.ref (s.heap.objs.size + 1)) s') E
      { s with heap := (s.heap.push (xTup us)).push (XObj C s.heap.objs.size none) }) : wpAny (model prog w) A (call (.ref C) us) Q E s := by
  obtain ⟨hh, g, d, t, os⟩ := s
  obtain ⟨nm, qn, N, bs, bm, sn, sub, ab, col, dd, k0, k1, k2, k3, k5, hK, ho⟩ := xIn_cls c.x
  have hC := X _ _ hK
  dsimp only at hC
  have f1 := tc_lookup
  have f2 := tc_bind (.ref C)
  have hT : (⟨hh, g, d, t, os⟩ : Shared).TypeIs (.ref C) "type" := ⟨_, hC, rfl⟩
  refine wpAny_call (codeAny_of_tree ?_)
  show wpAny _ _ (callAny (.ref C) _) _ _ _
  repeat (any_goals (first | assumption | (with_reducible refine wpAny_loadPart_at hC ?_) | wp_step))
  refine ⟨rfl, ?_⟩
  exact codeAny_call_builtin_at (Code.quiet_builtin _ (by decide +kernel)) entry_typeCall (wpAny_check_type_call_sub hC (x_tcall X c hi hf hl hq))
end
section
variable {prog : Program} {w : World} {A : Around} {E : Value → Shared → Prop} {s : Shared} {K : PySem.W.Frag} {x C : Addr} {name : Str} {v : Value}
theorem get_x {ox : Obj} {od : Option Obj} {expr : Bool} {Q : Value → Shared → Prop} (X : K.In s.heap) (I : PySem.W.InstAt s.heap x ox C od) (c : xIn K C = true) (hga : PySem.W.findIn K (.ref C) "__getattribute__" = some (some (.builtin "BaseException.__getattribute__"))) (hgn : PySem.W.findIn K (.ref C) "__getattr__" = some none)
    (hf : PySem.W.findObj K C od name = some (.value v)) (hh : PySem.W.handedIn v = true) (h : Q v { s with toks := s.toks + 1 }) : wpAny (model prog w) A (getAttr (.ref x) name expr) Q E s := by
  obtain ⟨h0, g, d, t, os⟩ := s
  obtain ⟨nm, qn, N, bs, bm, sn, sub, ab, col, dd, k0, k1, k2, k3, k5, hK, ho⟩ := xIn_cls c
  have L0 := I.type (M := model prog w)
  have L1 := PySem.W.looks_findIn (M := model prog w) X hga
  have L2 := PySem.W.looks_findIn (M := model prog w) X hgn
  have L3 := PySem.W.looks_find (M := model prog w) X I hf
  unfold getAttr getAttrBy
  refine wpAny_bind (wpAny_mkText (wpAny_holding (wpAny_bind (L0.at (wpAny_bind (L1.at ?_))))))
  show wpAny _ _ (getAttrByItsOwn _ _ _ _ _ _) _ _ _
  unfold getAttrByItsOwn
  have G := PySem.F.excAttr_ValueError.ga
  have e1 : callGetattribute (.ref x) (.str name t) (.builtin "BaseException.__getattribute__") expr = boundAndCalled (.builtin "BaseException.__getattribute__") (.ref x) (.str name t) := by
    unfold callGetattribute
    cases expr <;> rfl
  have LB : PySem.W.Looks (model prog w) h0 (isInstance (.ref x) (.type "BaseException")) true := L0.andThen (PySem.W.looks_mroIn X (by
    obtain ⟨cd, hc, hcm⟩ : ∃ cd, PySem.W.clsIn K C = some cd ∧ cd.mro = .ref C :: bm := ⟨_, by unfold PySem.W.clsIn; rw [hK], rfl⟩
    unfold PySem.W.mroIn
    rw [hc, Option.bind_some, hcm, if_neg (by simp), List.contains_cons, xOver_has ho (b := true) (by decide), Bool.or_true]))
  refine wpAny_bind (show wpAny _ _ (typeLookup (.ref C) "__getattr__") _ _ _ from L2.at ?_)
  refine wpAny_bind (wpAny_attempt (wpAny_holding ?_))
  rw [e1]
  unfold boundAndCalled
  rw [G.bind]
  refine wpAny_bind (wpAny_pure (wpAny_call (codeAny_call_builtin G.plain PySem.F.entry_bexc_ga (@PySem.W.check_slot (model prog w) _ _ ⟨h0, g, d, t + 1, os⟩ "BaseException.__getattribute__" "BaseException" "__getattribute__" (.ref x) [.str name t] [] _ (by decide +kernel) (by decide +kernel) LB (PySem.F.args_bexc_ga _ _) ?_))))
  refine wpAny_bind (wpAny_pure (wpAny_bind (wpAny_pure (wpAny_bind (L0.at (wpAny_bind (L3.at ?_)))))))
  refine wpAny_pure ?_
  show wpAny _ _ (handedOut v) _ _ _
  rw [PySem.W.handedOut_of hh]
  exact wpAny_pure h
end
end L2

set_option Elab.async false
set_option linter.all false
set_option maxRecDepth 100000
set_option maxHeartbeats 4000000
namespace L2
open PySem PySem.Spec PyProof.Rows Builtin Builtin.ObjectAttr
/-! ### an exception's own dict -/
def xdo (d : Addr) (fs : List (Str × V)) : HO := .ext fun h => ∃ mA, h.Ns1 d mA ∧ ∀ f, RelO (fs.lookup f) (mA f)
theorem xdo_ok {P : Program} {w : World} {H : Hp} {h : Heap} {d : Addr} {fs : List (Str × V)} {mA : Str → Option Value} (e : h.Ns1 d mA) (r : ∀ f, RelO (fs.lookup f) (mA f)) : ObjOk P w H h d (xdo d fs) := by
  refine ⟨⟨mA, e, r⟩, ?_, fun h1 h2 ⟨m, e1, r1⟩ k => ⟨m, ?_, r1⟩⟩
  · obtain ⟨o, _, _, e1, _⟩ := e
    exact ⟨o, e1⟩
  · exact e1.at k
theorem xdo_get {P : Program} {w : World} {H : Hp} {h : Heap} {d : Addr} {fs : List (Str × V)} (x : HOk P w H h) (e : H d = some (xdo d fs)) : ∃ mA, h.Ns1 d mA ∧ ∀ f, RelO (fs.lookup f) (mA f) :=
  (show ObjOk P w H h d (xdo d fs) from x _ _ e).1
theorem within_of {fs : List (Str × V)} {mA : Str → Option Value} (r : ∀ f, RelO (fs.lookup f) (mA f)) : PySem.Within mA (fs.map (·.1)) := fun y hy => by
  cases e : fs.lookup y with
  | none =>
    have := r y
    rw [e] at this
    exact absurd (RelO.none_of this) hy
  | some v => exact List.mem_map.mpr ⟨(y, v), PySem.mem_of_lookup e, rfl⟩
section
variable {prog : Program} {w : World} {A : Around} {E : Value → Shared → Prop} {s : Shared} {K : PySem.W.Frag} {x C t dx : Addr} {name : Str} {v : Value}
theorem osa_x {ox : Obj} {od : Option Obj} {tk : Tok} {R : Result → Shared → Prop} (X : K.In s.heap) (I : PySem.W.InstAt s.heap x ox C od) (c : XCls K C) (ht : PySem.W.takerIn K C name = some none)
    (h : ∀ b, wpAny (model prog w) A.in1 (storeInOwnDict (.ref x) (.ref C) (.str name tk) name v b)
      (fun fin s' => match fin with | .done f => R (.ok f) s' | .again c' => c'.quiet = true ∧ codeAny (model prog w) A c' R s') (fun e s' => R (.error e) s') s) :
    codeAny (model prog w) A (.call (.builtin "object.__setattr__") ⟨[.ref x, .str name tk, v], []⟩) R s := by
  have SF := PySem.F.store_object
  obtain ⟨nm, qn, N, bs, bm, sn, sub, ab, col, dd, k0, k1, k2, k3, k5, hK, ho⟩ := xIn_cls c.x
  obtain ⟨cd, hc, hcm⟩ : ∃ cd, PySem.W.clsIn K C = some cd ∧ cd.mro = .ref C :: bm := ⟨_, by unfold PySem.W.clsIn; rw [hK], rfl⟩
  have hsub : PySem.W.Looks (model prog w) s.heap (isInstance (.ref x) (.type "object")) true := I.type.andThen (PySem.W.looks_mroIn X (by
    unfold PySem.W.mroIn
    rw [hc, Option.bind_some, hcm, if_neg (by simp)]
    rw [List.contains_cons, xOver_has ho (b := true) (by decide), Bool.or_true]))
  refine codeAny_call_builtin SF.slot.plain SF.entry (@PySem.W.check_slot (model prog w) _ _ s "object.__setattr__" "object" "__setattr__" (.ref x) [.str name tk, v] [] _ SF.kind SF.split hsub (SF.args (.ref x) (.str name tk) v) ?_)
  obtain ⟨attr, ha, hr⟩ := Option.bind_eq_some_iff.mp ht
  have hm : PySem.W.Looks (model prog w) s.heap (mroOf (.ref C)) (.ref C :: bm) := hcm ▸ (PySem.W.looks_clsIn X hc).andThen .now
  have L3 : PySem.W.Looks (model prog w) s.heap (storeTaker? attr) none := by
    cases attr with
    | none => cases hr; exact .now
    | some a =>
      obtain ⟨b, hb, e⟩ := Option.map_eq_some_iff.mp hr
      cases b with
      | true => cases e
      | false => exact (PySem.W.looks_takesIn X hb).andThen .now
  rw [PySem.W.osa_eq, refuse_eq]
  refine wpAny_bind (wpAny_bind (I.type.here (wpAny_bind (hm.here ?_))))
  rw [refuseLoop_ref, xOver_pass _ ho]
  refine wpAny_pure (wpAny_bind (I.type.here (wpAny_bind ((PySem.W.looks_findIn X ha).here (wpAny_bind (L3.here ?_))))))
  exact h _
theorem set_x0 {Q : Unit → Shared → Prop} (X : K.In s.heap) (hx : s.heap.get? x = some (XObj C t none)) (c : XCls K C) (ht : PySem.W.takerIn K C name = some none)
    (h : ∀ h' tk, h'.Ns1 s.heap.objs.size (fun y => if y = name then some v else none) → h'.get? x = some (XObj C t (some s.heap.objs.size)) → (∀ b o, b ≠ x → s.heap.get? b = some o → h'.get? b = some o) → Q () { s with heap := h', toks := tk }) :
    wpAny (model prog w) A (setAttr (.ref x) name v) Q E s := by
  have J : PySem.W.InstAt s.heap x (XObj C t none) C none := ⟨hx, rfl, rfl, trivial⟩
  refine PySem.W.set_plain X J c.sa (osa_x (s := { s with toks := s.toks + 1 }) X J c ht fun b => ?_)
  obtain ⟨cd, hc, hd⟩ := PySem.W.any_some c.hd
  obtain ⟨hh, g, dr, tk, os⟩ := s
  dsimp only at hx X h ⊢
  refine wpAny_bind (wpAny_pure (wpAny_bind (wpAny_bind (wpAny_loadPart hx (wpAny_bind (PySem.W.Looks.here (s := ⟨hh, g, dr, tk + 1, os⟩) (PySem.W.looks_clsIn X hc) ?_))))))
  rw [hd]
  have hx1 : (hh.push PySem.W.emptyDict).get? x = some (XObj C t none) := Heap.get?_push_of_some _ hx
  have nx : x ≠ hh.objs.size := Nat.ne_of_lt (Heap.lt_size hx)
  refine wpAny_bind (wpAny_alloc' (wpAny_bind (wpAny_update' hx1 (wpAny_pure (wpAny_bind (wpAny_pure (wpAny_bind ?_)))))))
  have gd : ((hh.push PySem.W.emptyDict).update x fun o => { o with dict := some hh.objs.size }).get? hh.objs.size = some PySem.W.emptyDict :=
    (Heap.get?_update_ne _ _ _ _ (Ne.symm nx)).trans (Heap.get?_push_at rfl rfl)
  have nd : ((hh.push PySem.W.emptyDict).update x fun o => { o with dict := some hh.objs.size }).Ns hh.objs.size (fun _ => none) := ⟨_, #[], _, gd, rfl, fun e he => absurd he (by simp), fun _ => rfl⟩
  refine wpAny_nsSet1 (Heap.Ns1.of_empty nd) fun h' n' sb => ?_
  obtain ⟨oD, esD, epD, hoD, hdD, hcD⟩ := n'.count (Within.cons name v Within.nil)
  refine wpAny_bind (wpAny_lookBehind hoD (by rw [hdD]; exact pastItsLine_dict (Nat.le_trans hcD (by rw [List.length_cons, List.length_nil, sizeLine_eq]; omega))) ?_)
  refine wpAny_pure (h h' _ n' ?_ fun b o hb e => ?_)
  · refine (sb.2 x nx).trans ?_
    exact Heap.get?_update_self _ hx1 rfl
  · exact (sb.2 b (Nat.ne_of_lt (Heap.lt_size e))).trans ((Heap.get?_update_ne _ _ _ _ hb).trans (Heap.get?_push_of_some _ e))
theorem set_x1 {mA : Str → Option Value} {ns : List Str} {Q : Unit → Shared → Prop} (X : K.In s.heap) (hx : s.heap.get? x = some (XObj C t (some dx))) (hn : s.heap.Ns1 dx mA) (ne : dx ≠ x) (c : XCls K C) (ht : PySem.W.takerIn K C name = some none)
    (hw : PySem.Within mA ns) (hz : ns.length ≤ 1000) (h : ∀ h' tk, h'.Ns1 dx (fun y => if y = name then some v else mA y) → Heap.SameBut dx s.heap h' → Q () { s with heap := h', toks := tk }) :
    wpAny (model prog w) A (setAttr (.ref x) name v) Q E s := by
  obtain ⟨od, ho, _⟩ := lookIn_ns hn
  have J : PySem.W.InstAt s.heap x (XObj C t (some dx)) C (some od) := ⟨hx, rfl, rfl, ho⟩
  refine PySem.W.set_plain X J c.sa (osa_x (s := { s with toks := s.toks + 1 }) X J c ht fun b => ?_)
  obtain ⟨cd, hc, hd⟩ := PySem.W.any_some c.hd
  refine wpAny_bind (wpAny_pure (wpAny_bind (wpAny_bind (wpAny_loadPart hx (wpAny_bind (PySem.W.Looks.here (s := { s with toks := s.toks + 1 }) (PySem.W.looks_clsIn X hc) ?_))))))
  rw [hd]
  refine wpAny_pure (a := some dx) (wpAny_bind (wpAny_pure (wpAny_bind ?_)))
  refine wpAny_nsSet1 (s := { s with toks := s.toks + 1 }) hn fun h' n' sb => ?_
  obtain ⟨oD, esD, epD, hoD, hdD, hcD⟩ := n'.count (Within.cons name v hw)
  refine wpAny_bind (wpAny_lookBehind hoD (by rw [hdD]; exact pastItsLine_dict (Nat.le_trans hcD (by rw [List.length_cons, sizeLine_eq]; omega))) ?_)
  exact wpAny_pure (h h' _ n' sb)
end
/-- self.f = v in an exception's __init__ -/
def sXs (K : PySem.W.Frag) (ta tv : TE) (f : Str) : TS := fun D σ H => tv σ H fun y H1 => ta σ H1 fun x H2 => ∃ ea C t, x = .ref ea ∧ XCls K C ∧ NoAttr K C f ∧
  ((H2 ea = some (xo ea C t none) ∧ ∀ d, H2 d = none → d ≠ ea → D.nx σ (upd (upd H2 d (xdo d [(f, y)])) ea (xo ea C t (some d)))) ∨
   ∃ d fs, d ≠ ea ∧ H2 ea = some (xo ea C t (some d)) ∧ H2 d = some (xdo d fs) ∧ fs.length ≤ 100 ∧ D.nx σ (upd H2 d (xdo d (putF f y fs))))
section
variable {X : Cx} {o value : Expr} {f : Str} {pos pos' : Pos} {ta tv : TE}
theorem ps_setx (ha : PE X o ta) (hv : PE X value tv) (hs : swapsWith value (some (.Attribute o f pos')) pos.line X.env = pure false) : PS X (.Assign [.Attribute o f pos'] value pos) (sXs X.K ta tv f) := by
  intro pins s σ H D I h
  refine plainObj_wpAny_Assign_Attribute (thn (hv pins s σ H _ I h) fun u s1 ⟨y, H1, I1, ry, q⟩ => thn (ha pins s1 σ H1 _ I1 q) fun ov s2 ⟨x, H2, I2, rx, ea, C, t, ex, c, n, q2⟩ => ?_) hs
  subst ex
  obtain rfl : ov = Value.ref ea := rx
  rcases q2 with ⟨he, q3⟩ | ⟨d, fs, nd, he, hd, hl, q3⟩
  · have ge := xo_get I2.hok he
    refine set_x0 I2.kIn ge c n.taker fun h' tk n' gx k => ?_
    have hfr : H2 s2.heap.objs.size = none := I2.hok.fresh (Nat.le_refl _)
    have nde : s2.heap.objs.size ≠ ea := Nat.ne_of_gt (Heap.lt_size ge)
    refine ⟨σ, _, I2.un (t' := tk) (h' := h') ?_ ?_, q3 _ hfr nde⟩
    · have ne1 : ∀ b, H2 b = none → b ≠ ea := fun b e z => by rw [z, he] at e; cases e
      have kp : ∀ b o, s2.heap.get? b = some o → H2 b = none → h'.get? b = some o := fun b o e n => k b o (ne1 b n) e
      refine ⟨fun b o e n _ _ => kp b o e n, fun b o e n _ _ => ⟨o.slots, kp b o e n⟩, fun b o e n _ => ?_, fun b o e _ => ?_, fun b xs e => ?_, fun b o u e => ?_, fun b ps e => ⟨#[], ?_⟩⟩
      · rw [upd_ne (ne1 b n), upd_ne (Nat.ne_of_lt (Heap.lt_size e))]; exact n
      · by_cases hb : b = ea
        · rw [hb]; exact ⟨_, gx⟩
        · exact ⟨o, k b o hb e⟩
      · rw [upd_ne (ne_of e he (by unfold xo; intro z; cases z)), upd_ne (ne_of_none e hfr)]; exact e
      · rw [upd_ne (ne_of e he (by unfold xo; intro z; cases z)), upd_ne (ne_of_none e hfr)]; exact e
      · rw [upd_ne (ne_of e he (by unfold xo; intro z; cases z)), upd_ne (ne_of_none e hfr), e]; simp
    · intro b u e
      by_cases hb : b = ea
      · subst hb; rw [upd_same] at e; cases e; exact xo_ok gx
      · rw [upd_ne hb] at e
        by_cases hb2 : b = s2.heap.objs.size
        · subst hb2; rw [upd_same] at e; cases e
          refine xdo_ok n' fun g => ?_
          show RelO (List.lookup g [(f, y)]) (if g = f then some u else none)
          by_cases z : g = f
          · subst z; rw [if_pos rfl]; simp only [List.lookup, beq_self_eq_true]; exact ry
          · have zb : (g == f) = false := beq_eq_false_iff_ne.mpr z
            rw [if_neg z]; simp only [List.lookup, zb]; trivial
        · rw [upd_ne hb2] at e
          have nc : ∀ c z, H2 c = some z → (∀ φ, z ≠ .ext φ) → c ≠ ea ∧ c ≠ s2.heap.objs.size := fun c z r hz => ⟨fun w' => by rw [w', he] at r; exact hz _ (Option.some.inj r).symm, ne_of_none r hfr⟩
          refine (I2.hok b u e).stay (fun c v hc r => k c v ?_ r) (fun c r => ?_) fun c xs r => ?_
          · rcases hc with z | z
            · rw [z]; exact hb
            · exact (nc c _ z (fun φ w' => by cases w')).1
          · rw [upd_ne (nc c _ r (fun φ w' => by cases w')).1, upd_ne (nc c _ r (fun φ w' => by cases w')).2]; exact r
          · rw [upd_ne (nc c _ r (fun φ w' => by cases w')).1, upd_ne (nc c _ r (fun φ w' => by cases w')).2]; exact r
  · have ge := xo_get I2.hok he
    obtain ⟨mA, hn, hr⟩ := xdo_get I2.hok hd
    refine set_x1 I2.kIn ge hn nd c n.taker (within_of hr) (by rw [List.length_map]; omega) fun h' tk n' sb => ?_
    refine ⟨σ, _, I2.write (x := d) (e := d) (t' := tk) (h' := h') (by rw [hd]; exact True.intro) (.inl rfl) (fun b o hb e => (sb.2 b hb).trans e) ?_ (xdo_ok n' fun g => ?_), q3⟩
    · obtain ⟨o, _, _, e, _⟩ := n'; exact ⟨o, e⟩
    · show RelO ((putF f y fs).lookup g) (if g = f then some u else mA g)
      rw [lookup_putF]
      by_cases z : g = f
      · rw [if_pos z, if_pos z]; exact ry
      · rw [if_neg z, if_neg z]; exact hr g
end
/-! ### raise C(..) -/
/-- what the __init__ of an own exception does: it keeps its arguments under the names -/
def sp_xs (C : Addr) (names : List Str) : Sp := fun vs H Q _ => ∃ (ea t : Addr) (ys : List V), vs = .ref ea :: ys ∧ ys.length = names.length ∧ H ea = some (xo ea C t none) ∧
  ∀ d H', H d = none → d ≠ ea → (∀ b, b ≠ d → b ≠ ea → H' b = H b) → H' ea = some (xo ea C t (some d)) → H' d = some (xdo d (names.zip ys)) → Q .non H'
def tRaise (C : Addr) (names : List Str) (E : XK) (t : TA) : TS := fun _ σ H => t σ H fun ys H1 => ys.length = names.length ∧ ∀ d H', H1 d = none → Same H1 H' → H' d = some (xdo d (names.zip ys)) → E (.ref C) (some d) H'
section
variable {X : Cx} {k : Nat} {f C : Addr} {fd : FuncData} {ps names : List Str} {E : XK} {x : Str} {np cpos pos : Pos} {e : Expr} {es : List Expr} {t : TA}
theorem ps_raise (c : XCls X.K C) (hi : PySem.W.findIn X.K (.ref C) "__init__" = some (some (.ref f))) (hf : PySem.W.isFn X.K (.ref f) = true) (F : FnOk X.prog X.w X.K X.mg X.base CX0 k f fd ps (sp_xs C names)) (hr : Room (k + 1) X.A)
    (hg : Gl X x) (hm : X.mg x = some (.ref C)) (hb : Binds X.K fd ps []) (hnl : names.length ≤ 100) (hx : RaiseTo X E) (ha : PA X (e :: es) t) (hdb : (x == ("__debug__" : Str)) = false := by decide)
    (hst : starEach (e :: es) X.env = (false, eval e X.env) :: starEach es X.env := by rfl) (hpl : (backTo cpos (starEach es X.env)).any (·.1) = false := by rfl) :
    PS X (.Raise (some (.Call (.Name x np) (e :: es) [] cpos)) none pos) (tRaise C names E t) := by
  intro pins s σ H D I h
  rw [arm_exec_Raise]
  show wpAny _ _ (do standAt pos; raiseStmt X.env (some (do let v ← eval (.Call (.Name x np) (e :: es) [] cpos) X.env; standAt pos; pure v)) none) _ _ s
  refine wpAny_bind (wpAny_standAt ?_)
  unfold raiseStmt
  refine wpAny_bind (wpAny_bind (thn (Q := fun u s1 => ∃ ea tt dx H2, u = Value.ref ea ∧ X.s₀.heap.objs.size ≤ ea ∧ Inv X pins σ H2 s1 ∧ H2 ea = some (xo ea C tt dx) ∧ E (.ref C) dx (del H2 ea)) ?_ ?_))
  · refine wpAny_Call_Name_kw (ld_glob I hg hm ?_ hdb)
    refine PySem.W.callWith_K (h₀ := X.base) I.ok.mod.kin c.kp (thn (ha cpos pins s σ H _ I h) fun us s1 ⟨ys, H1, I1, r, hlen, q⟩ => ⟨I1.kIn, ?_⟩) hst hpl
    have hul : us.length ≤ 100 := by rw [← r.length, hlen]; exact hnl
    refine x_call I1.kIn c hi hf (Nat.le_trans hul (by decide)) (wpAny_call ?_)
    have e2 : ((s1.heap.push (xTup us)).push (XObj C s1.heap.objs.size none)).get? (s1.heap.objs.size + 1) = some (XObj C s1.heap.objs.size none) := by
      have := Heap.get?_push_size (s1.heap.push (xTup us)) (o := XObj C s1.heap.objs.size none) rfl
      rwa [Heap.size_push] at this
    have I2 := (I1.kept (h' := s1.heap.push (xTup us)) (t' := s1.toks) (fun b u q => Heap.get?_push_of_some _ q)).laid (a := s1.heap.objs.size + 1) (o := xo (s1.heap.objs.size + 1) C s1.heap.objs.size none) (h' := (s1.heap.push (xTup us)).push (XObj C s1.heap.objs.size none)) (t' := s1.toks) (fun b u q => Heap.get?_push_of_some _ q) (Nat.le_of_eq (Heap.size_push _ _)) (xo_ok e2)
    have hfr : H1 (s1.heap.objs.size + 1) = none := I1.hok.fresh (Nat.le_succ _)
    have r2 : Vals (V.ref (s1.heap.objs.size + 1) :: ys) (Value.ref (s1.heap.objs.size + 1) :: us) := .cons rfl r
    have hsp : sp_xs C names (V.ref (s1.heap.objs.size + 1) :: ys) (upd H1 (s1.heap.objs.size + 1) (xo (s1.heap.objs.size + 1) C s1.heap.objs.size none))
        (fun v H2 => v = .non ∧ ∃ tt dx, H2 (s1.heap.objs.size + 1) = some (xo (s1.heap.objs.size + 1) C tt dx) ∧ E (.ref C) dx (del H2 (s1.heap.objs.size + 1))) E0 := by
      refine ⟨_, _, ys, rfl, hlen, upd_same, fun d H' hd nd ho hea hdd => ⟨rfl, _, _, hea, q d _ ?_ (fun b o hb => ?_) ?_⟩⟩
      · rw [upd_ne nd] at hd; exact hd
      · have n1 : b ≠ s1.heap.objs.size + 1 := ne_of_none hb hfr
        have n2 : b ≠ d := fun z => by rw [z, ← upd_ne (H := H1) nd, hd] at hb; cases hb
        rw [del_ne n1, ho b n2 n1, upd_ne n1]; exact hb
      · rw [del_ne nd]; exact hdd
    have hl : (Value.ref (s1.heap.objs.size + 1) :: us ++ []).length = ps.length := by
      have e := r2.length
      rw [F.len _ _ _ _ hsp] at e
      rw [List.append_nil]
      exact e.symm
    have hbd := hb _ (Value.ref (s1.heap.objs.size + 1) :: us) I2.kIn hl
    rw [List.append_nil] at hbd
    refine codeAny_mono (F.run _ X.stack _ _ ⟨Value.ref (s1.heap.objs.size + 1) :: us, []⟩ _ _ _ E0 (hr.make C us []) (I2.env0.make C us []) hbd r2 hsp) fun r s' hq' => ?_
    cases r with
    | error e => exact False.elim hq'
    | ok fl =>
      cases fl with
      | ret u =>
        obtain ⟨v, H', I3, rv, ev, tt, dx, g1, g2⟩ := I2.after hq'
        subst ev
        exact ⟨rv, _, tt, dx, H', rfl, Nat.le_trans I1.sz (Nat.le_succ _), I3, g1, g2⟩
      | next => exact False.elim hq'
      | brk => exact False.elim hq'
      | cont => exact False.elim hq'
  · rintro u s1 ⟨ea, tt, dx, H2, rfl, hn, I2, he2, q2⟩
    refine wpAny_bind (wpAny_standAt (wpAny_pure ?_))
    have ge := xo_get I2.hok he2
    have hE : X.xe (.ref ea) s1 := hx pins σ H2 s1 ea C tt dx I2 he2 hn q2
    obtain ⟨nm, qn, N, bs, bm, sn, sub, ab, col, dd, k0, k1, k2, k3, k5, hK, ho⟩ := xIn_cls c.x
    have hC := I2.kIn _ _ hK
    have cB : (Value.ref C :: bm).contains (.type "BaseException") = true := by rw [List.contains_cons, xOver_has ho (b := true) (by decide), Bool.or_true]
    obtain ⟨hp, g, d, tk, os⟩ := s1
    dsimp only at ge hC
    repeat (first | (with_reducible refine wpAny_loadPart_at ge ?_) | (with_reducible refine wpAny_loadPart_at hC ?_) | (with_reducible refine wpAny_isSubtype_exc hC ?_; rw [cB]) | wp_step)
    exact wpAny_raiseNew_none hr.hd hE
end
end L2

set_option Elab.async false
set_option linter.all false
set_option maxRecDepth 100000
set_option maxHeartbeats 4000000
namespace L2
open PySem PySem.Spec PyProof.Rows
theorem ObjOk.here {P : Program} {w : World} {H : Hp} {h : Heap} {a : Addr} {o : HO} (x : ObjOk P w H h a o) : ∃ u, h.get? a = some u := by
  cases o with
  | lst xs => obtain ⟨_, _, _, _, e⟩ := x; exact ⟨_, e⟩
  | tup xs => obtain ⟨_, _, _, ob, e, _⟩ := x; exact ⟨_, e⟩
  | dK kvs => obtain ⟨_, _, _, _, o, _, _, e, _⟩ := x; exact ⟨_, e⟩
  | dT kvs => obtain ⟨_, _, _, _, o, _, _, e, _⟩ := x; exact ⟨_, e⟩
  | set S n => obtain ⟨o, _, _, _, e, _⟩ := x; exact ⟨_, e⟩
  | ins C dx fs => obtain ⟨_, _, _, e, _⟩ := x; exact ⟨_, e⟩
  | own y => exact x
  | xd fs => obtain ⟨_, ⟨_, _, _, e, _⟩, _⟩ := x; exact ⟨_, e⟩
  | rng lo hi => obtain ⟨_, _, _, e⟩ := x; exact ⟨_, e⟩
  | frz ob u => obtain ⟨e, _⟩ := x; exact ⟨_, e⟩
  | tbl ps => exact ⟨_, (show h.get? a = some _ from x)⟩
  | met f y => exact ⟨_, (show h.get? a = some _ from x)⟩
  | ext φ => obtain ⟨_, e, _⟩ := x; exact e
/-! ### what surely raises -/
/-- an exception is on its way to this frame -/
def Lands (X : Cx) (pins : List (Addr × Obj)) (σ : St) (E : XK) (e : Value) (s' : Shared) : Prop :=
  ∃ (s : Shared) (H : Hp) (ea C : Addr) (dx : Option Addr) (B : Heap) (H' : Hp), e = .ref ea ∧ Inv X pins σ H s ∧ Thr X.prog X.w X.stack H s ea C dx .none B H' s' ∧ E (.ref C) dx H'
abbrev TX := XK → St → Hp → Prop
def PEx (X : Cx) (e : Expr) (t : TX) : Prop := ∀ (pins : List (Addr × Obj)) (s : Shared) (σ : St) (H : Hp) (E : XK), Inv X pins σ H s → t E σ H → wpAny (model X.prog X.w) X.A (eval e X.env) (fun _ _ => False) (Lands X pins σ E) s
def PSx (X : Cx) (st : Stmt) (t : TX) : Prop := ∀ (pins : List (Addr × Obj)) (s : Shared) (σ : St) (H : Hp) (E : XK), Inv X pins σ H s → t E σ H → wpAny (model X.prog X.w) X.A (exec st X.env) (fun _ _ => False) (Lands X pins σ E) s
def PSsx (X : Cx) (st : List Stmt) (t : TX) : Prop := ∀ (pins : List (Addr × Obj)) (s : Shared) (σ : St) (H : Hp) (E : XK), Inv X pins σ H s → t E σ H → wpAny (model X.prog X.w) X.A (execs st X.env) (fun _ _ => False) (Lands X pins σ E) s
def xCall (sp : Sp) (dvs : List V) (t : TA) : TX := fun E σ H => t σ H fun vs H1 => sp (vs ++ dvs) H1 (fun _ _ => False) E
def xMeth (C : Addr) (m : Str) (sp : Sp) (dvs : List V) (ta : TE) (t : TA) : TX := fun E σ H => ta σ H fun x H1 => ∃ a dx fs, x = .ref a ∧ H1 a = some (.ins C dx fs) ∧ fs.lookup m = none ∧ t σ H1 fun vs H2 => sp (x :: (vs ++ dvs)) H2 (fun _ _ => False) E
def xMake (C : Addr) (sp : Sp) (dvs : List V) (t : TA) : TX := fun E σ H => t σ H fun vs H1 => ∀ x dx, H1 x = none → H1 dx = none → dx ≠ x → sp (.ref x :: (vs ++ dvs)) (upd (upd H1 dx (.own x)) x (.ins C dx [])) (fun _ _ => False) E
/-- it is never so -/
def xNo : TX := fun _ _ _ => False
section
variable {X : Cx} {k : Nat} {f C : Addr} {fd : FuncData} {ps : List Str} {sp : Sp} {dvs : List V} {ds : List Value} {E : XK} {x m : Str} {p pos apos : Pos} {e o : Expr} {es : List Expr} {ta : TE} {t : TA} {pins : List (Addr × Obj)} {σ : St} {H : Hp} {s : Shared}
theorem thx {α : Type} {t : Sem α} {Q Q' : α → Shared → Prop} {M : Model} {A : Around} {E : Value → Shared → Prop} {s : Shared} (h : wpAny M A t Q (fun _ _ => False) s) (hQ : ∀ a s, Q a s → Q' a s) : wpAny M A t Q' E s := wpAny_mono h hQ fun _ _ z => z.elim
theorem run_x {us : List Value} {vs : List V} (F : FnOk X.prog X.w X.K X.mg X.base (CXv X.prog X.w) k f fd ps sp) (hr : Room k X.A) (hb : Binds X.K fd ps ds) (hd : Vals dvs ds)
    (I : Inv X pins σ H s) (r : Vals vs us) (h : sp (vs ++ dvs) H (fun _ _ => False) E) : wpAny (model X.prog X.w) X.A (call (.ref f) us) (fun _ _ => False) (Lands X pins σ E) s := by
  have r2 : Vals (vs ++ dvs) (us ++ ds) := r.append hd
  have hl : (us ++ ds).length = ps.length := by rw [← r2.length]; exact F.len _ _ _ _ h
  refine wpAny_call (codeAny_mono (F.run X.A X.stack s H ⟨us, []⟩ (us ++ ds) (vs ++ dvs) _ E hr I.env0 (hb s us I.kIn hl) r2 h) fun r s' hq => ?_)
  cases r with
  | error e =>
    obtain ⟨ea, C, dx, B, H', rfl, T, q⟩ := hq
    exact ⟨s, H, ea, C, dx, B, H', rfl, I, T, q⟩
  | ok fl =>
    cases fl with
    | ret u => obtain ⟨_, _, _, _, _, _, _, q⟩ := hq; exact q
    | next => exact False.elim hq
    | brk => exact False.elim hq
    | cont => exact False.elim hq
theorem px_meth {pl : Sem Bool} (he : PE X.nox o ta) (c : Cls X.K C) (hm : Meth X.K C m f) (F : FnOk X.prog X.w X.K X.mg X.base (CXv X.prog X.w) k f fd ps sp) (hr : Room k X.A) (hb : Binds X.K fd ps ds) (hd : Vals dvs ds) (ha : PA X.nox (e :: es) t)
    (hst : starEach (e :: es) X.env = (false, eval e X.env) :: starEach es X.env := by rfl) (hpl : (backTo pos (starEach es X.env)).any (·.1) = false := by rfl)
    (ht : eval (.Call (.Attribute o m apos) (e :: es) [] pos) X.env = (do
      let ov ← eval o X.env
      standAt apos.atName
      let (f, first) ← holding [ov] (getMethod ov m pl)
      callWith pos f first (backTo pos (starEach (e :: es) X.env)) (backToKw pos (keywordEach [] X.env))) := by rfl) :
    PEx X (.Call (.Attribute o m apos) (e :: es) [] pos) (xMeth C m sp dvs ta t) := by
  intro pins s σ H E I h
  refine PySem.W.methodCall_KW (pl := pl) (thx (he pins s σ H _ (I.wish _) h) fun u s1 ⟨x, H1, I1, rx, a, dx, fs, ex, ea, l, q⟩ => ?_) ht
  subst ex
  obtain rfl : u = Value.ref a := rx
  refine getmeth_ok I1.unwish ea c hm l ?_
  refine PySem.W.callWith_K (first := [.ref a]) (h₀ := X.base) I.ok.mod.kin hm.kp (thx (ha pos pins s1 σ H1 _ I1 q) fun us s2 ⟨vs, H2, I2, r, q2⟩ => ⟨I2.kIn, ?_⟩) hst hpl
  exact run_x (us := .ref a :: us) (vs := .ref a :: vs) F hr hb hd I2.unwish (.cons rfl r) q2
theorem px_make (M : Mk X.K C f) (F : FnOk X.prog X.w X.K X.mg X.base (CXv X.prog X.w) k f fd ps sp) (hr : Room (k + 1) X.A) (hg : Gl X x) (hm : X.mg x = some (.ref C)) (hb : Binds X.K fd ps ds) (hd : Vals dvs ds)
    (ha : PA X.nox (e :: es) t) (hdb : (x == ("__debug__" : Str)) = false := by decide) (he : starEach (e :: es) X.env = (false, eval e X.env) :: starEach es X.env := by rfl) (hpl : (backTo pos (starEach es X.env)).any (·.1) = false := by rfl) :
    PEx X (.Call (.Name x p) (e :: es) [] pos) (xMake C sp dvs t) := by
  intro pins s σ H E I h
  refine wpAny_Call_Name_kw (ld_glob I hg hm ?_ hdb)
  refine PySem.W.callWith_K (h₀ := X.base) I.ok.mod.kin M.kp (thx (ha pos pins s σ H _ (I.wish _) h) fun us s1 ⟨vs, H1, I1', r, q⟩ => ⟨I1'.kIn, ?_⟩) he hpl
  have I1 := I1'.unwish
  have hq := q (s1.heap.objs.size + 1) s1.heap.objs.size (I1.hok.fresh (Nat.le_succ _)) (I1.hok.fresh (Nat.le_refl _)) (Nat.ne_of_lt (Nat.lt_succ_self _))
  have I2 := Inv.made (C := C) I1
  have r2 : Vals (V.ref (s1.heap.objs.size + 1) :: (vs ++ dvs)) (Value.ref (s1.heap.objs.size + 1) :: (us ++ ds)) := .cons rfl (r.append hd)
  have hl : (Value.ref (s1.heap.objs.size + 1) :: us ++ ds).length = ps.length := by
    have e := r2.length
    rw [F.len _ _ _ _ hq] at e
    exact e.symm
  refine wpAny_call (make_map (f := f) I1.kIn M.makes M.init (beq_iff_eq.mp M.fn) (codeAny_mono (F.run _ X.stack _ _ ⟨Value.ref (s1.heap.objs.size + 1) :: us, []⟩ (Value.ref (s1.heap.objs.size + 1) :: (us ++ ds)) _ _ E (hr.make C us [])
    (I2.env0.make C us []) (hb _ (Value.ref (s1.heap.objs.size + 1) :: us) I2.kIn hl) r2 hq) fun r s' hq' => ?_))
  cases r with
  | error e =>
    obtain ⟨ea, C', dx, B, H', rfl, T, q'⟩ := hq'
    exact ⟨_, _, ea, C', dx, B, H', rfl, I2, T, q'⟩
  | ok fl =>
    cases fl with
    | ret u => obtain ⟨_, _, _, _, _, _, _, q'⟩ := hq'; exact q'.elim
    | next => exact False.elim hq'
    | brk => exact False.elim hq'
    | cont => exact False.elim hq'
theorem px_expr {tx : TX} (he : PEx X e tx) (hs : swapsWith e none pos.line X.env = pure false := by rfl) : PSx X (.Expr e pos) tx := by
  intro pins s σ H E I h
  exact wpAny_Expr_any (thn (he pins s σ H E I h) fun _ _ z => z.elim) I.quiet hs
theorem pxs_one {st : Stmt} {rest : List Stmt} {t : TX} (h1 : PSx X st t) : PSsx X (st :: rest) t := by
  intro pins s σ H E I h
  exact wpAny_execs_cons (thn (h1 pins s σ H E I h) fun _ _ z => z.elim)
end
/-! ### within a handler -/
/-- the exception as it lies while it is handled -/
def xh (ea C : Addr) (dx : Option Addr) : HO := .ext fun h => ∃ o vs, h.get? ea = some o ∧ o.cls = .ref C ∧ o.dict = dx ∧ o.data = .fields vs
theorem xh_ok {P : Program} {w : World} {H : Hp} {h : Heap} {ea C : Addr} {dx : Option Addr} {o : Obj} {vs : Array Value} (e : h.get? ea = some o) (e1 : o.cls = .ref C) (e2 : o.dict = dx) (e3 : o.data = .fields vs) : ObjOk P w H h ea (xh ea C dx) :=
  ⟨⟨o, vs, e, e1, e2, e3⟩, ⟨_, e⟩, fun _ _ ⟨o, vs, q, r⟩ k => ⟨o, vs, k _ q, r⟩⟩
theorem xh_get {P : Program} {w : World} {H : Hp} {h : Heap} {ea C : Addr} {dx : Option Addr} (x : HOk P w H h) (e : H ea = some (xh ea C dx)) : ∃ o vs, h.get? ea = some o ∧ o.cls = .ref C ∧ o.dict = dx ∧ o.data = .fields vs :=
  (show ObjOk P w H h ea (xh ea C dx) from x _ _ e).1
/-- e.f of it -/
def tXFld (K : PySem.W.Frag) (ta : TE) (f : Str) : TE := fun σ H Q => ta σ H fun x H1 => ∃ ea C d fs v, x = .ref ea ∧ H1 ea = some (xh ea C (some d)) ∧ H1 d = some (xdo d fs) ∧ XCls K C ∧ NoAttr K C f ∧ fs.lookup f = some v ∧ Q v H1
section
variable {X : Cx} {e : Expr} {f : Str} {pos : Pos} {ta : TE}
theorem pe_xfld (he : PE X e ta) (hb : attributeBase e f X.env (eval e X.env) = eval e X.env) : PE X (.Attribute e f pos) (tXFld X.K ta f) := by
  intro pins s σ H Q I h
  refine attr_of hb (thn (he pins s σ H _ I h) fun u s1 ⟨x, H1, I1, rx, ea, C, d, fs, v, ex, hea, hd, c, n, l, q⟩ => ?_)
  subst ex
  obtain rfl : u = Value.ref ea := rx
  obtain ⟨o, vs, ge, gc, gd, gf⟩ := xh_get I1.hok hea
  obtain ⟨mA, hn, hr⟩ := xdo_get I1.hok hd
  obtain ⟨od, ho, hl⟩ := lookIn_ns hn
  obtain ⟨u, hu, ru⟩ := RelO.some_of (v := v) (o := mA f) (by rw [← l]; exact hr f)
  have J : PySem.W.InstAt s1.heap ea o C (some od) := by
    obtain ⟨oc, odd, oda, osl⟩ := o
    dsimp only at gc gd gf
    subst gc gd gf
    exact ⟨ge, rfl, rfl, ho⟩
  exact get_x I1.kIn J c.x c.ga c.gn (PySem.W.findObj_own c.hd n rfl (by rw [hl, hu])) (handed_of ru) ⟨v, H1, I1.tok _, ru, q⟩
end
theorem pe_xfldK {X : Cx} {K : PySem.W.Frag} {e : Expr} {f : Str} {pos : Pos} {ta : TE} (he : PE X e ta) (hb : attributeBase e f X.env (eval e X.env) = eval e X.env) (hK : X.K = K := by rfl) : PE X (.Attribute e f pos) (tXFld K ta f) := hK ▸ pe_xfld he hb
/-- the context of a handler's suite -/
abbrev Cx.han (X : Cx) (ea : Addr) : Cx := { X with A := X.A.mark (some (.ref ea)), calm := false }
theorem Inv.han {X : Cx} {pins : List (Addr × Obj)} {σ : St} {H : Hp} {s : Shared} (I : Inv X pins σ H s) (ea : Addr) : Inv (X.han ea) pins σ H s :=
  ⟨⟨I.ok.mod, I.ok.kind, I.ok.glob, I.ok.blt, I.ok.above, I.ok.inj, I.ok.has, I.ok.cab, (fun z => nomatch z), I.ok.frames, I.ok.stk, I.ok.exf, I.ok.bs, I.ok.bsz, I.ok.noex, I.ok.exfs, I.ok.funs, I.ok.frf⟩, I.os, I.bare, I.base, I.loc, I.cell, I.free, I.freeC, I.pin, I.hok, I.len⟩
theorem Inv.unhan {X : Cx} {pins : List (Addr × Obj)} {σ : St} {H : Hp} {s : Shared} {ea : Addr} (ok : X.Ok) (I : Inv (X.han ea) pins σ H s) : Inv X pins σ H s :=
  ⟨ok, I.os, I.bare, I.base, I.loc, I.cell, I.free, I.freeC, I.pin, I.hok, I.len⟩
section
variable {X : Cx} {pins : List (Addr × Obj)} {σ : St} {H H' : Hp} {s s' : Shared} {ea C : Addr} {dx : Option Addr} {B : Heap} {fl : Value}
/-- nothing that stood ahead is the exception -/
theorem Thr.new (T : Thr X.prog X.w X.stack H s ea C dx fl B H' s') (I : Inv X pins σ H s) {b : Addr} {o : Obj} (e : s.heap.get? b = some o) : b ≠ ea := by
  rintro rfl
  obtain ⟨a0, f⟩ := T.fly
  by_cases hb : b ∈ frs X.stack
  · obtain ⟨sl, e1⟩ := T.slo b o hb e
    obtain ⟨oe, vs, _, _, _, ge, _, _, dt, _⟩ := f.tale
    obtain ⟨_, o1, ho1, nf⟩ := f.fun'.mem hb
    rw [ge] at ho1
    cases ho1
    exact nf _ dt
  · obtain ⟨o', e1⟩ := T.bas.there b o e hb
    rw [f.new] at e1
    cases e1
theorem Thr.none (T : Thr X.prog X.w X.stack H s ea C dx fl B H' s') : H' ea = none := by
  obtain ⟨a0, f⟩ := T.fly
  cases q : H' ea with
  | none => rfl
  | some u =>
    obtain ⟨o, e⟩ := (T.hok ea u q).here
    rw [f.new] at e
    cases e
/-- the state where it is handled -/
theorem Thr.inv (T : Thr X.prog X.w X.stack H s ea C dx fl B H' s') (I : Inv X pins σ H s) : Inv X pins σ H' s' := I.call' (ch := []) T.os T.un T.held T.bare (fun b z => nomatch z)
theorem Thr.seen (T : Thr X.prog X.w X.stack H s ea C dx fl B H' s') (I : Inv X pins σ H s) : Inv X pins σ (upd H' ea (xh ea C dx)) s' := by
  have hn := T.none
  obtain ⟨a0, f⟩ := T.fly
  obtain ⟨oe, vs, _, _, _, ge, gc, gd, dt, _⟩ := f.tale
  have un := T.un
  refine I.call' (ch := []) T.os ⟨un.keep, un.slot, fun b o e n hx => ?_, un.there, fun b xs e => ?_, fun b o u e => ?_, fun b ps e => ?_⟩ (fun b u e => ?_) T.bare (fun b z => nomatch z)
  · rw [upd_ne (T.new I e)]; exact un.free b o e n hx
  · have := un.tups b xs e; rw [upd_ne (ne_of_none this hn)]; exact this
  · have := un.frzs b o u e; rw [upd_ne (ne_of_none this hn)]; exact this
  · obtain ⟨m, this⟩ := un.tbls b ps e; exact ⟨m, by rw [upd_ne (ne_of_none this hn)]; exact this⟩
  · by_cases hb : b = ea
    · subst hb; rw [upd_same] at e; cases e; exact xh_ok ge gc gd dt
    · rw [upd_ne hb] at e
      exact (T.held b u e).stay (fun c v _ r => r) (fun c r => by rw [upd_ne (ne_of_none r hn)]; exact r) fun c xs r => by rw [upd_ne (ne_of_none r hn)]; exact r
/-- a next station -/
theorem Thr.on {fl' : Value} {h2 : Heap} {a0 : Value} (T : Thr X.prog X.w X.stack H s ea C dx fl B H' s') (f2 : Fly B X.stack ea (.ref C) dx a0 fl' h2) (u : s'.heap.UpToSlots h2) (I : Inv X pins σ H s) : Thr X.prog X.w X.stack H s ea C dx fl' B H' { s' with heap := h2 } :=
  ⟨T.os, T.bare, ⟨a0, f2⟩, T.hok, T.bas, fun b o hb e => by
    obtain ⟨sl, e1⟩ := T.slo b o hb e
    obtain ⟨_, o1, ho1, nf⟩ := I.stack.mem hb
    rw [e] at ho1
    cases ho1
    obtain ⟨sl2, e2⟩ := u b _ e1 nf
    exact ⟨sl2, e2⟩⟩
end
/-! ### handlers -/
section
variable {X : Cx} {pins : List (Addr × Obj)} {σ : St} {H : Hp} {s : Shared} {M : Model} {A : Around} {E : Value → Shared → Prop}
/-- the handler's name goes -/
theorem goes_ok {n : Str} {i : Nat} {pos : Pos} {Q : Unit → Shared → Prop} (I : Inv X pins σ H s) (hN : X.N.Nodup) (hi : X.N[i]? = some n) (hk : X.env.kindOf n = some .local) (h : ∀ s', Inv X pins (σ.set i none) H s' → Q () s') :
    wpAny M A (do bindName X.env n .none; unbindBehindTheSuite X.env n pos) Q E s := by
  obtain ⟨m, hn, hl⟩ := id I.loc
  have hcls : (X.env.scope.kind == .class || (X.env.scope.kind == .module && X.env.locals != X.env.globals)) = false := by rw [I.ok.kind]; rfl
  refine wpAny_nameGoes_keeps hk hn hcls fun h' v hn' hs => h _ ?_
  have low : ∀ b o, X.s₀.heap.get? b = some o → b ≠ X.env.locals := fun b o e => Nat.ne_of_lt (Nat.lt_of_lt_of_le (Heap.lt_size e) I.ok.above)
  refine ⟨I.ok, I.os, I.bare, ⟨fun b o e n hb hx => (hs.2 b (low b o e)).trans (I.base.keep b o e n hb hx), fun b o e n hb hx => ?_, I.base.free, fun b o e hx => ?_, I.base.tups, I.base.frzs, I.base.tbls⟩, ⟨_, hn', fun j y v' e1 e2 e3 => ?_⟩, fun y c e => ?_, I.free, I.freeC, fun p hp => ?_, fun b ob e => ?_, by simpa using I.len⟩
  · obtain ⟨sl, e1⟩ := I.base.slot b o e n hb hx
    exact ⟨sl, (hs.2 b (low b o e)).trans e1⟩
  · obtain ⟨o', e1⟩ := I.base.there b o e hx
    exact ⟨o', (hs.2 b (low b o e)).trans e1⟩
  · by_cases hj : j = i
    · subst hj
      rw [List.getElem?_set] at e2
      simp only [if_true] at e2
      split at e2 <;> cases e2
    · rw [List.getElem?_set_ne (Ne.symm hj)] at e2
      obtain ⟨u', r', q⟩ := hl j y v' e1 e2 e3
      refine ⟨u', r', ?_⟩
      rcases q with ⟨k, e⟩ | ⟨k, c, e, z⟩
      · refine .inl ⟨k, ?_⟩
        have : y ≠ n := fun e => hj (nodup_ix hN e1 (e ▸ hi))
        simp [this, e]
      · exact .inr ⟨k, c, e, z.sameBut hs (I.cne y c e)⟩
  · obtain ⟨v, z⟩ := I.cell y c e
    exact ⟨v, z.sameBut hs (I.cne y c e)⟩
  · obtain ⟨e, n1, ne, nf, d⟩ := I.pin p hp
    exact ⟨(hs.2 _ ne).trans e, n1, ne, nf, d⟩
  · refine (I.hok b ob e).stay (fun c w' hc q => (hs.2 c ?_).trans q) (fun _ q => q) fun _ _ q => q
    rintro rfl
    rcases hc with rfl | hc
    · rw [I.free] at e; cases e
    · rw [I.free] at hc; cases hc
end
abbrev THs := Addr → Addr → Option Addr → TS
def PH (X : Cx) (hs : List ExceptHandler) (th : THs) : Prop :=
  ∀ (pins : List (Addr × Obj)) (σ : St) (H H' : Hp) (D : Ends) (s s' : Shared) (ea C : Addr) (dx : Option Addr) (B : Heap), Inv X pins σ H s → Thr X.prog X.w X.stack H s ea C dx .none B H' s' → th C ea dx D σ H' →
    wpAny (model X.prog X.w) X.A (handleBy (.ref ea) X.env hs) (SP X pins D) X.xe s'
def Ends.less (D : Ends) (i : Nat) : Ends := { nx := fun σ H => D.nx (σ.set i none) H, rt := D.rt, bk := fun σ H => D.bk (σ.set i none) H, ct := fun σ H => D.ct (σ.set i none) H }
def tAs (K : PySem.W.Frag) (Ck : Addr) (i : Nat) (ts : TS) (rest : THs) : THs := fun C ea dx D σ H =>
  (PySem.W.exmOne K (.ref C) (.ref Ck) = some true ∧ ts (D.less i) (σ.set i (some (.ref ea))) (upd H ea (xh ea C dx))) ∨ (PySem.W.exmOne K (.ref C) (.ref Ck) = some false ∧ rest C ea dx D σ H)
def tBare (K : PySem.W.Frag) (Ck : Addr) (ts : TS) (rest : THs) : THs := fun C ea dx D σ H =>
  (PySem.W.exmOne K (.ref C) (.ref Ck) = some true ∧ ts D σ (upd H ea (xh ea C dx))) ∨ (PySem.W.exmOne K (.ref C) (.ref Ck) = some false ∧ rest C ea dx D σ H)
def tNoH : THs := fun _ _ _ _ _ _ => False
def tTry (tb : TS) (tx : TX) (th : THs) : TS := fun D σ H => tb D σ H ∨ ∃ E, tx E σ H ∧ ∀ C dx H' ea, E (.ref C) dx H' → H' ea = none → th C ea dx D σ H'
section
variable {X : Cx} {x n : Str} {np hpos pos : Pos} {b₀ : Stmt} {suite body : List Stmt} {h₀ : ExceptHandler} {rest : List ExceptHandler} {Ck : Addr} {i : Nat} {ts tb : TS} {tx : TX} {tr : THs}
theorem ph_nil : PH X [] tNoH := fun _ _ _ _ _ _ _ _ _ _ _ _ _ h => h.elim
theorem Thr.looks {M : Model} {P : Program} {w : World} {l : List Env} {H H' : Hp} {s s' : Shared} {ea C : Addr} {dx : Option Addr} {fl : Value} {B : Heap} (T : Thr P w l H s ea C dx fl B H' s') : PySem.W.Looks M s'.heap (typeOf (.ref ea)) (.ref C) := by
  obtain ⟨a0, f⟩ := T.fly
  obtain ⟨oe, vs, _, _, _, ge, gc, _⟩ := f.tale
  exact gc ▸ (PySem.W.Looks.ld ge).andThen .now
theorem ph_as (hg : Gl X x) (hm : X.mg x = some (.ref Ck)) (hN : X.N.Nodup) (hi : X.N[i]? = some n) (hk : X.env.kindOf n = some .local) (hs : ∀ ea, PSs (X.han ea).nox (b₀ :: suite) ts) (hr : PH X rest tr) (hdb : (x == ("__debug__" : Str)) = false := by decide) :
    PH X (.ExceptHandler (some (.Name x np)) (some n) (b₀ :: suite) hpos :: rest) (tAs X.K Ck i ts tr) := by
  intro pins σ H H' D s s' ea C dx B I T h
  have I1 := T.inv I
  refine wpAny_handleBy_cons (codeAny_handlers_test (ld_glob (X := X.han ea) (I1.han ea) hg hm ?_ hdb)) (by intro q; cases q)
  rcases h with ⟨hx, h⟩ | ⟨hx, h⟩
  · refine PySem.W.Looks.here (PySem.W.exm_one I1.kIn T.looks hx) ?_
    refine codeAny_handlers_suite_as ?_
    obtain ⟨a0, f⟩ := T.fly
    refine flight_none f fun h2 f2 u2 => ?_
    have I2 := ((T.on f2 u2 I).seen I).han ea
    refine store_ok (X := X.han ea) (i := i) (v := .ref ea) I2 hN hi (.inl hk) rfl (fun s3 I3 => ?_) (.inr hk)
    refine wpAny_mono (hs ea pins s3 _ _ _ (I3.wish _) h) (fun fl s4 q => ?_) (fun _ _ z => z.elim)
    cases fl with
    | next => obtain ⟨σ4, H4, I4, q⟩ := q; exact goes_ok (X := X) (I4.unwish.unhan I.ok) hN hi hk fun s5 I5 => ⟨_, _, I5, q⟩
    | brk => obtain ⟨σ4, H4, I4, q⟩ := q; exact goes_ok (X := X) (I4.unwish.unhan I.ok) hN hi hk fun s5 I5 => ⟨_, _, I5, q⟩
    | cont => obtain ⟨σ4, H4, I4, q⟩ := q; exact goes_ok (X := X) (I4.unwish.unhan I.ok) hN hi hk fun s5 I5 => ⟨_, _, I5, q⟩
    | ret u => obtain ⟨v, σ4, H4, I4, r, q⟩ := q; exact goes_ok (X := X) (I4.unwish.unhan I.ok) hN hi hk fun s5 I5 => ⟨v, _, _, I5, r, q⟩
  · refine PySem.W.Looks.here (PySem.W.exm_one I1.kIn T.looks hx) ?_
    exact hr pins σ H H' D s s' ea C dx B I T h
theorem ph_bare (hg : Gl X x) (hm : X.mg x = some (.ref Ck)) (hs : ∀ ea, PSs (X.han ea).nox (b₀ :: suite) ts) (hr : PH X rest tr) (hdb : (x == ("__debug__" : Str)) = false := by decide) :
    PH X (.ExceptHandler (some (.Name x np)) none (b₀ :: suite) hpos :: rest) (tBare X.K Ck ts tr) := by
  intro pins σ H H' D s s' ea C dx B I T h
  have I1 := T.inv I
  refine wpAny_handleBy_cons (codeAny_handlers_test (ld_glob (X := X.han ea) (I1.han ea) hg hm ?_ hdb)) (by intro q; cases q)
  rcases h with ⟨hx, h⟩ | ⟨hx, h⟩
  · refine PySem.W.Looks.here (PySem.W.exm_one I1.kIn T.looks hx) ?_
    refine codeAny_handlers_suite ?_
    obtain ⟨a0, f⟩ := T.fly
    refine flight_none f fun h2 f2 u2 => ?_
    have I2 := ((T.on f2 u2 I).seen I).han ea
    refine wpAny_mono (hs ea pins _ _ _ _ (I2.wish _) h) (fun fl s4 q => ?_) (fun _ _ z => z.elim)
    cases fl with
    | next => obtain ⟨σ4, H4, I4, q⟩ := q; exact ⟨_, _, I4.unwish.unhan I.ok, q⟩
    | brk => obtain ⟨σ4, H4, I4, q⟩ := q; exact ⟨_, _, I4.unwish.unhan I.ok, q⟩
    | cont => obtain ⟨σ4, H4, I4, q⟩ := q; exact ⟨_, _, I4.unwish.unhan I.ok, q⟩
    | ret u => obtain ⟨v, σ4, H4, I4, r, q⟩ := q; exact ⟨v, _, _, I4.unwish.unhan I.ok, r, q⟩
  · refine PySem.W.Looks.here (PySem.W.exm_one I1.kIn T.looks hx) ?_
    exact hr pins σ H H' D s s' ea C dx B I T h
theorem ps_try (hb : PSs X.nox body tb) (hx : PSsx X body tx) (hh : PH X (h₀ :: rest) tr) (hk : X.stack = X.env :: X.outer := by rfl) (hf : X.env.frame = some X.env.locals := by rfl) : PS X (.Try body (h₀ :: rest) [] [] pos) (tTry tb tx tr) := by
  intro pins s σ H D I h
  refine wpAny_Try_except ?_
  rcases h with h | ⟨E, h, q⟩
  · refine wpAny_mono (hb pins s σ H D (I.wish _) h) (fun f s1 z => ?_) (fun _ _ z => z.elim)
    cases f with
    | next => exact wpAny_execs_nil z.unwish
    | brk => exact z.unwish
    | cont => exact z.unwish
    | ret u => exact z.unwish
  · refine wpAny_mono (hx pins s σ H E I h) (fun _ _ z => z.elim) ?_
    rintro e s1 ⟨s0, H0, ea, C, dx, B, H', rfl, I0, T, qE⟩
    obtain ⟨a0, f⟩ := T.fly
    rw [hk] at f
    refine note_next (by rw [I0.ok.frames, hk]) hf f fun h1 f1 u1 => ?_
    rw [← hk] at f1
    have T1 := T.on f1 u1 I0
    refine flight_none f1 fun h2 f2 u2 => ?_
    have T2 := T1.on f2 u2 I0
    exact hh pins σ H0 H' D s0 _ ea C dx B I0 T2 (q C dx H' ea qE T2.none)
end
/-- a statement that never raises, in a def that may -/
theorem PS.nox {X : Cx} {st : Stmt} {t : TS} (h : PS X.nox st t) : PS X st t := fun pins s σ H D I hw =>
  wpAny_mono (h pins s σ H D (I.wish _) hw) (fun _ _ q => q.unwish) fun _ _ z => False.elim z
/-- an exception of class C that bears these fields -/
def Bears (E : XK) (H : Hp) (C : Addr) (fs : List (Str × V)) : Prop := ∀ d H', H d = none → Same H H' → H' d = some (xdo d fs) → E (.ref C) (some d) H'
/-- .. and that it is what came -/
def Got (H : Hp) (C : Addr) (fs : List (Str × V)) : XK := fun c dx H' => c = .ref C ∧ ∃ d, dx = some d ∧ H d = none ∧ Same H H' ∧ H' d = some (xdo d fs)
theorem Got.at {H H' : Hp} {C D ea : Addr} {fs : List (Str × V)} {dx : Option Addr} (g : Got H C fs (.ref D) dx H') (he : H' ea = none) : D = C ∧ ∃ d, dx = some d ∧ Same H (upd H' ea (xh ea C (some d))) ∧ upd H' ea (xh ea C (some d)) ea = some (xh ea C (some d)) ∧ upd H' ea (xh ea C (some d)) d = some (xdo d fs) := by
  obtain ⟨e, d, rfl, hd, sm, hdd⟩ := g
  cases e
  have ned : d ≠ ea := fun z => by rw [z, he] at hdd; cases hdd
  exact ⟨rfl, d, rfl, fun b o hb => (upd_ne (ne_of_none (sm _ _ hb) he)).trans (sm _ _ hb), upd_same, (upd_ne ned).trans hdd⟩
end L2

set_option Elab.async false
set_option linter.all false
set_option maxRecDepth 100000
set_option maxHeartbeats 4000000
namespace L2
open PySem PySem.Spec PyProof.Rows
/-! ### min(list of ints) -/
section
variable {X : Cx}
def rMinL (K : PySem.W.Frag) : List V → Hp → VK → Prop := fun xs H Q => ∃ (p : Addr) (ns : List Int), xs = [.ref p] ∧ SqL K H p (ns.map V.int) ∧ ns ≠ [] ∧ ∀ m ∈ ns, (∀ a ∈ ns, m ≤ a) → Q (.int m) H
end
/-! ### for x in d.values() -/
section
variable {X : Cx} {o : Expr} {apos cpos : Pos} {td : TE}
end
end L2

set_option Elab.async false
set_option linter.all false
set_option maxRecDepth 100000
set_option maxHeartbeats 4000000
namespace L2
open PySem PySem.Spec PyProof.Rows
/-! ### sorted(d.values()) -/
section
variable {X : Cx} {o : Expr} {apos cpos : Pos} {td : TE}
def tSortV (td : TE) : TE := fun σ H Q => td σ H fun x H1 => ∃ (d : Addr) (kvs : List (Key × V)) (ns : List Int), x = .ref d ∧ H1 d = some (.dK kvs) ∧ kvs.map (·.2) = ns.map V.int ∧ ns.length < 64 ∧
  ∀ l (ms : List Int), H1 l = none → ms.Perm ns → ms.Pairwise (· ≤ ·) → Q (.ref l) (upd H1 l (.lst (ms.map V.int)))
end
end L2

set_option Elab.async false
set_option linter.all false
set_option maxRecDepth 100000
set_option maxHeartbeats 4000000
namespace L2
open PySem PySem.Spec PyProof.Rows
/-! ### list(d) of a dict; l.count(k) -/
def rListD : List V → Hp → VK → Prop := fun xs H Q => ∃ d kvs, xs = [.ref d] ∧ H d = some (.dK kvs) ∧ kvs.length ≤ 1000000 ∧ (NdK kvs → ∀ l, H l = none → Q (.ref l) (upd H l (.lst (kvs.map fun kv => kV kv.1))))
section
variable {X : Cx}
def rCount (K : PySem.W.Frag) : V → List V → Hp → VK → Prop := fun x vs H Q => ∃ (l : Addr) (ns : List Int) (k : Int), x = .ref l ∧ vs = [.int k] ∧ SqL K H l (ns.map V.int) ∧ Q (.int (ns.count k : Nat)) H
end
/-- list(x) of a list, a tuple or a dict -/
def rListO (K : PySem.W.Frag) : List V → Hp → VK → Prop := fun xs H Q => rListOf K xs H Q ∨ rListD xs H Q
end L2

set_option Elab.async false
set_option linter.all false
namespace L2
open PySem PySem.Spec PyProof.Rows
/-! ### a body walked piece by piece; lists by their length -/
theorem cut1 {t1 tR : TS} {D : Ends} {σ : L2.St} {H : Hp} (h : ∀ R, R = tR → tSeq t1 R D σ H) : tSeq t1 tR D σ H := h _ rfl
theorem cut2 {t1 t2 tR : TS} {D : Ends} {σ : L2.St} {H : Hp} (h : ∀ R, R = tR → tSeq t1 (tSeq t2 R) D σ H) : tSeq t1 (tSeq t2 tR) D σ H := h _ rfl
theorem cut3 {t1 t2 t3 tR : TS} {D : Ends} {σ : L2.St} {H : Hp} (h : ∀ R, R = tR → tSeq t1 (tSeq t2 (tSeq t3 R)) D σ H) : tSeq t1 (tSeq t2 (tSeq t3 tR)) D σ H := h _ rfl
theorem cut4 {t1 t2 t3 t4 tR : TS} {D : Ends} {σ : L2.St} {H : Hp} (h : ∀ R, R = tR → tSeq t1 (tSeq t2 (tSeq t3 (tSeq t4 R))) D σ H) : tSeq t1 (tSeq t2 (tSeq t3 (tSeq t4 tR))) D σ H := h _ rfl
theorem el1 {α : Type} {p : List α → Prop} (h : ∀ a, p [a]) : ∀ us : List α, us.length = 1 → p us
  | [a], _ => h a
theorem el2 {α : Type} {p : List α → Prop} (h : ∀ a b, p [a, b]) : ∀ us : List α, us.length = 2 → p us
  | [a, b], _ => h a b
theorem el3 {α : Type} {p : List α → Prop} (h : ∀ a b c, p [a, b, c]) : ∀ us : List α, us.length = 3 → p us
  | [a, b, c], _ => h a b c
end L2

set_option Elab.async false
set_option linter.all false
set_option maxRecDepth 100000
set_option maxHeartbeats 4000000
namespace L2
open PySem PySem.Spec PyProof.Rows Builtin Builtin.ObjectAttr
/-! ### isinstance(e, C) of an exception -/
structure XIs (K : PySem.W.Frag) (C : Addr) : Prop where
  ha : PySem.W.findIn K (.ref C) "__class__" = some (some (.builtin "object.__class__"))
  hn : PySem.W.specialIn K (.builtin "object.__class__") "__get__" = some (some (.builtin "getset_descriptor.__get__"))
  htk : PySem.W.takesIn K (.builtin "object.__class__") = some true
section
variable {prog : Program} {w : World} {A : Around} {E : Value → Shared → Prop} {s : Shared} {K : PySem.W.Frag} {x C : Addr} {v : Value}
end
/-- what isinstance tells of an exception -/
def rIsx (K : PySem.W.Frag) : List V → Hp → VK → Prop := fun xs H Q => ∃ ea C d fs c b, (xs = [.ref ea, c]) ∧ H ea = some (xh ea C (some d)) ∧ H d = some (xdo d fs) ∧ XCls K C ∧ XIs K C ∧ ((∃ n, c = .ty n ∧ PySem.W.kitOne K (.ref C) (.type n) = some b) ∨ ∃ D, c = .ref D ∧ PySem.W.kitOne K (.ref C) (.ref D) = some b) ∧ Q (.bl b) H
end L2

set_option Elab.async false
set_option linter.all false
set_option maxRecDepth 100000
set_option maxHeartbeats 4000000
namespace L2
open PySem PySem.Spec PyProof.Rows PySem.Calls
/-! ### an exception's class without an __init__ of its own -/
section
variable {M : Model} {A : Around} {E : Value → Shared → Prop} {h : Heap} {g : Array GenState} {d : Drawn} {t : Nat} {os : OsState}
variable {nm qn : Str} {C N : Addr} {bs bm : List Value} {hdct : Bool} {sn : List Str} {sub : List Value} {ab : Bool} {col : Option Bool} {dd : Option Addr} {k0 k1 k2 k3 k5 : Option Value}
theorem x_checkI {us : List Value} {e : Addr} {oe : Obj} {Q : Unit → Shared → Prop} (hC : h.get? C = some (excClassObj nm qn C N bs bm hdct sn sub ab col dd k0 k1 k2 k3 k5 "ValueError.__new__")) (ho : xOver bm = true)
    (he : h.get? e = some oe) (hcl : oe.cls = .ref C) (q : Q () ⟨h, g, d, t, os⟩) : wpAny M A (checkBuiltinCall "ValueError.__init__" ⟨.ref e :: us, []⟩) Q E ⟨h, g, d, t, os⟩ := by
  have F := PySem.F.excBase_ValueError
  have c1 : (Value.ref C :: bm).contains (.type "ValueError") = true := by rw [List.contains_cons, xOver_has ho (b := true) (by decide), Bool.or_true]
  have st := F.noStar
  simp only [checkBuiltinCall, F.initKind, F.initSplit, F.initRow]
  repeat (first | (refine wpAny_loadPart_at he ?_; rw [hcl]) | (refine wpAny_loadPart_at hC ?_) | (refine wpAny_isSubtype_exc hC ?_; rw [c1]) | wp_step)
  refine wpAny_onRaise ?_
  have star : ∀ (x y : String) (m : Nat), Bind.check ⟨.positional, "*", "ValueError", .self, [⟨"args", .varPos, false⟩]⟩ x y m
      (({ pos := Value.ref e :: us } : Args).kw.map fun z => z.fst) = pure () := fun x y m => check_star_args _ _ _ _ _ _
  rw [star]
  exact wpAny_pure q
end
section
variable {prog : Program} {w : World} {A : Around} {h : Heap} {g : Array GenState} {d : Drawn} {t : Nat} {os : OsState} {C : Addr}
theorem x_tcall0 {K : PySem.W.Frag} {hh : Heap} {us : List Value} {Q : Fin → Shared → Prop} {E : Value → Shared → Prop} (X : K.In hh) (c : XCls K C) (hi : PySem.W.findIn K (.ref C) "__init__" = some (some (.builtin "ValueError.__init__"))) (hl : us.length ≤ sizeLine)
    (hq : ∀ h', (∀ b o, hh.get? b = some o → h'.get? b = some o) → h'.get? (hh.objs.size + 1) = some (XObj C (hh.objs.size + 2) none) → h'.get? (hh.objs.size + 2) = some (xTup us) → Q (.done (.ret (.ref (hh.objs.size + 1)))) ⟨h', g, d, t, os⟩) :
    wpAny (model prog w) A (Builtin.«type.__call__» ⟨.ref C :: us, []⟩) Q E ⟨hh, g, d, t, os⟩ := by
  obtain ⟨nm, qn, N, bs, bm, sn, sub, ab, col, dd, k0, k1, k2, k3, k5, hK, ho⟩ := xIn_cls c.x
  have hC := X _ _ hK
  have F := PySem.F.excBase_ValueError
  have k : ∀ b o, hh.get? b = some o → ((hh.push (xTup us)).push (XObj C hh.objs.size none)).get? b = some o := fun b o e => Heap.get?_push_of_some _ (Heap.get?_push_of_some _ e)
  repeat (first | (with_reducible refine wpAny_loadPart_at hC ?_) | (with_reducible refine wpAny_madeBy_exc hC ?_) | wp_step)
  refine codeAny_call_builtin_code (Code.quiet_builtin _ F.quiet) (x_check hC ho ?_)
  refine x_new hC ho ?_ hl
  show wpAny _ _ _ _ _ _
  have hC1 := k _ _ hC
  have hx : ((hh.push (xTup us)).push (XObj C hh.objs.size none)).get? (hh.objs.size + 1) = some ({ cls := .ref C, dict := none, data := .fields #[.ref hh.objs.size, .none, .none, .none, .bool false, .none] } : Obj) := by heap_get
  have c4 : (Value.ref C :: bm).contains (.ref C) = true := by simp
  unfold isInstance
  repeat (first | (with_reducible refine wpAny_loadPart_at hx ?_) | (with_reducible refine wpAny_isSubtype_exc hC1 ?_; rw [c4]) | wp_step)
  show wpAny _ _ (typeLookup (.ref C) _) _ _ _
  refine ((PySem.W.looks_findIn X hi).keeps k).at ?_
  refine wpAny_holding (wpAny_bind (wpAny_of_eq (F.init.bind _) ?_))
  refine wpAny_bind (wpAny_call (codeAny_call_builtin F.init.plain F.initEntry (x_checkI hC1 ho hx rfl ?_)))
  wp_walk
  have z2 : ((hh.push (xTup us)).push (XObj C hh.objs.size none)).objs.size = hh.objs.size + 2 := by rw [size_push', size_push']
  refine hq _ (fun b o hb => ?_) ?_ ?_
  · rw [Heap.get?_update_other _ _ (Nat.ne_of_gt (Nat.lt_succ_of_lt (Heap.lt_size hb)))]
    exact Heap.get?_push_of_some _ (k b o hb)
  · rw [Heap.get?_update_self _ (Heap.get?_push_of_some _ hx) rfl, z2]
    rfl
  · rw [Heap.get?_update_other _ _ (show hh.objs.size + 1 ≠ hh.objs.size + 2 by omega)]
    exact Heap.get?_push_at z2.symm rfl
theorem x_call0 {K : PySem.W.Frag} {s : Shared} {us : List Value} {Q : Value → Shared → Prop} {E : Value → Shared → Prop} (X : K.In s.heap) (c : XCls K C) (hi : PySem.W.findIn K (.ref C) "__init__" = some (some (.builtin "ValueError.__init__"))) (hl : us.length ≤ sizeLine)
    (hq : ∀ h', (∀ b o, s.heap.get? b = some o → h'.get? b = some o) → h'.get? (s.heap.objs.size + 1) = some (XObj C (s.heap.objs.size + 2) none) → h'.get? (s.heap.objs.size + 2) = some (xTup us) → Q (.ref (s.heap.objs.size + 1)) { s with heap := h' }) : wpAny (model prog w) A (call (.ref C) us) Q E s := by
  obtain ⟨hh, g, d, t, os⟩ := s
  obtain ⟨nm, qn, N, bs, bm, sn, sub, ab, col, dd, k0, k1, k2, k3, k5, hK, ho⟩ := xIn_cls c.x
  have hC := X _ _ hK
  dsimp only at hC
  have f1 := tc_lookup
  have f2 := tc_bind (.ref C)
  have hT : (⟨hh, g, d, t, os⟩ : Shared).TypeIs (.ref C) "type" := ⟨_, hC, rfl⟩
  refine wpAny_call (codeAny_of_tree ?_)
  show wpAny _ _ (callAny (.ref C) _) _ _ _
  repeat (any_goals (first | assumption | (with_reducible refine wpAny_loadPart_at hC ?_) | wp_step))
  refine ⟨rfl, ?_⟩
  exact codeAny_call_builtin_at (Code.quiet_builtin _ (by decide +kernel)) entry_typeCall (wpAny_check_type_call_sub hC (x_tcall0 X c hi hl hq))
end
def tRaise0 (C : Addr) (E : XK) : TS := fun _ _ H => E (.ref C) none H
section
variable {X : Cx} {k : Nat} {C : Addr} {E : XK} {x : Str} {np cpos pos : Pos}
theorem ps_raise0 (c : XCls X.K C) (hi : PySem.W.findIn X.K (.ref C) "__init__" = some (some (.builtin "ValueError.__init__"))) (hr : Room k X.A)
    (hg : Gl X x) (hm : X.mg x = some (.ref C)) (hx : RaiseTo X E) (hdb : (x == ("__debug__" : Str)) = false := by decide) :
    PS X (.Raise (some (.Call (.Name x np) [] [] cpos)) none pos) (tRaise0 C E) := by
  intro pins s σ H D I h
  rw [arm_exec_Raise]
  show wpAny _ _ (do standAt pos; raiseStmt X.env (some (do let v ← eval (.Call (.Name x np) [] [] cpos) X.env; standAt pos; pure v)) none) _ _ s
  refine wpAny_bind (wpAny_standAt ?_)
  unfold raiseStmt
  refine wpAny_bind (wpAny_bind (thn (Q := fun u s1 => ∃ ea tt dx H2, u = Value.ref ea ∧ X.s₀.heap.objs.size ≤ ea ∧ Inv X pins σ H2 s1 ∧ H2 ea = some (xo ea C tt dx) ∧ E (.ref C) dx (del H2 ea)) ?_ ?_))
  · refine wpAny_Call_Name_kw (ld_glob I hg hm ?_ hdb)
    refine PySem.W.callWith_K0 I.kIn c.kp ?_
    refine x_call0 I.kIn c hi (Nat.zero_le _) fun h' hk e1 e2 => ?_
    have hsz : s.heap.objs.size ≤ s.heap.objs.size + 1 := Nat.le_succ _
    have hfr : H (s.heap.objs.size + 1) = none := I.hok.fresh hsz
    refine ⟨s.heap.objs.size + 1, s.heap.objs.size + 2, none, upd H (s.heap.objs.size + 1) (xo (s.heap.objs.size + 1) C (s.heap.objs.size + 2) none), rfl, Nat.le_trans I.sz hsz, I.laid (t' := s.toks) hk hsz (xo_ok e1), upd_same, ?_⟩
    have ed : del (upd H (s.heap.objs.size + 1) (xo (s.heap.objs.size + 1) C (s.heap.objs.size + 2) none)) (s.heap.objs.size + 1) = H := by
      funext b
      by_cases z : b = s.heap.objs.size + 1
      · rw [z, del_self, hfr]
      · rw [del_ne z, upd_ne z]
    rw [ed]
    exact h
  · rintro u s1 ⟨ea, tt, dx, H2, rfl, hn, I2, he2, q2⟩
    refine wpAny_bind (wpAny_standAt (wpAny_pure ?_))
    have ge := xo_get I2.hok he2
    have hE : X.xe (.ref ea) s1 := hx pins σ H2 s1 ea C tt dx I2 he2 hn q2
    obtain ⟨nm, qn, N, bs, bm, sn, sub, ab, col, dd, k0, k1, k2, k3, k5, hK, ho⟩ := xIn_cls c.x
    have hC := I2.kIn _ _ hK
    have cB : (Value.ref C :: bm).contains (.type "BaseException") = true := by rw [List.contains_cons, xOver_has ho (b := true) (by decide), Bool.or_true]
    obtain ⟨hp, g, d, tk, os⟩ := s1
    dsimp only at ge hC
    repeat (first | (with_reducible refine wpAny_loadPart_at ge ?_) | (with_reducible refine wpAny_loadPart_at hC ?_) | (with_reducible refine wpAny_isSubtype_exc hC ?_; rw [cB]) | wp_step)
    exact wpAny_raiseNew_none hr.hd hE
end
end L2

set_option Elab.async false
set_option linter.all false
set_option maxRecDepth 100000
set_option maxHeartbeats 4000000
namespace L2
open PySem PySem.Spec PyProof.Rows Builtin Builtin.ObjectAttr
/-! ### isinstance(e, C) of an exception, with or without a dict of its own -/
section
variable {prog : Program} {w : World} {A : Around} {E : Value → Shared → Prop} {s : Shared} {K : PySem.W.Frag} {x C : Addr} {v : Value}
end
/-- the own dict of an exception: none, or one with these fields -/
def XD (H : Hp) (dx : Option Addr) (fs : List (Str × V)) : Prop := (dx = none ∧ fs = []) ∨ ∃ d, dx = some d ∧ H d = some (xdo d fs)
theorem XD.same {H H' : Hp} {dx : Option Addr} {fs : List (Str × V)} (h : XD H dx fs) (s : Same H H') : XD H' dx fs := by
  rcases h with h | ⟨d, e, h⟩
  · exact .inl h
  · exact .inr ⟨d, e, s _ _ h⟩
def rIsy (K : PySem.W.Frag) : List V → Hp → VK → Prop := fun xs H Q => ∃ ea C dx fs c b, (xs = [.ref ea, c]) ∧ H ea = some (xh ea C dx) ∧ XD H dx fs ∧ XCls K C ∧ XIs K C ∧ ((∃ n, c = .ty n ∧ PySem.W.kitOne K (.ref C) (.type n) = some b) ∨ ∃ D, c = .ref D ∧ PySem.W.kitOne K (.ref C) (.ref D) = some b) ∧ Q (.bl b) H
/-! ### an exception of a class, with these fields (none: no dict) -/
def XB (E : XK) (H : Hp) (C : Addr) (fs : List (Str × V)) : Prop := ∀ dx H', Same H H' → XD H' dx fs → (∀ d, dx = some d → H d = none) → E (.ref C) dx H'
def XG (H : Hp) (C : Addr) (fs : List (Str × V)) : XK := fun c dx H' => c = .ref C ∧ Same H H' ∧ XD H' dx fs ∧ ∀ d, dx = some d → H d = none
theorem xb_xg {H : Hp} {C : Addr} {fs : List (Str × V)} : XB (XG H C fs) H C fs := fun _ _ s d n => ⟨rfl, s, d, n⟩
theorem XB.zero {E : XK} {H : Hp} {C : Addr} (h : XB E H C []) : E (.ref C) none H := h none H (Same.refl _) (.inl ⟨rfl, rfl⟩) fun _ z => nomatch z
theorem XB.bears {E : XK} {H : Hp} {C : Addr} {fs : List (Str × V)} (h : XB E H C fs) : Bears E H C fs := fun d H' hd s e => h (some d) H' s (.inr ⟨d, rfl, e⟩) fun d' z => by cases z; exact hd
theorem XB.back {E : XK} {H H1 : Hp} {C : Addr} {fs : List (Str × V)} (h : XB E H C fs) (s : Same H H1) : XB E H1 C fs := fun dx H' s' d n => h dx H' (s.trans s') d fun d' z => same_back s (n d' z)
theorem XG.at {H H' : Hp} {C D ea : Addr} {fs : List (Str × V)} {dx : Option Addr} (g : XG H C fs (.ref D) dx H') (he : H' ea = none) : D = C ∧ Same H (upd H' ea (xh ea C dx)) ∧ upd H' ea (xh ea C dx) ea = some (xh ea C dx) ∧ XD (upd H' ea (xh ea C dx)) dx fs := by
  obtain ⟨e, sm, hd, _⟩ := g
  cases e
  refine ⟨rfl, fun b o hb => (upd_ne (ne_of_none (sm _ _ hb) he)).trans (sm _ _ hb), upd_same, hd.same fun b o hb => (upd_ne (ne_of_none hb he)).trans hb⟩
/-! ### what raises behind a call that doesn't -/
section
variable {X : Cx} {e : Expr} {pos : Pos} {rest : List Stmt} {st : Stmt}
end
/-! ### a def that is called from a handler -/
structure FnU (P : Program) (w : World) (K : PySem.W.Frag) (mg : Str → Option Value) (base : Heap) (k : Nat) (f : Addr) (fd : FuncData) (ps : List Str) (sp : Sp) : Prop where
  len : ∀ vs H Q E, sp vs H Q E → vs.length = ps.length
  run : ∀ (A : Around) (ea : Addr) (outer : List Env) (s : Shared) (H : Hp) (args : Args) (us : List Value) (vs : List V) (Q : VK) (E : XK), Room k A → Env0 P w K mg base A outer s H → BindsTo s fd args (ps.zip us) → Vals vs us → sp vs H Q E →
    codeAny (model P w) (A.mark (some (.ref ea))) (.call (.ref f) args) (CR CX0 outer P w H s Q E) s
section
variable {P : Program} {w : World} {K : PySem.W.Frag} {mg : Str → Option Value} {base : Heap}
end
section
variable {X : Cx} {ea : Addr} {k : Nat} {f : Addr} {fd : FuncData} {ps : List Str} {sp : Sp} {ds : List Value} {dvs : List V} {x : Str} {p pos : Pos} {e : Expr} {es : List Expr} {t : TA}
end
end L2

set_option Elab.async false
namespace K02
theorem xor_step (a b : Nat) : a ^^^ b = 2 * ((a / 2) ^^^ (b / 2)) + (if a % 2 ≠ b % 2 then 1 else 0) := by
  have h1 : (a ^^^ b) / 2 = (a / 2) ^^^ (b / 2) := Nat.xor_div_two
  have h2 : (a ^^^ b) % 2 = (if a % 2 ≠ b % 2 then 1 else 0) := by
    have := @Nat.xor_mod_two_eq_one a b
    by_cases h : a % 2 ≠ b % 2
    · rw [if_pos h]; rw [this]; omega
    · rw [if_neg h]
      have h3 : ¬ ((a ^^^ b) % 2 = 1) := by rw [this]; omega
      omega
  omega
/-- what the law lays over -/
def laid (a b : Int) : Int := ([1, 2, 4, 8, 16, 32, 64, 128] : List Int).foldl (fun f w => if a / w % 2 ≠ b / w % 2 then f + w else f) 0
theorem laid_xor (a b : Nat) (ha : a < 256) (hb : b < 256) : laid a b = ((a ^^^ b : Nat) : Int) := by
  rw [xor_step a b, xor_step (a / 2) (b / 2), xor_step (a / 2 / 2) (b / 2 / 2), xor_step (a / 2 / 2 / 2) (b / 2 / 2 / 2), xor_step (a / 2 / 2 / 2 / 2) (b / 2 / 2 / 2 / 2), xor_step (a / 2 / 2 / 2 / 2 / 2) (b / 2 / 2 / 2 / 2 / 2),
    xor_step (a / 2 / 2 / 2 / 2 / 2 / 2) (b / 2 / 2 / 2 / 2 / 2 / 2), xor_step (a / 2 / 2 / 2 / 2 / 2 / 2 / 2) (b / 2 / 2 / 2 / 2 / 2 / 2 / 2)]
  have e1 : a / 2 / 2 / 2 / 2 / 2 / 2 / 2 / 2 = 0 := by omega
  have e2 : b / 2 / 2 / 2 / 2 / 2 / 2 / 2 / 2 = 0 := by omega
  rw [e1, e2, Nat.xor_zero]
  have q : ∀ (w v : Nat), ((a : Int) / (w : Int) % 2 ≠ (b : Int) / (w : Int) % 2) ↔ (a / w % 2 ≠ b / w % 2) := fun w v => by omega
  simp only [laid, List.foldl]
  simp only [Nat.div_div_eq_div_mul]
  have c1 : ((a : Int) / 1 % 2 ≠ (b : Int) / 1 % 2) ↔ (a % 2 ≠ b % 2) := by omega
  have c2 : ((a : Int) / 2 % 2 ≠ (b : Int) / 2 % 2) ↔ (a / 2 % 2 ≠ b / 2 % 2) := by omega
  have c3 : ((a : Int) / 4 % 2 ≠ (b : Int) / 4 % 2) ↔ (a / (2 * 2) % 2 ≠ b / (2 * 2) % 2) := by omega
  have c4 : ((a : Int) / 8 % 2 ≠ (b : Int) / 8 % 2) ↔ (a / (2 * 2 * 2) % 2 ≠ b / (2 * 2 * 2) % 2) := by omega
  have c5 : ((a : Int) / 16 % 2 ≠ (b : Int) / 16 % 2) ↔ (a / (2 * 2 * 2 * 2) % 2 ≠ b / (2 * 2 * 2 * 2) % 2) := by omega
  have c6 : ((a : Int) / 32 % 2 ≠ (b : Int) / 32 % 2) ↔ (a / (2 * 2 * 2 * 2 * 2) % 2 ≠ b / (2 * 2 * 2 * 2 * 2) % 2) := by omega
  have c7 : ((a : Int) / 64 % 2 ≠ (b : Int) / 64 % 2) ↔ (a / (2 * 2 * 2 * 2 * 2 * 2) % 2 ≠ b / (2 * 2 * 2 * 2 * 2 * 2) % 2) := by omega
  have c8 : ((a : Int) / 128 % 2 ≠ (b : Int) / 128 % 2) ↔ (a / (2 * 2 * 2 * 2 * 2 * 2 * 2) % 2 ≠ b / (2 * 2 * 2 * 2 * 2 * 2 * 2) % 2) := by omega
  have st : ∀ (c : Prop) [Decidable c] (f w : Int), (if c then f + w else f) = f + w * ((if c then 1 else 0 : Nat) : Int) := fun c _ f w => by split <;> simp
  simp only [c1, c2, c3, c4, c5, c6, c7, c8, st]
  generalize (if a % 2 ≠ b % 2 then 1 else 0 : Nat) = t1
  generalize (if a / 2 % 2 ≠ b / 2 % 2 then 1 else 0 : Nat) = t2
  generalize (if a / (2 * 2) % 2 ≠ b / (2 * 2) % 2 then 1 else 0 : Nat) = t3
  generalize (if a / (2 * 2 * 2) % 2 ≠ b / (2 * 2 * 2) % 2 then 1 else 0 : Nat) = t4
  generalize (if a / (2 * 2 * 2 * 2) % 2 ≠ b / (2 * 2 * 2 * 2) % 2 then 1 else 0 : Nat) = t5
  generalize (if a / (2 * 2 * 2 * 2 * 2) % 2 ≠ b / (2 * 2 * 2 * 2 * 2) % 2 then 1 else 0 : Nat) = t6
  generalize (if a / (2 * 2 * 2 * 2 * 2 * 2) % 2 ≠ b / (2 * 2 * 2 * 2 * 2 * 2) % 2 then 1 else 0 : Nat) = t7
  generalize (if a / (2 * 2 * 2 * 2 * 2 * 2 * 2) % 2 ≠ b / (2 * 2 * 2 * 2 * 2 * 2 * 2) % 2 then 1 else 0 : Nat) = t8
  omega
theorem xor_split (n : Nat) (h : n < 65536) : n ^^^ (n / 256) = 256 * (n / 256) + ((n % 256) ^^^ (n / 256)) := by
  have h1 : n / 256 < 256 := by omega
  have h2 : (n % 256) ^^^ (n / 256) < 256 := Nat.xor_lt_two_pow (n := 8) (by omega) (by omega)
  apply Nat.eq_of_testBit_eq
  intro i
  rw [Nat.testBit_xor]
  have e : 256 * (n / 256) + ((n % 256) ^^^ (n / 256)) = 2 ^ 8 * (n / 256) + ((n % 256) ^^^ (n / 256)) := rfl
  rw [e, Nat.testBit_two_pow_mul_add (n / 256) (by simpa using h2) i]
  by_cases hi : i < 8
  · rw [if_pos hi, Nat.testBit_xor]
    have e2 : n % 256 = n % 2 ^ 8 := rfl
    rw [e2, Nat.testBit_mod_two_pow]
    simp [hi]
  · rw [if_neg hi]
    have e3 : (n / 256).testBit i = false := Nat.testBit_lt_two_pow (Nat.lt_of_lt_of_le h1 ((show 256 ≤ 2 ^ i from Nat.pow_le_pow_right (n := 2) (i := 8) (j := i) (by omega) (by omega))))
    rw [e3, Bool.xor_false]
    have e4 : n / 256 = n >>> 8 := by rw [Nat.shiftRight_eq_div_pow]
    rw [e4, Nat.testBit_shiftRight]
    congr 1
    omega
theorem and_step (a b : Nat) : a &&& b = 2 * ((a / 2) &&& (b / 2)) + (if a % 2 = 1 ∧ b % 2 = 1 then 1 else 0) := by
  have h1 : (a &&& b) / 2 = (a / 2) &&& (b / 2) := Nat.and_div_two
  have h2 : (a &&& b) % 2 = (if a % 2 = 1 ∧ b % 2 = 1 then 1 else 0) := by
    have := @Nat.and_mod_two_eq_one a b
    by_cases h : a % 2 = 1 ∧ b % 2 = 1
    · rw [if_pos h]; exact this.mpr h
    · rw [if_neg h]
      have h3 : ¬ ((a &&& b) % 2 = 1) := fun z => h (this.mp z)
      omega
  omega
theorem xor_and (a : Nat) : ∀ b : Nat, (a ^^^ b) + 2 * (a &&& b) = a + b := by
  induction a using Nat.strongRecOn with
  | ind a ih =>
    intro b
    by_cases h : a = 0
    · subst h; simp
    · have q := ih (a / 2) (by omega) (b / 2)
      rw [xor_step a b, and_step a b]
      by_cases h1 : a % 2 = 1 <;> by_cases h2 : b % 2 = 1
      · rw [if_neg (by omega), if_pos ⟨h1, h2⟩]; omega
      · rw [if_pos (by omega), if_neg (by omega)]; omega
      · rw [if_pos (by omega), if_neg (by omega)]; omega
      · rw [if_neg (by omega), if_neg (by omega)]; omega
open PySem in
theorem bitXor_nat (a b : Nat) : Builtin.bitXor (a : Int) (b : Int) = ((a ^^^ b : Nat) : Int) := by
  have e : Builtin.bitAnd (a : Int) (b : Int) = ((a &&& b : Nat) : Int) := by
    unfold Builtin.bitAnd
    have h1 : decide (0 ≤ (a : Int)) = true := by simp
    have h2 : decide (0 ≤ (b : Int)) = true := by simp
    rw [h1, h2]
    rfl
  have q := xor_and a b
  rw [PyProof.Rows.bitXor_and, e]
  omega
def foldH (cs : List Nat) : Int := cs.foldl (fun (h : Int) (c : Nat) => PySem.Builtin.bitAnd (h * 37 + (c : Int)) 65535) 1
def spreadN (cs : List Nat) : Int := PySem.Builtin.bitXor (foldH cs) (foldH cs / 2 ^ (8 : Int).toNat)
def foldN (cs : List Nat) : Int := cs.foldl (fun (h : Int) (c : Nat) => (37 * h + (c : Int)) % 65536) 1
def lspreadN (cs : List Nat) : Int := 256 * (foldN cs / 256) + laid (foldN cs % 256) (foldN cs / 256)
theorem foldH_eq (cs : List Nat) : foldH cs = foldN cs := by
  have e : (fun (h : Int) (c : Nat) => PySem.Builtin.bitAnd (h * 37 + (c : Int)) 65535) = fun (h : Int) (c : Nat) => (37 * h + (c : Int)) % 65536 := by
    funext h c
    rw [PyProof.Rows.bitAnd_m16, Int.mul_comm]
  unfold foldH foldN
  rw [e]
theorem foldN_bd (cs : List Nat) : 0 ≤ foldN cs ∧ foldN cs < 65536 := by
  have key : ∀ (cs : List Nat) (z : Int), 0 ≤ z → z < 65536 → 0 ≤ cs.foldl (fun (h : Int) (c : Nat) => (37 * h + (c : Int)) % 65536) z ∧ cs.foldl (fun (h : Int) (c : Nat) => (37 * h + (c : Int)) % 65536) z < 65536 := by
    intro cs
    induction cs with
    | nil => intro z h1 h2; exact ⟨h1, h2⟩
    | cons x r ih => intro z h1 h2; exact ih _ (by dsimp only; omega) (by dsimp only; omega)
  exact key cs 1 (by omega) (by omega)
theorem spread_eq (cs : List Nat) : spreadN cs = lspreadN cs := by
  unfold spreadN lspreadN
  rw [foldH_eq]
  obtain ⟨h1, h2⟩ := foldN_bd cs
  generalize foldN cs = z at h1 h2
  obtain ⟨n, rfl⟩ : ∃ n : Nat, z = (n : Int) := ⟨z.toNat, by omega⟩
  have hn : n < 65536 := by omega
  have e1 : (n : Int) / 2 ^ (8 : Int).toNat = ((n / 256 : Nat) : Int) := by
    show (n : Int) / 256 = _
    omega
  have e2 : (n : Int) % 256 = ((n % 256 : Nat) : Int) := by omega
  have e3 : (n : Int) / 256 = ((n / 256 : Nat) : Int) := by omega
  rw [e1, bitXor_nat, xor_split n hn, e2, e3, laid_xor _ _ (by omega) (by omega)]
  omega
end K02

set_option Elab.async false
set_option linter.all false
set_option maxRecDepth 100000
set_option maxHeartbeats 4000000
namespace L2
open PySem PySem.Spec PyProof.Rows
/-! ### shelves, good and spoiled -/
def rTupOf (K : PySem.W.Frag) : List V → Hp → VK → Prop := fun xs H Q => ∃ p ys, xs = [.ref p] ∧ ((SqL K H p ys ∧ ∀ l, H l = none → Q (.ref l) (upd H l (.tup ys))) ∨ (SqT K H p ys ∧ Q (.ref p) H))
theorem call_tupleK {X : Cx} {K : PySem.W.Frag} (hK : X.K = K := by rfl) : CallR X (.type "tuple") (rTupOf K) := hK ▸ call_tuple_of
abbrev kTab : Str := Str.ofString "table"
abbrev kStr : Str := Str.ofString "stream"
def kindV : V → Bool
  | .str z => decide (z = kTab) || decide (z = kStr)
  | _ => false
inductive KThg (H : Hp) : V → Prop
  | non : KThg H .non
  | bl (b : Bool) : KThg H (.bl b)
  | int (i : Int) : KThg H (.int i)
  | str (z : Str) : KThg H (.str z)
  | lst {p : Addr} {xs : List V} (h : H p = some (.lst xs)) : KThg H (.ref p)
inductive IsShB (H : Hp) : V → Bool → Prop
  | good {t : Addr} {x : Shf} : H t = some (.tup x.v) → okShf x → IsShB H (.ref t) true
  | non : IsShB H .non false
  | bl (b : Bool) : IsShB H (.bl b) false
  | int (i : Int) : IsShB H (.int i) false
  | str (z : Str) : IsShB H (.str z) false
  | lst {p : Addr} {xs : List V} : H p = some (.lst xs) → IsShB H (.ref p) false
  | shrt {p : Addr} {xs : List V} : H p = some (.tup xs) → xs.length ≠ 3 → IsShB H (.ref p) false
  | part {p : Addr} {x y z : V} : H p = some (.tup [x, y, z]) → Thg H x → Thg H y → KThg H z → (formV x 1 12 inN && (wholeV y 1 9 && kindV z)) = false → IsShB H (.ref p) false
theorem Thg.same {H H' : Hp} {v : V} (h : Thg H v) (s : Same H H') : Thg H' v := by
  cases h with
  | non => exact .non
  | bl b => exact .bl b
  | int i => exact .int i
  | str l h => exact .str l h
  | lst h => exact .lst (s _ _ h)
  | tup h => exact .tup (s _ _ h)
theorem KThg.same {H H' : Hp} {v : V} (h : KThg H v) (s : Same H H') : KThg H' v := by
  cases h with
  | non => exact .non
  | bl b => exact .bl b
  | int i => exact .int i
  | str z => exact .str z
  | lst h => exact .lst (s _ _ h)
theorem IsShB.same {H H' : Hp} {v : V} {b : Bool} (h : IsShB H v b) (s : Same H H') : IsShB H' v b := by
  cases h with
  | good h o => exact .good (s _ _ h) o
  | non => exact .non
  | bl b => exact .bl b
  | int i => exact .int i
  | str z => exact .str z
  | lst h => exact .lst (s _ _ h)
  | shrt h n => exact .shrt (s _ _ h) n
  | part h x y z e => exact .part (s _ _ h) (x.same s) (y.same s) (z.same s) e
inductive AreB (H : Hp) : V → Bool → Prop
  | good {p : Addr} {xs : List Shf} : LTups H p (xs.map Shf.v) → OkShfs xs → AreB H (.ref p) true
  | non : AreB H .non false
  | bl (b : Bool) : AreB H (.bl b) false
  | int (i : Int) : AreB H (.int i) false
  | str (z : Str) : AreB H (.str z) false
  | dic {p : Addr} {kvs : List (Key × V)} : H p = some (.dK kvs) → AreB H (.ref p) false
  | tup {p : Addr} {xs : List V} : H p = some (.tup xs) → AreB H (.ref p) false
  | size {p : Addr} {xs : List V} : H p = some (.lst xs) → xs.length < 1 ∨ 6 < xs.length → xs.length ≤ 1000 → AreB H (.ref p) false
  | bad {p : Addr} {xs : List V} {f : V → Bool} : H p = some (.lst xs) → 1 ≤ xs.length → xs.length ≤ 6 → (∀ v ∈ xs, IsShB H v (f v)) → (∃ v ∈ xs, f v = false) → AreB H (.ref p) false
  | dup {p : Addr} {xs : List Shf} : LTups H p (xs.map Shf.v) → 1 ≤ xs.length → xs.length ≤ 6 → (∀ x ∈ xs, okShf x) → ¬ (xs.map Shf.name).Nodup → AreB H (.ref p) false
def sp_is_kindB : Sp := fun vs H Q _ => ∃ v, vs = [v] ∧ KThg H v ∧ Q (.bl (kindV v)) H
def sp_is_shelfB : Sp := fun vs H Q _ => ∃ v b, vs = [v] ∧ IsShB H v b ∧ ∀ H', Same H H' → Q (.bl b) H'
def sp_are_shelvesB : Sp := fun vs H Q _ => ∃ v b, vs = [v] ∧ AreB H v b ∧ ∀ H', Same H H' → Q (.bl b) H'
def sp_sh_initX (C CB : Addr) : Sp := fun vs H Q E => ∃ (x dx : Addr) (v : V), vs = [.ref x, v] ∧ H x = some (.ins C dx []) ∧
  ((∃ (p : Addr) (xs : List Shf), v = .ref p ∧ LTups H p (xs.map Shf.v) ∧ OkShfs xs ∧ ∀ l H', H l = none → Chg [x] H H' → ShAt C H' x l xs → Q .non H') ∨ (AreB H v false ∧ XB E H CB []))
def sp_sh_told (C : Addr) : Sp := fun vs H Q _ => ∃ (s l : Addr) (xs : List Shf), vs = [.ref s] ∧ ShAt C H s l xs ∧ ∀ D H', H D = none → Same H H' → LTups H' D (xs.map Shf.v) → Q (.ref D) H'
def sp_sh_rows_ofX (C CN : Addr) : Sp := fun vs H Q E => ∃ (s l : Addr) (xs : List Shf) (nm : List Nat), vs = [.ref s, .str (S nm)] ∧ ShAt C H s l xs ∧ OkShfs xs ∧
  ((∃ k x, xs[k]? = some x ∧ x.name = nm ∧ ∀ D H', H D = none → Same H H' → H' D = some (.lst (rngV (startOf xs k) x.rows)) → Q (.ref D) H') ∨ ((∀ x ∈ xs, x.name ≠ nm) ∧ XB E H CN [("name", .str (S nm))]))
def sp_sh_row_forX (C CN : Addr) : Sp := fun vs H Q E => ∃ (s l : Addr) (xs : List Shf) (nm key : List Nat), vs = [.ref s, .str (S nm), .str (S key)] ∧ ShAt C H s l xs ∧ OkShfs xs ∧
  ((∃ k x, xs[k]? = some x ∧ x.name = nm ∧ ∀ H', Same H H' → Q (.int (rowNo xs k x key)) H') ∨ ((∀ x ∈ xs, x.name ≠ nm) ∧ XB E H CN [("name", .str (S nm))]))
def sp_sh_with (C CN : Addr) : Sp := fun vs H Q E => ∃ (s l : Addr) (xs : List Shf) (r : Int), vs = [.ref s, .int r] ∧ ShAt C H s l xs ∧ OkShfs xs ∧
  ((∃ k x, xs[k]? = some x ∧ (startOf xs k : Int) ≤ r ∧ r < startOf xs (k + 1) ∧ ∀ t, H t = some (.tup x.v) → Q (.ref t) H) ∨ ((r < 0 ∨ (startOf xs xs.length : Int) ≤ r) ∧ XB E H CN [("name", .int r)]))
def sp_sh_at (i : Nat) (C CN : Addr) : Sp := fun vs H Q E => ∃ (s l : Addr) (xs : List Shf) (r : Int), vs = [.ref s, .int r] ∧ ShAt C H s l xs ∧ OkShfs xs ∧
  ((∃ k x, xs[k]? = some x ∧ (startOf xs k : Int) ≤ r ∧ r < startOf xs (k + 1) ∧ Q (it i x.v) H) ∨ ((r < 0 ∨ (startOf xs xs.length : Int) ≤ r) ∧ XB E H CN [("name", .int r)]))
/-! names and shelves of the law -/
def sz5 (c : Int) : Nat := (1 + mixN c 61 % 12).toNat
def at5 (c : Int) : Nat := (mixN c 62 % (1 + mixN c 61 % 12)).toNat
def nb5 (c : Int) : List Nat := (List.range (sz5 c)).map fun (k : Nat) => ltr36 (mixN c (70 + (0 + (k : Int))))
def nm5 (c : Int) (k : Nat) : List Nat := (nb5 c).set (at5 c) (ltr36 (mixN c 63 % 36 + (0 + (k : Int))))
def names5 (c : Int) (m : Nat) : List (List Nat) := (List.range m).map (nm5 c)
def n5 (c : Int) : Nat := (1 + mixN c 1 % 6).toNat
def shf5 (c : Int) (k : Nat) : Shf := ⟨nm5 c k, (1 + mixN c (20 + (k : Int)) % 9).toNat, if mixN c (10 + (k : Int)) % 2 = 0 then kTab else kStr⟩
def xs5 (c : Int) : List Shf := (List.range (n5 c)).map (shf5 c)
theorem n5_le (c : Int) : 1 ≤ n5 c ∧ n5 c ≤ 6 := by unfold n5; omega
theorem at5_lt (c : Int) : at5 c < sz5 c := by
  unfold at5 sz5
  have h1 := Int.emod_nonneg (mixN c 62) (show 1 + mixN c 61 % 12 ≠ 0 by omega)
  have h2 := Int.emod_lt_of_pos (mixN c 62) (show 0 < 1 + mixN c 61 % 12 by omega)
  omega
theorem nm5_ok (c : Int) (k : Nat) : 1 ≤ (nm5 c k).length ∧ (nm5 c k).length ≤ 12 ∧ (nm5 c k).all inN = true := by
  have hl : (nm5 c k).length = sz5 c := by unfold nm5 nb5; rw [List.length_set, List.length_map, List.length_range]
  have hs : 1 ≤ sz5 c ∧ sz5 c ≤ 12 := by unfold sz5; omega
  refine ⟨by omega, by omega, List.all_eq_true.mpr fun x hx => ?_⟩
  rcases List.mem_or_eq_of_mem_set hx with hx | rfl
  · obtain ⟨k, _, rfl⟩ := List.mem_map.mp hx
    exact ltr36_in _
  · exact ltr36_in _
theorem nm5_inj {c : Int} {k j : Nat} (hk : k < 36) (hj : j < 36) (h : nm5 c k = nm5 c j) : k = j := by
  have e := congrArg (fun l => l[at5 c]?) h
  have hl : (nb5 c).length = sz5 c := by unfold nb5; rw [List.length_map, List.length_range]
  have := at5_lt c
  unfold nm5 at e
  simp only [List.getElem?_set, if_true, hl, this] at e
  have := ltr36_inj (Option.some.inj e)
  omega
theorem okS_inN {l : List Nat} (h : l.all inN = true) : okS l := fun x hx => by
  have := List.all_eq_true.mp h x hx
  unfold inN at this
  have hm : x ∈ T36 := of_decide_eq_true this
  have : ∀ y ∈ T36, y < 1114112 := by decide
  exact this x hm
theorem xs5_len (c : Int) : (xs5 c).length = n5 c := by unfold xs5; rw [List.length_map, List.length_range]
theorem shf5_ok (c : Int) (k : Nat) : okShf (shf5 c k) := by
  refine ⟨nm5_ok c k, ?_, ?_⟩
  · show 1 ≤ (1 + mixN c (20 + (k : Int)) % 9).toNat ∧ (1 + mixN c (20 + (k : Int)) % 9).toNat ≤ 9
    omega
  · show (if _ then kTab else kStr) = _ ∨ (if _ then kTab else kStr) = _
    split
    · exact .inl rfl
    · exact .inr rfl
theorem names5_nd (c : Int) {m : Nat} (h : m ≤ 36) : (names5 c m).Nodup := by
  unfold names5
  rw [List.Nodup, List.pairwise_map]
  refine List.pairwise_iff_getElem.mpr fun i j hi hj hij z => ?_
  rw [List.getElem_range, List.getElem_range] at z
  rw [List.length_range] at hi hj
  have := nm5_inj (by omega) (by omega) z
  omega
theorem xs5_ok (c : Int) : OkShfs (xs5 c) := by
  have h := n5_le c
  have e : (xs5 c).map Shf.name = names5 c (n5 c) := by unfold xs5 names5; rw [List.map_map]; rfl
  refine ⟨by rw [xs5_len]; omega, by rw [xs5_len]; omega, fun x hx => ?_, ?_⟩
  · obtain ⟨k, _, rfl⟩ := List.mem_map.mp hx
    exact shf5_ok c k
  · rw [e]; exact names5_nd c (by omega)
def sp_names5 : Sp := fun vs H Q _ => ∃ (c : Int) (m : Nat), vs = [.int c, .int m] ∧ 1 ≤ m ∧ m ≤ 36 ∧ ∀ D H', H D = none → Same H H' → H' D = some (.lst ((names5 c m).map fun l => .str (S l))) → Q (.ref D) H'
def sp_shelves5 : Sp := fun vs H Q _ => ∃ c : Int, vs = [.int c] ∧ ∀ D H', H D = none → Same H H' → LTups H' D ((xs5 c).map Shf.v) → Q (.ref D) H'
def sp_odd5 : Sp := fun vs H Q _ => ∃ (t : Addr) (x : Shf) (n : Int), vs = [.ref t, .int n] ∧ H t = some (.tup x.v) ∧ okShf x ∧ 0 ≤ n ∧ ∀ v H', Same H H' → IsShB H' v false → Q v H'
def sp_spoiled5 : Sp := fun vs H Q _ => ∃ (p : Addr) (c c2 : Int), vs = [.ref p, .int c2] ∧ LTups H p ((xs5 c).map Shf.v) ∧ ∀ v H', Same H H' → AreB H' v false → Q v H'
def sp_refused5 : Sp := fun vs H Q _ => ∃ v, vs = [v] ∧ AreB H v false ∧ ∀ H', Same H H' → Q (.bl true) H'
def sp_no_shelf5 (C : Addr) : Sp := fun vs H Q _ => ∃ (s l : Addr) (xs : List Shf) (nm key : List Nat), vs = [.ref s, .str (S nm), .str (S key)] ∧ ShAt C H s l xs ∧ OkShfs xs ∧ (∀ x ∈ xs, x.name ≠ nm) ∧ ∀ H', Same H H' → Q (.bl true) H'
def sp_no_row5 (C : Addr) : Sp := fun vs H Q _ => ∃ (s l : Addr) (xs : List Shf) (r : Int), vs = [.ref s, .int r] ∧ ShAt C H s l xs ∧ OkShfs xs ∧ (r < 0 ∨ (startOf xs xs.length : Int) ≤ r) ∧ ∀ H', Same H H' → Q (.bl true) H'
def sp_stand5 (C : Addr) : Sp := fun vs H Q _ => ∃ (s l p : Addr) (xs : List Shf) (key : List Nat), vs = [.ref s, .ref p, .str (S key)] ∧ ShAt C H s l xs ∧ OkShfs xs ∧ LTups H p (xs.map Shf.v) ∧ ∀ H', Same H H' → Q (.bl true) H'
def laidOn (x y : Int) (ws : List Int) : Int := ws.foldl (fun f w => if x / w % 2 ≠ y / w % 2 then f + w else f) 0
theorem laidOn_snoc (x y : Int) {ws : List Int} {i : Nat} {u : Int} (h : ws[i]? = some u) : laidOn x y (ws.take (i + 1)) = if x / u % 2 ≠ y / u % 2 then laidOn x y (ws.take i) + u else laidOn x y (ws.take i) := by
  rw [List.take_add_one, h]
  simp [laidOn, List.foldl_append]
def sp_laid : Sp := fun vs H Q _ => ∃ x y : Int, vs = [.int x, .int y] ∧ ∀ H', Same H H' → Q (.int (K02.laid x y)) H'
theorem foldN_snoc {l : List Nat} {i c : Nat} (h : (S l).cps[i]? = some c) : K02.foldN (l.take (i + 1)) = (37 * K02.foldN (l.take i) + (c : Int)) % 65536 := by
  have h' : l[i]? = some c := by simpa using h
  rw [List.take_add_one, h']
  simp [K02.foldN, List.foldl_append]
def sp_lspread : Sp := fun vs H Q _ => ∃ l : List Nat, vs = [.str (S l)] ∧ ∀ H', Same H H' → Q (.int (K02.lspreadN l)) H'
theorem spr_eq (l : List Nat) : sprN l = K02.lspreadN l := K02.spread_eq l
theorem AreB.same {H H' : Hp} {v : V} {b : Bool} (h : AreB H v b) (s : Same H H') : AreB H' v b := by
  cases h with
  | good h o => exact .good (h.same s) o
  | non => exact .non
  | bl b => exact .bl b
  | int i => exact .int i
  | str z => exact .str z
  | dic h => exact .dic (s _ _ h)
  | tup h => exact .tup (s _ _ h)
  | size h n m => exact .size (s _ _ h) n m
  | bad h h1 h2 h3 h4 => exact .bad (s _ _ h) h1 h2 (fun v hv => (h3 v hv).same s) h4
  | dup h h1 h2 h3 h4 => exact .dup (h.same s) h1 h2 h3 h4
theorem rIxA_pick {K : PySem.W.Frag} {H : Hp} {Q : VK} {p : Addr} {xs : List V} {i : Int} (P : V → Prop) (h : SqL K H p xs) (h0 : 0 ≤ i) (h1 : i < xs.length) (hp : ∀ v ∈ xs, P v) (q : ∀ v, P v → Q v H) : rIxA K (.ref p) (.int i) H Q := by
  have hl : i.toNat < xs.length := by omega
  exact rIxA_l (v := xs[i.toNat]) h (atI_get? h0 (List.getElem?_eq_getElem hl)) (q _ (hp _ (List.getElem_mem hl)))
theorem tups_app5 {H3 H4 : Hp} {p t : Addr} {ts : List Addr} {rows : List (List V)} {r : List V} (c : Chg [p] H3 H4) (hp : H4 p = some (.lst (ts.map V.ref))) (ht : TupsAt H4 ts rows) (hn : H4 t = none) :
    upd H4 t (.tup r) p = some (.lst (ts.map V.ref)) ∧ Chg [p] H3 (upd (upd H4 t (.tup r)) p (.lst (ts.map V.ref ++ [V.ref t]))) ∧ ∃ ts', upd (upd H4 t (.tup r)) p (.lst (ts.map V.ref ++ [V.ref t])) p = some (.lst (ts'.map V.ref)) ∧ TupsAt (upd (upd H4 t (.tup r)) p (.lst (ts.map V.ref ++ [V.ref t]))) ts' (rows ++ [r]) := by
  have s1 : Same H4 (upd H4 t (.tup r)) := Same.upd hn
  have p1 := s1 _ _ hp
  have c1 : Chg [p] (upd H4 t (.tup r)) (upd (upd H4 t (.tup r)) p (.lst (ts.map V.ref ++ [V.ref t]))) := Chg.upd (by simp) (mut_lst p1)
  refine ⟨p1, c.trans ((Chg.of_same s1).trans c1), ts ++ [t], ?_, ((ht.chg (Chg.of_same (A := []) s1)).chg c1).snoc (c1.tup _ _ upd_same)⟩
  rw [List.map_append]
  exact upd_same
theorem names5_get (c : Int) (m i : Nat) (h : i < m) : (names5 c m)[i]? = some (nm5 c i) := by
  unfold names5
  rw [List.getElem?_map, List.getElem?_range h]
  rfl
end L2

set_option Elab.async false
set_option linter.all false
set_option maxRecDepth 100000
set_option maxHeartbeats 4000000
set_option pp.deepTerms true
set_option pp.maxSteps 200000
namespace K05
open PySem PySem.Spec PyProof.Rows L2
def top (i : Nat) : Stmt := PySem.Challenge.pw_lettercell_k05_shelves.main.body.getD i (.Pass ⟨0, 0, 0, 0⟩)
abbrev s_NoSuch___init__ : Stmt := inClass (top 3) 0
theorem sc_NoSuch___init__ : FnScope ["self", "name"] ["self", "name"] (defScope s_NoSuch___init__) := ⟨rfl, rfl, rfl, by decide +kernel, rfl, by decide +kernel, by decide +kernel⟩
abbrev s_is_text : Stmt := top 7
theorem sc_is_text : FnScope ["thing", "least", "most"] ["thing", "least", "most"] (defScope s_is_text) := ⟨rfl, rfl, rfl, by decide +kernel, rfl, by decide +kernel, by decide +kernel⟩
abbrev s_is_name : Stmt := top 8
theorem sc_is_name : FnScope ["thing"] ["thing"] (defScope s_is_name) := ⟨rfl, rfl, rfl, by decide +kernel, rfl, by decide +kernel, by decide +kernel⟩
abbrev s_is_whole : Stmt := top 9
theorem sc_is_whole : FnScope ["thing", "low", "high"] ["thing", "low", "high"] (defScope s_is_whole) := ⟨rfl, rfl, rfl, by decide +kernel, rfl, by decide +kernel, by decide +kernel⟩
abbrev s_spread : Stmt := top 10
theorem sc_spread : FnScope ["key", "h", "sign"] ["key"] (defScope s_spread) := ⟨rfl, rfl, rfl, by decide +kernel, rfl, by decide +kernel, by decide +kernel⟩
abbrev s_row_in : Stmt := top 11
theorem sc_row_in : FnScope ["key", "many"] ["key", "many"] (defScope s_row_in) := ⟨rfl, rfl, rfl, by decide +kernel, rfl, by decide +kernel, by decide +kernel⟩
abbrev s_is_kind : Stmt := top 16
theorem sc_is_kind : FnScope ["thing"] ["thing"] (defScope s_is_kind) := ⟨rfl, rfl, rfl, by decide +kernel, rfl, by decide +kernel, by decide +kernel⟩
abbrev s_is_shelf : Stmt := top 17
theorem sc_is_shelf : FnScope ["thing"] ["thing"] (defScope s_is_shelf) := ⟨rfl, rfl, rfl, by decide +kernel, rfl, by decide +kernel, by decide +kernel⟩
abbrev s_are_shelves : Stmt := top 18
theorem sc_are_shelves : FnScope ["thing"] ["thing"] (defScope s_are_shelves) := ⟨rfl, rfl, rfl, by decide +kernel, rfl, by decide +kernel, by decide +kernel⟩
abbrev s_Shelves___init__ : Stmt := inClass (top 19) 0
theorem sc_Shelves___init__ : FnScope ["self", "shelves"] ["self", "shelves"] (defScope s_Shelves___init__) := ⟨rfl, rfl, rfl, by decide +kernel, rfl, by decide +kernel, by decide +kernel⟩
abbrev s_Shelves_told : Stmt := inClass (top 19) 1
theorem sc_Shelves_told : FnScope ["self"] ["self"] (defScope s_Shelves_told) := ⟨rfl, rfl, rfl, by decide +kernel, rfl, by decide +kernel, by decide +kernel⟩
abbrev s_Shelves_many_rows : Stmt := inClass (top 19) 2
theorem sc_Shelves_many_rows : FnScope ["self"] ["self"] (defScope s_Shelves_many_rows) := ⟨rfl, rfl, rfl, by decide +kernel, rfl, by decide +kernel, by decide +kernel⟩
abbrev s_Shelves_rows_of : Stmt := inClass (top 19) 3
theorem sc_Shelves_rows_of : FnScope ["self", "name", "start", "shelf"] ["self", "name"] (defScope s_Shelves_rows_of) := ⟨rfl, rfl, rfl, by decide +kernel, rfl, by decide +kernel, by decide +kernel⟩
abbrev s_Shelves_shelf_with : Stmt := inClass (top 19) 4
theorem sc_Shelves_shelf_with : FnScope ["self", "row", "end", "shelf"] ["self", "row"] (defScope s_Shelves_shelf_with) := ⟨rfl, rfl, rfl, by decide +kernel, rfl, by decide +kernel, by decide +kernel⟩
abbrev s_Shelves_shelf_at : Stmt := inClass (top 19) 5
theorem sc_Shelves_shelf_at : FnScope ["self", "row"] ["self", "row"] (defScope s_Shelves_shelf_at) := ⟨rfl, rfl, rfl, by decide +kernel, rfl, by decide +kernel, by decide +kernel⟩
abbrev s_Shelves_kind_at : Stmt := inClass (top 19) 6
theorem sc_Shelves_kind_at : FnScope ["self", "row"] ["self", "row"] (defScope s_Shelves_kind_at) := ⟨rfl, rfl, rfl, by decide +kernel, rfl, by decide +kernel, by decide +kernel⟩
abbrev s_Shelves_row_for : Stmt := inClass (top 19) 7
theorem sc_Shelves_row_for : FnScope ["self", "name", "key", "rows"] ["self", "name", "key"] (defScope s_Shelves_row_for) := ⟨rfl, rfl, rfl, by decide +kernel, rfl, by decide +kernel, by decide +kernel⟩
abbrev s_l_cell_at : Stmt := top 21
theorem sc_l_cell_at : FnScope ["_law_script", "_law_k"] ["_law_script", "_law_k"] (defScope s_l_cell_at) := ⟨rfl, rfl, rfl, by decide +kernel, rfl, by decide +kernel, by decide +kernel⟩
abbrev s_l_mixed : Stmt := top 22
theorem sc_l_mixed : FnScope ["_law_cell", "_law_k", "_law_number"] ["_law_cell", "_law_k"] (defScope s_l_mixed) := ⟨rfl, rfl, rfl, by decide +kernel, rfl, by decide +kernel, by decide +kernel⟩
abbrev s_l_sign : Stmt := top 23
theorem sc_l_sign : FnScope ["_law_number", "_law_many", "_law_some"] ["_law_number", "_law_many"] (defScope s_l_sign) := ⟨rfl, rfl, rfl, by decide +kernel, rfl, by decide +kernel, by decide +kernel⟩
abbrev s_l_laid_over : Stmt := top 24
theorem sc_l_laid_over : FnScope ["_law_one", "_law_other", "_law_found", "_law_worth"] ["_law_one", "_law_other"] (defScope s_l_laid_over) := ⟨rfl, rfl, rfl, by decide +kernel, rfl, by decide +kernel, by decide +kernel⟩
abbrev s_l_spread : Stmt := top 25
theorem sc_l_spread : FnScope ["_law_key", "_law_number", "_law_sign_here", "_law_high"] ["_law_key"] (defScope s_l_spread) := ⟨rfl, rfl, rfl, by decide +kernel, rfl, by decide +kernel, by decide +kernel⟩
abbrev s_l_letter : Stmt := top 26
theorem sc_l_letter : FnScope ["_law_number"] ["_law_number"] (defScope s_l_letter) := ⟨rfl, rfl, rfl, by decide +kernel, rfl, by decide +kernel, by decide +kernel⟩
abbrev s_l_names : Stmt := top 27
theorem sc_l_names : FnScope ["_law_cell", "_law_many", "_law_size", "_law_at", "_law_base", "_law_names_here", "_law_k", "_law_signs"] ["_law_cell", "_law_many"] (defScope s_l_names) := ⟨rfl, rfl, rfl, by decide +kernel, rfl, by decide +kernel, by decide +kernel⟩
abbrev s_l_whole : Stmt := top 28
theorem sc_l_whole : FnScope ["_law_found", "_law_due"] ["_law_found", "_law_due"] (defScope s_l_whole) := ⟨rfl, rfl, rfl, by decide +kernel, rfl, by decide +kernel, by decide +kernel⟩
abbrev s_l_shelves : Stmt := top 29
theorem sc_l_shelves : FnScope ["_law_cell", "_law_many", "_law_found", "_law_k", "_law_name", "_law_kind"] ["_law_cell"] (defScope s_l_shelves) := ⟨rfl, rfl, rfl, by decide +kernel, rfl, by decide +kernel, by decide +kernel⟩
abbrev s_l_odd_shelf : Stmt := top 30
theorem sc_l_odd_shelf : FnScope ["_law_one", "_law_number", "_law_odd"] ["_law_one", "_law_number"] (defScope s_l_odd_shelf) := ⟨rfl, rfl, rfl, by decide +kernel, rfl, by decide +kernel, by decide +kernel⟩
abbrev s_l_spoiled : Stmt := top 31
theorem sc_l_spoiled : FnScope ["_law_shelves_here", "_law_cell", "_law_way", "_law_at", "_law_one", "_law_worse"] ["_law_shelves_here", "_law_cell"] (defScope s_l_spoiled) := ⟨rfl, rfl, rfl, by decide +kernel, rfl, by decide +kernel, by decide +kernel⟩
abbrev s_l_refused : Stmt := top 32
theorem sc_l_refused : FnScope ["_law_thing", "_law_refused_here"] ["_law_thing"] (defScope s_l_refused) := ⟨rfl, rfl, rfl, by decide +kernel, rfl, by decide +kernel, by decide +kernel⟩
abbrev s_l_no_shelf : Stmt := top 33
theorem sc_l_no_shelf : FnScope ["_law_made", "_law_name", "_law_key", "_law_first", "_law_second", "e"] ["_law_made", "_law_name", "_law_key"] (defScope s_l_no_shelf) := ⟨rfl, rfl, rfl, by decide +kernel, rfl, by decide +kernel, by decide +kernel⟩
abbrev s_l_no_row : Stmt := top 34
theorem sc_l_no_row : FnScope ["_law_made", "_law_row", "_law_first", "_law_second", "e"] ["_law_made", "_law_row"] (defScope s_l_no_row) := ⟨rfl, rfl, rfl, by decide +kernel, rfl, by decide +kernel, by decide +kernel⟩
abbrev s_l_stand : Stmt := top 35
theorem sc_l_stand : FnScope ["_law_made", "_law_shelves_here", "_law_key", "_law_start", "_law_name", "_law_many", "_law_kind", "_law_rows", "_law_found", "_law_row", "_law_told"] ["_law_made", "_law_shelves_here", "_law_key"] (defScope s_l_stand) := ⟨rfl, rfl, rfl, by decide +kernel, rfl, by decide +kernel, by decide +kernel⟩
abbrev s_law : Stmt := top 36
theorem sc_law : FnScope ["_law_script", "_law_cell", "_law_shelves_here", "_law_handed", "_law_made", "_law_other", "_law_beside", "_law_stayed", "_law_size", "_law_key", "_law_name"] ["_law_script"] (defScope s_law) := ⟨rfl, rfl, rfl, by decide +kernel, rfl, by decide +kernel, by decide +kernel⟩
structure Adr where
  C_BadWord : Addr
  C_NoSuch : Addr
  C_Shelves : Addr
  f_NoSuch___init__ : Addr
  d_NoSuch___init__ : FuncData
  f_is_text : Addr
  d_is_text : FuncData
  f_is_name : Addr
  d_is_name : FuncData
  f_is_whole : Addr
  d_is_whole : FuncData
  f_spread : Addr
  d_spread : FuncData
  f_row_in : Addr
  d_row_in : FuncData
  f_is_kind : Addr
  d_is_kind : FuncData
  f_is_shelf : Addr
  d_is_shelf : FuncData
  f_are_shelves : Addr
  d_are_shelves : FuncData
  f_Shelves___init__ : Addr
  d_Shelves___init__ : FuncData
  f_Shelves_told : Addr
  d_Shelves_told : FuncData
  f_Shelves_many_rows : Addr
  d_Shelves_many_rows : FuncData
  f_Shelves_rows_of : Addr
  d_Shelves_rows_of : FuncData
  f_Shelves_shelf_with : Addr
  d_Shelves_shelf_with : FuncData
  f_Shelves_shelf_at : Addr
  d_Shelves_shelf_at : FuncData
  f_Shelves_kind_at : Addr
  d_Shelves_kind_at : FuncData
  f_Shelves_row_for : Addr
  d_Shelves_row_for : FuncData
  f_l_cell_at : Addr
  d_l_cell_at : FuncData
  f_l_mixed : Addr
  d_l_mixed : FuncData
  f_l_sign : Addr
  d_l_sign : FuncData
  f_l_laid_over : Addr
  d_l_laid_over : FuncData
  f_l_spread : Addr
  d_l_spread : FuncData
  f_l_letter : Addr
  d_l_letter : FuncData
  f_l_names : Addr
  d_l_names : FuncData
  f_l_whole : Addr
  d_l_whole : FuncData
  f_l_shelves : Addr
  d_l_shelves : FuncData
  f_l_odd_shelf : Addr
  d_l_odd_shelf : FuncData
  f_l_spoiled : Addr
  d_l_spoiled : FuncData
  f_l_refused : Addr
  d_l_refused : FuncData
  f_l_no_shelf : Addr
  d_l_no_shelf : FuncData
  f_l_no_row : Addr
  d_l_no_row : FuncData
  f_l_stand : Addr
  d_l_stand : FuncData
  f_law : Addr
  d_law : FuncData
structure Txt (K : PySem.W.Frag) (mg : Str → Option Value) (a : Adr) : Prop where
  F_NoSuch___init__ : Fun K "__init__" "NoSuch.__init__" s_NoSuch___init__ a.f_NoSuch___init__ a.d_NoSuch___init__
  b_NoSuch___init__ : Binds K a.d_NoSuch___init__ ["self", "name"] []
  F_is_text : Fun K "is_text" "is_text" s_is_text a.f_is_text a.d_is_text
  b_is_text : Binds K a.d_is_text ["thing", "least", "most"] []
  m_is_text : mg "is_text" = some (.ref a.f_is_text)
  F_is_name : Fun K "is_name" "is_name" s_is_name a.f_is_name a.d_is_name
  b_is_name : Binds K a.d_is_name ["thing"] []
  m_is_name : mg "is_name" = some (.ref a.f_is_name)
  F_is_whole : Fun K "is_whole" "is_whole" s_is_whole a.f_is_whole a.d_is_whole
  b_is_whole : Binds K a.d_is_whole ["thing", "low", "high"] []
  m_is_whole : mg "is_whole" = some (.ref a.f_is_whole)
  F_spread : Fun K "spread" "spread" s_spread a.f_spread a.d_spread
  b_spread : Binds K a.d_spread ["key"] []
  m_spread : mg "spread" = some (.ref a.f_spread)
  F_row_in : Fun K "row_in" "row_in" s_row_in a.f_row_in a.d_row_in
  b_row_in : Binds K a.d_row_in ["key", "many"] []
  m_row_in : mg "row_in" = some (.ref a.f_row_in)
  F_is_kind : Fun K "is_kind" "is_kind" s_is_kind a.f_is_kind a.d_is_kind
  b_is_kind : Binds K a.d_is_kind ["thing"] []
  m_is_kind : mg "is_kind" = some (.ref a.f_is_kind)
  F_is_shelf : Fun K "is_shelf" "is_shelf" s_is_shelf a.f_is_shelf a.d_is_shelf
  b_is_shelf : Binds K a.d_is_shelf ["thing"] []
  m_is_shelf : mg "is_shelf" = some (.ref a.f_is_shelf)
  F_are_shelves : Fun K "are_shelves" "are_shelves" s_are_shelves a.f_are_shelves a.d_are_shelves
  b_are_shelves : Binds K a.d_are_shelves ["thing"] []
  m_are_shelves : mg "are_shelves" = some (.ref a.f_are_shelves)
  F_Shelves___init__ : Fun K "__init__" "Shelves.__init__" s_Shelves___init__ a.f_Shelves___init__ a.d_Shelves___init__
  b_Shelves___init__ : Binds K a.d_Shelves___init__ ["self", "shelves"] []
  F_Shelves_told : Fun K "told" "Shelves.told" s_Shelves_told a.f_Shelves_told a.d_Shelves_told
  b_Shelves_told : Binds K a.d_Shelves_told ["self"] []
  M_Shelves_told : Meth K a.C_Shelves "told" a.f_Shelves_told
  F_Shelves_many_rows : Fun K "many_rows" "Shelves.many_rows" s_Shelves_many_rows a.f_Shelves_many_rows a.d_Shelves_many_rows
  b_Shelves_many_rows : Binds K a.d_Shelves_many_rows ["self"] []
  M_Shelves_many_rows : Meth K a.C_Shelves "many_rows" a.f_Shelves_many_rows
  F_Shelves_rows_of : Fun K "rows_of" "Shelves.rows_of" s_Shelves_rows_of a.f_Shelves_rows_of a.d_Shelves_rows_of
  b_Shelves_rows_of : Binds K a.d_Shelves_rows_of ["self", "name"] []
  M_Shelves_rows_of : Meth K a.C_Shelves "rows_of" a.f_Shelves_rows_of
  F_Shelves_shelf_with : Fun K "shelf_with" "Shelves.shelf_with" s_Shelves_shelf_with a.f_Shelves_shelf_with a.d_Shelves_shelf_with
  b_Shelves_shelf_with : Binds K a.d_Shelves_shelf_with ["self", "row"] []
  M_Shelves_shelf_with : Meth K a.C_Shelves "shelf_with" a.f_Shelves_shelf_with
  F_Shelves_shelf_at : Fun K "shelf_at" "Shelves.shelf_at" s_Shelves_shelf_at a.f_Shelves_shelf_at a.d_Shelves_shelf_at
  b_Shelves_shelf_at : Binds K a.d_Shelves_shelf_at ["self", "row"] []
  M_Shelves_shelf_at : Meth K a.C_Shelves "shelf_at" a.f_Shelves_shelf_at
  F_Shelves_kind_at : Fun K "kind_at" "Shelves.kind_at" s_Shelves_kind_at a.f_Shelves_kind_at a.d_Shelves_kind_at
  b_Shelves_kind_at : Binds K a.d_Shelves_kind_at ["self", "row"] []
  M_Shelves_kind_at : Meth K a.C_Shelves "kind_at" a.f_Shelves_kind_at
  F_Shelves_row_for : Fun K "row_for" "Shelves.row_for" s_Shelves_row_for a.f_Shelves_row_for a.d_Shelves_row_for
  b_Shelves_row_for : Binds K a.d_Shelves_row_for ["self", "name", "key"] []
  M_Shelves_row_for : Meth K a.C_Shelves "row_for" a.f_Shelves_row_for
  F_l_cell_at : Fun K "_law_cell_at" "_law_cell_at" s_l_cell_at a.f_l_cell_at a.d_l_cell_at
  b_l_cell_at : Binds K a.d_l_cell_at ["_law_script", "_law_k"] []
  m_l_cell_at : mg "_law_cell_at" = some (.ref a.f_l_cell_at)
  F_l_mixed : Fun K "_law_mixed" "_law_mixed" s_l_mixed a.f_l_mixed a.d_l_mixed
  b_l_mixed : Binds K a.d_l_mixed ["_law_cell", "_law_k"] []
  m_l_mixed : mg "_law_mixed" = some (.ref a.f_l_mixed)
  F_l_sign : Fun K "_law_sign" "_law_sign" s_l_sign a.f_l_sign a.d_l_sign
  b_l_sign : Binds K a.d_l_sign ["_law_number", "_law_many"] []
  m_l_sign : mg "_law_sign" = some (.ref a.f_l_sign)
  F_l_laid_over : Fun K "_law_laid_over" "_law_laid_over" s_l_laid_over a.f_l_laid_over a.d_l_laid_over
  b_l_laid_over : Binds K a.d_l_laid_over ["_law_one", "_law_other"] []
  m_l_laid_over : mg "_law_laid_over" = some (.ref a.f_l_laid_over)
  F_l_spread : Fun K "_law_spread" "_law_spread" s_l_spread a.f_l_spread a.d_l_spread
  b_l_spread : Binds K a.d_l_spread ["_law_key"] []
  m_l_spread : mg "_law_spread" = some (.ref a.f_l_spread)
  F_l_letter : Fun K "_law_letter" "_law_letter" s_l_letter a.f_l_letter a.d_l_letter
  b_l_letter : Binds K a.d_l_letter ["_law_number"] []
  m_l_letter : mg "_law_letter" = some (.ref a.f_l_letter)
  F_l_names : Fun K "_law_names" "_law_names" s_l_names a.f_l_names a.d_l_names
  b_l_names : Binds K a.d_l_names ["_law_cell", "_law_many"] []
  m_l_names : mg "_law_names" = some (.ref a.f_l_names)
  F_l_whole : Fun K "_law_whole" "_law_whole" s_l_whole a.f_l_whole a.d_l_whole
  b_l_whole : Binds K a.d_l_whole ["_law_found", "_law_due"] []
  m_l_whole : mg "_law_whole" = some (.ref a.f_l_whole)
  F_l_shelves : Fun K "_law_shelves" "_law_shelves" s_l_shelves a.f_l_shelves a.d_l_shelves
  b_l_shelves : Binds K a.d_l_shelves ["_law_cell"] []
  m_l_shelves : mg "_law_shelves" = some (.ref a.f_l_shelves)
  F_l_odd_shelf : Fun K "_law_odd_shelf" "_law_odd_shelf" s_l_odd_shelf a.f_l_odd_shelf a.d_l_odd_shelf
  b_l_odd_shelf : Binds K a.d_l_odd_shelf ["_law_one", "_law_number"] []
  m_l_odd_shelf : mg "_law_odd_shelf" = some (.ref a.f_l_odd_shelf)
  F_l_spoiled : Fun K "_law_spoiled" "_law_spoiled" s_l_spoiled a.f_l_spoiled a.d_l_spoiled
  b_l_spoiled : Binds K a.d_l_spoiled ["_law_shelves_here", "_law_cell"] []
  m_l_spoiled : mg "_law_spoiled" = some (.ref a.f_l_spoiled)
  F_l_refused : Fun K "_law_refused" "_law_refused" s_l_refused a.f_l_refused a.d_l_refused
  b_l_refused : Binds K a.d_l_refused ["_law_thing"] []
  m_l_refused : mg "_law_refused" = some (.ref a.f_l_refused)
  F_l_no_shelf : Fun K "_law_no_shelf" "_law_no_shelf" s_l_no_shelf a.f_l_no_shelf a.d_l_no_shelf
  b_l_no_shelf : Binds K a.d_l_no_shelf ["_law_made", "_law_name", "_law_key"] []
  m_l_no_shelf : mg "_law_no_shelf" = some (.ref a.f_l_no_shelf)
  F_l_no_row : Fun K "_law_no_row" "_law_no_row" s_l_no_row a.f_l_no_row a.d_l_no_row
  b_l_no_row : Binds K a.d_l_no_row ["_law_made", "_law_row"] []
  m_l_no_row : mg "_law_no_row" = some (.ref a.f_l_no_row)
  F_l_stand : Fun K "_law_stand" "_law_stand" s_l_stand a.f_l_stand a.d_l_stand
  b_l_stand : Binds K a.d_l_stand ["_law_made", "_law_shelves_here", "_law_key"] []
  m_l_stand : mg "_law_stand" = some (.ref a.f_l_stand)
  F_law : Fun K "law" "law" s_law a.f_law a.d_law
  b_law : Binds K a.d_law ["_law_script"] []
  m_law : mg "law" = some (.ref a.f_law)
  cl_Shelves : Cls K a.C_Shelves
  mg_Shelves : mg "Shelves" = some (.ref a.C_Shelves)
  k_Shelves : Mk K a.C_Shelves a.f_Shelves___init__
  no_Shelves_shelves : NoAttr K a.C_Shelves "shelves"
  mg_BadWord : mg "BadWord" = some (.ref a.C_BadWord)
  mg_NoSuch : mg "NoSuch" = some (.ref a.C_NoSuch)
  x_BadWord : XCls K a.C_BadWord
  xi0_BadWord : PySem.W.findIn K (.ref a.C_BadWord) "__init__" = some (some (.builtin "ValueError.__init__"))
  em_BadWord_BadWord : PySem.W.exmOne K (.ref a.C_BadWord) (.ref a.C_BadWord) = some true
  em_BadWord_NoSuch : PySem.W.exmOne K (.ref a.C_BadWord) (.ref a.C_NoSuch) = some false
  x_NoSuch : XCls K a.C_NoSuch
  xi_NoSuch : PySem.W.findIn K (.ref a.C_NoSuch) "__init__" = some (some (.ref a.f_NoSuch___init__))
  xf_NoSuch : PySem.W.isFn K (.ref a.f_NoSuch___init__) = true
  no_NoSuch_name : NoAttr K a.C_NoSuch "name"
  em_NoSuch_BadWord : PySem.W.exmOne K (.ref a.C_NoSuch) (.ref a.C_BadWord) = some false
  em_NoSuch_NoSuch : PySem.W.exmOne K (.ref a.C_NoSuch) (.ref a.C_NoSuch) = some true
  n_all : mg "all" = none
  n_bool : mg "bool" = none
  n_enumerate : mg "enumerate" = none
  n_int : mg "int" = none
  n_isinstance : mg "isinstance" = none
  n_len : mg "len" = none
  n_list : mg "list" = none
  n_ord : mg "ord" = none
  n_range : mg "range" = none
  n_set : mg "set" = none
  n_str : mg "str" = none
  n_sum : mg "sum" = none
  n_tuple : mg "tuple" = none
  c_KINDS : TConst K mg "KINDS" [.str "table", .str "stream"]
  c_NAME_MOST : GConst mg "NAME_MOST" (.int 12)
  c_NAME_SIGNS : GConst mg "NAME_SIGNS" (.str "abcdefghijklmnopqrstuvwxyz0123456789")
  c_ROWS_MOST : GConst mg "ROWS_MOST" (.int 9)
  c_SHELVES_MOST : GConst mg "SHELVES_MOST" (.int 6)
  bl_law : ∀ (s : Shared) (u : Value), BindsTo s a.d_law ⟨[u], []⟩ [("_law_script", u)]

local macro_rules | `(tactic| walk_at "rd") => do
  let ns := (("tAug, tCT, tLR1, tLR2, tLenSet, sp_wholeI, sp_is_text, sp_is_name, sp_is_whole, sp_is_kindB, sp_is_shelfB, sp_are_shelvesB, sp_sh_initX, sp_sh_told, sp_sh_many, sp_sh_rows_ofX, sp_sh_row_forX, sp_sh_with, sp_sh_at, sp_spread, sp_row_in, sp_letter, sp_names5, sp_shelves5, sp_odd5, sp_spoiled5, sp_refused5, sp_no_shelf5, sp_no_row5, sp_stand5, sp_laid, sp_lspread, rTupOf, sp_mixed, sp_cell_at, sp_sign, sXs, tRaise, tRaise0, tTry, tXFld, xMeth, xCall, xMake, xNo, tAs, tBare, tNoH, Ends.less, S_iff, and_assoc, tFor_eq, tComp_eq, cx_K, iAny_eq, iRng1, iRng2, rSlA_s, rSlS, tSl, tNoPart, tPart, tBM, tBM0, tyV, rJoin, tLst, tTup, tSeq, tAsg, gName, gTup, gCons, gNil, gSub, tVar, tC, tOp, tUn, rU, rI, rI0, tTest, tIfS, tRet, tRetN, tNext, tBreak, tCont, tDrop, tCons, tNil, tCall, tMeth, tMake, tCB, tB, tNot, tAnd, tOr, tAndV, tOrV, tNotV, tChain, tIf, tIsN, tNotN, tFld, sFld, tInRng, tInRng1, tDGet1, tDGet2, tDPop1, tDPop2, tDisp, tPairs, tDNewK, rAppend, rMax, rMin, iZip, iEnum, rInt_i, rInt_b, rStrI, rMul_ii, rMul_si, rIsB_bb, rNotB_bb, tForD_eq, iItems, iKeys, iRev, tDClear, rPlus_ii, rPlus_ss, rEqq_ii, rNeq_ii, rEqq_ss, rNeq_ss, rEqq_bb, rNeq_bb, rEqq_nn, rNeq_nn, rEqq_ni, rNeq_ni, rEqq_in, rNeq_in, rEqq_ns, rNeq_ns, rEqq_sn, rNeq_sn, rEqq_nb, rNeq_nb, rEqq_bn, rNeq_bn, rEqq_is, rNeq_is, rEqq_si, rNeq_si, rLt_ii, rLt_ss, rLe_ii, rLe_ss, rLen_s, rInn_s, rNin_s, rOrd, tTru, TruV_b, TruV_n, TruV_i, rIxA_s, rIxS2, rAny_s, isi_non_int, isi_non_bool, isi_non_str, isi_non_list, isi_non_tuple, isi_non_dict, isi_bl_int, isi_bl_bool, isi_bl_str, isi_bl_list, isi_bl_tuple, isi_bl_dict, isi_int_int, isi_int_bool, isi_int_str, isi_int_list, isi_int_tuple, isi_int_dict, isi_str_int, isi_str_bool, isi_str_str, isi_str_list, isi_str_tuple, isi_str_dict, _root_.L2.start, CMul, CDiv, CPow, Int.reduceNeg, Int.reducePow, Int.reduceLT, Int.reduceLE, Int.reduceToNat, or_true, true_or, and_self, Nat.reducePow, List.map_cons, List.map_nil, List.length_cons, List.length_nil, List.replicate, List.cons_append, List.nil_append, List.append_nil, Nat.reduceAdd, Nat.reduceSub, Nat.zero_add, Nat.add_zero, Nat.sub_self, List.getElem?_cons_zero, List.getElem?_cons_succ, List.set_cons_zero, List.set_cons_succ, Option.some.injEq, V.int.injEq, V.bl.injEq, V.str.injEq, V.ref.injEq, V.ty.injEq, reduceCtorEq, exists_eq, exists_eq', not_true_eq_false, not_false_eq_true, exists_eq_left', exists_eq_left, exists_eq_right, exists_eq_right', exists_and_left, exists_and_right, exists_const, false_and, and_false, true_and, and_true, exists_false, or_false, false_or, List.cons.injEq, eq_self_iff_true, Bool.false_eq_true, Bool.or_self, Bool.or_true, Bool.true_or, Bool.or_false, Bool.false_or, if_true, if_false, ite_true, ite_false, Bool.not_true, Bool.not_false, decide_eq_true_eq, Bool.not_eq_true', decide_eq_false_iff_not".splitOn ",").map String.trim).filter (fun s => !s.isEmpty)
  let ls ← ns.mapM fun s => `(Lean.Parser.Tactic.simpLemma| $(Lean.mkIdent s.toName):term)
  let ls := ls.toArray
  `(tactic| simp (maxSteps := 3000000) only [$ls,*, ↓reduceIte])
seal PE PT PW PA PS PSs PG PGs PI PO PPs PC
section
variable {P : Program} {w : World} {K : PySem.W.Frag} {mg : Str → Option Value} {base : Heap} {a : Adr}

theorem ok_NoSuch___init__ (T : Txt K mg a) : FnOk P w K mg base CX0 1 a.f_NoSuch___init__ a.d_NoSuch___init__ ["self", "name"] (sp_xs a.C_NoSuch ["name"]) := by
  refine T.F_NoSuch___init__.ok sc_NoSuch___init__ (fun vs H Q E h => ?_) (fun cdv A outer s H vs Q E hr h => ?_)
  · obtain ⟨ea, t, ys, rfl, hl, _⟩ := h
    rw [List.length_cons, hl]
    rfl
  · obtain ⟨ea, t, ys, rfl, hl, he, q⟩ := h
    obtain ⟨y0, rfl⟩ : ∃ y0, ys = [y0] := by
      match ys, hl with
      | [y0], _ => exact ⟨y0, rfl⟩
    refine ⟨_, (pss_one (ps_setx (pv 0) (pv 1) rfl)), ?_⟩
    walk_at "rd"
    exact ⟨a.C_NoSuch, T.x_NoSuch, T.no_NoSuch_name, t, .inl ⟨he, fun d hd nd => q d _ hd nd (fun b h1 h2 => by rw [upd_ne h2, upd_ne h1]) upd_same (by rw [upd_ne nd]; exact upd_same)⟩⟩
theorem ok_l_mixed (T : Txt K mg a) : FnOk P w K mg base CX0 1 a.f_l_mixed a.d_l_mixed ["_law_cell", "_law_k"] sp_mixed := by
  refine T.F_l_mixed.ok sc_l_mixed (fun vs H Q E h => ?_) (fun cdv A outer s H vs Q E hr h => ?_)
  · obtain ⟨c, k, rfl, _⟩ := h
    rfl
  · obtain ⟨c, k, rfl, q⟩ := h
    refine ⟨_, (pss_cons (ps_set (i := 2) sc_l_mixed.nd rfl (Or.inl rfl) (pe_op op_mod (pe_op (op_plusK (K := K)) (pe_op (op_plusK (K := K)) (pe_op op_mulA (pe_op op_mod (pv 0) pe_int) pe_int) (pe_op op_mulA pe_int (pv 1))) pe_int) pe_int))
      (pss_one (ps_ret (pe_op op_mod (pe_op op_mulA (pv 2) (pv 2)) pe_int)))), ?_⟩
    walk_at "rd"
    refine ⟨.inl ?_, q⟩
    omega

theorem ok_l_cell_at (T : Txt K mg a) : FnOk P w K mg base CX0 1 a.f_l_cell_at a.d_l_cell_at ["_law_script", "_law_k"] (sp_cell_at K) := by
  refine T.F_l_cell_at.ok sc_l_cell_at (fun vs H Q E h => ?_) (fun cdv A outer s H vs Q E hr h => ?_)
  · obtain ⟨p, ns, k, rfl, _⟩ := h
    rfl
  · obtain ⟨p, ns, k, rfl, hs, hk, q⟩ := h
    refine ⟨_, (pss_cons (ps_if (pt_cmpR op_ltK (pv 1) (pe_callB (call_lenK (K := K)) (by rfl) T.n_len boot_len (pa_cons (pv 0) pa_nil)) (nomark _)) (pss_one (ps_ret (pe_ix (ix_anyK (K := K) (hU1 hr)) (pv 0) (pv 1) (fun _ _ => rfl)))) pss_nil)
      (pss_one (ps_ret pe_int))), ?_⟩
    walk_at "rd"
    refine rLen_l hs ?_
    walk_at "rd"
    rw [List.length_map]
    refine ite2 (fun hlt => ?_) (fun hge => ?_)
    · refine rIxA_l hs (v := .int (ns.getD k.toNat 0)) (atI_get? hk ?_) q
      rw [List.getElem?_map, List.getD_eq_getElem?_getD, List.getElem?_eq_getElem (show k.toNat < ns.length by omega)]
      rfl
    · rw [List.getD_eq_getElem?_getD, List.getElem?_eq_none (show ns.length ≤ k.toNat by omega)] at q
      exact q

theorem ok_l_sign (T : Txt K mg a) : FnOk P w K mg base CX0 1 a.f_l_sign a.d_l_sign ["_law_number", "_law_many"] sp_sign := by
  refine T.F_l_sign.ok sc_l_sign (fun vs H Q E h => ?_) (fun cdv A outer s H vs Q E hr h => ?_)
  · obtain ⟨n, m, rfl, _⟩ := h
    rfl
  · obtain ⟨n, m, rfl, h0, h1, q⟩ := h
    refine ⟨_, (pss_cons (ps_set (i := 2) sc_l_sign.nd rfl (Or.inl rfl) pe_str)
      (pss_cons (ps_set (i := 2) sc_l_sign.nd rfl (Or.inl rfl) (pe_op (op_plusK (K := K)) (pv 2) pe_str))
      (pss_one (ps_ret (pe_ix (ix_anyK (K := K) (hU1 hr)) (pv 2) (pe_op op_mod (pv 0) (pv 1)) (fun _ _ => rfl)))))), ?_⟩
    walk_at "rd"
    exact ⟨T62, by decide +kernel, T34, by decide +kernel, by decide, h0, by decide, sgn n m, atI_get? (Int.emod_nonneg _ (by omega)) (sgn_at n m h0 h1), q⟩

theorem ok_is_text (T : Txt K mg a) : FnOk P w K mg base CX0 1 a.f_is_text a.d_is_text ["thing", "least", "most"] sp_is_text := by
  refine T.F_is_text.ok sc_is_text (fun vs H Q E h => ?_) (fun cdv A outer s H vs Q E hr h => ?_)
  · obtain ⟨x, lo, hi, rfl, _⟩ := h
    rfl
  · obtain ⟨x, lo, hi, rfl, t, q⟩ := h
    refine ⟨_, (pss_one (ps_ret (pe_and (pe_callB (call_isinstanceK (K := K)) (by rfl) T.n_isinstance boot_isinstance (pa_cons (pv 0) (pa_cons (pe_bltn (v := .ty "str") rfl T.n_str boot_str rfl) pa_nil))) (pe_one (pe_chain op_leK op_leK (pv 1) (pe_callB (call_lenK (K := K)) (by rfl) T.n_len boot_len (pa_cons (pv 0) pa_nil)) (pv 2)))))), ?_⟩
    cases t with
    | non => walk_at "rd"; exact q
    | bl b => walk_at "rd"; exact q
    | int i => walk_at "rd"; exact q
    | str l h =>
      walk_at "rd"
      refine ⟨Nat.le_trans h (by decide), ?_⟩
      simp only [textV, S_len] at q
      refine ite2 (fun hc => ?_) (fun hc => ?_)
      · rw [decide_eq_true hc, Bool.true_and] at q; exact q
      · rw [decide_eq_false hc, Bool.false_and] at q; exact q
    | lst h => walk_at "rd"; simp only [isi_lst_str h]; walk_at "rd"; exact q
    | tup h => walk_at "rd"; simp only [isi_tup_str h]; walk_at "rd"; exact q

theorem ok_is_name (T : Txt K mg a) : FnOk P w K mg base CX0 2 a.f_is_name a.d_is_name ["thing"] sp_is_name := by
  refine T.F_is_name.ok sc_is_name (fun vs H Q E h => ?_) (fun cdv A outer s H vs Q E hr h => ?_)
  · obtain ⟨x, rfl, _⟩ := h
    rfl
  · obtain ⟨x, rfl, t, q⟩ := h
    refine ⟨_, (pss_one (ps_ret (pe_and (pe_call (ok_is_text T) (hr.mono (by decide)) rfl T.m_is_text T.F_is_text.kp T.b_is_text .nil pass0 (pa_cons (pv 0) (pa_cons pe_int (pa_cons (pe_const T.c_NAME_MOST) pa_nil)))) (pe_one (pe_callB (call_allK (K := K)) (by rfl) T.n_all boot_all (pa_cons (pe_comp ["thing"] ["thing"] (defScope s_is_name) (by exact ⟨rfl, by decide +kernel, by decide +kernel, by decide +kernel, by decide +kernel, by decide +kernel, by decide +kernel, by decide +kernel, by decide +kernel⟩) (pi_anyK (K := K) (pv 0)) (fun C₁ s₁ H₁ f₁ => (pe_cmpR (op_inK (K := K) (hU1 hr)) (pv 0) (pe_const T.c_NAME_SIGNS) (by rfl)))) pa_nil)))))), ?_⟩
    walk_at "rd"
    refine ⟨t, ite2 (fun h1 => ?_) (fun h1 => ?_)⟩
    · obtain ⟨l, rfl, hl⟩ := text_is t h1
      walk_at "rd"
      refine compW_str (Nat.le_trans hl (by decide)) (fun c => .bl (inN c)) (fun c H' _ s Qe qe => ?_) (fun D H' hD s hl => ?_)
      · walk_at "rd"
        rw [T36_is, occ_one]
        exact qe H' (Same.refl _)
      · refine rAll_l (bs := l.map inN) (.inl (.inl (by rw [hl, List.map_map]; rfl))) ?_
        have e := q H' s
        rw [formV_yes h1] at e
        rw [all_map_id]
        exact e
    · rw [formV_no h1] at q
      exact q H (Same.refl _)

theorem ok_is_whole (T : Txt K mg a) : FnOk P w K mg base CX0 1 a.f_is_whole a.d_is_whole ["thing", "low", "high"] sp_is_whole := by
  refine T.F_is_whole.ok sc_is_whole (fun vs H Q E h => ?_) (fun cdv A outer s H vs Q E hr h => ?_)
  · obtain ⟨x, lo, hi, rfl, _⟩ := h
    rfl
  · obtain ⟨x, lo, hi, rfl, t, q⟩ := h
    refine ⟨_, (pss_one (ps_ret (pe_and (pe_callB (call_isinstanceK (K := K)) (by rfl) T.n_isinstance boot_isinstance (pa_cons (pv 0) (pa_cons (pe_bltn (v := .ty "int") rfl T.n_int boot_int rfl) pa_nil))) (pe_and (pe_not (pe_callB (call_isinstanceK (K := K)) (by rfl) T.n_isinstance boot_isinstance (pa_cons (pv 0) (pa_cons (pe_bltn (v := .ty "bool") rfl T.n_bool boot_bool rfl) pa_nil)))) (pe_one (pe_chain op_leK op_leK (pv 1) (pv 0) (pv 2))))))), ?_⟩
    cases t with
    | non => walk_at "rd"; exact q
    | bl b => walk_at "rd"; exact q
    | int i =>
      walk_at "rd"
      simp only [wholeV] at q
      refine ite2 (fun hc => ?_) (fun hc => ?_)
      · rw [decide_eq_true hc, Bool.true_and] at q; exact q
      · rw [decide_eq_false hc, Bool.false_and] at q; exact q
    | str l h => walk_at "rd"; exact q
    | lst h => walk_at "rd"; simp only [isi_lst_int h]; walk_at "rd"; exact q
    | tup h => walk_at "rd"; simp only [isi_tup_int h]; walk_at "rd"; exact q

theorem ok_spread (T : Txt K mg a) : FnOk P w K mg base CX0 1 a.f_spread a.d_spread ["key"] sp_spread := by
  refine T.F_spread.ok sc_spread (fun vs H Q E h => ?_) (fun cdv A outer s H vs Q E hr h => ?_)
  · obtain ⟨l, rfl, _⟩ := h
    rfl
  · obtain ⟨l, rfl, q⟩ := h
    refine ⟨_, (pss_cons (ps_set (i := 1) sc_spread.nd rfl (Or.inl rfl) pe_int)
      (pss_cons (ps_for PassesOwn.never rfl (pi_anyK (K := K) (pv 0)) (pg_name (i := 2) sc_spread.nd rfl (Or.inl rfl)) (pss_one (ps_set (i := 1) sc_spread.nd rfl (Or.inl rfl) (pe_op op_and (pe_op (op_plusK (K := K)) (pe_op op_mulA (pv 1) pe_int) (pe_callB call_ordK (by rfl) T.n_ord boot_ord (pa_cons (pv 2) pa_nil))) pe_int))))
      (pss_one (ps_ret (pe_op op_xor (pv 1) (pe_op op_shr (pv 1) pe_int)))))), ?_⟩
    walk_at "rd"
    refine forW_str (fun i σ H' => H' = H ∧ ∃ v, σ = [some (.str (S l)), some (.int (foldK (l.take i))), v]) ⟨rfl, none, rfl⟩ ?_ ?_
    · rintro i c σ H' hc ⟨rfl, v, rfl⟩
      walk_at "rd"
      rw [foldK_snoc hc]
    · rintro σ H' ⟨rfl, v, rfl⟩
      walk_at "rd"
      have e : l.take (S l).cps.size = l := by simp
      rw [e]
      exact q
theorem ok_row_in (T : Txt K mg a) : FnOk P w K mg base CX0 2 a.f_row_in a.d_row_in ["key", "many"] sp_row_in := by
  refine T.F_row_in.ok sc_row_in (fun vs H Q E h => ?_) (fun cdv A outer s H vs Q E hr h => ?_)
  · obtain ⟨l, m, rfl, _⟩ := h
    rfl
  · obtain ⟨l, m, rfl, hm, q⟩ := h
    refine ⟨_, (pss_one (ps_ret (pe_op op_mod (pe_call (ok_spread T) (hr.mono (by decide)) rfl T.m_spread T.F_spread.kp T.b_spread .nil pass0 (pa_cons (pv 0) pa_nil)) (pv 1)))), ?_⟩
    walk_at "rd"
    exact ⟨hm, q⟩

theorem ok_l_letter (T : Txt K mg a) : FnOk P w K mg base CX0 1 a.f_l_letter a.d_l_letter ["_law_number"] sp_letter := by
  refine T.F_l_letter.ok sc_l_letter (fun vs H Q E h => ?_) (fun cdv A outer s H vs Q E hr h => ?_)
  · obtain ⟨n, rfl, _⟩ := h
    rfl
  · obtain ⟨n, rfl, q⟩ := h
    refine ⟨_, (pss_one (ps_ret (pe_ix (ix_anyK (K := K) (hU1 hr)) pe_str (pe_op op_mod (pv 0) pe_int) (fun _ _ => rfl)))), ?_⟩
    walk_at "rd"
    rw [T36_is]
    refine ⟨T36, rfl, by decide, ltr36 n, atI_get? (Int.emod_nonneg _ (by decide)) ?_, q⟩
    have h : (n % 36).toNat < T36.length := by
      show (n % 36).toNat < 36
      omega
    unfold ltr36
    rw [List.getD_eq_getElem?_getD, List.getElem?_eq_getElem h]
    rfl

theorem ok_l_laid_over (T : Txt K mg a) : FnOk P w K mg base CX0 1 a.f_l_laid_over a.d_l_laid_over ["_law_one", "_law_other"] sp_laid := by
  refine T.F_l_laid_over.ok sc_l_laid_over (fun vs H Q E h => ?_) (fun cdv A outer s H vs Q E hr h => ?_)
  · obtain ⟨x, y, rfl, _⟩ := h
    rfl
  · obtain ⟨x, y, rfl, q⟩ := h
    refine ⟨_, (pss_cons (ps_set (i := 2) sc_l_laid_over.nd rfl (Or.inl rfl) pe_int)
      (pss_cons (ps_for PassesOwn.never rfl (pi_anyK (K := K) (pe_lst (pa_cons pe_int (pa_cons pe_int (pa_cons pe_int (pa_cons pe_int (pa_cons pe_int (pa_cons pe_int (pa_cons pe_int (pa_cons pe_int pa_nil)))))))))) (pg_name (i := 3) sc_l_laid_over.nd rfl (Or.inl rfl)) (pss_one (ps_if (pt_cmpR (op_neK (K := K) (hU hr)) (pe_op op_mod (pe_op op_fdiv (pv 0) (pv 3)) pe_int) (pe_op op_mod (pe_op op_fdiv (pv 1) (pv 3)) pe_int) (nomark _)) (pss_one (ps_set (i := 2) sc_l_laid_over.nd rfl (Or.inl rfl) (pe_op (op_plusK (K := K)) (pv 2) (pv 3)))) pss_nil)))
      (pss_one (ps_ret (pv 2))))), ?_⟩
    walk_at "rd"
    refine ⟨by decide, fun p hp => rAny_l (.inl (.inl upd_same)) ?_⟩
    refine forW_list (xs := ([1, 2, 4, 8, 16, 32, 64, 128] : List Int).map V.int) (fun i σ H' => H' = upd H p (.lst (([1, 2, 4, 8, 16, 32, 64, 128] : List Int).map V.int)) ∧ ∃ v, σ = [some (.int x), some (.int y), some (.int (laidOn x y (([1, 2, 4, 8, 16, 32, 64, 128] : List Int).take i))), v]) ⟨rfl, none, rfl⟩ ?_ ?_ ?_
    · rintro i σ H' _ ⟨rfl, v, rfl⟩
      exact .inl (.inl upd_same)
    · rintro i z σ H' hz ⟨rfl, v, rfl⟩
      obtain ⟨u, hu, hu0, rfl⟩ : ∃ u : Int, ([1, 2, 4, 8, 16, 32, 64, 128] : List Int)[i]? = some u ∧ (0 < u ∧ u ≤ 128) ∧ z = .int u := by
        rw [List.getElem?_map] at hz
        cases e : ([1, 2, 4, 8, 16, 32, 64, 128] : List Int)[i]? with
        | none => rw [e] at hz; cases hz
        | some u =>
          rw [e] at hz
          refine ⟨u, rfl, ?_, (Option.some.inj hz).symm⟩
          have := List.mem_of_getElem? e
          simp at this
          omega
      walk_at "rd"
      have hs := laidOn_snoc x y hu
      refine ⟨hu0.1, by omega, hu0.1, by omega, ?_⟩
      refine ite2 (fun h => ?_) (fun h => ?_)
      · rw [hs, if_pos h]
      · rw [hs, if_neg h]
    · rintro σ H' ⟨rfl, v, rfl⟩
      walk_at "rd"
      exact q _ (Same.upd hp)
theorem ok_l_spread (T : Txt K mg a) : FnOk P w K mg base CX0 2 a.f_l_spread a.d_l_spread ["_law_key"] sp_lspread := by
  refine T.F_l_spread.ok sc_l_spread (fun vs H Q E h => ?_) (fun cdv A outer s H vs Q E hr h => ?_)
  · obtain ⟨l, rfl, _⟩ := h
    rfl
  · obtain ⟨l, rfl, q⟩ := h
    refine ⟨_, (pss_cons (ps_set (i := 1) sc_l_spread.nd rfl (Or.inl rfl) pe_int)
      (pss_cons (ps_for PassesOwn.never rfl (pi_anyK (K := K) (pv 0)) (pg_name (i := 2) sc_l_spread.nd rfl (Or.inl rfl)) (pss_one (ps_set (i := 1) sc_l_spread.nd rfl (Or.inl rfl) (pe_op op_mod (pe_op (op_plusK (K := K)) (pe_op op_mulA pe_int (pv 1)) (pe_callB call_ordK (by rfl) T.n_ord boot_ord (pa_cons (pv 2) pa_nil))) pe_int))))
      (pss_cons (ps_set (i := 3) sc_l_spread.nd rfl (Or.inl rfl) (pe_op op_fdiv (pv 1) pe_int))
      (pss_one (ps_ret (pe_op (op_plusK (K := K)) (pe_op op_mulA pe_int (pv 3)) (pe_call (ok_l_laid_over T) (hr.mono (by decide)) rfl T.m_l_laid_over T.F_l_laid_over.kp T.b_l_laid_over .nil pass0 (pa_cons (pe_op op_mod (pv 1) pe_int) (pa_cons (pv 3) pa_nil))))))))), ?_⟩
    walk_at "rd"
    refine forW_str (fun i σ H' => H' = H ∧ ∃ v, σ = [some (.str (S l)), some (.int (K02.foldN (l.take i))), v, none]) ⟨rfl, none, rfl⟩ ?_ ?_
    · rintro i c σ H' hc ⟨rfl, v, rfl⟩
      walk_at "rd"
      rw [foldN_snoc hc]
    · rintro σ H' ⟨rfl, v, rfl⟩
      walk_at "rd"
      have e : l.take (S l).cps.size = l := by simp
      rw [e]
      exact q

theorem onceS_nd : ∀ (n : Nat) (l : List Str), l.length = n → (onceS l).length = n → l.Nodup := by
  intro n
  induction n with
  | zero => intro l hl _; rw [List.length_eq_zero_iff.mp hl]; exact List.nodup_nil
  | succ n ih =>
    intro l hl h
    rcases List.eq_nil_or_concat l with rfl | ⟨r, x, rfl⟩
    · cases hl
    · rw [List.concat_eq_append] at hl h ⊢
      have hr : r.length = n := by simpa using hl
      rw [onceS_snoc] at h
      unfold addS at h
      have hle := onceS_len_le n r hr
      have ha := onceS_any n r hr x
      by_cases z : (onceS r).any (· == x) = true
      · rw [if_pos z] at h; omega
      · rw [if_neg z, List.length_append] at h
        have h' : (onceS r).length = n := by simpa using h
        refine List.nodup_append.mpr ⟨ih r hr h', by simp, fun a ha' b hb e => ?_⟩
        rw [List.mem_singleton.mp hb] at e
        subst e
        rw [ha] at z
        exact z (List.any_eq_true.mpr ⟨_, ha', by simp⟩)
theorem ok_is_kind (T : Txt K mg a) : FnOk P w K mg base CX0 1 a.f_is_kind a.d_is_kind ["thing"] sp_is_kindB := by
  refine T.F_is_kind.ok sc_is_kind (fun vs H Q E h => ?_) (fun cdv A outer s H vs Q E hr h => ?_)
  · obtain ⟨v, rfl, _⟩ := h
    rfl
  · obtain ⟨v, rfl, hv, q⟩ := h
    refine ⟨_, (pss_one (ps_ret (pe_and (pe_callB (call_isinstanceK (K := K)) (by rfl) T.n_isinstance boot_isinstance (pa_cons (pv 0) (pa_cons (pe_bltn (v := .ty "str") rfl T.n_str boot_str rfl) pa_nil))) (pe_one (pe_cmpR (op_inK (K := K) (hU1 hr)) (pv 0) (pe_constT (K := K) T.c_KINDS) (by rfl)))))), ?_⟩
    cases hv with
    | non => walk_at "rd"; exact q
    | bl b => walk_at "rd"; exact q
    | int i => walk_at "rd"; exact q
    | lst h =>
      walk_at "rd"
      rw [isi_lst_str h]
      walk_at "rd"
      exact q
    | str z =>
      walk_at "rd"
      refine fun p hp => rInn_f (.inr (hp H)) rfl rfl ?_
      have e : inV (.str z) [V.str (Str.ofString "table"), V.str (Str.ofString "stream")] = kindV (.str z) := by
        unfold inV kindV
        simp only [List.any_cons, List.any_nil, Bool.or_false, eqV]
        have b1 : (Str.ofString "table" == z) = decide (z = kTab) := by
          by_cases y : z = kTab
          · rw [y, decide_eq_true rfl]; exact beq_self_eq_true _
          · rw [decide_eq_false y]; exact beq_eq_false_iff_ne.mpr fun w => y w.symm
        have b2 : (Str.ofString "stream" == z) = decide (z = kStr) := by
          by_cases y : z = kStr
          · rw [y, decide_eq_true rfl]; exact beq_self_eq_true _
          · rw [decide_eq_false y]; exact beq_eq_false_iff_ne.mpr fun w => y w.symm
        rw [b1, b2]
      rw [e]
      exact q
theorem ok_is_shelf (T : Txt K mg a) : FnOk P w K mg base CX0 3 a.f_is_shelf a.d_is_shelf ["thing"] sp_is_shelfB := by
  refine T.F_is_shelf.ok sc_is_shelf (fun vs H Q E h => ?_) (fun cdv A outer s H vs Q E hr h => ?_)
  · obtain ⟨v, b, rfl, _⟩ := h
    rfl
  · obtain ⟨v, b, rfl, hv, q⟩ := h
    refine ⟨_, (pss_cons (ps_if (PW.pt (pw_or (pt_not (pt_truthK (K := K) (pe_callB (call_isinstanceK (K := K)) (by rfl) T.n_isinstance boot_isinstance (pa_cons (pv 0) (pa_cons (pe_bltn (v := .ty "tuple") rfl T.n_tuple boot_tuple rfl) pa_nil))) (by intro _; rfl))) (pw_or1 (pt_cmpR (op_neK (K := K) (hU hr)) (pe_callB (call_lenK (K := K)) (by rfl) T.n_len boot_len (pa_cons (pv 0) pa_nil)) pe_int (nomark _))))) (pss_one (ps_ret pe_bl)) pss_nil)
      (pss_one (ps_ret (pe_and (pe_call (ok_is_name T) (hr.mono (by decide)) rfl T.m_is_name T.F_is_name.kp T.b_is_name .nil pass0 (pa_cons (pe_ix (ix_anyK (K := K) (hU1 hr)) (pv 0) pe_int (fun _ _ => rfl)) pa_nil)) (pe_and (pe_call (ok_is_whole T) (hr.mono (by decide)) rfl T.m_is_whole T.F_is_whole.kp T.b_is_whole .nil pass0 (pa_cons (pe_ix (ix_anyK (K := K) (hU1 hr)) (pv 0) pe_int (fun _ _ => rfl)) (pa_cons pe_int (pa_cons (pe_const T.c_ROWS_MOST) pa_nil)))) (pe_one (pe_call (ok_is_kind T) (hr.mono (by decide)) rfl T.m_is_kind T.F_is_kind.kp T.b_is_kind .nil pass0 (pa_cons (pe_ix (ix_anyK (K := K) (hU1 hr)) (pv 0) pe_int (fun _ _ => rfl)) pa_nil)))))))), ?_⟩
    have tri : ∀ (p : Addr) (x y z : V) (Q' : VK), H p = some (.tup [x, y, z]) → Thg H x → Thg H y → KThg H z → (∀ H', Same H H' → Q (.bl (formV x 1 12 inN && (wholeV y 1 9 && kindV z))) H') → Q' = Q →
        rIxA K (V.ref p) (V.int 0) H fun x H1 => Thg H1 x ∧ ∀ H', Same H1 H' → if formV x 1 12 inN = true then rIxA K (V.ref p) (V.int 1) H' fun x H1 => Thg H1 x ∧ if wholeV x 1 9 = true then rIxA K (V.ref p) (V.int 2) H1 fun x H1 => KThg H1 x ∧ Q' (V.bl (kindV x)) H1 else Q' (V.bl false) H1 else Q' (V.bl false) H' := fun p x y z Q' hp hx hy hz hq e => by
      subst e
      refine rIxA_t (v := x) (SqT.of hp) rfl ⟨hx, fun H' s => ?_⟩
      have hq' := hq H' s
      by_cases h1 : formV x 1 12 inN = true
      · rw [if_pos h1]
        rw [h1, Bool.true_and] at hq'
        refine rIxA_t (v := y) (SqT.of (s _ _ hp)) rfl ⟨hy.same s, ?_⟩
        by_cases h2 : wholeV y 1 9 = true
        · rw [if_pos h2]
          rw [h2, Bool.true_and] at hq'
          exact rIxA_t (v := z) (SqT.of (s _ _ hp)) rfl ⟨hz.same s, hq'⟩
        · rw [if_neg h2]
          rw [Bool.not_eq_true] at h2
          rw [h2, Bool.false_and] at hq'
          exact hq'
      · rw [if_neg h1]
        rw [Bool.not_eq_true] at h1
        rw [h1, Bool.false_and] at hq'
        exact hq'
    cases hv with
    | non => walk_at "rd"; exact q H (Same.refl _)
    | bl b => walk_at "rd"; exact q H (Same.refl _)
    | int i => walk_at "rd"; exact q H (Same.refl _)
    | str z => walk_at "rd"; exact q H (Same.refl _)
    | lst h =>
      walk_at "rd"
      rw [isi_lst_tuple h]
      walk_at "rd"
      exact q H (Same.refl _)
    | shrt h hn =>
      walk_at "rd"
      rw [isi_tup_tuple h]
      walk_at "rd"
      refine rLen_t (SqT.of h) ?_
      walk_at "rd"
      rw [if_pos (by omega)]
      exact q H (Same.refl _)
    | good h ok =>
      rename_i t x
      obtain ⟨⟨n1, n2, n3⟩, ⟨r1, r2⟩, hk⟩ := ok
      walk_at "rd"
      rw [isi_tup_tuple h]
      walk_at "rd"
      refine rLen_t (SqT.of h) ?_
      have e3 : ((x.v.length : Nat) : Int) = 3 := rfl
      rw [e3]
      walk_at "rd"
      refine tri t (.str (S x.name)) (.int x.rows) (.str x.kind) Q h (.str _ (by omega)) (.int _) (.str _) (fun H' s => ?_) rfl
      have ef : formV (.str (S x.name)) 1 12 inN = true := by
        simp only [formV, S_len, Bool.and_eq_true, decide_eq_true_eq]
        exact ⟨by omega, by omega, n3⟩
      have ew : wholeV (.int (x.rows : Int)) 1 9 = true := by
        simp only [wholeV, Bool.and_eq_true, decide_eq_true_eq]
        omega
      have ek : kindV (.str x.kind) = true := by
        unfold kindV
        rcases hk with e | e <;> simp [e]
      rw [ef, ew, ek]
      exact q H' s
    | part h hx hy hz hf =>
      walk_at "rd"
      rw [isi_tup_tuple h]
      walk_at "rd"
      refine rLen_t (SqT.of h) ?_
      walk_at "rd"
      rw [if_neg (by simp)]
      refine tri _ _ _ _ Q h hx hy hz (fun H' s => ?_) rfl
      rw [hf]
      exact q H' s
theorem ok_are_shelves (T : Txt K mg a) : FnOk P w K mg base CX0 4 a.f_are_shelves a.d_are_shelves ["thing"] sp_are_shelvesB := by
  refine T.F_are_shelves.ok sc_are_shelves (fun vs H Q E h => ?_) (fun cdv A outer s H vs Q E hr h => ?_)
  · obtain ⟨v, b, rfl, _⟩ := h
    rfl
  · obtain ⟨v, b, rfl, hv, q⟩ := h
    refine ⟨_, (pss_cons (ps_if (PW.pt (pw_or (pt_not (pt_truthK (K := K) (pe_callB (call_isinstanceK (K := K)) (by rfl) T.n_isinstance boot_isinstance (pa_cons (pv 0) (pa_cons (pe_bltn (v := .ty "list") rfl T.n_list boot_list rfl) pa_nil))) (by intro _; rfl))) (pw_or1 (pt_not (pt_chain op_leK op_leK pe_int (pe_callB (call_lenK (K := K)) (by rfl) T.n_len boot_len (pa_cons (pv 0) pa_nil)) (pe_const T.c_SHELVES_MOST)))))) (pss_one (ps_ret pe_bl)) pss_nil)
      (pss_cons (ps_if (pt_not (pt_truthK (K := K) (pe_callB (call_allK (K := K)) (by rfl) T.n_all boot_all (pa_cons (pe_comp ["thing"] ["thing"] (defScope s_are_shelves) (by exact ⟨rfl, by decide +kernel, by decide +kernel, by decide +kernel, by decide +kernel, by decide +kernel, by decide +kernel, by decide +kernel, by decide +kernel⟩) (pi_anyK (K := K) (pv 0)) (fun C₁ s₁ H₁ f₁ => (pe_call (ok_is_shelf T) (hr.mono (by decide)) rfl T.m_is_shelf T.F_is_shelf.kp T.b_is_shelf .nil pass0 (pa_cons (pv 0) pa_nil)))) pa_nil)) (by intro _; rfl))) (pss_one (ps_ret pe_bl)) pss_nil)
      (pss_one (ps_ret (pe_cmpR (op_eqK (K := K) (hU hr)) (pe_lenSet (K := K) rfl rfl T.n_len rfl T.n_set (pe_comp ["thing"] ["thing"] (defScope s_are_shelves) (by exact ⟨rfl, by decide +kernel, by decide +kernel, by decide +kernel, by decide +kernel, by decide +kernel, by decide +kernel, by decide +kernel, by decide +kernel⟩) (pi_anyK (K := K) (pv 0)) (fun C₁ s₁ H₁ f₁ => (pe_ix (ix_anyK (K := K) (hU1 hr)) (pv 0) pe_int (fun _ _ => rfl))))) (pe_callB (call_lenK (K := K)) (by rfl) T.n_len boot_len (pa_cons (pv 0) pa_nil)) (nomark _)))))), ?_⟩
    have both : ∀ (p : Addr) (xs : List Shf) (Q' : VK), LTups H p (xs.map Shf.v) → 1 ≤ xs.length → xs.length ≤ 6 → (∀ x ∈ xs, okShf x) → (∀ H', Same H H' → Q' (.bl (decide ((onceS (xs.map fun x => S x.name)).length = xs.length))) H') → Q' = Q →
        tSeq (tIfS (tOr (tNot (tTru K (tCB (rIsi K) (tCons (tVar 0) (tCons (tC (V.ty "list")) tNil))))) (tNot (tTest (tChain rLe rLe (tC (V.int 1)) (tCB (rLen K) (tCons (tVar 0) tNil)) (tC (V.int 6)))))) (tRet (tC (V.bl false))) tNext)
          (tSeq (tIfS (tNot (tTru K (tCB (rAll K) (tCons (tComp (iAny K (tVar 0)) tYes (tCall sp_is_shelfB [] E0 (tCons (tVar 0) tNil))) tNil)))) (tRet (tC (V.bl false))) tNext)
            (tRet (tOp (rEqq K) (tLenSet K (tComp (iAny K (tVar 0)) tYes (tOp (rIxA K) (tVar 0) (tC (V.int 0))))) (tCB (rLen K) (tCons (tVar 0) tNil)))))
          { nx := fun x H' => Q' V.non H', rt := Q' } (L2.start [Str.ofString "thing"] [V.ref p]) H := fun p xs Q' hl o1 o2 each hq e0 => by
      clear e0
      obtain ⟨ts, e, hT⟩ := id hl
      have hlen : ts.length = xs.length := by rw [hT.length, List.length_map]
      walk_at "rd"
      rw [isi_lst_list e]
      walk_at "rd"
      refine rLen_l (.inl (.inl e)) ?_
      rw [List.length_map, hlen]
      walk_at "rd"
      rw [if_pos (show (1 : Int) ≤ (xs.length : Int) by omega), if_neg (show ¬ ¬ ((xs.length : Int) ≤ 6) by omega)]
      have hsl : (xs.map Shf.v).length ≤ sizeLine := by rw [List.length_map]; exact Nat.le_trans o2 (by decide)
      refine rAny_l (.inl (.inl e)) (compW_tups hl hsl (fun _ => .bl true) ?_ ?_)
      · intro t ys H' hy s ht Qe qe
        obtain ⟨x, hx, rfl⟩ := List.mem_map.mp hy
        walk_at "rd"
        exact ⟨true, .good ht (each x hx), fun H'' s' => qe H'' s'⟩
      · intro D H1 hD s1 h1
        refine rAll_l (bs := (xs.map Shf.v).map fun _ => true) (.inl (.inl (by rw [h1]; simp))) ?_
        have ea : (((xs.map Shf.v).map fun _ => true).all id) = true := by simp
        rw [ea]
        walk_at "rd"
        have hl1 := hl.same s1
        refine rAny_l (.inl (.inl (s1 _ _ e))) (compW_tups hl1 hsl (it 0) ?_ ?_)
        · intro t ys H' hy s ht Qe qe
          obtain ⟨x, hx, rfl⟩ := List.mem_map.mp hy
          walk_at "rd"
          exact rIxA_t (v := it 0 x.v) (.inl (.inl ht)) rfl (qe H' (Same.refl _))
        · intro D2 H2 hD2 s2 h2
          refine ⟨D2, rfl, xs.map fun x => S x.name, .inl (.inl (by rw [h2, List.map_map, List.map_map]; rfl)), by rw [List.length_map]; omega, rLen_l (.inl (.inl (s2 _ _ (s1 _ _ e)))) ?_⟩
          rw [List.length_map, hlen]
          walk_at "rd"
          have := hq H2 (s1.trans s2)
          rw [show decide ((((onceS (xs.map fun x => S x.name)).length : Nat) : Int) = ((xs.length : Nat) : Int)) = decide ((onceS (xs.map fun x => S x.name)).length = xs.length) by simp only [Int.natCast_inj]]
          exact this
    cases hv with
    | non => walk_at "rd"; exact q H (Same.refl _)
    | bl b => walk_at "rd"; exact q H (Same.refl _)
    | int i => walk_at "rd"; exact q H (Same.refl _)
    | str z => walk_at "rd"; exact q H (Same.refl _)
    | dic h =>
      walk_at "rd"
      rw [isi_dK_list h]
      walk_at "rd"
      exact q H (Same.refl _)
    | tup h =>
      walk_at "rd"
      rw [isi_tup_list h]
      walk_at "rd"
      exact q H (Same.refl _)
    | size h hn hm =>
      walk_at "rd"
      rw [isi_lst_list h]
      walk_at "rd"
      refine rLen_l (.inl (.inl h)) ?_
      walk_at "rd"
      refine ite2 (fun z => ?_) (fun _ => q H (Same.refl _))
      rw [if_pos (by omega)]
      exact q H (Same.refl _)
    | bad h h1 h6 hf hb =>
      rename_i p xs f
      walk_at "rd"
      rw [isi_lst_list h]
      walk_at "rd"
      refine rLen_l (.inl (.inl h)) ?_
      walk_at "rd"
      rw [if_pos (show (1 : Int) ≤ (xs.length : Int) by omega), if_neg (show ¬ ¬ ((xs.length : Int) ≤ 6) by omega)]
      refine rAny_l (.inl (.inl h)) (compW_list (.inl (.inl h)) (Nat.le_trans h6 (by decide)) (fun v => .bl (f v)) (fun x H' hx s Qe qe => ?_) fun D H1 hD s1 h1' => ?_)
      · walk_at "rd"
        exact ⟨_, (hf x hx).same s, fun H'' s' => qe H'' s'⟩
      · refine rAll_l (bs := xs.map f) (.inl (.inl (by rw [h1', List.map_map]; rfl))) ?_
        have ea : ((xs.map f).all id) = false := by
          rw [Bool.eq_false_iff]
          intro z
          obtain ⟨v, hv, e⟩ := hb
          have := List.all_eq_true.mp z (f v) (List.mem_map.mpr ⟨v, hv, rfl⟩)
          rw [e] at this
          cases this
        rw [ea]
        walk_at "rd"
        exact q H1 s1
    | good hl ok =>
      rename_i p xs
      refine both p xs Q hl ok.lo ok.hi ok.each (fun H' s => ?_) rfl
      have en : (onceS (xs.map fun x => S x.name)).length = xs.length := onceS_nodup _ _ (by simp) (by
        have := ok.nd
        rw [show (fun x : Shf => S x.name) = S ∘ Shf.name from rfl, ← List.map_map]
        exact List.pairwise_map.mpr (List.Pairwise.imp (fun h z => h (S_inj z)) this))
      rw [decide_eq_true en]
      exact q H' s
    | dup hl h1 h6 ok nd =>
      rename_i p xs
      refine both p xs Q hl h1 h6 ok (fun H' s => ?_) rfl
      have en : ¬ (onceS (xs.map fun x => S x.name)).length = xs.length := fun z => nd (by
        have := onceS_nd xs.length (xs.map fun x => S x.name) (by simp) z
        rw [show (fun x : Shf => S x.name) = S ∘ Shf.name from rfl, ← List.map_map] at this
        exact (List.pairwise_map.mp this).imp fun h z => h (by rw [z]))
      rw [decide_eq_false en]
      exact q H' s
theorem ok_Shelves___init__ (T : Txt K mg a) : FnOk P w K mg base (CXv P w) 5 a.f_Shelves___init__ a.d_Shelves___init__ ["self", "shelves"] (sp_sh_initX a.C_Shelves a.C_BadWord) := by
  refine T.F_Shelves___init__.okX sc_Shelves___init__ (fun vs H Q E h => ?_) (fun cdv A outer s H vs Q E hr h => ?_)
  · obtain ⟨x, dx, v, rfl, _⟩ := h
    rfl
  · obtain ⟨x, dx, v, rfl, hx, h⟩ := h
    refine ⟨_, (pss_cons (ps_if (PT.nox (pt_not (pt_truthK (K := K) (pe_call (ok_are_shelves T) (hr.mono (by decide)) rfl T.m_are_shelves T.F_are_shelves.kp T.b_are_shelves .nil pass0 (pa_cons (pv 1) pa_nil)) (by intro _; rfl)))) (pss_one (ps_raise0 T.x_BadWord T.xi0_BadWord hr rfl T.mg_BadWord raiseX)) pss_nil)
      (pss_one (PS.nox (ps_fld (pv 0) (pe_callTy (call_listK (K := K)) rfl T.n_list boot_list (pa_cons (pv 1) pa_nil)) rfl)))), ?_⟩
    walk_at "rd"
    rcases h with ⟨p, xs, rfl, hl, ok, q⟩ | ⟨hb, q⟩
    · refine ⟨true, .good hl ok, fun H1 s1 => ?_⟩
      rw [if_neg (by decide)]
      obtain ⟨ts, e, hT⟩ := hl.same s1
      refine rListOf_l (.inl (.inl (.inl e))) fun l hl' => ?_
      have hlx : x ≠ l := fun z => by rw [← z, s1 _ _ hx] at hl'; cases hl'
      refine ⟨_, dx, [], (upd_ne hlx).trans (s1 _ _ hx), T.cl_Shelves, T.no_Shelves_shelves, by decide, q l _ (s1.free hl') ?_ ⟨⟨dx, upd_same⟩, ⟨ts, (upd_ne (Ne.symm hlx)).trans upd_same, ?_⟩⟩⟩
      · exact (Chg.of_same s1).trans ((Chg.new hl').trans (Chg.upd (by simp) (mut_ins ((upd_ne hlx).trans (s1 _ _ hx)))))
      · exact hT.chg (A := [x]) ((Chg.new hl').trans (Chg.upd (by simp) (mut_ins ((upd_ne hlx).trans (s1 _ _ hx)))))
    · refine ⟨false, hb, fun H1 s1 => ?_⟩
      rw [if_pos rfl]
      exact (q.back s1).zero
theorem ok_Shelves_told (T : Txt K mg a) : FnOk P w K mg base CX0 1 a.f_Shelves_told a.d_Shelves_told ["self"] (sp_sh_told a.C_Shelves) := by
  refine T.F_Shelves_told.ok sc_Shelves_told (fun vs H Q E h => ?_) (fun cdv A outer s H vs Q E hr h => ?_)
  · obtain ⟨s, l, xs, rfl, _⟩ := h
    rfl
  · obtain ⟨s, l, xs, rfl, R, q⟩ := h
    refine ⟨_, (pss_one (ps_ret (pe_callTy (call_listK (K := K)) rfl T.n_list boot_list (pa_cons (pe_fldK (K := K) (pv 0) rfl) pa_nil)))), ?_⟩
    walk_at "rd"
    obtain ⟨dx, hs⟩ := R.obj
    obtain ⟨ts, e, hT⟩ := R.lst
    refine ⟨_, dx, _, hs, T.cl_Shelves, T.no_Shelves_shelves, _, rfl, rListOf_l (.inl (.inl (.inl e))) fun D hD => q D _ hD (Same.upd hD) ⟨ts, upd_same, hT.chg (A := []) (Chg.of_same (Same.upd hD))⟩⟩
theorem ok_Shelves_many_rows (T : Txt K mg a) : FnOk P w K mg base CX0 1 a.f_Shelves_many_rows a.d_Shelves_many_rows ["self"] (sp_sh_many a.C_Shelves) := by
  refine T.F_Shelves_many_rows.ok sc_Shelves_many_rows (fun vs H Q E h => ?_) (fun cdv A outer s H vs Q E hr h => ?_)
  · obtain ⟨s, l, xs, rfl, _⟩ := h
    rfl
  · obtain ⟨s, l, xs, rfl, R, hn, q⟩ := h
    refine ⟨_, (pss_one (ps_ret (pe_callB (call_sumK (K := K)) (by rfl) T.n_sum boot_sum (pa_cons (pe_comp ["self"] ["self"] (defScope s_Shelves_many_rows) (by exact ⟨rfl, by decide +kernel, by decide +kernel, by decide +kernel, by decide +kernel, by decide +kernel, by decide +kernel, by decide +kernel, by decide +kernel⟩) (pi_anyK (K := K) (pe_fldK (K := K) (pv 0) rfl)) (fun C₁ s₁ H₁ f₁ => (pe_ix (ix_anyK (K := K) (hU1 hr)) (pv 0) pe_int (fun _ _ => rfl)))) pa_nil)))), ?_⟩
    walk_at "rd"
    obtain ⟨dx, hs⟩ := R.obj
    obtain ⟨ts, e, hT⟩ := R.lst
    refine ⟨_, dx, _, hs, T.cl_Shelves, T.no_Shelves_shelves, _, rfl, rAny_l (.inl (.inl e)) (compW_tups R.lst (by rw [List.length_map]; exact Nat.le_trans hn (by decide)) (it 1) ?_ ?_)⟩
    · intro t ys H' hy s ht Qe qe
      obtain ⟨x, hx, rfl⟩ := List.mem_map.mp hy
      walk_at "rd"
      exact rIxA_t (v := it 1 x.v) (.inl (.inl ht)) rfl (qe H' (Same.refl _))
    · intro D H1 hD s1 h1
      refine ⟨D, xs.map fun x => (x.rows : Int), rfl, .inl (.inl (by rw [h1, List.map_map, List.map_map]; rfl)), ?_⟩
      have es : (xs.map fun x => (x.rows : Int)).sum = ((startOf xs xs.length : Nat) : Int) := by
        unfold startOf
        rw [List.take_length]
        generalize xs = ys
        induction ys with
        | nil => rfl
        | cons y ys ih => rw [List.map_cons, List.map_cons, List.sum_cons, List.sum_cons, ih]; push_cast; rfl
      rw [es]
      exact q H1 s1
theorem ok_Shelves_rows_of (T : Txt K mg a) : FnOk P w K mg base (CXv P w) 3 a.f_Shelves_rows_of a.d_Shelves_rows_of ["self", "name"] (sp_sh_rows_ofX a.C_Shelves a.C_NoSuch) := by
  refine T.F_Shelves_rows_of.okX sc_Shelves_rows_of (fun vs H Q E h => ?_) (fun cdv A outer s H vs Q E hr h => ?_)
  · obtain ⟨s, l, xs, nm, rfl, _⟩ := h
    rfl
  · obtain ⟨s, l, xs, nm, rfl, R, ok, q⟩ := h
    refine ⟨_, (pss_cons (PS.nox (ps_set (i := 2) sc_Shelves_rows_of.nd rfl (Or.inl rfl) pe_int))
      (pss_cons (PS.nox (ps_for PassesOwn.never rfl (pi_anyK (K := K) (pe_fldK (K := K) (pv 0) rfl)) (pg_name (i := 3) sc_Shelves_rows_of.nd rfl (Or.inl rfl)) (pss_cons (ps_if (pt_cmpR (op_eqK (K := K) (hU hr)) (pe_ix (ix_anyK (K := K) (hU1 hr)) (pv 3) pe_int (fun _ _ => rfl)) (pv 1) (nomark _)) (pss_one (ps_ret (pe_listRange2 rfl rfl T.n_list rfl T.n_range (pa_cons (pv 2) (pa_cons (pe_op (op_plusK (K := K)) (pv 2) (pe_ix (ix_anyK (K := K) (hU1 hr)) (pv 3) pe_int (fun _ _ => rfl))) pa_nil))))) pss_nil)
      (pss_one (ps_aug (i := 2) sc_Shelves_rows_of.nd rfl (Or.inl rfl) (pe_ix (ix_anyK (K := K) (hU1 hr)) (pv 3) pe_int (fun _ _ => rfl)) iop_plus)))))
      (pss_one (ps_raise T.x_NoSuch T.xi_NoSuch T.xf_NoSuch (ok_NoSuch___init__ T) (hr.mono (by decide)) rfl T.mg_NoSuch T.b_NoSuch___init__ (by decide) raiseX (pa_cons (pv 1) pa_nil))))), ?_⟩
    walk_at "rd"
    obtain ⟨dx, hs⟩ := R.obj
    obtain ⟨ts, e, hT⟩ := R.lst
    have hlen : ts.length = xs.length := by rw [hT.length, List.length_map]
    have h9 : ∀ y ∈ xs, y.rows ≤ 9 := fun y hy => (ok.each y hy).2.1.2
    have o2 := ok.hi
    refine ⟨_, dx, _, hs, T.cl_Shelves, T.no_Shelves_shelves, _, rfl, rAny_l (.inl (.inl e)) (forW_list (xs := ts.map V.ref) (fun i σ H' => H' = H ∧ (∀ j y, j < i → xs[j]? = some y → y.name ≠ nm) ∧ ∃ v, σ = [some (V.ref s), some (V.str (S nm)), some (V.int (startOf xs i)), v]) ⟨rfl, fun j y hj => absurd hj (Nat.not_lt_zero _), none, rfl⟩ (fun i σ H' _ h => by rw [h.1]; exact .inl (.inl e)) ?_ ?_)⟩
    · rintro i y σ H' hy ⟨rfl, hik, v, rfl⟩
      rw [List.getElem?_map] at hy
      cases hti : ts[i]? with
      | none => rw [hti] at hy; cases hy
      | some t =>
        rw [hti] at hy
        cases (Option.some.inj hy)
        obtain ⟨ys, h1, h2⟩ := hT.get hti
        rw [List.getElem?_map] at h1
        cases hxi : xs[i]? with
        | none => rw [hxi] at h1; cases h1
        | some y =>
          rw [hxi] at h1
          cases (Option.some.inj h1)
          have hTt : SqT K H' t y.v := .inl (.inl h2)
          have hb := startOf_le h9 i
          have hy9 := h9 y (List.mem_of_getElem? hxi)
          have hil0 := (List.getElem?_eq_some_iff.mp hxi).1
          walk_at "rd"
          refine rIxA_t (v := .str (S y.name)) hTt rfl ?_
          walk_at "rd"
          refine ite2 (fun hn => ?_) (fun hn => ?_)
          · have hnn : y.name = nm := hn
            rcases q with ⟨k, x, hk, hxn, q⟩ | ⟨hno, _⟩
            rotate_left
            · exact absurd hnn (hno y (List.mem_of_getElem? hxi))
            have hki : i = k := by
              refine Classical.byContradiction fun hne => ?_
              have hkl := (List.getElem?_eq_some_iff.mp hk).1
              have hil := (List.getElem?_eq_some_iff.mp hxi).1
              rcases Nat.lt_or_gt_of_ne hne with h | h
              · have := List.pairwise_iff_getElem.mp ok.nd i k (by rw [List.length_map]; omega) (by rw [List.length_map]; omega) h
                apply this
                rw [List.getElem_map, List.getElem_map, (List.getElem?_eq_some_iff.mp hxi).2, (List.getElem?_eq_some_iff.mp hk).2, hnn, hxn]
              · have := List.pairwise_iff_getElem.mp ok.nd k i (by rw [List.length_map]; omega) (by rw [List.length_map]; omega) h
                apply this
                rw [List.getElem_map, List.getElem_map, (List.getElem?_eq_some_iff.mp hxi).2, (List.getElem?_eq_some_iff.mp hk).2, hnn, hxn]
            subst hki
            rw [hxi] at hk
            cases (Option.some.inj hk)
            refine rIxA_t (v := .int y.rows) hTt rfl ?_
            walk_at "rd"
            refine ⟨by omega, by omega, by omega, by omega, ?_, fun l hl => ?_⟩
            · have : (9 : Int) ≤ sizeLine := by decide
              omega
            · refine q l _ hl (Same.upd hl) ?_
              rw [upd_same, show ((startOf xs i : Nat) : Int) + (y.rows : Int) - ((startOf xs i : Nat) : Int) = (y.rows : Int) by omega, Int.toNat_natCast]
          · refine rIxA_t (v := .int y.rows) hTt rfl ?_
            walk_at "rd"
            refine ⟨fun j y' hj hy' => ?_, ?_⟩
            · rcases Nat.lt_or_ge j i with h | h
              · exact hik j y' h hy'
              · have : j = i := by omega
                subst this
                rw [hxi] at hy'
                cases (Option.some.inj hy')
                exact hn
            · rw [startOf_succ hxi]
              push_cast
              rfl
    · rintro σ H' ⟨rfl, hik, v, rfl⟩
      rw [List.length_map, hlen] at hik
      walk_at "rd"
      rcases q with ⟨k, x, hk, hxn, _⟩ | ⟨_, q⟩
      · exact absurd hxn (hik k x (List.getElem?_eq_some_iff.mp hk).1 hk)
      · exact q.bears
theorem ok_Shelves_shelf_with (T : Txt K mg a) : FnOk P w K mg base (CXv P w) 3 a.f_Shelves_shelf_with a.d_Shelves_shelf_with ["self", "row"] (sp_sh_with a.C_Shelves a.C_NoSuch) := by
  refine T.F_Shelves_shelf_with.okX sc_Shelves_shelf_with (fun vs H Q E h => ?_) (fun cdv A outer s H vs Q E hr h => ?_)
  · obtain ⟨s, l, xs, r, rfl, _⟩ := h
    rfl
  · obtain ⟨s, l, xs, r, rfl, R, ok, q⟩ := h
    refine ⟨_, (pss_cons (PS.nox (ps_set (i := 2) sc_Shelves_shelf_with.nd rfl (Or.inl rfl) pe_int))
      (pss_cons (PS.nox (ps_for PassesOwn.never rfl (pi_anyK (K := K) (pe_fldK (K := K) (pv 0) rfl)) (pg_name (i := 3) sc_Shelves_shelf_with.nd rfl (Or.inl rfl)) (pss_cons (ps_aug (i := 2) sc_Shelves_shelf_with.nd rfl (Or.inl rfl) (pe_ix (ix_anyK (K := K) (hU1 hr)) (pv 3) pe_int (fun _ _ => rfl)) iop_plus)
      (pss_one (ps_if (pt_chain op_leK op_ltK pe_int (pv 1) (pv 2)) (pss_one (ps_ret (pv 3))) pss_nil)))))
      (pss_one (ps_raise T.x_NoSuch T.xi_NoSuch T.xf_NoSuch (ok_NoSuch___init__ T) (hr.mono (by decide)) rfl T.mg_NoSuch T.b_NoSuch___init__ (by decide) raiseX (pa_cons (pv 1) pa_nil))))), ?_⟩
    walk_at "rd"
    obtain ⟨dx, hs⟩ := R.obj
    obtain ⟨ts, e, hT⟩ := R.lst
    have hlen : ts.length = xs.length := by rw [hT.length, List.length_map]
    refine ⟨_, dx, _, hs, T.cl_Shelves, T.no_Shelves_shelves, _, rfl, rAny_l (.inl (.inl e)) (forW_list (xs := ts.map V.ref) (fun i σ H' => H' = H ∧ (r < 0 ∨ (startOf xs i : Int) ≤ r) ∧ ∃ v, σ = [some (V.ref s), some (V.int r), some (V.int (startOf xs i)), v]) ⟨rfl, ?_, none, rfl⟩ (fun i σ H' _ h => by rw [h.1]; exact .inl (.inl e)) ?_ ?_)⟩
    · rcases Int.lt_or_le r 0 with h | h
      · exact .inl h
      · exact .inr (by unfold startOf; simpa using h)
    · rintro i y σ H' hy ⟨rfl, hik, v, rfl⟩
      rw [List.getElem?_map] at hy
      obtain ⟨t, hti, rfl⟩ := Option.map_eq_some_iff.mp hy
      obtain ⟨ys, h1, h2⟩ := hT.get hti
      rw [List.getElem?_map] at h1
      obtain ⟨y, hxi, rfl⟩ := Option.map_eq_some_iff.mp h1
      have hTt : SqT K H' t y.v := .inl (.inl h2)
      walk_at "rd"
      refine rIxA_t (v := .int y.rows) hTt rfl ?_
      walk_at "rd"
      have es := startOf_succ hxi
      have hil := (List.getElem?_eq_some_iff.mp hxi).1
      have nxt : ¬ (0 ≤ r ∧ r < (startOf xs i : Int) + y.rows) → (r < 0 ∨ (startOf xs (i + 1) : Int) ≤ r) ∧ (startOf xs i : Int) + y.rows = (startOf xs (i + 1) : Int) := fun z => by
        rw [es]
        constructor
        · push_cast
          omega
        · push_cast; rfl
      refine ite2 (fun h0 => ite2 (fun h1 => ?_) (fun h1 => nxt (fun z => h1 z.2))) (fun h0 => nxt (fun z => h0 z.1))
      have hi0 : (startOf xs i : Int) ≤ r := by omega
      rcases q with ⟨k, x, hk, a1, a2, q⟩ | ⟨hb, _⟩
      · have ek := startOf_succ hk
        rw [ek] at a2
        push_cast at a2
        have hki : k = i := by
          rcases Nat.lt_trichotomy k i with h | h | h
          · have := startOf_lt hk h; omega
          · exact h
          · have := startOf_lt hxi h; omega
        subst hki
        rw [hxi] at hk
        cases (Option.some.inj hk)
        exact q t h2
      · have := startOf_lt hxi hil
        omega
    · rintro σ H' ⟨rfl, hik, v, rfl⟩
      rw [List.length_map, hlen] at hik
      walk_at "rd"
      rcases q with ⟨k, x, hk, a1, a2, _⟩ | ⟨_, q⟩
      · have hkl := (List.getElem?_eq_some_iff.mp hk).1
        have := startOf_lt hk hkl
        rw [startOf_succ hk] at a2
        push_cast at a2
        omega
      · exact q.bears
theorem ok_Shelves_shelf_at (T : Txt K mg a) : FnOk P w K mg base (CXv P w) 4 a.f_Shelves_shelf_at a.d_Shelves_shelf_at ["self", "row"] (sp_sh_at 0 a.C_Shelves a.C_NoSuch) := by
  refine T.F_Shelves_shelf_at.okX sc_Shelves_shelf_at (fun vs H Q E h => ?_) (fun cdv A outer s H vs Q E hr h => ?_)
  · obtain ⟨s, l, xs, r, rfl, _⟩ := h
    rfl
  · obtain ⟨s, l, xs, r, rfl, R, ok, q⟩ := h
    refine ⟨_, (pss_one (ps_ret (pe_ix (ix_anyK (K := K) (hU1 hr)) (pe_meth (pv 0) T.cl_Shelves T.M_Shelves_shelf_with (ok_Shelves_shelf_with T) (hr.mono (by decide)) T.b_Shelves_shelf_with .nil passX (pa_cons (pv 1) pa_nil)) pe_int (fun _ _ => rfl)))), ?_⟩
    walk_at "rd"
    obtain ⟨dx, hs⟩ := R.obj
    refine ⟨dx, _, hs, rfl, l, xs, R, ok, ?_⟩
    rcases q with ⟨k, x, hk, a1, a2, q⟩ | ⟨hb, q⟩
    · exact .inl ⟨k, x, hk, a1, a2, fun t ht => rIxA_t (v := it 0 x.v) (SqT.of ht) rfl q⟩
    · exact .inr ⟨hb, q⟩
theorem ok_Shelves_kind_at (T : Txt K mg a) : FnOk P w K mg base (CXv P w) 4 a.f_Shelves_kind_at a.d_Shelves_kind_at ["self", "row"] (sp_sh_at 2 a.C_Shelves a.C_NoSuch) := by
  refine T.F_Shelves_kind_at.okX sc_Shelves_kind_at (fun vs H Q E h => ?_) (fun cdv A outer s H vs Q E hr h => ?_)
  · obtain ⟨s, l, xs, r, rfl, _⟩ := h
    rfl
  · obtain ⟨s, l, xs, r, rfl, R, ok, q⟩ := h
    refine ⟨_, (pss_one (ps_ret (pe_ix (ix_anyK (K := K) (hU1 hr)) (pe_meth (pv 0) T.cl_Shelves T.M_Shelves_shelf_with (ok_Shelves_shelf_with T) (hr.mono (by decide)) T.b_Shelves_shelf_with .nil passX (pa_cons (pv 1) pa_nil)) pe_int (fun _ _ => rfl)))), ?_⟩
    walk_at "rd"
    obtain ⟨dx, hs⟩ := R.obj
    refine ⟨dx, _, hs, rfl, l, xs, R, ok, ?_⟩
    rcases q with ⟨k, x, hk, a1, a2, q⟩ | ⟨hb, q⟩
    · exact .inl ⟨k, x, hk, a1, a2, fun t ht => rIxA_t (v := it 2 x.v) (SqT.of ht) rfl q⟩
    · exact .inr ⟨hb, q⟩
theorem ok_Shelves_row_for (T : Txt K mg a) : FnOk P w K mg base (CXv P w) 4 a.f_Shelves_row_for a.d_Shelves_row_for ["self", "name", "key"] (sp_sh_row_forX a.C_Shelves a.C_NoSuch) := by
  refine T.F_Shelves_row_for.okX sc_Shelves_row_for (fun vs H Q E h => ?_) (fun cdv A outer s H vs Q E hr h => ?_)
  · obtain ⟨s, l, xs, nm, key, rfl, _⟩ := h
    rfl
  · obtain ⟨s, l, xs, nm, key, rfl, R, ok, q⟩ := h
    refine ⟨_, (pss_cons (ps_set (i := 3) sc_Shelves_row_for.nd rfl (Or.inl rfl) (pe_meth (pv 0) T.cl_Shelves T.M_Shelves_rows_of (ok_Shelves_rows_of T) (hr.mono (by decide)) T.b_Shelves_rows_of .nil passX (pa_cons (pv 1) pa_nil)))
      (pss_one (PS.nox (ps_ret (pe_ix (ix_anyK (K := K) (hU1 hr)) (pv 3) (pe_call (ok_row_in T) (hr.mono (by decide)) rfl T.m_row_in T.F_row_in.kp T.b_row_in .nil pass0 (pa_cons (pv 2) (pa_cons (pe_callB (call_lenK (K := K)) (by rfl) T.n_len boot_len (pa_cons (pv 3) pa_nil)) pa_nil))) (fun _ _ => rfl)))))), ?_⟩
    walk_at "rd"
    obtain ⟨dx, hs⟩ := R.obj
    refine ⟨dx, _, hs, rfl, l, xs, R, ok, ?_⟩
    rcases q with ⟨k, x, hk, hxn, q⟩ | ⟨hb, q⟩
    · have hx := (ok.each x (List.mem_of_getElem? hk)).2.1
      refine .inl ⟨k, x, hk, hxn, fun D H1 hD s1 h1 => rLen_l (.inl (.inl h1)) ?_⟩
      have el : (rngV (startOf xs k) x.rows).length = x.rows := by simp [rngV]
      rw [el]
      have h0 : 0 ≤ sprN key % (x.rows : Int) := Int.emod_nonneg _ (by omega)
      have h2 : sprN key % (x.rows : Int) < x.rows := Int.emod_lt_of_pos _ (by omega)
      refine ⟨_, rfl, by omega, rIxA_l (v := .int (rowNo xs k x key)) (.inl (.inl h1)) (atI_get? h0 ?_) (q H1 s1)⟩
      unfold rngV rowNo
      rw [List.getElem?_map, List.getElem?_range (by omega)]
      simp only [Option.map_some]
      push_cast
      rfl
    · exact .inr ⟨hb, q⟩

theorem Paired.take5 {α β : Type} {R : α → β → Prop} : ∀ {xs : List α} {ys : List β}, PySem.Paired R xs ys → ∀ n, PySem.Paired R (xs.take n) (ys.take n)
  | _, _, _, 0 => .nil
  | _, _, .nil, _ + 1 => .nil
  | _, _, .cons r t, n + 1 => .cons r (Paired.take5 t n)
theorem ok_l_names (T : Txt K mg a) : FnOk P w K mg base CX0 2 a.f_l_names a.d_l_names ["_law_cell", "_law_many"] sp_names5 := by
  refine T.F_l_names.ok sc_l_names (fun vs H Q E h => ?_) (fun cdv A outer s H vs Q E hr h => ?_)
  · obtain ⟨c, m, rfl, _⟩ := h
    rfl
  · obtain ⟨c, m, rfl, h1, h2, q⟩ := h
    refine ⟨_, (pss_cons (ps_set (i := 2) sc_l_names.nd rfl (Or.inl rfl) (pe_op (op_plusK (K := K)) pe_int (pe_op op_mod (pe_call (ok_l_mixed T) (hr.mono (by decide)) rfl T.m_l_mixed T.F_l_mixed.kp T.b_l_mixed .nil pass0 (pa_cons (pv 0) (pa_cons pe_int pa_nil))) pe_int)))
      (pss_cons (ps_set (i := 3) sc_l_names.nd rfl (Or.inl rfl) (pe_op op_mod (pe_call (ok_l_mixed T) (hr.mono (by decide)) rfl T.m_l_mixed T.F_l_mixed.kp T.b_l_mixed .nil pass0 (pa_cons (pv 0) (pa_cons pe_int pa_nil))) (pv 2)))
      (pss_cons (ps_setc (i := 4) ["_law_cell", "_law_many", "_law_size", "_law_at", "_law_base", "_law_names_here", "_law_k", "_law_signs"] ["_law_cell", "_law_many", "_law_size", "_law_at", "_law_base", "_law_names_here", "", "_law_signs"] (defScope s_l_names) (by exact ⟨rfl, by decide +kernel, by decide +kernel, by decide +kernel, by decide +kernel, by decide +kernel, by decide +kernel, by decide +kernel, by decide +kernel⟩) (pi_range1 rfl T.n_range (pa_cons (pv 2) pa_nil)) (fun C₁ s₁ H₁ f₁ => (pe_call (ok_l_letter T) (hr.mono (by decide)) rfl T.m_l_letter T.F_l_letter.kp T.b_l_letter .nil pass0 (pa_cons (pe_call (ok_l_mixed T) (hr.mono (by decide)) rfl T.m_l_mixed T.F_l_mixed.kp T.b_l_mixed .nil pass0 (pa_cons (pv 1) (pa_cons (pe_op (op_plusK (K := K)) pe_int (pv 0)) pa_nil))) pa_nil))) sc_l_names.nd)
      (pss_cons (ps_set (i := 5) sc_l_names.nd rfl (Or.inl rfl) (pe_lst pa_nil))
      (pss_cons (ps_for PassesOwn.never rfl (pi_range1 rfl T.n_range (pa_cons (pv 1) pa_nil)) (pg_name (i := 6) sc_l_names.nd rfl (Or.inl rfl)) (pss_cons (ps_set (i := 7) sc_l_names.nd rfl (Or.inl rfl) (pe_callTy (call_listK (K := K)) rfl T.n_list boot_list (pa_cons (pv 4) pa_nil)))
      (pss_cons (ps_asg (pe_call (ok_l_letter T) (hr.mono (by decide)) rfl T.m_l_letter T.F_l_letter.kp T.b_l_letter .nil pass0 (pa_cons (pe_op (op_plusK (K := K)) (pe_op op_mod (pe_call (ok_l_mixed T) (hr.mono (by decide)) rfl T.m_l_mixed T.F_l_mixed.kp T.b_l_mixed .nil pass0 (pa_cons (pv 0) (pa_cons pe_int pa_nil))) pe_int) (pv 6)) pa_nil)) (pg_sub (pv 7) (pv 3) (set_any (hU1 hr))))
      (pss_one (ps_expr (pe_bmK (K := K) PySem.F.plainAttrs_list PySem.F.slot_list_append PySem.F.type_list_append mt_append (pv 5) (pa_cons (pe_bmK (K := K) PySem.F.plainAttrs_str PySem.F.slot_str_join PySem.F.type_str_join (mt_joinK (K := K)) pe_str (pa_cons (pv 7) pa_nil)) pa_nil)))))))
      (pss_one (ps_ret (pv 5)))))))), ?_⟩
    walk_at "rd"
    obtain ⟨sz, hsz0⟩ : ∃ sz, 1 + mixN c 61 % 12 = sz := ⟨_, rfl⟩
    obtain ⟨at0, hat0⟩ : ∃ at0, mixN c 62 % sz = at0 := ⟨_, rfl⟩
    have hsz : 1 ≤ sz ∧ sz ≤ 12 := by omega
    have hat : 0 ≤ at0 ∧ at0 < sz := by rw [← hat0]; exact ⟨Int.emod_nonneg _ (by omega), Int.emod_lt_of_pos _ (by omega)⟩
    have gnm : nm5 c = fun (k : Nat) => (((List.range sz.toNat).map fun (k : Nat) => ltr36 (mixN c (70 + (0 + (k : Int)))))).set at0.toNat (ltr36 (mixN c 63 % 36 + (0 + (k : Int)))) := by
      funext k
      unfold nm5 nb5 sz5 at5
      rw [hsz0, hat0]
    rw [hsz0, hat0]
    refine ⟨by omega, by omega, by omega, compW_range (Nat.le_trans (show sz.toNat ≤ 12 by omega) (by decide)) (fun k => .str (S [ltr36 (mixN c (70 + (0 + (k : Int))))])) ?_ ?_⟩
    · intro i H' hi s Qe qe
      walk_at "rd"
      exact qe H' (Same.refl _)
    · intro D H1 hD s1 h1
      have eb : ((List.range sz.toNat).map fun (k : Nat) => V.str (S [ltr36 (mixN c (70 + (0 + (k : Int))))])) = (((List.range sz.toNat).map fun (k : Nat) => ltr36 (mixN c (70 + (0 + (k : Int))))).map fun k => [k]).map fun l => V.str (S l) := by
        rw [List.map_map, List.map_map]; rfl
      rw [eb] at h1
      have hbl : ((List.range sz.toNat).map fun (k : Nat) => ltr36 (mixN c (70 + (0 + (k : Int))))).length = sz.toNat := by simp
      have hba : ((List.range sz.toNat).map fun (k : Nat) => ltr36 (mixN c (70 + (0 + (k : Int))))).all inN = true := by
        rw [List.all_eq_true]
        intro y hy
        obtain ⟨k, _, rfl⟩ := List.mem_map.mp hy
        exact ltr36_in _
      generalize ((List.range sz.toNat).map fun (k : Nat) => ltr36 (mixN c (70 + (0 + (k : Int))))) = b at h1 hbl hba gnm
      refine ⟨Nat.zero_le _, fun p hp => ⟨by omega, by omega, ?_⟩⟩
      have hDp : D ≠ p := fun z => by rw [← z, h1] at hp; cases hp
      have hD1 : upd H1 p (.lst []) D = some (.lst ((b.map fun k => [k]).map fun l => V.str (S l))) := (upd_ne hDp).trans h1
      generalize hg : (fun (k : Nat) => b.set at0.toNat (ltr36 (mixN c 63 % 36 + (0 + (k : Int))))) = g
      refine forW_range (fun i σ H' => Chg [p] (upd H1 p (.lst [])) H' ∧ H' p = some (.lst (((List.range i).map g).map fun l => V.str (S l))) ∧ ∃ v1 v2, σ = [some (V.int c), some (V.int m), some (V.int sz), some (V.int at0), some (V.ref D), some (V.ref p), v1, v2]) ⟨Chg.refl _, upd_same, none, none, rfl⟩ ?_ ?_
      · rintro i σ H' hi ⟨c', hl, v1, v2, rfl⟩
        have hD' : H' D = _ := c'.keep _ _ hD1 (by simp [hDp])
        walk_at "rd"
        refine ⟨D, _, rfl, .inl (.inl (.inl hD')), fun l hlf => ?_⟩
        have hlp : l ≠ p := fun z => by rw [z, hl] at hlf; cases hlf
        refine rSetA_l upd_same (ixN_of hat.1 (by simp; omega)) ?_
        walk_at "rd"
        have hset : (List.map (fun l => V.str (S l)) (List.map (fun k => [k]) b)).set at0.toNat (V.str (S [ltr36 (mixN c 63 % 36 + (0 + (i : Int)))])) = (((g i).map fun k => [k]).map fun l => V.str (S l)) := by
          rw [← hg]
          simp only [List.map_set]
        have hgl : (g i).length ≤ 12 := by rw [← hg]; simp only [List.length_set]; omega
        rw [hset, upd_upd]
        have s2 : Same H' (upd H' l (.lst (((g i).map fun k => [k]).map fun l => V.str (S l)))) := Same.upd hlf
        refine ⟨.inl ⟨_, .inl (.inl (s2 _ _ hl))⟩, [], rfl, _, .inl (.inl upd_same), ?_, ?_⟩
        · rw [sum_signs, List.length_map]
          exact Nat.le_trans (show (g i).length + _ ≤ 100 by simp; omega) (by decide)
        · rw [join_signs]
          refine ⟨_, s2 _ _ hl, Nat.lt_of_le_of_lt (show _ ≤ 36 by simp; omega) (by decide), ?_, upd_same.trans ?_⟩
          · exact c'.trans ((Chg.of_same s2).trans (Chg.upd (by simp) (mut_lst (s2 _ _ hl))))
          · rw [List.range_succ, List.map_append, List.map_append]
            rfl
      · rintro σ H' ⟨c', hl, v1, v2, rfl⟩
        walk_at "rd"
        refine q p H' (s1.free hp) (fun b0 o hb => ?_) ?_
        · have hb1 := s1 _ _ hb
          exact c'.keep _ _ ((Same.upd hp) _ _ hb1) (by simp; exact ne_of_none hb1 hp)
        · rw [hl]
          unfold names5
          rw [gnm, hg]
          simp
theorem ok_l_whole (T : Txt K mg a) : FnOk P w K mg base CX0 1 a.f_l_whole a.d_l_whole ["_law_found", "_law_due"] sp_wholeI := by
  refine T.F_l_whole.ok sc_l_whole (fun vs H Q E h => ?_) (fun cdv A outer s H vs Q E hr h => ?_)
  · obtain ⟨x, y, rfl, _⟩ := h
    rfl
  · obtain ⟨x, y, rfl, q⟩ := h
    refine ⟨_, (pss_one (ps_ret (pe_and (pe_callB (call_isinstanceK (K := K)) (by rfl) T.n_isinstance boot_isinstance (pa_cons (pv 0) (pa_cons (pe_bltn (v := .ty "int") rfl T.n_int boot_int rfl) pa_nil))) (pe_and (pe_not (pe_callB (call_isinstanceK (K := K)) (by rfl) T.n_isinstance boot_isinstance (pa_cons (pv 0) (pa_cons (pe_bltn (v := .ty "bool") rfl T.n_bool boot_bool rfl) pa_nil)))) (pe_one (pe_cmpR (op_eqK (K := K) (hU hr)) (pv 0) (pv 1) (nomark _))))))), ?_⟩
    walk_at "rd"
    exact q
theorem ok_l_shelves (T : Txt K mg a) : FnOk P w K mg base CX0 3 a.f_l_shelves a.d_l_shelves ["_law_cell"] sp_shelves5 := by
  refine T.F_l_shelves.ok sc_l_shelves (fun vs H Q E h => ?_) (fun cdv A outer s H vs Q E hr h => ?_)
  · obtain ⟨c, rfl, _⟩ := h
    rfl
  · obtain ⟨c, rfl, q⟩ := h
    refine ⟨_, (pss_cons (ps_set (i := 1) sc_l_shelves.nd rfl (Or.inl rfl) (pe_op (op_plusK (K := K)) pe_int (pe_op op_mod (pe_call (ok_l_mixed T) (hr.mono (by decide)) rfl T.m_l_mixed T.F_l_mixed.kp T.b_l_mixed .nil pass0 (pa_cons (pv 0) (pa_cons pe_int pa_nil))) pe_int)))
      (pss_cons (ps_set (i := 2) sc_l_shelves.nd rfl (Or.inl rfl) (pe_lst pa_nil))
      (pss_cons (ps_for PassesOwn.never rfl (pi_enumerate rfl T.n_enumerate (pa_cons (pe_call (ok_l_names T) (hr.mono (by decide)) rfl T.m_l_names T.F_l_names.kp T.b_l_names .nil pass0 (pa_cons (pv 0) (pa_cons (pv 1) pa_nil))) pa_nil)) (pg_tupK (K := K) (n := 2) rfl (pgs_cons (pg_name (i := 3) sc_l_shelves.nd rfl (Or.inl rfl)) (pgs_cons (pg_name (i := 4) sc_l_shelves.nd rfl (Or.inl rfl)) pgs_nil))) (pss_cons (ps_set (i := 5) sc_l_shelves.nd rfl (Or.inl rfl) (pe_ix (ix_anyK (K := K) (hU1 hr)) (pe_lst (pa_cons pe_str (pa_cons pe_str pa_nil))) (pe_op op_mod (pe_call (ok_l_mixed T) (hr.mono (by decide)) rfl T.m_l_mixed T.F_l_mixed.kp T.b_l_mixed .nil pass0 (pa_cons (pv 0) (pa_cons (pe_op (op_plusK (K := K)) pe_int (pv 3)) pa_nil))) pe_int) (fun _ _ => rfl)))
      (pss_one (ps_expr (pe_bmK (K := K) PySem.F.plainAttrs_list PySem.F.slot_list_append PySem.F.type_list_append mt_append (pv 2) (pa_cons (pe_tup (pa_cons (pv 4) (pa_cons (pe_op (op_plusK (K := K)) pe_int (pe_op op_mod (pe_call (ok_l_mixed T) (hr.mono (by decide)) rfl T.m_l_mixed T.F_l_mixed.kp T.b_l_mixed .nil pass0 (pa_cons (pv 0) (pa_cons (pe_op (op_plusK (K := K)) pe_int (pv 3)) pa_nil))) pe_int)) (pa_cons (pv 5) pa_nil)))) pa_nil))))))
      (pss_one (ps_ret (pv 2)))))), ?_⟩
    walk_at "rd"
    obtain ⟨m, hm⟩ : ∃ m : Nat, 1 + mixN c 1 % 6 = m := ⟨(1 + mixN c 1 % 6).toNat, by omega⟩
    have hm5 : n5 c = m := by unfold n5; omega
    refine ⟨by decide, fun p hp => ⟨m, hm, by omega, by omega, fun D H1 hD s1 h1 => ⟨⟨_, .inl (.inl h1)⟩, ?_⟩⟩⟩
    have a1 := s1 _ _ (show upd H p (.lst []) p = some (.lst []) from upd_same)
    have s01 : Same H H1 := (Same.upd hp).trans s1
    have nDp : D ≠ p := fun z => by rw [z, upd_same] at hD; cases hD
    have hD0 : H D = none := same_back (Same.upd hp) hD
    rw [hm]
    refine forW_enum (xs := (names5 c m).map fun l => V.str (S l)) (fun i σ H' => (Chg [p] H1 H' ∧ ∃ ts, H' p = some (.lst (ts.map V.ref)) ∧ TupsAt H' ts (((List.range i).map (shf5 c)).map Shf.v)) ∧ ∃ v3 v4 v5, σ = [some (V.int c), some (V.int (m : Nat)), some (V.ref p), v3, v4, v5]) ⟨⟨Chg.refl _, [], a1, .nil⟩, none, none, none, rfl⟩ (fun i σ H' _ ⟨⟨c', _⟩, _⟩ => .inl (.inl (c'.keep _ _ h1 (by simp; exact nDp)))) ?_ ?_
    · rintro i x Tp σ H' hx hT ⟨⟨c', ts, hts, htt⟩, v3, v4, v5, rfl⟩
      rw [List.getElem?_map] at hx
      obtain ⟨nm, hnm, rfl⟩ := Option.map_eq_some_iff.mp hx
      have him : i < m := by
        have := (List.getElem?_eq_some_iff.mp hnm).1
        unfold names5 at this
        simpa using this
      rw [names5_get c m i him] at hnm
      cases hnm
      have sT : Same H' (upd H' Tp (.tup [.int (i : Nat), .str (S (nm5 c i))])) := Same.upd hT
      have aT : upd H' Tp (.tup [.int (i : Nat), .str (S (nm5 c i))]) Tp = some (.tup [.int (i : Nat), .str (S (nm5 c i))]) := upd_same
      generalize upd H' Tp (.tup [.int (i : Nat), .str (S (nm5 c i))]) = H2 at sT aT ⊢
      refine ⟨Tp, _, rfl, .inl (.inl aT), rfl, ?_⟩
      walk_at "rd"
      refine ⟨by decide, fun q1 hq1 => ?_⟩
      have s3 : Same H2 (upd H2 q1 (.lst [V.str (Str.ofString "table"), V.str (Str.ofString "stream")])) := Same.upd hq1
      have a3 : upd H2 q1 (.lst [V.str (Str.ofString "table"), V.str (Str.ofString "stream")]) q1 = some (.lst [V.str (Str.ofString "table"), V.str (Str.ofString "stream")]) := upd_same
      generalize upd H2 q1 (.lst [V.str (Str.ofString "table"), V.str (Str.ofString "stream")]) = H3 at s3 a3 ⊢
      have ek : atI [V.str (Str.ofString "table"), V.str (Str.ofString "stream")] (mixN c (10 + (i : Int)) % 2) = some (.str (shf5 c i).kind) := by
        rcases (show mixN c (10 + (i : Int)) % 2 = 0 ∨ mixN c (10 + (i : Int)) % 2 = 1 by omega) with e | e
        · rw [e, show (shf5 c i).kind = kTab by show (if mixN c (10 + (i : Int)) % 2 = 0 then kTab else kStr) = kTab; rw [if_pos e]]; rfl
        · rw [e, show (shf5 c i).kind = kStr by show (if mixN c (10 + (i : Int)) % 2 = 0 then kTab else kStr) = kStr; rw [if_neg (by omega)]]; rfl
      refine rIxA_l (.inl (.inl a3)) ek ?_
      have s13 := sT.trans s3
      have hts3 := s13 _ _ hts
      have htt3 := htt.chg (A := []) (Chg.of_same s13)
      have er : (1 : Int) + mixN c (20 + (i : Int)) % 9 = ((shf5 c i).rows : Nat) := by show _ = (((1 + mixN c (20 + (i : Int)) % 9).toNat : Nat) : Int); omega
      rw [er]
      refine ⟨.inl ⟨_, .inl (.inl hts3)⟩, by decide, fun t ht => ?_⟩
      obtain ⟨z1, z2, ts', z3, z4⟩ := tups_app5 (r := (shf5 c i).v) (c'.trans (Chg.of_same s13)) hts3 htt3 ht
      have tl := htt.length
      rw [List.length_map, List.length_map, List.length_range] at tl
      refine ⟨_, z1, by rw [List.length_map, tl]; exact Nat.lt_of_lt_of_le (show i < 37 by omega) (by decide), z2, ts', z3, ?_⟩
      rw [List.range_succ, List.map_append, List.map_append]
      exact z4
    · rintro σ H' ⟨⟨c', ts, hts, htt⟩, v3, v4, v5, rfl⟩
      rw [List.length_map, show (names5 c m).length = m by unfold names5; simp] at htt
      walk_at "rd"
      refine q p H' hp (fun b o hb => c'.keep _ _ (s01 _ _ hb) (by simp; exact ne_of_none hb hp)) ⟨ts, hts, ?_⟩
      unfold xs5
      rw [hm5]
      exact htt
theorem ok_l_refused (T : Txt K mg a) : FnOk P w K mg base CX0 7 a.f_l_refused a.d_l_refused ["_law_thing"] sp_refused5 := by
  refine T.F_l_refused.ok sc_l_refused (fun vs H Q E h => ?_) (fun cdv A outer s H vs Q E hr h => ?_)
  · obtain ⟨v, rfl, _⟩ := h
    rfl
  · obtain ⟨v, rfl, hb, q⟩ := h
    refine ⟨_, (pss_cons (ps_set (i := 1) sc_l_refused.nd rfl (Or.inl rfl) pe_bl)
      (pss_cons (ps_try (pss_one (ps_expr (pe_make T.k_Shelves (ok_Shelves___init__ T) (hr.mono (by decide)) rfl T.mg_Shelves T.b_Shelves___init__ .nil passv0 (pa_cons (pv 0) pa_nil))))
      (pxs_one (px_expr (px_make T.k_Shelves (ok_Shelves___init__ T) (hr.mono (by decide)) rfl T.mg_Shelves T.b_Shelves___init__ .nil (pa_cons (pv 0) pa_nil))))
      (ph_bare rfl T.mg_BadWord (fun ea => (pss_one (ps_set (i := 1) sc_l_refused.nd rfl (Or.inl rfl) pe_bl)))
      ph_nil))
      (pss_one (ps_ret (pv 1))))), ?_⟩
    walk_at "rd"
    refine .inr ⟨XG H a.C_BadWord [], fun x dx hx hdx ne => ?_, fun C dx H' ea g hea => ?_⟩
    · have sm : Same H (upd (upd H dx (HO.own x)) x (HO.ins a.C_Shelves dx [])) := (Same.upd hdx).trans (Same.upd ((upd_ne (Ne.symm ne)).trans hx))
      exact ⟨⟨dx, upd_same⟩, .inr ⟨hb.same sm, xb_xg.back sm⟩⟩
    · obtain ⟨rfl, sm, ge, gd⟩ := g.at hea
      exact ⟨T.em_BadWord_BadWord, q _ sm⟩
theorem ok_l_no_shelf (T : Txt K mg a) : FnOk P w K mg base CX0 5 a.f_l_no_shelf a.d_l_no_shelf ["_law_made", "_law_name", "_law_key"] (sp_no_shelf5 a.C_Shelves) := by
  refine T.F_l_no_shelf.ok sc_l_no_shelf (fun vs H Q E h => ?_) (fun cdv A outer s H vs Q E hr h => ?_)
  · obtain ⟨s, l, xs, nm, key, rfl, _⟩ := h
    rfl
  · obtain ⟨s, l, xs, nm, key, rfl, R, ok, hno, q⟩ := h
    refine ⟨_, (pss_cons (ps_set (i := 3) sc_l_no_shelf.nd rfl (Or.inl rfl) pe_non)
      (pss_cons (ps_set (i := 4) sc_l_no_shelf.nd rfl (Or.inl rfl) pe_non)
      (pss_cons (ps_try (pss_one (ps_expr (pe_meth (pv 0) T.cl_Shelves T.M_Shelves_rows_of (ok_Shelves_rows_of T) (hr.mono (by decide)) T.b_Shelves_rows_of .nil passv0 (pa_cons (pv 1) pa_nil))))
      (pxs_one (px_expr (px_meth (pv 0) T.cl_Shelves T.M_Shelves_rows_of (ok_Shelves_rows_of T) (hr.mono (by decide)) T.b_Shelves_rows_of .nil (pa_cons (pv 1) pa_nil))))
      (ph_as (i := 5) rfl T.mg_NoSuch sc_l_no_shelf.nd rfl rfl (fun ea => (pss_one (ps_set (i := 3) sc_l_no_shelf.nd rfl (Or.inl rfl) (pe_xfldK (K := K) (pv 5) rfl))))
      ph_nil))
      (pss_cons (ps_try (pss_one (ps_expr (pe_meth (pv 0) T.cl_Shelves T.M_Shelves_row_for (ok_Shelves_row_for T) (hr.mono (by decide)) T.b_Shelves_row_for .nil passv0 (pa_cons (pv 1) (pa_cons (pv 2) pa_nil)))))
      (pxs_one (px_expr (px_meth (pv 0) T.cl_Shelves T.M_Shelves_row_for (ok_Shelves_row_for T) (hr.mono (by decide)) T.b_Shelves_row_for .nil (pa_cons (pv 1) (pa_cons (pv 2) pa_nil)))))
      (ph_as (i := 5) rfl T.mg_NoSuch sc_l_no_shelf.nd rfl rfl (fun ea => (pss_one (ps_set (i := 4) sc_l_no_shelf.nd rfl (Or.inl rfl) (pe_xfldK (K := K) (pv 5) rfl))))
      ph_nil))
      (pss_one (ps_ret (pe_and (pe_cmpR (op_eqK (K := K) (hU hr)) (pv 3) (pv 1) (nomark _)) (pe_one (pe_cmpR (op_eqK (K := K) (hU hr)) (pv 4) (pv 1) (nomark _)))))))))), ?_⟩
    refine cut3 fun Rz hRz => ?_
    walk_at "rd"
    obtain ⟨dx, hs⟩ := R.obj
    refine .inr ⟨XG H a.C_NoSuch [("name", .str (S nm))], ⟨dx, _, hs, rfl, l, xs, R, ok, .inr ⟨hno, xb_xg⟩⟩, fun C dy H' ea g hea => ?_⟩
    obtain ⟨rfl, sm, ge, gd⟩ := g.at hea
    rcases gd with ⟨_, z⟩ | ⟨d, rfl, gd⟩
    · cases z
    generalize upd H' ea (xh ea a.C_NoSuch (some d)) = H1 at sm ge gd ⊢
    refine ⟨T.em_NoSuch_NoSuch, _, d, ge, _, gd, T.x_NoSuch, T.no_NoSuch_name, _, rfl, ?_⟩
    have R1 : ShAt a.C_Shelves H1 s l xs := R.chg (A := []) (Chg.of_same sm) (by simp) (by simp)
    rw [hRz]
    clear hRz
    walk_at "rd"
    refine .inr ⟨XG H1 a.C_NoSuch [("name", .str (S nm))], ⟨dx, _, sm _ _ hs, rfl, l, xs, R1, ok, .inr ⟨hno, xb_xg⟩⟩, fun C dy H' ea2 g2 hea2 => ?_⟩
    obtain ⟨rfl, sm2, ge2, gd2⟩ := g2.at hea2
    rcases gd2 with ⟨_, z⟩ | ⟨d2, rfl, gd2⟩
    · cases z
    generalize upd H' ea2 (xh ea2 a.C_NoSuch (some d2)) = H2 at sm2 ge2 gd2 ⊢
    refine ⟨T.em_NoSuch_NoSuch, _, d2, ge2, _, gd2, T.x_NoSuch, T.no_NoSuch_name, _, rfl, ?_⟩
    rw [rEqq_ss, decide_eq_true rfl]
    exact q H2 (sm.trans sm2)
theorem ok_l_odd_shelf (T : Txt K mg a) : FnOk P w K mg base CX0 1 a.f_l_odd_shelf a.d_l_odd_shelf ["_law_one", "_law_number"] sp_odd5 := by
  refine T.F_l_odd_shelf.ok sc_l_odd_shelf (fun vs H Q E h => ?_) (fun cdv A outer s H vs Q E hr h => ?_)
  · obtain ⟨t, x, n, rfl, _⟩ := h
    rfl
  · obtain ⟨t, x, n, rfl, ht, ok, hn, q⟩ := h
    refine ⟨_, (pss_cons (ps_set (i := 2) sc_l_odd_shelf.nd rfl (Or.inl rfl) (pe_ix (ix_anyK (K := K) (hU1 hr)) (pe_lst (pa_cons pe_non (pa_cons pe_int (pa_cons pe_str (pa_cons (pe_tup pa_nil) (pa_cons pe_bl pa_nil)))))) (pe_op op_mod (pe_op op_fdiv (pv 1) pe_int) pe_int) (fun _ _ => rfl)))
      (pss_cons (ps_if (pt_cmpR (op_eqK (K := K) (hU hr)) (pe_op op_mod (pv 1) pe_int) pe_int (nomark _)) (pss_one (ps_ret (pv 2))) pss_nil)
      (pss_cons (ps_if (pt_cmpR (op_eqK (K := K) (hU hr)) (pe_op op_mod (pv 1) pe_int) pe_int (nomark _)) (pss_one (ps_ret (pe_tup (pa_cons (pe_ix (ix_anyK (K := K) (hU1 hr)) (pe_lst (pa_cons pe_non (pa_cons pe_int (pa_cons pe_bl (pa_cons (pe_lst (pa_cons (pe_ix (ix_anyK (K := K) (hU1 hr)) (pv 0) pe_int (fun _ _ => rfl)) pa_nil)) pa_nil))))) (pe_op op_mod (pe_op op_fdiv (pv 1) pe_int) pe_int) (fun _ _ => rfl)) (pa_cons (pe_ix (ix_anyK (K := K) (hU1 hr)) (pv 0) pe_int (fun _ _ => rfl)) (pa_cons (pe_ix (ix_anyK (K := K) (hU1 hr)) (pv 0) pe_int (fun _ _ => rfl)) pa_nil)))))) pss_nil)
      (pss_cons (ps_if (pt_cmpR (op_eqK (K := K) (hU hr)) (pe_op op_mod (pv 1) pe_int) pe_int (nomark _)) (pss_one (ps_ret (pe_tup (pa_cons (pe_ix (ix_anyK (K := K) (hU1 hr)) (pv 0) pe_int (fun _ _ => rfl)) (pa_cons (pe_ix (ix_anyK (K := K) (hU1 hr)) (pe_lst (pa_cons pe_non (pa_cons pe_str (pa_cons pe_bl (pa_cons (pe_lst (pa_cons pe_int pa_nil)) pa_nil))))) (pe_op op_mod (pe_op op_fdiv (pv 1) pe_int) pe_int) (fun _ _ => rfl)) (pa_cons (pe_ix (ix_anyK (K := K) (hU1 hr)) (pv 0) pe_int (fun _ _ => rfl)) pa_nil)))))) pss_nil)
      (pss_one (ps_ret (pe_tup (pa_cons (pe_ix (ix_anyK (K := K) (hU1 hr)) (pv 0) pe_int (fun _ _ => rfl)) (pa_cons (pe_ix (ix_anyK (K := K) (hU1 hr)) (pv 0) pe_int (fun _ _ => rfl)) (pa_cons (pe_ix (ix_anyK (K := K) (hU1 hr)) (pe_lst (pa_cons pe_non (pa_cons pe_int (pa_cons pe_bl (pa_cons (pe_lst (pa_cons pe_str pa_nil)) (pa_cons (pe_op (op_plusK (K := K)) (pe_ix (ix_anyK (K := K) (hU1 hr)) (pv 0) pe_int (fun _ _ => rfl)) pe_str) pa_nil)))))) (pe_op op_mod (pe_op op_fdiv (pv 1) pe_int) pe_int) (fun _ _ => rfl)) pa_nil)))))))))), ?_⟩
    walk_at "rd"
    refine ⟨by decide, fun p0 hp0 => ⟨by decide, fun p1 hp1 => ?_⟩⟩
    have sA : Same H (upd H p0 (.tup [])) := Same.upd hp0
    have aA : upd H p0 (.tup []) p0 = some (.tup []) := upd_same
    generalize upd H p0 (.tup []) = HA at sA aA hp1 ⊢
    have sB : Same HA (upd HA p1 (HO.lst [V.non, V.int 5, V.str (Str.ofString "abc"), V.ref p0, V.bl true])) := Same.upd hp1
    have aB : upd HA p1 (HO.lst [V.non, V.int 5, V.str (Str.ofString "abc"), V.ref p0, V.bl true]) p1 = some (HO.lst [V.non, V.int 5, V.str (Str.ofString "abc"), V.ref p0, V.bl true]) := upd_same
    generalize upd HA p1 (HO.lst [V.non, V.int 5, V.str (Str.ofString "abc"), V.ref p0, V.bl true]) = HB at sB aB ⊢
    have s1 := sA.trans sB
    have t1 := s1 _ _ ht
    refine rIxA_pick (fun v => IsShB HB v false) (.inl (.inl aB)) (by omega) (by simp only [List.length_cons, List.length_nil]; omega) (fun v hv => ?_) fun v0 hv0 => ?_
    · simp only [List.mem_cons, List.not_mem_nil, or_false] at hv
      rcases hv with rfl | rfl | rfl | rfl | rfl
      · exact .non
      · exact .int _
      · exact .str _
      · exact .shrt (sB _ _ aA) (by decide)
      · exact .bl _
    obtain ⟨⟨n1, n2, n3⟩, ⟨r1, r2⟩, hk⟩ := ok
    have tn : Thg H (.str (S x.name)) := .str _ (by omega)
    refine ite2 (fun _ => q v0 HB s1 hv0) (fun _ => ite2 (fun _ => ?_) (fun _ => ite2 (fun _ => ?_) (fun _ => ?_)))
    · refine rIxA_t (v := .str (S x.name)) (SqT.of t1) rfl ⟨by decide, fun p2 hp2 => ⟨by decide, fun p3 hp3 => ?_⟩⟩
      have sC : Same HB (upd HB p2 (.lst [V.str (S x.name)])) := Same.upd hp2
      have aC : upd HB p2 (.lst [V.str (S x.name)]) p2 = some (.lst [V.str (S x.name)]) := upd_same
      generalize upd HB p2 (.lst [V.str (S x.name)]) = HC at sC aC hp3 ⊢
      have sD : Same HC (upd HC p3 (.lst [V.non, V.int 5, V.bl true, V.ref p2])) := Same.upd hp3
      have aD : upd HC p3 (.lst [V.non, V.int 5, V.bl true, V.ref p2]) p3 = some (.lst [V.non, V.int 5, V.bl true, V.ref p2]) := upd_same
      generalize upd HC p3 (.lst [V.non, V.int 5, V.bl true, V.ref p2]) = HD at sD aD ⊢
      have t2 := sD _ _ (sC _ _ t1)
      refine rIxA_pick (fun v => Thg HD v ∧ formV v 1 12 inN = false) (.inl (.inl aD)) (by omega) (by simp only [List.length_cons, List.length_nil]; omega) (fun v hv => ?_) fun v1 hv1 => ?_
      · simp only [List.mem_cons, List.not_mem_nil, or_false] at hv
        rcases hv with rfl | rfl | rfl | rfl
        · exact ⟨.non, rfl⟩
        · exact ⟨.int _, rfl⟩
        · exact ⟨.bl _, rfl⟩
        · exact ⟨.lst (sD _ _ aC), rfl⟩
      refine rIxA_t (v := .int x.rows) (SqT.of t2) rfl (rIxA_t (v := .str x.kind) (SqT.of t2) rfl ⟨by decide, fun p4 hp4 => ?_⟩)
      have sE : Same HD (upd HD p4 (.tup [v1, .int x.rows, .str x.kind])) := Same.upd hp4
      exact q _ _ (s1.trans (sC.trans (sD.trans sE))) (.part upd_same (hv1.1.same sE) (.int _) (.str _) (by rw [hv1.2, Bool.false_and]))
    · refine rIxA_t (v := .str (S x.name)) (SqT.of t1) rfl ⟨by decide, fun p2 hp2 => ⟨by decide, fun p3 hp3 => ?_⟩⟩
      have sC : Same HB (upd HB p2 (.lst [V.int 3])) := Same.upd hp2
      have aC : upd HB p2 (.lst [V.int 3]) p2 = some (.lst [V.int 3]) := upd_same
      generalize upd HB p2 (.lst [V.int 3]) = HC at sC aC hp3 ⊢
      have sD : Same HC (upd HC p3 (.lst [V.non, V.str (Str.ofString "3"), V.bl true, V.ref p2])) := Same.upd hp3
      have aD : upd HC p3 (.lst [V.non, V.str (Str.ofString "3"), V.bl true, V.ref p2]) p3 = some (.lst [V.non, V.str (Str.ofString "3"), V.bl true, V.ref p2]) := upd_same
      generalize upd HC p3 (.lst [V.non, V.str (Str.ofString "3"), V.bl true, V.ref p2]) = HD at sD aD ⊢
      have t2 := sD _ _ (sC _ _ t1)
      refine rIxA_pick (fun v => Thg HD v ∧ wholeV v 1 9 = false) (.inl (.inl aD)) (by omega) (by simp only [List.length_cons, List.length_nil]; omega) (fun v hv => ?_) fun v1 hv1 => ?_
      · simp only [List.mem_cons, List.not_mem_nil, or_false] at hv
        rcases hv with rfl | rfl | rfl | rfl
        · exact ⟨.non, rfl⟩
        · exact ⟨by rw [show Str.ofString "3" = S [51] by decide +kernel]; exact .str _ (by decide), rfl⟩
        · exact ⟨.bl _, rfl⟩
        · exact ⟨.lst (sD _ _ aC), rfl⟩
      refine rIxA_t (v := .str x.kind) (SqT.of t2) rfl ⟨by decide, fun p4 hp4 => ?_⟩
      have sE : Same HD (upd HD p4 (.tup [.str (S x.name), v1, .str x.kind])) := Same.upd hp4
      exact q _ _ (s1.trans (sC.trans (sD.trans sE))) (.part upd_same (.str _ (by omega)) (hv1.1.same sE) (.str _) (by rw [hv1.2, Bool.false_and, Bool.and_false]))
    · refine rIxA_t (v := .str (S x.name)) (SqT.of t1) rfl (rIxA_t (v := .int x.rows) (SqT.of t1) rfl ⟨by decide, fun p2 hp2 => ?_⟩)
      have sC : Same HB (upd HB p2 (.lst [V.str (Str.ofString "table")])) := Same.upd hp2
      have aC : upd HB p2 (.lst [V.str (Str.ofString "table")]) p2 = some (.lst [V.str (Str.ofString "table")]) := upd_same
      generalize upd HB p2 (.lst [V.str (Str.ofString "table")]) = HC at sC aC ⊢
      refine rIxA_t (v := .str x.kind) (SqT.of (sC _ _ t1)) rfl ?_
      obtain ⟨kl, ekl, kb, kz⟩ : ∃ kl, x.kind = S kl ∧ kindV (.str (S (kl ++ [32]))) = false ∧ kl.length ≤ 10 := by
        rcases hk with e | e
        · exact ⟨[116, 97, 98, 108, 101], by rw [e]; decide +kernel, by decide +kernel, by decide⟩
        · exact ⟨[115, 116, 114, 101, 97, 109], by rw [e]; decide +kernel, by decide +kernel, by decide⟩
      rw [ekl, rPlus_ss]
      refine ⟨kl, [32], rfl, by decide +kernel, Nat.le_trans (show _ ≤ 20 by simp only [List.length_cons, List.length_nil]; omega) (by decide), by decide, fun p3 hp3 => ?_⟩
      have sD : Same HC (upd HC p3 (.lst [V.non, V.int 5, V.bl true, V.ref p2, V.str (S (kl ++ [32]))])) := Same.upd hp3
      have aD : upd HC p3 (.lst [V.non, V.int 5, V.bl true, V.ref p2, V.str (S (kl ++ [32]))]) p3 = some (.lst [V.non, V.int 5, V.bl true, V.ref p2, V.str (S (kl ++ [32]))]) := upd_same
      generalize upd HC p3 (.lst [V.non, V.int 5, V.bl true, V.ref p2, V.str (S (kl ++ [32]))]) = HD at sD aD ⊢
      refine rIxA_pick (fun v => KThg HD v ∧ kindV v = false) (.inl (.inl aD)) (by omega) (by simp only [List.length_cons, List.length_nil]; omega) (fun v hv => ?_) fun v1 hv1 => ⟨by decide, fun p4 hp4 => ?_⟩
      · simp only [List.mem_cons, List.not_mem_nil, or_false] at hv
        rcases hv with rfl | rfl | rfl | rfl | rfl
        · exact ⟨.non, rfl⟩
        · exact ⟨.int _, rfl⟩
        · exact ⟨.bl _, rfl⟩
        · exact ⟨.lst (sD _ _ aC), rfl⟩
        · exact ⟨.str _, kb⟩
      have sE : Same HD (upd HD p4 (.tup [.str (S x.name), .int x.rows, v1])) := Same.upd hp4
      exact q _ _ (s1.trans (sC.trans (sD.trans sE))) (.part upd_same (.str _ (by omega)) (.int _) (hv1.1.same sE) (by rw [hv1.2, Bool.and_false, Bool.and_false]))
theorem ok_l_no_row (T : Txt K mg a) : FnOk P w K mg base CX0 5 a.f_l_no_row a.d_l_no_row ["_law_made", "_law_row"] (sp_no_row5 a.C_Shelves) := by
  refine T.F_l_no_row.ok sc_l_no_row (fun vs H Q E h => ?_) (fun cdv A outer s H vs Q E hr h => ?_)
  · obtain ⟨s, l, xs, r, rfl, _⟩ := h
    rfl
  · obtain ⟨s, l, xs, r, rfl, R, ok, hno, q⟩ := h
    refine ⟨_, (pss_cons (ps_set (i := 2) sc_l_no_row.nd rfl (Or.inl rfl) pe_non)
      (pss_cons (ps_set (i := 3) sc_l_no_row.nd rfl (Or.inl rfl) pe_non)
      (pss_cons (ps_try (pss_one (ps_expr (pe_meth (pv 0) T.cl_Shelves T.M_Shelves_shelf_at (ok_Shelves_shelf_at T) (hr.mono (by decide)) T.b_Shelves_shelf_at .nil passv0 (pa_cons (pv 1) pa_nil))))
      (pxs_one (px_expr (px_meth (pv 0) T.cl_Shelves T.M_Shelves_shelf_at (ok_Shelves_shelf_at T) (hr.mono (by decide)) T.b_Shelves_shelf_at .nil (pa_cons (pv 1) pa_nil))))
      (ph_as (i := 4) rfl T.mg_NoSuch sc_l_no_row.nd rfl rfl (fun ea => (pss_one (ps_set (i := 2) sc_l_no_row.nd rfl (Or.inl rfl) (pe_xfldK (K := K) (pv 4) rfl))))
      ph_nil))
      (pss_cons (ps_try (pss_one (ps_expr (pe_meth (pv 0) T.cl_Shelves T.M_Shelves_kind_at (ok_Shelves_kind_at T) (hr.mono (by decide)) T.b_Shelves_kind_at .nil passv0 (pa_cons (pv 1) pa_nil))))
      (pxs_one (px_expr (px_meth (pv 0) T.cl_Shelves T.M_Shelves_kind_at (ok_Shelves_kind_at T) (hr.mono (by decide)) T.b_Shelves_kind_at .nil (pa_cons (pv 1) pa_nil))))
      (ph_as (i := 4) rfl T.mg_NoSuch sc_l_no_row.nd rfl rfl (fun ea => (pss_one (ps_set (i := 3) sc_l_no_row.nd rfl (Or.inl rfl) (pe_xfldK (K := K) (pv 4) rfl))))
      ph_nil))
      (pss_one (ps_ret (pe_and (pe_call (ok_l_whole T) (hr.mono (by decide)) rfl T.m_l_whole T.F_l_whole.kp T.b_l_whole .nil pass0 (pa_cons (pv 2) (pa_cons (pv 1) pa_nil))) (pe_one (pe_call (ok_l_whole T) (hr.mono (by decide)) rfl T.m_l_whole T.F_l_whole.kp T.b_l_whole .nil pass0 (pa_cons (pv 3) (pa_cons (pv 1) pa_nil))))))))))), ?_⟩
    refine cut3 fun Rz hRz => ?_
    walk_at "rd"
    obtain ⟨dx, hs⟩ := R.obj
    refine .inr ⟨XG H a.C_NoSuch [("name", .int r)], ⟨dx, _, hs, rfl, l, xs, R, ok, ⟨hno, xb_xg⟩⟩, fun C dy H' ea g hea => ?_⟩
    obtain ⟨rfl, sm, ge, gd⟩ := g.at hea
    rcases gd with ⟨_, z⟩ | ⟨d, rfl, gd⟩
    · cases z
    generalize upd H' ea (xh ea a.C_NoSuch (some d)) = H1 at sm ge gd ⊢
    refine ⟨T.em_NoSuch_NoSuch, _, d, ge, _, gd, T.x_NoSuch, T.no_NoSuch_name, _, rfl, ?_⟩
    have R1 : ShAt a.C_Shelves H1 s l xs := R.chg (A := []) (Chg.of_same sm) (by simp) (by simp)
    rw [hRz]
    clear hRz
    walk_at "rd"
    refine .inr ⟨XG H1 a.C_NoSuch [("name", .int r)], ⟨dx, _, sm _ _ hs, rfl, l, xs, R1, ok, ⟨hno, xb_xg⟩⟩, fun C dy H' ea2 g2 hea2 => ?_⟩
    obtain ⟨rfl, sm2, ge2, gd2⟩ := g2.at hea2
    rcases gd2 with ⟨_, z⟩ | ⟨d2, rfl, gd2⟩
    · cases z
    generalize upd H' ea2 (xh ea2 a.C_NoSuch (some d2)) = H2 at sm2 ge2 gd2 ⊢
    refine ⟨T.em_NoSuch_NoSuch, _, d2, ge2, _, gd2, T.x_NoSuch, T.no_NoSuch_name, _, rfl, ?_⟩
    refine ⟨r, rfl, ?_⟩
    rw [decide_eq_true rfl]
    exact q H2 (sm.trans sm2)
theorem ok_l_spoiled (T : Txt K mg a) : FnOk P w K mg base CX0 3 a.f_l_spoiled a.d_l_spoiled ["_law_shelves_here", "_law_cell"] sp_spoiled5 := by
  refine T.F_l_spoiled.ok sc_l_spoiled (fun vs H Q E h => ?_) (fun cdv A outer s H vs Q E hr h => ?_)
  · obtain ⟨p, c, c2, rfl, _⟩ := h
    rfl
  · obtain ⟨p, c, c2, rfl, hl, q⟩ := h
    refine ⟨_, (pss_cons (ps_set (i := 2) sc_l_spoiled.nd rfl (Or.inl rfl) (pe_op op_mod (pe_call (ok_l_mixed T) (hr.mono (by decide)) rfl T.m_l_mixed T.F_l_mixed.kp T.b_l_mixed .nil pass0 (pa_cons (pv 1) (pa_cons pe_int pa_nil))) pe_int))
      (pss_cons (ps_set (i := 3) sc_l_spoiled.nd rfl (Or.inl rfl) (pe_op op_mod (pe_call (ok_l_mixed T) (hr.mono (by decide)) rfl T.m_l_mixed T.F_l_mixed.kp T.b_l_mixed .nil pass0 (pa_cons (pv 1) (pa_cons pe_int pa_nil))) (pe_callB (call_lenK (K := K)) (by rfl) T.n_len boot_len (pa_cons (pv 0) pa_nil))))
      (pss_cons (ps_set (i := 4) sc_l_spoiled.nd rfl (Or.inl rfl) (pe_ix (ix_anyK (K := K) (hU1 hr)) (pv 0) (pv 3) (fun _ _ => rfl)))
      (pss_cons (ps_set (i := 5) sc_l_spoiled.nd rfl (Or.inl rfl) (pe_lst (pa_cons (pe_ix (ix_anyK (K := K) (hU1 hr)) (pv 4) pe_int (fun _ _ => rfl)) (pa_cons (pe_ix (ix_anyK (K := K) (hU1 hr)) (pv 4) pe_int (fun _ _ => rfl)) (pa_cons (pe_ix (ix_anyK (K := K) (hU1 hr)) (pv 4) pe_int (fun _ _ => rfl)) pa_nil)))))
      (pss_cons (ps_if (pt_cmpR (op_eqK (K := K) (hU hr)) (pv 2) pe_int (nomark _)) (pss_one (ps_ret (pe_lst pa_nil))) pss_nil)
      (pss_cons (ps_if (pt_cmpR (op_eqK (K := K) (hU hr)) (pv 2) pe_int (nomark _)) (pss_one (ps_ret (pe_comp ["_law_shelves_here", "_law_cell", "_law_way", "_law_at", "_law_one", "_law_worse"] ["_law_shelves_here", "_law_cell", "_law_way", "_law_at", "_law_one", "_law_worse"] (defScope s_l_spoiled) (by exact ⟨rfl, by decide +kernel, by decide +kernel, by decide +kernel, by decide +kernel, by decide +kernel, by decide +kernel, by decide +kernel, by decide +kernel⟩) (pi_anyK (K := K) (pe_call (ok_l_names T) (hr.mono (by decide)) rfl T.m_l_names T.F_l_names.kp T.b_l_names .nil pass0 (pa_cons (pv 1) (pa_cons pe_int pa_nil)))) (fun C₁ s₁ H₁ f₁ => (pe_tup (pa_cons (pv 0) (pa_cons pe_int (pa_cons pe_str pa_nil)))))))) pss_nil)
      (pss_cons (ps_if (pt_cmpR (op_eqK (K := K) (hU hr)) (pv 2) pe_int (nomark _)) (pss_one (ps_ret (pe_callTy (call_tupleK (K := K)) rfl T.n_tuple boot_tuple (pa_cons (pv 0) pa_nil)))) pss_nil)
      (pss_cons (ps_if (pt_cmpR (op_eqK (K := K) (hU hr)) (pv 2) pe_int (nomark _)) (pss_one (ps_set (i := 5) sc_l_spoiled.nd rfl (Or.inl rfl) (pe_tup (pa_cons (pe_ix (ix_anyK (K := K) (hU1 hr)) (pv 4) pe_int (fun _ _ => rfl)) (pa_cons (pe_ix (ix_anyK (K := K) (hU1 hr)) (pv 4) pe_int (fun _ _ => rfl)) pa_nil))))) pss_nil)
      (pss_cons (ps_if (pt_cmpR (op_eqK (K := K) (hU hr)) (pv 2) pe_int (nomark _)) (pss_one (ps_set (i := 5) sc_l_spoiled.nd rfl (Or.inl rfl) (pe_tup (pa_cons (pe_ix (ix_anyK (K := K) (hU1 hr)) (pv 4) pe_int (fun _ _ => rfl)) (pa_cons (pe_ix (ix_anyK (K := K) (hU1 hr)) (pe_lst (pa_cons pe_int (pa_cons pe_int pa_nil))) (pe_op op_mod (pe_call (ok_l_mixed T) (hr.mono (by decide)) rfl T.m_l_mixed T.F_l_mixed.kp T.b_l_mixed .nil pass0 (pa_cons (pv 1) (pa_cons pe_int pa_nil))) pe_int) (fun _ _ => rfl)) (pa_cons (pe_ix (ix_anyK (K := K) (hU1 hr)) (pv 4) pe_int (fun _ _ => rfl)) pa_nil)))))) pss_nil)
      (pss_cons (ps_if (pt_cmpR (op_eqK (K := K) (hU hr)) (pv 2) pe_int (nomark _)) (pss_one (ps_set (i := 5) sc_l_spoiled.nd rfl (Or.inl rfl) (pe_tup (pa_cons (pe_ix (ix_anyK (K := K) (hU1 hr)) (pe_lst (pa_cons pe_str (pa_cons (pe_op op_mulA pe_str pe_int) (pa_cons pe_str (pa_cons pe_str (pa_cons pe_str pa_nil)))))) (pe_op op_mod (pe_call (ok_l_mixed T) (hr.mono (by decide)) rfl T.m_l_mixed T.F_l_mixed.kp T.b_l_mixed .nil pass0 (pa_cons (pv 1) (pa_cons pe_int pa_nil))) pe_int) (fun _ _ => rfl)) (pa_cons (pe_ix (ix_anyK (K := K) (hU1 hr)) (pv 4) pe_int (fun _ _ => rfl)) (pa_cons (pe_ix (ix_anyK (K := K) (hU1 hr)) (pv 4) pe_int (fun _ _ => rfl)) pa_nil)))))) pss_nil)
      (pss_cons (ps_if (pt_cmpR (op_eqK (K := K) (hU hr)) (pv 2) pe_int (nomark _)) (pss_one (ps_set (i := 5) sc_l_spoiled.nd rfl (Or.inl rfl) (pe_tup (pa_cons (pe_ix (ix_anyK (K := K) (hU1 hr)) (pv 4) pe_int (fun _ _ => rfl)) (pa_cons (pe_ix (ix_anyK (K := K) (hU1 hr)) (pv 4) pe_int (fun _ _ => rfl)) (pa_cons (pe_ix (ix_anyK (K := K) (hU1 hr)) (pe_lst (pa_cons pe_str (pa_cons pe_str (pa_cons pe_str pa_nil)))) (pe_op op_mod (pe_call (ok_l_mixed T) (hr.mono (by decide)) rfl T.m_l_mixed T.F_l_mixed.kp T.b_l_mixed .nil pass0 (pa_cons (pv 1) (pa_cons pe_int pa_nil))) pe_int) (fun _ _ => rfl)) pa_nil)))))) pss_nil)
      (pss_cons (ps_if (pt_cmpR (op_eqK (K := K) (hU hr)) (pv 2) pe_int (nomark _)) (pss_one (ps_ret (pe_op (op_plusK (K := K)) (pe_slice (sl_anyK (K := K)) (pv 0) po_none (po_some pe_int)) (pe_lst (pa_cons (pe_ix (ix_anyK (K := K) (hU1 hr)) (pv 0) (pe_op op_mod (pv 3) pe_int) (fun _ _ => rfl)) pa_nil))))) pss_nil)
      (pss_cons (ps_if (pt_cmpR (op_eqK (K := K) (hU hr)) (pv 2) pe_int (nomark _)) (pss_one (ps_ret (pe_ix (ix_anyK (K := K) (hU1 hr)) (pe_lst (pa_cons pe_non (pa_cons pe_int (pa_cons pe_str (pa_cons pe_dnewK (pa_cons pe_bl pa_nil)))))) (pe_op op_mod (pe_call (ok_l_mixed T) (hr.mono (by decide)) rfl T.m_l_mixed T.F_l_mixed.kp T.b_l_mixed .nil pass0 (pa_cons (pv 1) (pa_cons pe_int pa_nil))) pe_int) (fun _ _ => rfl)))) pss_nil)
      (pss_cons (ps_if (pt_cmpR (op_eqK (K := K) (hU hr)) (pv 2) pe_int (nomark _)) (pss_one (ps_set (i := 5) sc_l_spoiled.nd rfl (Or.inl rfl) (pe_call (ok_l_odd_shelf T) (hr.mono (by decide)) rfl T.m_l_odd_shelf T.F_l_odd_shelf.kp T.b_l_odd_shelf .nil pass0 (pa_cons (pv 4) (pa_cons (pe_call (ok_l_mixed T) (hr.mono (by decide)) rfl T.m_l_mixed T.F_l_mixed.kp T.b_l_mixed .nil pass0 (pa_cons (pv 1) (pa_cons pe_int pa_nil))) pa_nil))))) pss_nil)
      (pss_one (ps_ret (pe_op (op_plusK (K := K)) (pe_op (op_plusK (K := K)) (pe_slice (sl_anyK (K := K)) (pv 0) po_none (po_some (pv 3))) (pe_lst (pa_cons (pv 5) pa_nil))) (pe_slice (sl_anyK (K := K)) (pv 0) (po_some (pe_op (op_plusK (K := K)) (pv 3) pe_int)) po_none)))))))))))))))))), ?_⟩
    have xok := xs5_ok c
    have o1 := xok.lo
    have o2 := xok.hi
    generalize xs5 c = xs at hl xok o1 o2
    obtain ⟨ts, e, hT⟩ := id hl
    have tl : ts.length = xs.length := by rw [hT.length, List.length_map]
    refine cut4 fun Rz hRz => ?_
    walk_at "rd"
    refine rLen_l (.inl (.inl e)) ⟨_, rfl, by rw [List.length_map]; omega, ?_⟩
    rw [List.length_map, tl]
    obtain ⟨wy, hwy⟩ : ∃ wy, mixN c2 2 % 11 = wy := ⟨_, rfl⟩
    have m1 := Int.emod_nonneg (mixN c2 3) (show (xs.length : Int) ≠ 0 by omega)
    have m2 := Int.emod_lt_of_pos (mixN c2 3) (show (0 : Int) < (xs.length : Int) by omega)
    obtain ⟨k, hk⟩ : ∃ k : Nat, mixN c2 3 % (xs.length : Int) = k := ⟨(mixN c2 3 % (xs.length : Int)).toNat, by omega⟩
    have hkl : k < xs.length := by omega
    have w1 : 0 ≤ wy ∧ wy < 11 := by omega
    rw [hwy, hk]
    obtain ⟨x, hx⟩ : ∃ x, xs[k]? = some x := ⟨xs[k], List.getElem?_eq_getElem hkl⟩
    obtain ⟨t, ht⟩ : ∃ t, ts[k]? = some t := ⟨ts[k]'(by omega), List.getElem?_eq_getElem (by omega)⟩
    obtain ⟨ys, hy1, hy2⟩ := hT.get ht
    rw [List.getElem?_map, hx] at hy1
    cases hy1
    have okx := xok.each x (List.mem_of_getElem? hx)
    have tt : SqT K H t x.v := SqT.of hy2
    refine rIxA_l (v := .ref t) (.inl (.inl e)) (atI_nat (by rw [List.getElem?_map, ht]; rfl)) ?_
    refine rIxA_t (v := .str (S x.name)) tt rfl (rIxA_t (v := .int x.rows) tt rfl (rIxA_t (v := .str x.kind) tt rfl ⟨by decide, fun w0 hw0 => ?_⟩))
    have s0 : Same H (upd H w0 (.lst [V.str (S x.name), V.int x.rows, V.str x.kind])) := Same.upd hw0
    have a0 : upd H w0 (.lst [V.str (S x.name), V.int x.rows, V.str x.kind]) w0 = some (.lst [V.str (S x.name), V.int x.rows, V.str x.kind]) := upd_same
    generalize upd H w0 (.lst [V.str (S x.name), V.int x.rows, V.str x.kind]) = H0 at s0 a0 ⊢
    have t0 : H0 t = some (.tup x.v) := s0 _ _ hy2
    have e0 := s0 _ _ e
    rw [hRz]
    clear hRz
    refine cut1 fun R1 hR1 => ?_
    walk_at "rd"
    refine ite2 (fun _ => ⟨by decide, fun l hl => q _ _ (s0.trans (Same.upd hl)) (.size upd_same (.inl (by decide)) (by decide))⟩) (fun _ => ?_)
    rw [hR1]
    clear hR1
    refine cut1 fun R2 hR2 => ?_
    walk_at "rd"
    refine ite2 (fun _ => ?_) (fun _ => ?_)
    · refine ⟨7, rfl, by decide, by decide, fun D H1 hD s1 h1 => rAny_l (.inl (.inl h1)) ?_⟩
      have nl : (names5 c2 7).length = 7 := by unfold names5; simp
      refine compW_listI (xs := (names5 c2 7).map fun l => V.str (S l)) (by rw [List.length_map, nl]; decide) (fun D' i ys H' => Same H1 H' ∧ H1 D' = none ∧ H' D' = some (.lst ys) ∧ ys.length = i) (fun D' hD' => ⟨Same.upd hD', hD', upd_same, rfl⟩) (fun D' i ys H' _ ⟨s', _, h', el⟩ => ⟨h', by omega, .inl (.inl (s' _ _ h1))⟩) (fun D' i ys H' y hD' hy ⟨s', _, h', el⟩ Qe qe => ?_) fun D' ys H' hD' ⟨s', _, h', el⟩ => ?_
      · walk_at "rd"
        refine ⟨by decide, fun z hz => qe _ _ ((upd_ne (ne_of_none h' hz)).trans h') ⟨fun b o hb => ?_, hD', upd_same, by rw [List.length_append, el]; rfl⟩⟩
        rw [upd_ne (ne_of_none hb hD'), upd_ne (ne_of_none (s' _ _ hb) hz)]
        exact s' _ _ hb
      · rw [List.length_map, nl] at el
        exact q _ H' (s0.trans (s1.trans s')) (.size h' (.inr (by omega)) (by omega))
    rw [hR2]
    clear hR2
    refine cut1 fun R3 hR3 => ?_
    walk_at "rd"
    refine ite2 (fun _ => ?_) (fun _ => ?_)
    · exact ⟨_, .inl ⟨.inl (.inl e0), fun l hl => q _ _ (s0.trans (Same.upd hl)) (.tup upd_same)⟩⟩
    rw [hR3]
    clear hR3
    refine cut1 fun R4 hR4 => ?_
    have r4 : ∀ v H1, Same H0 H1 → IsShB H1 v false → R4 { nx := fun x H' => Q V.non H', rt := Q } [some (V.ref p), some (V.int c2), some (V.int wy), some (V.int (k : Nat)), some (V.ref t), some v] H1 := by
      intro v H1 s1 hv
      have t1 : SqT K H1 t x.v := SqT.of (s1 _ _ t0)
      rw [hR4]
      clear hR4
      refine cut1 fun R5 hR5 => ?_
      have r5 : ∀ v H1, Same H0 H1 → IsShB H1 v false → R5 { nx := fun x H' => Q V.non H', rt := Q } [some (V.ref p), some (V.int c2), some (V.int wy), some (V.int (k : Nat)), some (V.ref t), some v] H1 := by
        clear hv s1 t1 v H1
        intro v H1 s1 hv
        have t1 : SqT K H1 t x.v := SqT.of (s1 _ _ t0)
        rw [hR5]
        clear hR5
        refine cut1 fun R6 hR6 => ?_
        have r6 : ∀ v H1, Same H0 H1 → IsShB H1 v false → R6 { nx := fun x H' => Q V.non H', rt := Q } [some (V.ref p), some (V.int c2), some (V.int wy), some (V.int (k : Nat)), some (V.ref t), some v] H1 := by
          clear hv s1 t1 v H1
          intro v H1 s1 hv
          have t1 : SqT K H1 t x.v := SqT.of (s1 _ _ t0)
          rw [hR6]
          clear hR6
          refine cut1 fun R7 hR7 => ?_
          have r7 : ∀ v H1, Same H0 H1 → IsShB H1 v false → R7 { nx := fun x H' => Q V.non H', rt := Q } [some (V.ref p), some (V.int c2), some (V.int wy), some (V.int (k : Nat)), some (V.ref t), some v] H1 := by
            clear hv s1 t1 v H1
            intro v H1 s1 hv
            have e1 := s1 _ _ e0
            rw [hR7]
            clear hR7
            refine cut1 fun R8 hR8 => ?_
            walk_at "rd"
            refine ite2 (fun _ => ?_) (fun _ => ?_)
            · have hk5 : k % 5 < xs.length := by omega
              obtain ⟨x5, hx5⟩ : ∃ x5, xs[k % 5]? = some x5 := ⟨xs[k % 5], List.getElem?_eq_getElem hk5⟩
              obtain ⟨t5, ht5⟩ : ∃ t5, ts[k % 5]? = some t5 := ⟨ts[k % 5]'(by omega), List.getElem?_eq_getElem (by omega)⟩
              obtain ⟨y5, hy5, hz5⟩ := hT.get ht5
              rw [List.getElem?_map, hx5] at hy5
              cases hy5
              refine rSlA_l (.inl (.inl e1)) fun b1 hb1 => ?_
              rw [show (5 : Int) = ((5 : Nat) : Int) from rfl, cutV_pre, ← List.map_take]
              have sB : Same H1 (upd H1 b1 (.lst ((ts.take 5).map V.ref))) := Same.upd hb1
              have aB : upd H1 b1 (.lst ((ts.take 5).map V.ref)) b1 = some (.lst ((ts.take 5).map V.ref)) := upd_same
              generalize upd H1 b1 (.lst ((ts.take 5).map V.ref)) = HB at sB aB ⊢
              have ek : ((k : Int) % ((5 : Nat) : Int)) = ((k % 5 : Nat) : Int) := by omega
              rw [ek]
              refine rIxA_l (v := .ref t5) (.inl (.inl (sB _ _ e1))) (atI_nat (by rw [List.getElem?_map, ht5]; rfl)) ⟨by decide, fun b2 hb2 => ?_⟩
              have sC : Same HB (upd HB b2 (.lst [V.ref t5])) := Same.upd hb2
              have aC : upd HB b2 (.lst [V.ref t5]) b2 = some (.lst [V.ref t5]) := upd_same
              generalize upd HB b2 (.lst [V.ref t5]) = HC at sC aC ⊢
              have t5l : (ts.take 5).length ≤ 5 := by rw [List.length_take]; omega
              refine rPlus_l (.inl (.inl (sC _ _ aB))) (.inl (.inl aC)) (by rw [List.length_map]; exact Nat.le_trans (show _ ≤ 10 by simp only [List.length_cons, List.length_nil]; omega) (by decide)) fun b3 hb3 => ?_
              have sD : Same HC (upd HC b3 (.lst ((ts.take 5 ++ [t5]).map V.ref))) := Same.upd hb3
              have eD : (ts.take 5).map V.ref ++ [V.ref t5] = (ts.take 5 ++ [t5]).map V.ref := by rw [List.map_append]; rfl
              rw [eD]
              have sall := s0.trans (s1.trans (sB.trans (sC.trans sD)))
              have x5m : x5 ∈ xs.take 5 := by
                rw [List.mem_take_iff_getElem]
                have h5 : k % 5 < min 5 xs.length := by omega
                exact ⟨k % 5, h5, (List.getElem?_eq_some_iff.mp hx5).2⟩
              refine q _ _ sall (.dup (xs := xs.take 5 ++ [x5]) ⟨ts.take 5 ++ [t5], upd_same, ?_⟩ ?_ ?_ (fun y hy => ?_) fun nd => ?_)
              · have h1 := hT.chg (A := []) (Chg.of_same sall)
                have h2 : TupsAt (upd HC b3 (.lst ((ts.take 5 ++ [t5]).map V.ref))) (ts.take 5) ((xs.take 5).map Shf.v) := by
                  rw [List.map_take]
                  exact Paired.take5 h1 5
                rw [show (xs.take 5 ++ [x5]).map Shf.v = (xs.take 5).map Shf.v ++ [x5.v] by rw [List.map_append]; rfl]
                exact h2.snoc (sall _ _ hz5)
              · rw [List.length_append, List.length_take]; simp only [List.length_cons, List.length_nil]; omega
              · rw [List.length_append, List.length_take]; simp only [List.length_cons, List.length_nil]; omega
              · rcases List.mem_append.mp hy with hy | hy
                · exact xok.each y (List.mem_of_mem_take hy)
                · rw [List.mem_singleton.mp hy]; exact xok.each x5 (List.mem_of_getElem? hx5)
              · rw [List.map_append] at nd
                exact (List.nodup_append.mp nd).2.2 x5.name (List.mem_map.mpr ⟨x5, x5m, rfl⟩) x5.name (by simp) rfl
            rw [hR8]
            clear hR8
            refine cut1 fun R9 hR9 => ?_
            walk_at "rd"
            refine ite2 (fun _ => ?_) (fun _ => ?_)
            · intro b1 hb1
              refine ⟨by decide, fun b2 hb2 => ?_⟩
              have sB : Same H1 (upd H1 b1 (.dK [])) := Same.upd hb1
              have aB : upd H1 b1 (.dK []) b1 = some (.dK []) := upd_same
              generalize upd H1 b1 (.dK []) = HB at sB aB hb2 ⊢
              have sC : Same HB (upd HB b2 (HO.lst [V.non, V.int 5, V.str (Str.ofString "abc"), V.ref b1, V.bl true])) := Same.upd hb2
              have aC : upd HB b2 (HO.lst [V.non, V.int 5, V.str (Str.ofString "abc"), V.ref b1, V.bl true]) b2 = some (HO.lst [V.non, V.int 5, V.str (Str.ofString "abc"), V.ref b1, V.bl true]) := upd_same
              generalize upd HB b2 (HO.lst [V.non, V.int 5, V.str (Str.ofString "abc"), V.ref b1, V.bl true]) = HC at sC aC ⊢
              refine rIxA_pick (fun v => AreB HC v false) (.inl (.inl aC)) (by omega) (by simp only [List.length_cons, List.length_nil]; omega) (fun v hv => ?_) fun v hv => q v HC (s0.trans (s1.trans (sB.trans sC))) hv
              simp only [List.mem_cons, List.not_mem_nil, or_false] at hv
              rcases hv with rfl | rfl | rfl | rfl | rfl
              · exact .non
              · exact .int _
              · exact .str _
              · exact .dic (sC _ _ aB)
              · exact .bl _
            rw [hR9]
            clear hR9
            refine cut1 fun RA hRA => ?_
            have rA : ∀ v H1, Same H0 H1 → IsShB H1 v false → RA { nx := fun x H' => Q V.non H', rt := Q } [some (V.ref p), some (V.int c2), some (V.int wy), some (V.int (k : Nat)), some (V.ref t), some v] H1 := by
              clear hv s1 e1 v H1
              intro v H1 s1 hv
              have e1 := s1 _ _ e0
              rw [hRA]
              clear hRA
              walk_at "rd"
              refine rSlA_l (.inl (.inl e1)) fun b1 hb1 => ⟨by decide, fun b2 hb2 => ?_⟩
              rw [cutV_pre, ← List.map_take] at hb2 ⊢
              have sB : Same H1 (upd H1 b1 (.lst ((ts.take k).map V.ref))) := Same.upd hb1
              have aB : upd H1 b1 (.lst ((ts.take k).map V.ref)) b1 = some (.lst ((ts.take k).map V.ref)) := upd_same
              generalize upd H1 b1 (.lst ((ts.take k).map V.ref)) = HB at sB aB hb2 ⊢
              have sC : Same HB (upd HB b2 (.lst [v])) := Same.upd hb2
              have aC : upd HB b2 (.lst [v]) b2 = some (.lst [v]) := upd_same
              generalize upd HB b2 (.lst [v]) = HC at sC aC ⊢
              have tkl : (ts.take k).length ≤ 6 := by rw [List.length_take]; omega
              refine rPlus_l (.inl (.inl (sC _ _ aB))) (.inl (.inl aC)) (by rw [List.length_map]; exact Nat.le_trans (show _ ≤ 10 by simp only [List.length_cons, List.length_nil]; omega) (by decide)) fun b3 hb3 => ?_
              have sD : Same HC (upd HC b3 (.lst ((ts.take k).map V.ref ++ [v]))) := Same.upd hb3
              have aD : upd HC b3 (.lst ((ts.take k).map V.ref ++ [v])) b3 = some (.lst ((ts.take k).map V.ref ++ [v])) := upd_same
              generalize upd HC b3 (.lst ((ts.take k).map V.ref ++ [v])) = HD at sD aD ⊢
              have s1D := sB.trans (sC.trans sD)
              refine rSlA_l (.inl (.inl (s1D _ _ e1))) fun b4 hb4 => ?_
              rw [show ((k : Int) + 1) = ((k + 1 : Nat) : Int) by omega, cutV_suf, ← List.map_drop]
              have sE : Same HD (upd HD b4 (.lst ((ts.drop (k + 1)).map V.ref))) := Same.upd hb4
              have aE : upd HD b4 (.lst ((ts.drop (k + 1)).map V.ref)) b4 = some (.lst ((ts.drop (k + 1)).map V.ref)) := upd_same
              generalize upd HD b4 (.lst ((ts.drop (k + 1)).map V.ref)) = HE at sE aE ⊢
              have dl : (ts.drop (k + 1)).length = xs.length - (k + 1) := by rw [List.length_drop, tl]
              have kl : (ts.take k).length = k := by rw [List.length_take]; omega
              refine rPlus_l (.inl (.inl (sE _ _ aD))) (.inl (.inl aE)) (Nat.le_trans (show _ ≤ 20 by rw [List.length_append, List.length_map, List.length_map, dl]; simp only [List.length_cons, List.length_nil]; omega) (by decide)) fun b5 hb5 => ?_
              have sF : Same HE (upd HE b5 (.lst ((ts.take k).map V.ref ++ [v] ++ (ts.drop (k + 1)).map V.ref))) := Same.upd hb5
              have s1F := s1D.trans (sE.trans sF)
              have sall := s0.trans (s1.trans s1F)
              have hTF := hT.chg (A := []) (Chg.of_same sall)
              have hvF := hv.same s1F
              have good : ∀ z ∈ ts, IsShB (upd HE b5 (.lst ((ts.take k).map V.ref ++ [v] ++ (ts.drop (k + 1)).map V.ref))) (.ref z) true := fun z hz => by
                obtain ⟨j, hj⟩ := List.getElem?_of_mem hz
                obtain ⟨ys, h1, h2⟩ := hTF.get hj
                rw [List.getElem?_map] at h1
                obtain ⟨y, hy, rfl⟩ := Option.map_eq_some_iff.mp h1
                exact .good h2 (xok.each y (List.mem_of_getElem? hy))
              have len : ((ts.take k).map V.ref ++ [v] ++ (ts.drop (k + 1)).map V.ref).length = xs.length := by
                rw [List.length_append, List.length_append, List.length_map, List.length_map, dl, kl]; simp only [List.length_cons, List.length_nil]; omega
              refine q _ _ sall (.bad (f := fun z => by classical exact if z = v then false else true) upd_same (by rw [len]; omega) (by rw [len]; omega) (fun z hz => ?_) ⟨v, by simp, by simp⟩)
              by_cases zv : z = v
              · rw [if_pos zv, zv]; exact hvF
              · rw [if_neg zv]
                rcases List.mem_append.mp hz with hz | hz
                · rcases List.mem_append.mp hz with hz | hz
                  · obtain ⟨u, hu, rfl⟩ := List.mem_map.mp hz
                    exact good u (List.mem_of_mem_take hu)
                  · exact absurd (List.mem_singleton.mp hz) zv
                · obtain ⟨u, hu, rfl⟩ := List.mem_map.mp hz
                  exact good u (List.mem_of_mem_drop hu)
            walk_at "rd"
            refine ite2 (fun _ => ?_) (fun _ => rA v H1 s1 hv)
            exact ⟨x, s1 _ _ t0, okx, (mixN_bd c2 4).1, fun v2 H2 s2 hv2 => rA v2 H2 (s1.trans s2) hv2⟩
          walk_at "rd"
          refine ite2 (fun _ => ?_) (fun _ => r7 v H1 s1 hv)
          refine rIxA_t (v := .str (S x.name)) t1 rfl (rIxA_t (v := .int x.rows) t1 rfl ⟨by decide, fun b1 hb1 => ?_⟩)
          have sB : Same H1 (upd H1 b1 (HO.lst [V.str (Str.ofString ""), V.str (Str.ofString "Table"), V.str (Str.ofString "streams")])) := Same.upd hb1
          have aB : upd H1 b1 (HO.lst [V.str (Str.ofString ""), V.str (Str.ofString "Table"), V.str (Str.ofString "streams")]) b1 = some (HO.lst [V.str (Str.ofString ""), V.str (Str.ofString "Table"), V.str (Str.ofString "streams")]) := upd_same
          generalize upd H1 b1 (HO.lst [V.str (Str.ofString ""), V.str (Str.ofString "Table"), V.str (Str.ofString "streams")]) = HB at sB aB ⊢
          refine rIxA_pick (fun v => KThg HB v ∧ kindV v = false) (.inl (.inl aB)) (by omega) (by simp only [List.length_cons, List.length_nil]; omega) (fun v hv => ?_) fun v1 hv1 => ⟨by decide, fun b2 hb2 => ?_⟩
          · simp only [List.mem_cons, List.not_mem_nil, or_false] at hv
            rcases hv with rfl | rfl | rfl
            · exact ⟨.str _, by decide +kernel⟩
            · exact ⟨.str _, by decide +kernel⟩
            · exact ⟨.str _, by decide +kernel⟩
          have sE : Same HB (upd HB b2 (.tup [.str (S x.name), .int x.rows, v1])) := Same.upd hb2
          exact r7 _ _ (s1.trans (sB.trans sE)) (.part upd_same (.str _ (by have := okx.1.2.1; omega)) (.int _) (hv1.1.same sE) (by rw [hv1.2, Bool.and_false, Bool.and_false]))
        walk_at "rd"
        refine ite2 (fun _ => ?_) (fun _ => r6 v H1 s1 hv)
        refine ⟨[97], by decide +kernel, by decide, by decide, fun b1 hb1 => ?_⟩
        have sB : Same H1 (upd H1 b1 (HO.lst [V.str (Str.ofString ""), V.str (S (repL 13 [97])), V.str (Str.ofString "A"), V.str (Str.ofString "a b"), V.str (Str.ofString "~")])) := Same.upd hb1
        have aB : upd H1 b1 (HO.lst [V.str (Str.ofString ""), V.str (S (repL 13 [97])), V.str (Str.ofString "A"), V.str (Str.ofString "a b"), V.str (Str.ofString "~")]) b1 = some (HO.lst [V.str (Str.ofString ""), V.str (S (repL 13 [97])), V.str (Str.ofString "A"), V.str (Str.ofString "a b"), V.str (Str.ofString "~")]) := upd_same
        generalize upd H1 b1 (HO.lst [V.str (Str.ofString ""), V.str (S (repL 13 [97])), V.str (Str.ofString "A"), V.str (Str.ofString "a b"), V.str (Str.ofString "~")]) = HB at sB aB ⊢
        refine rIxA_pick (fun v => Thg HB v ∧ formV v 1 12 inN = false) (.inl (.inl aB)) (by omega) (by simp only [List.length_cons, List.length_nil]; omega) (fun v hv => ?_) fun v1 hv1 => ?_
        · simp only [List.mem_cons, List.not_mem_nil, or_false] at hv
          rcases hv with rfl | rfl | rfl | rfl | rfl
          · exact ⟨by rw [show Str.ofString "" = S [] by decide +kernel]; exact .str _ (by decide), by decide +kernel⟩
          · exact ⟨.str _ (by decide +kernel), by decide +kernel⟩
          · exact ⟨by rw [show Str.ofString "A" = S [65] by decide +kernel]; exact .str _ (by decide), by decide +kernel⟩
          · exact ⟨by rw [show Str.ofString "a b" = S [97, 32, 98] by decide +kernel]; exact .str _ (by decide), by decide +kernel⟩
          · exact ⟨by rw [show Str.ofString "~" = S [126] by decide +kernel]; exact .str _ (by decide), by decide +kernel⟩
        have t2 : SqT K HB t x.v := sB.tup t1
        refine rIxA_t (v := .int x.rows) t2 rfl (rIxA_t (v := .str x.kind) t2 rfl ⟨by decide, fun b2 hb2 => ?_⟩)
        have sE : Same HB (upd HB b2 (.tup [v1, .int x.rows, .str x.kind])) := Same.upd hb2
        exact r6 _ _ (s1.trans (sB.trans sE)) (.part upd_same (hv1.1.same sE) (.int _) (.str _) (by rw [hv1.2, Bool.false_and]))
      walk_at "rd"
      refine ite2 (fun _ => ?_) (fun _ => r5 v H1 s1 hv)
      refine rIxA_t (v := .str (S x.name)) t1 rfl ⟨by decide, fun b1 hb1 => ?_⟩
      have sB : Same H1 (upd H1 b1 (HO.lst [V.int 0, V.int 10])) := Same.upd hb1
      have aB : upd H1 b1 (HO.lst [V.int 0, V.int 10]) b1 = some (HO.lst [V.int 0, V.int 10]) := upd_same
      generalize upd H1 b1 (HO.lst [V.int 0, V.int 10]) = HB at sB aB ⊢
      refine rIxA_pick (fun v => Thg HB v ∧ wholeV v 1 9 = false) (.inl (.inl aB)) (by omega) (by simp only [List.length_cons, List.length_nil]; omega) (fun v hv => ?_) fun v1 hv1 => ?_
      · simp only [List.mem_cons, List.not_mem_nil, or_false] at hv
        rcases hv with rfl | rfl
        · exact ⟨.int _, by decide⟩
        · exact ⟨.int _, by decide⟩
      have t2 : SqT K HB t x.v := sB.tup t1
      refine rIxA_t (v := .str x.kind) t2 rfl ⟨by decide, fun b2 hb2 => ?_⟩
      have sE : Same HB (upd HB b2 (.tup [.str (S x.name), v1, .str x.kind])) := Same.upd hb2
      exact r5 _ _ (s1.trans (sB.trans sE)) (.part upd_same (.str _ (by have := okx.1.2.1; omega)) (hv1.1.same sE) (.str _) (by rw [hv1.2, Bool.false_and, Bool.and_false]))
    walk_at "rd"
    refine ite2 (fun _ => ?_) (fun _ => r4 _ H0 (Same.refl _) (.lst a0))
    refine rIxA_t (v := .str (S x.name)) (SqT.of t0) rfl (rIxA_t (v := .int x.rows) (SqT.of t0) rfl ⟨by decide, fun w1 hw1 => r4 _ _ (Same.upd hw1) (.shrt upd_same (show (2 : Nat) ≠ 3 by decide))⟩)

theorem forCut4 {J : It} {g : TG} {t1 t2 t3 t4 tR : TS} {D : Ends} {σ : L2.St} {H : Hp} (h : ∀ R, R = tR → forW J g (tSeq t1 (tSeq t2 (tSeq t3 (tSeq t4 R)))) D σ H) : forW J g (tSeq t1 (tSeq t2 (tSeq t3 (tSeq t4 tR)))) D σ H := h _ rfl
theorem neq_s {K : PySem.W.Frag} {H : Hp} {Q : VK} {x : V} {z : Str} (hx : x = .str z) (q : Q (.bl false) H) : rNeq K x (.str z) H Q := by
  subst hx
  rw [rNeq_ss, decide_eq_true rfl]
  exact q
theorem den_shf {K : PySem.W.Frag} {H : Hp} {p : Addr} {xs : List Shf} (h : LTups H p (xs.map Shf.v)) : Den K H (.ref p) (.list ((xs.map Shf.v).map fun r => .tuple (r.map scalD))) := h.den fun r hr => by
  obtain ⟨x, _, rfl⟩ := List.mem_map.mp hr
  rfl
theorem wd_shf {xs : List Shf} (h : ∀ x ∈ xs, okShf x) : wd 2 (.list ((xs.map Shf.v).map fun r => .tuple (r.map scalD))) := wd_rows fun r hr v hv => by
  obtain ⟨x, hx, rfl⟩ := List.mem_map.mp hr
  have := h x hx
  unfold Shf.v at hv
  simp only [List.mem_cons, List.not_mem_nil, or_false] at hv
  rcases hv with rfl | rfl | rfl
  · show okS (S x.name).cps.toList
    simpa [S] using okS_inN this.1.2.2
  · trivial
  · show okS x.kind.cps.toList
    rcases this.2.2 with e | e
    · rw [e, show (Str.ofString "table").cps.toList = [116, 97, 98, 108, 101] by decide +kernel]
      intro c hc
      simp only [List.mem_cons, List.not_mem_nil, or_false] at hc
      omega
    · rw [e, show (Str.ofString "stream").cps.toList = [115, 116, 114, 101, 97, 109] by decide +kernel]
      intro c hc
      simp only [List.mem_cons, List.not_mem_nil, or_false] at hc
      omega
theorem ok_l_stand (T : Txt K mg a) : FnOk P w K mg base CX0 6 a.f_l_stand a.d_l_stand ["_law_made", "_law_shelves_here", "_law_key"] (sp_stand5 a.C_Shelves) := by
  refine T.F_l_stand.ok sc_l_stand (fun vs H Q E h => ?_) (fun cdv A outer s H vs Q E hr h => ?_)
  · obtain ⟨s, l, p, xs, key, rfl, _⟩ := h
    rfl
  · obtain ⟨s, l, p, xs, key, rfl, R, ok, hl, q⟩ := h
    refine ⟨_, (pss_cons (ps_set (i := 3) sc_l_stand.nd rfl (Or.inl rfl) pe_int)
      (pss_cons (ps_for PassesOwn.never rfl (pi_anyK (K := K) (pv 1)) (pg_tupK (K := K) (n := 3) rfl (pgs_cons (pg_name (i := 4) sc_l_stand.nd rfl (Or.inl rfl)) (pgs_cons (pg_name (i := 5) sc_l_stand.nd rfl (Or.inl rfl)) (pgs_cons (pg_name (i := 6) sc_l_stand.nd rfl (Or.inl rfl)) pgs_nil)))) (pss_cons (ps_set (i := 7) sc_l_stand.nd rfl (Or.inl rfl) (pe_listRange2 rfl rfl T.n_list rfl T.n_range (pa_cons (pv 3) (pa_cons (pe_op (op_plusK (K := K)) (pv 3) (pv 5)) pa_nil))))
      (pss_cons (ps_set (i := 8) sc_l_stand.nd rfl (Or.inl rfl) (pe_meth (pv 0) T.cl_Shelves T.M_Shelves_rows_of (ok_Shelves_rows_of T) (hr.mono (by decide)) T.b_Shelves_rows_of .nil passv0 (pa_cons (pv 4) pa_nil)))
      (pss_cons (ps_if (PW.pt (pw_or (pt_not (pt_truthK (K := K) (pe_callB (call_isinstanceK (K := K)) (by rfl) T.n_isinstance boot_isinstance (pa_cons (pv 8) (pa_cons (pe_bltn (v := .ty "list") rfl T.n_list boot_list rfl) pa_nil))) (by intro _; rfl))) (pw_or1 (pt_cmpR (op_neK (K := K) (hU hr)) (pv 8) (pv 7) (nomark _))))) (pss_one (ps_ret pe_bl)) pss_nil)
      (pss_cons (ps_expr (pe_bmK (K := K) PySem.F.plainAttrs_list PySem.F.slot_list_append PySem.F.type_list_append mt_append (pv 8) (pa_cons pe_int pa_nil)))
      (pss_cons (ps_for PassesOwn.never rfl (pi_anyK (K := K) (pv 7)) (pg_name (i := 9) sc_l_stand.nd rfl (Or.inl rfl)) (pss_one (ps_if (PW.pt (pw_or (pt_cmpR (op_neK (K := K) (hU hr)) (pe_meth (pv 0) T.cl_Shelves T.M_Shelves_shelf_at (ok_Shelves_shelf_at T) (hr.mono (by decide)) T.b_Shelves_shelf_at .nil passv0 (pa_cons (pv 9) pa_nil)) (pv 4) (nomark _)) (pw_or1 (pt_cmpR (op_neK (K := K) (hU hr)) (pe_meth (pv 0) T.cl_Shelves T.M_Shelves_kind_at (ok_Shelves_kind_at T) (hr.mono (by decide)) T.b_Shelves_kind_at .nil passv0 (pa_cons (pv 9) pa_nil)) (pv 6) (nomark _))))) (pss_one (ps_ret pe_bl)) pss_nil)))
      (pss_cons (ps_if (pt_not (pt_truthK (K := K) (pe_call (ok_l_whole T) (hr.mono (by decide)) rfl T.m_l_whole T.F_l_whole.kp T.b_l_whole .nil pass0 (pa_cons (pe_meth (pv 0) T.cl_Shelves T.M_Shelves_row_for (ok_Shelves_row_for T) (hr.mono (by decide)) T.b_Shelves_row_for .nil passv0 (pa_cons (pv 4) (pa_cons (pv 2) pa_nil))) (pa_cons (pe_op (op_plusK (K := K)) (pv 3) (pe_op op_mod (pe_call (ok_l_spread T) (hr.mono (by decide)) rfl T.m_l_spread T.F_l_spread.kp T.b_l_spread .nil pass0 (pa_cons (pv 2) pa_nil)) (pv 5))) pa_nil))) (by intro _; rfl))) (pss_one (ps_ret pe_bl)) pss_nil)
      (pss_one (ps_set (i := 3) sc_l_stand.nd rfl (Or.inl rfl) (pe_op (op_plusK (K := K)) (pv 3) (pv 5)))))))))))
      (pss_cons (ps_set (i := 10) sc_l_stand.nd rfl (Or.inl rfl) (pe_meth0 (pv 0) T.cl_Shelves T.M_Shelves_told (ok_Shelves_told T) (hr.mono (by decide)) T.b_Shelves_told .nil pass0))
      (pss_cons (ps_if (PW.pt (pw_or (pt_not (pt_truthK (K := K) (pe_callB (call_isinstanceK (K := K)) (by rfl) T.n_isinstance boot_isinstance (pa_cons (pv 10) (pa_cons (pe_bltn (v := .ty "list") rfl T.n_list boot_list rfl) pa_nil))) (by intro _; rfl))) (pw_or (pt_cmpR (op_neK (K := K) (hU hr)) (pv 10) (pv 1) (nomark _)) (pw_or1 (pt_not (pt_truthK (K := K) (pe_call (ok_l_whole T) (hr.mono (by decide)) rfl T.m_l_whole T.F_l_whole.kp T.b_l_whole .nil pass0 (pa_cons (pe_meth0 (pv 0) T.cl_Shelves T.M_Shelves_many_rows (ok_Shelves_many_rows T) (hr.mono (by decide)) T.b_Shelves_many_rows .nil pass0) (pa_cons (pv 3) pa_nil))) (by intro _; rfl))))))) (pss_one (ps_ret pe_bl)) pss_nil)
      (pss_cons (ps_expr (pe_bm0K (K := K) PySem.F.plainAttrs_list PySem.F.slot_list_clear PySem.F.type_list_clear mt_clear (pv 10)))
      (pss_one (ps_ret (pe_and (pe_cmpR (op_eqK (K := K) (hU hr)) (pe_meth0 (pv 0) T.cl_Shelves T.M_Shelves_told (ok_Shelves_told T) (hr.mono (by decide)) T.b_Shelves_told .nil pass0) (pv 1) (nomark _)) (pe_and (pe_call (ok_l_no_row T) (hr.mono (by decide)) rfl T.m_l_no_row T.F_l_no_row.kp T.b_l_no_row .nil pass0 (pa_cons (pv 0) (pa_cons (pv 3) pa_nil))) (pe_one (pe_call (ok_l_no_row T) (hr.mono (by decide)) rfl T.m_l_no_row T.F_l_no_row.kp T.b_l_no_row .nil pass0 (pa_cons (pv 0) (pa_cons (pe_op (op_plusK (K := K)) (pv 3) pe_int) pa_nil))))))))))))), ?_⟩
    obtain ⟨dx, hs⟩ := R.obj
    obtain ⟨ts, e, hT⟩ := id hl
    have tl : ts.length = xs.length := by rw [hT.length, List.length_map]
    have o2 := ok.hi
    have h9 : ∀ y ∈ xs, y.rows ≤ 9 := fun y hy => (ok.each y hy).2.1.2
    refine cut2 fun Rz hRz => ?_
    walk_at "rd"
    refine rAny_l (.inl (.inl e)) (forCut4 fun R4 hR4 => forW_list (xs := ts.map V.ref) (fun i σ H' => Same H H' ∧ ∃ v4 v5 v6 v7 v8 v9 v10, σ = [some (V.ref s), some (V.ref p), some (V.str (S key)), some (V.int (startOf xs i : Nat)), v4, v5, v6, v7, v8, v9, v10]) ⟨Same.refl _, none, none, none, none, none, none, none, rfl⟩ (fun i σ H' _ ⟨s', _⟩ => .inl (.inl (s' _ _ e))) ?_ ?_)
    · rintro i y σ H1 hy ⟨s1, v4, v5, v6, v7, v8, v9, v10, rfl⟩
      rw [List.getElem?_map] at hy
      obtain ⟨t, hti, rfl⟩ := Option.map_eq_some_iff.mp hy
      obtain ⟨ys, h1, h2⟩ := hT.get hti
      rw [List.getElem?_map] at h1
      obtain ⟨x, hxi, rfl⟩ := Option.map_eq_some_iff.mp h1
      have okx := ok.each x (List.mem_of_getElem? hxi)
      have r9 := okx.2.1
      have hil := (List.getElem?_eq_some_iff.mp hxi).1
      have hb := startOf_le h9 i
      have es := startOf_succ hxi
      have R1 : ShAt a.C_Shelves H1 s l xs := R.chg (A := []) (Chg.of_same s1) (by simp) (by simp)
      refine ⟨t, [.str (S x.name), .int x.rows, .str x.kind], rfl, SqT.of (s1 _ _ h2), rfl, ?_⟩
      walk_at "rd"
      refine ⟨by omega, by omega, by omega, by omega, ?_, fun w1 hw1 => ?_⟩
      · have : (9 : Int) ≤ sizeLine := by decide
        have := okx.2.1.2
        omega
      have em : ((startOf xs i : Nat) : Int) + (x.rows : Int) - ((startOf xs i : Nat) : Int) = (x.rows : Int) := by omega
      rw [em, Int.toNat_natCast]
      have sB : Same H1 (upd H1 w1 (.lst (rngV (startOf xs i) x.rows))) := Same.upd hw1
      have aB : upd H1 w1 (.lst (rngV (startOf xs i) x.rows)) w1 = some (.lst (rngV (startOf xs i) x.rows)) := upd_same
      generalize upd H1 w1 (.lst (rngV (startOf xs i) x.rows)) = HB at sB aB ⊢
      have RB : ShAt a.C_Shelves HB s l xs := R1.chg (A := []) (Chg.of_same sB) (by simp) (by simp)
      refine ⟨dx, _, sB _ _ (s1 _ _ hs), rfl, l, xs, RB, ok, .inl ⟨i, x, hxi, rfl, fun D HC hD sC hC => ?_⟩⟩
      refine (isi_lst_list hC).mpr ⟨_, rfl, ?_⟩
      rw [if_neg (by decide)]
      have aC := sC _ _ aB
      have rl : (rngV (startOf xs i) x.rows).length = x.rows := by simp [rngV]
      have dR : ∀ z, HC z = some (.lst (rngV (startOf xs i) x.rows)) → Den K HC (.ref z) (.list (((List.range x.rows).map fun (j : Nat) => ((startOf xs i : Nat) : Int) + (j : Int)).map PyData.int)) := fun z hz => den_ints (.inl (.inl (by rw [hz]; unfold rngV; rw [List.map_map]; rfl)))
      refine rNeq_same (dR D hC) (dR w1 aC) (wd_ints _) rfl ⟨_, rfl, ?_⟩
      rw [if_neg (by decide)]
      refine ⟨.inl ⟨_, .inl (.inl hC)⟩, _, hC, by rw [rl]; exact Nat.lt_of_le_of_lt r9.2 (by decide), ?_⟩
      have nDw : D ≠ w1 := Ne.symm (ne_of_none aB hD)
      have s1C := s1.trans (sB.trans sC)
      have hD0 : H D = none := same_back (s1.trans sB) hD
      have sD : Same H (upd HC D (.lst (rngV (startOf xs i) x.rows ++ [V.int 0]))) := fun b o hb => (upd_ne (ne_of_none hb hD0)).trans (s1C _ _ hb)
      have aD : upd HC D (.lst (rngV (startOf xs i) x.rows ++ [V.int 0])) w1 = some (.lst (rngV (startOf xs i) x.rows)) := (upd_ne (Ne.symm nDw)).trans aC
      generalize upd HC D (.lst (rngV (startOf xs i) x.rows ++ [V.int 0])) = HD at sD aD ⊢
      have RD : ShAt a.C_Shelves HD s l xs := R.chg (A := []) (Chg.of_same sD) (by simp) (by simp)
      rw [hR4]
      clear hR4
      refine cut1 fun R5 hR5 => ?_
      walk_at "rd"
      refine rAny_l (.inl (.inl aD)) (forW_list (xs := rngV (startOf xs i) x.rows) (fun j σ H' => H' = HD ∧ ∃ v9, σ = [some (V.ref s), some (V.ref p), some (V.str (S key)), some (V.int (startOf xs i : Nat)), some (V.str (S x.name)), some (V.int x.rows), some (V.str x.kind), some (V.ref w1), some (V.ref D), v9, v10]) ⟨rfl, v9, rfl⟩ (fun j σ H' _ ⟨z, _⟩ => by rw [z]; exact .inl (.inl aD)) ?_ ?_)
      · rintro j y σ H' hy ⟨rfl, v9, rfl⟩
        obtain ⟨hj, rfl⟩ := rngV_get hy
        walk_at "rd"
        refine ⟨dx, _, sD _ _ hs, rfl, l, xs, RD, ok, .inl ⟨i, x, hxi, by omega, by rw [es]; omega, ?_⟩⟩
        refine neq_s rfl ⟨_, rfl, ?_⟩
        rw [if_neg (by decide)]
        refine ⟨dx, _, sD _ _ hs, rfl, l, xs, RD, ok, .inl ⟨i, x, hxi, by omega, by rw [es]; omega, ?_⟩⟩
        refine neq_s rfl ⟨_, rfl, ?_⟩
        rw [if_neg (by decide)]
      · rintro σ H' ⟨rfl, v9, rfl⟩
        show R5 _ _ _
        rw [hR5]
        clear hR5
        walk_at "rd"
        refine ⟨dx, _, sD _ _ hs, rfl, l, xs, RD, ok, .inl ⟨i, x, hxi, rfl, fun HE sE HF sF => ⟨by omega, ?_⟩⟩⟩
        have hr0 : ((rowNo xs i x key : Nat) : Int) = ((startOf xs i : Nat) : Int) + K02.lspreadN key % (x.rows : Int) := by
          have h0 : 0 ≤ sprN key % (x.rows : Int) := Int.emod_nonneg _ (by omega)
          unfold rowNo
          rw [← spr_eq]
          push_cast
          omega
        rw [if_neg (fun z => z hr0)]
        refine ⟨sD.trans (sE.trans sF), ?_⟩
        rw [es]
        push_cast
        rfl
    · rintro σ H1 ⟨s1, v4, v5, v6, v7, v8, v9, v10, rfl⟩
      rw [List.length_map, tl]
      show Rz { nx := fun x H' => Q V.non H', rt := Q } _ _
      rw [hRz]
      clear hRz
      walk_at "rd"
      have R1 : ShAt a.C_Shelves H1 s l xs := R.chg (A := []) (Chg.of_same s1) (by simp) (by simp)
      refine ⟨dx, _, s1 _ _ hs, rfl, l, xs, R1, fun D H2 hD s2 h2 => ?_⟩
      obtain ⟨ts2, e2, hT2⟩ := id h2
      refine (isi_lst_list e2).mpr ⟨_, rfl, ?_⟩
      rw [if_neg (by decide)]
      have hl2 := hl.same (s1.trans s2)
      refine rNeq_same (den_shf h2) (den_shf hl2) (wd_shf ok.each) rfl ⟨_, rfl, ?_⟩
      rw [if_neg (by decide)]
      have R2 : ShAt a.C_Shelves H2 s l xs := R1.chg (A := []) (Chg.of_same s2) (by simp) (by simp)
      refine ⟨dx, _, s2 _ _ (s1 _ _ hs), rfl, l, xs, R2, by omega, fun H3 s3 => ?_⟩
      rw [if_neg (fun z => z rfl)]
      have e3 := s3 _ _ e2
      have hD0 : H D = none := same_back s1 hD
      have s03 := s1.trans (s2.trans s3)
      refine ⟨.inl ⟨_, .inl (.inl e3)⟩, ?_⟩
      refine ⟨D, _, rfl, rfl, e3, ?_⟩
      have s4 : Same H (upd H3 D (.lst [])) := fun b o hb => (upd_ne (ne_of_none hb hD0)).trans (s03 _ _ hb)
      generalize upd H3 D (.lst []) = H4 at s4 ⊢
      have R4' : ShAt a.C_Shelves H4 s l xs := R.chg (A := []) (Chg.of_same s4) (by simp) (by simp)
      refine ⟨dx, _, s4 _ _ hs, rfl, l, xs, R4', fun D2 H5 hD2 s5 h5 => ?_⟩
      refine rEqq_same (den_shf h5) (den_shf (hl.same (s4.trans s5))) (wd_shf ok.each) rfl ⟨_, rfl, ?_⟩
      rw [if_pos rfl]
      have R5 : ShAt a.C_Shelves H5 s l xs := R4'.chg (A := []) (Chg.of_same s5) (by simp) (by simp)
      refine ⟨l, xs, R5, ok, .inr (Int.le_refl _), fun H6 s6 => ⟨l, xs, R5.chg (A := []) (Chg.of_same s6) (by simp) (by simp), ok, .inr (by omega), fun H7 s7 => q H7 (s4.trans (s5.trans (s6.trans s7)))⟩⟩

theorem ok_law (T : Txt K mg a) : FnOk P w K mg base CX0 8 a.f_law a.d_law ["_law_script"] (sp_law K) := by
  refine T.F_law.ok sc_law (fun vs H Q E h => ?_) (fun cdv A outer s H vs Q E hr h => ?_)
  · obtain ⟨p, ns, rfl, _⟩ := h
    rfl
  · obtain ⟨p, ns, rfl, hS, hlen, q⟩ := h
    refine ⟨_, (pss_cons (ps_set (i := 1) sc_law.nd rfl (Or.inr rfl) (pe_call (ok_l_cell_at T) (hr.mono (by decide)) rfl T.m_l_cell_at T.F_l_cell_at.kp T.b_l_cell_at .nil pass0 (pa_cons (pv 0) (pa_cons pe_int pa_nil))))
      (pss_cons (ps_set (i := 2) sc_law.nd rfl (Or.inl rfl) (pe_call (ok_l_shelves T) (hr.mono (by decide)) rfl T.m_l_shelves T.F_l_shelves.kp T.b_l_shelves .nil pass0 (pa_cons (pv 1) pa_nil)))
      (pss_cons (ps_if (pt_cmpR (op_eqK (K := K) (hU hr)) (pe_op op_mod (pe_call (ok_l_cell_at T) (hr.mono (by decide)) rfl T.m_l_cell_at T.F_l_cell_at.kp T.b_l_cell_at .nil pass0 (pa_cons (pv 0) (pa_cons pe_int pa_nil))) pe_int) pe_int (nomark _)) (pss_one (ps_ret (pe_call (ok_l_refused T) (hr.mono (by decide)) rfl T.m_l_refused T.F_l_refused.kp T.b_l_refused .nil pass0 (pa_cons (pe_call (ok_l_spoiled T) (hr.mono (by decide)) rfl T.m_l_spoiled T.F_l_spoiled.kp T.b_l_spoiled .nil pass0 (pa_cons (pv 2) (pa_cons (pe_call (ok_l_cell_at T) (hr.mono (by decide)) rfl T.m_l_cell_at T.F_l_cell_at.kp T.b_l_cell_at .nil pass0 (pa_cons (pv 0) (pa_cons pe_int pa_nil))) pa_nil))) pa_nil)))) pss_nil)
      (pss_cons (ps_set (i := 3) sc_law.nd rfl (Or.inl rfl) (pe_callTy (call_listK (K := K)) rfl T.n_list boot_list (pa_cons (pv 2) pa_nil)))
      (pss_cons (ps_set (i := 4) sc_law.nd rfl (Or.inl rfl) (pe_make T.k_Shelves (ok_Shelves___init__ T) (hr.mono (by decide)) rfl T.mg_Shelves T.b_Shelves___init__ .nil passv0 (pa_cons (pv 3) pa_nil)))
      (pss_cons (ps_set (i := 5) sc_law.nd rfl (Or.inl rfl) (pe_call (ok_l_cell_at T) (hr.mono (by decide)) rfl T.m_l_cell_at T.F_l_cell_at.kp T.b_l_cell_at .nil pass0 (pa_cons (pv 0) (pa_cons pe_int pa_nil))))
      (pss_cons (ps_set (i := 6) sc_law.nd rfl (Or.inl rfl) (pe_make T.k_Shelves (ok_Shelves___init__ T) (hr.mono (by decide)) rfl T.mg_Shelves T.b_Shelves___init__ .nil passv0 (pa_cons (pe_call (ok_l_shelves T) (hr.mono (by decide)) rfl T.m_l_shelves T.F_l_shelves.kp T.b_l_shelves .nil pass0 (pa_cons (pv 5) pa_nil)) pa_nil)))
      (pss_cons (ps_set (i := 7) sc_law.nd rfl (Or.inl rfl) (pe_cmpR (op_eqK (K := K) (hU hr)) (pv 3) (pv 2) (nomark _)))
      (pss_cons (ps_expr (pe_bm0K (K := K) PySem.F.plainAttrs_list PySem.F.slot_list_clear PySem.F.type_list_clear mt_clear (pv 3)))
      (pss_cons (ps_set (i := 8) sc_law.nd rfl (Or.inl rfl) (pe_op (op_plusK (K := K)) pe_int (pe_op op_mod (pe_call (ok_l_mixed T) (hr.mono (by decide)) rfl T.m_l_mixed T.F_l_mixed.kp T.b_l_mixed .nil pass0 (pa_cons (pv 1) (pa_cons pe_int pa_nil))) pe_int)))
      (pss_cons (ps_set (i := 9) sc_law.nd rfl (Or.inl rfl) (pe_bmK (K := K) PySem.F.plainAttrs_str PySem.F.slot_str_join PySem.F.type_str_join (mt_joinK (K := K)) pe_str (pa_cons (pe_comp ["_law_script", "_law_cell", "_law_shelves_here", "_law_handed", "_law_made", "_law_other", "_law_beside", "_law_stayed", "_law_size", "_law_key", "_law_name"] ["_law_script", "_law_cell", "_law_shelves_here", "_law_handed", "_law_made", "_law_other", "_law_beside", "_law_stayed", "_law_size", "_law_key", "_law_name"] (defScope s_law) (by exact ⟨rfl, by decide +kernel, by decide +kernel, by decide +kernel, by decide +kernel, by decide +kernel, by decide +kernel, by decide +kernel, by decide +kernel⟩) (pi_range1 rfl T.n_range (pa_cons (pv 8) pa_nil)) (fun C₁ s₁ H₁ f₁ => (pe_call (ok_l_sign T) (hr.mono (by decide)) rfl T.m_l_sign T.F_l_sign.kp T.b_l_sign .nil pass0 (pa_cons (pe_call (ok_l_mixed T) (hr.mono (by decide)) rfl T.m_l_mixed T.F_l_mixed.kp T.b_l_mixed .nil pass0 (pa_cons (pv 2) (pa_cons (pe_op (op_plusK (K := K)) pe_int (pv 0)) pa_nil))) (pa_cons pe_int pa_nil))))) pa_nil)))
      (pss_cons (ps_if (PW.pt (pw_or (pt_not (pt_truthK (K := K) (pv 7) (by intro _; rfl))) (pw_or (pt_not (pt_truthK (K := K) (pe_call (ok_l_stand T) (hr.mono (by decide)) rfl T.m_l_stand T.F_l_stand.kp T.b_l_stand .nil pass0 (pa_cons (pv 4) (pa_cons (pv 2) (pa_cons (pv 9) pa_nil)))) (by intro _; rfl))) (pw_or1 (pt_not (pt_truthK (K := K) (pe_call (ok_l_no_row T) (hr.mono (by decide)) rfl T.m_l_no_row T.F_l_no_row.kp T.b_l_no_row .nil pass0 (pa_cons (pv 4) (pa_cons (pe_op op_sub pe_int pe_int) pa_nil))) (by intro _; rfl))))))) (pss_one (ps_ret pe_bl)) pss_nil)
      (pss_cons (ps_if (pt_not (pt_truthK (K := K) (pe_call (ok_l_stand T) (hr.mono (by decide)) rfl T.m_l_stand T.F_l_stand.kp T.b_l_stand .nil pass0 (pa_cons (pv 6) (pa_cons (pe_call (ok_l_shelves T) (hr.mono (by decide)) rfl T.m_l_shelves T.F_l_shelves.kp T.b_l_shelves .nil pass0 (pa_cons (pv 5) pa_nil)) (pa_cons (pv 9) pa_nil)))) (by intro _; rfl))) (pss_one (ps_ret pe_bl)) pss_nil)
      (pss_cons (ps_set (i := 10) sc_law.nd rfl (Or.inl rfl) (pe_ix (ix_anyK (K := K) (hU1 hr)) (pe_call (ok_l_names T) (hr.mono (by decide)) rfl T.m_l_names T.F_l_names.kp T.b_l_names .nil pass0 (pa_cons (pv 1) (pa_cons (pe_op (op_plusK (K := K)) (pe_callB (call_lenK (K := K)) (by rfl) T.n_len boot_len (pa_cons (pv 2) pa_nil)) pe_int) pa_nil))) (pe_un un_neg pe_int) (fun _ _ => rfl)))
      (pss_one (ps_ret (pe_and (pe_call (ok_l_no_shelf T) (hr.mono (by decide)) rfl T.m_l_no_shelf T.F_l_no_shelf.kp T.b_l_no_shelf .nil pass0 (pa_cons (pv 4) (pa_cons (pv 10) (pa_cons (pv 9) pa_nil)))) (pe_one (pe_call (ok_l_stand T) (hr.mono (by decide)) rfl T.m_l_stand T.F_l_stand.kp T.b_l_stand .nil pass0 (pa_cons (pv 4) (pa_cons (pv 2) (pa_cons (pv 9) pa_nil)))))))))))))))))))))), ?_⟩
    refine cut3 fun Rz hRz => ?_
    walk_at "rd"
    refine ⟨ns, hS, fun D1 H1 hD1 s1 h1 => ⟨ns, s1.seq hS, ?_⟩⟩
    refine ite2 (fun _ => ⟨⟨ns, s1.seq hS⟩, ⟨_, h1⟩, fun v H2 s2 hv => ⟨hv, fun H3 s3 => q H3⟩⟩) (fun _ => ?_)
    rw [hRz]
    clear hRz
    refine cut4 fun Rz hRz => ?_
    walk_at "rd"
    obtain ⟨t1, e1, hT1⟩ := id h1
    refine rListOf_l (.inl (.inl (.inl e1))) fun D2 hD2 => ?_
    have s2 : Same H1 (upd H1 D2 (.lst (t1.map V.ref))) := Same.upd hD2
    have a2 : LTups (upd H1 D2 (.lst (t1.map V.ref))) D2 ((xs5 (ns.getD 0 0)).map Shf.v) := ⟨t1, upd_same, hT1.chg (A := []) (Chg.of_same s2)⟩
    generalize upd H1 D2 (.lst (t1.map V.ref)) = H2 at s2 a2 ⊢
    have h2 := h1.same s2
    have nD12 : D2 ≠ D1 := Ne.symm (ne_of_none e1 hD2)
    have xok := xs5_ok (ns.getD 0 0)
    intro x1 dx1 hx1 hdx1 ne1
    have sX : Same H2 (upd (upd H2 dx1 (HO.own x1)) x1 (HO.ins a.C_Shelves dx1 [])) := (Same.upd hdx1).trans (Same.upd ((upd_ne (Ne.symm ne1)).trans hx1))
    refine ⟨⟨dx1, upd_same⟩, .inl ⟨D2, rfl, xs5 (ns.getD 0 0), a2.same sX, xok, fun l1 H3 hl1 c3 R3 => ?_⟩⟩
    generalize upd (upd H2 dx1 (HO.own x1)) x1 (HO.ins a.C_Shelves dx1 []) = HX at sX hl1 c3
    have s3 : Same H2 H3 := fun b o hb => c3.keep _ _ (sX _ _ hb) (by simp; exact ne_of_none hb hx1)
    have s03 := s1.trans (s2.trans s3)
    refine ⟨ns, s03.seq hS, fun D3 H4 hD3 s4 h4 => ?_⟩
    intro x2 dx2 hx2 hdx2 ne2
    have sY : Same H4 (upd (upd H4 dx2 (HO.own x2)) x2 (HO.ins a.C_Shelves dx2 [])) := (Same.upd hdx2).trans (Same.upd ((upd_ne (Ne.symm ne2)).trans hx2))
    refine ⟨⟨dx2, upd_same⟩, .inl ⟨xs5 (ns.getD 3 0), h4.same sY, xs5_ok _, fun l2 H5 hl2 c5 R5 => ?_⟩⟩
    generalize upd (upd H4 dx2 (HO.own x2)) x2 (HO.ins a.C_Shelves dx2 []) = HY at sY hl2 c5
    have s5 : Same H4 H5 := fun b o hb => c5.keep _ _ (sY _ _ hb) (by simp; exact ne_of_none hb hx2)
    have s35 := s4.trans s5
    have R3' : ShAt a.C_Shelves H5 x1 l1 (xs5 (ns.getD 0 0)) := R3.chg (A := []) (Chg.of_same s35) (by simp) (by simp)
    have a5 := a2.same (s3.trans s35)
    have h5 := h2.same (s3.trans s35)
    have s05 := s03.trans s35
    have n1 : x1 ≠ D2 := fun z => by
      obtain ⟨_, z2, _⟩ := a2
      rw [← z, hx1] at z2; cases z2
    have n2 : l1 ≠ D2 := fun z => by
      obtain ⟨_, z2, _⟩ := a2
      rw [← z] at z2
      rw [sX _ _ z2] at hl1; cases hl1
    have n3 : x2 ≠ D2 := fun z => by
      obtain ⟨_, z2, _⟩ := a2.same (s3.trans s4)
      rw [← z, hx2] at z2; cases z2
    have n4 : l2 ≠ D2 := fun z => by
      obtain ⟨_, z2, _⟩ := a2.same (s3.trans (s4.trans sY))
      rw [← z, hl2] at z2; cases z2
    clear hx1 hdx1 hl1 c3 R3 hx2 hdx2 hl2 c5 sX sY
    rw [hRz]
    clear hRz
    refine cut4 fun Rz hRz => ?_
    walk_at "rd"
    obtain ⟨t5, e5, hT5⟩ := id a5
    refine rEqq_same (den_shf a5) (den_shf h5) (wd_shf xok.each) rfl ⟨.inl ⟨_, .inl (.inl e5)⟩, D2, _, rfl, rfl, e5, by omega, by omega, ?_⟩
    have c6 : Chg [D2] H5 (upd H5 D2 (.lst [])) := Chg.upd (by simp) (mut_lst e5)
    generalize upd H5 D2 (.lst []) = H6 at c6 ⊢
    have R6 := R3'.chg c6 (by simp; exact n1) (by simp; exact n2)
    have B6 := R5.chg c6 (by simp; exact n3) (by simp; exact n4)
    have h6 := h5.chg c6 (by simp; exact Ne.symm nD12)
    clear c6 e5 hT5 a5 h5 R3' R5 n1 n2 n3 n4
    have sz : (1 + mixN (ns.getD 0 0) 5 % 24).toNat ≤ 24 := by omega
    generalize (1 + mixN (ns.getD 0 0) 5 % 24).toNat = kz at sz
    refine compW_range (Nat.le_trans sz (by decide)) (fun k => .str (S [sgn (mixN (ns.getD 0 0) (140 + (0 + (k : Int)))) 94])) (fun k H' hk s Qe qe => ?_) fun Dk H7 hDk s7 h7 => ?_
    · walk_at "rd"
      exact qe H' (Same.refl _)
    refine ⟨[], by decide +kernel, Dk, rfl, (List.range kz).map fun (k : Nat) => [sgn (mixN (ns.getD 0 0) (140 + (0 + (k : Int)))) 94], .inl (.inl (by rw [h7, List.map_map]; rfl)), ?_, ?_⟩
    · rw [List.length_nil, Nat.mul_zero]
      have : ∀ m : Nat, (((List.range m).map fun (k : Nat) => [sgn (mixN (ns.getD 0 0) (140 + (0 + (k : Int)))) 94]).map List.length).sum = m := by
        intro m
        induction m with
        | zero => rfl
        | succ m ih => rw [List.range_succ, List.map_append, List.map_append, List.sum_append, ih]; rfl
      rw [this]
      omega
    generalize joinL [] ((List.range kz).map fun (k : Nat) => [sgn (mixN (ns.getD 0 0) (140 + (0 + (k : Int)))) 94]) = key
    have R7 := R6.chg (A := []) (Chg.of_same s7) (by simp) (by simp)
    have B7 := B6.chg (A := []) (Chg.of_same s7) (by simp) (by simp)
    have h7' := h6.same s7
    clear h7 hDk
    rw [hRz]
    clear hRz
    refine cut2 fun Rz hRz => ?_
    walk_at "rd"
    refine ⟨l1, _, R7, xok, h7', fun H8 s8 => ?_⟩
    have R8 := R7.chg (A := []) (Chg.of_same s8) (by simp) (by simp)
    have B8 := B7.chg (A := []) (Chg.of_same s8) (by simp) (by simp)
    refine ⟨l1, _, R8, xok, .inl (by decide), fun H9 s9 D4 H10 hD4 s10 h10 => ?_⟩
    have s810 := s9.trans s10
    have R10 := R8.chg (A := []) (Chg.of_same s810) (by simp) (by simp)
    have B10 := B8.chg (A := []) (Chg.of_same s810) (by simp) (by simp)
    have h10' := h7'.same (s8.trans s810)
    refine ⟨l2, _, B10, xs5_ok _, h10, fun H11 s11 => ?_⟩
    have R11 := R10.chg (A := []) (Chg.of_same s11) (by simp) (by simp)
    have h11 := h10'.same s11
    clear R10 B10 h10' R8 B8 h10 s810 s9 s10 hD4 R7 B7 h7' R6 B6 h6
    rw [hRz]
    clear hRz
    walk_at "rd"
    obtain ⟨t11, e11, hT11⟩ := id h11
    have n5b := n5_le (ns.getD 0 0)
    have tl : t11.length = n5 (ns.getD 0 0) := by rw [hT11.length, List.length_map, xs5_len]
    refine rLen_l (.inl (.inl e11)) ?_
    rw [List.length_map, tl, rPlus_ii]
    refine ⟨n5 (ns.getD 0 0) + 1, by push_cast; rfl, by omega, by omega, fun D5 H12 hD5 s12 h12 => ?_⟩
    have en : names5 (ns.getD 0 0) (n5 (ns.getD 0 0) + 1) = names5 (ns.getD 0 0) (n5 (ns.getD 0 0)) ++ [nm5 (ns.getD 0 0) (n5 (ns.getD 0 0))] := by unfold names5; rw [List.range_succ, List.map_append]; rfl
    rw [en, List.map_append] at h12
    refine rIxA_l (.inl (.inl h12)) (atI_last _ _) ?_
    refine ⟨l1, _, nm5 (ns.getD 0 0) (n5 (ns.getD 0 0)), rfl, R11.chg (A := []) (Chg.of_same s12) (by simp) (by simp), xok, fun x hx z => ?_, fun H13 s13 => ?_⟩
    · unfold xs5 at hx
      obtain ⟨k, hk, rfl⟩ := List.mem_map.mp hx
      have hk := List.mem_range.mp hk
      have := nm5_inj (by omega) (by omega) z
      omega
    · have s1213 := s12.trans s13
      exact ⟨l1, _, R11.chg (A := []) (Chg.of_same s1213) (by simp) (by simp), xok, h11.same s1213, fun H14 _ => q H14⟩

end
theorem txt_mk {K : PySem.W.Frag} {h : Heap} {mg : Str → Option Value} (X : K.In h) (G : h.Ns mainGlobals mg)
    {C_BadWord : Addr}
    {C_NoSuch : Addr}
    {C_Shelves : Addr}
    {f1 : Addr} {od1 an1 : Option Addr} {sl1 : Array (Option Value)} {oc1 kV1 dc1 pm1 cd1 ct1 : Value}
    {f2 : Addr} {od2 an2 : Option Addr} {sl2 : Array (Option Value)} {oc2 kV2 dc2 pm2 cd2 ct2 : Value}
    {f3 : Addr} {od3 an3 : Option Addr} {sl3 : Array (Option Value)} {oc3 kV3 dc3 pm3 cd3 ct3 : Value}
    {f4 : Addr} {od4 an4 : Option Addr} {sl4 : Array (Option Value)} {oc4 kV4 dc4 pm4 cd4 ct4 : Value}
    {f5 : Addr} {od5 an5 : Option Addr} {sl5 : Array (Option Value)} {oc5 kV5 dc5 pm5 cd5 ct5 : Value}
    {f6 : Addr} {od6 an6 : Option Addr} {sl6 : Array (Option Value)} {oc6 kV6 dc6 pm6 cd6 ct6 : Value}
    {f7 : Addr} {od7 an7 : Option Addr} {sl7 : Array (Option Value)} {oc7 kV7 dc7 pm7 cd7 ct7 : Value}
    {f8 : Addr} {od8 an8 : Option Addr} {sl8 : Array (Option Value)} {oc8 kV8 dc8 pm8 cd8 ct8 : Value}
    {f9 : Addr} {od9 an9 : Option Addr} {sl9 : Array (Option Value)} {oc9 kV9 dc9 pm9 cd9 ct9 : Value}
    {f10 : Addr} {od10 an10 : Option Addr} {sl10 : Array (Option Value)} {oc10 kV10 dc10 pm10 cd10 ct10 : Value}
    {f11 : Addr} {od11 an11 : Option Addr} {sl11 : Array (Option Value)} {oc11 kV11 dc11 pm11 cd11 ct11 : Value}
    {f12 : Addr} {od12 an12 : Option Addr} {sl12 : Array (Option Value)} {oc12 kV12 dc12 pm12 cd12 ct12 : Value}
    {f13 : Addr} {od13 an13 : Option Addr} {sl13 : Array (Option Value)} {oc13 kV13 dc13 pm13 cd13 ct13 : Value}
    {f14 : Addr} {od14 an14 : Option Addr} {sl14 : Array (Option Value)} {oc14 kV14 dc14 pm14 cd14 ct14 : Value}
    {f15 : Addr} {od15 an15 : Option Addr} {sl15 : Array (Option Value)} {oc15 kV15 dc15 pm15 cd15 ct15 : Value}
    {f16 : Addr} {od16 an16 : Option Addr} {sl16 : Array (Option Value)} {oc16 kV16 dc16 pm16 cd16 ct16 : Value}
    {f17 : Addr} {od17 an17 : Option Addr} {sl17 : Array (Option Value)} {oc17 kV17 dc17 pm17 cd17 ct17 : Value}
    {f18 : Addr} {od18 an18 : Option Addr} {sl18 : Array (Option Value)} {oc18 kV18 dc18 pm18 cd18 ct18 : Value}
    {f19 : Addr} {od19 an19 : Option Addr} {sl19 : Array (Option Value)} {oc19 kV19 dc19 pm19 cd19 ct19 : Value}
    {f20 : Addr} {od20 an20 : Option Addr} {sl20 : Array (Option Value)} {oc20 kV20 dc20 pm20 cd20 ct20 : Value}
    {f21 : Addr} {od21 an21 : Option Addr} {sl21 : Array (Option Value)} {oc21 kV21 dc21 pm21 cd21 ct21 : Value}
    {f22 : Addr} {od22 an22 : Option Addr} {sl22 : Array (Option Value)} {oc22 kV22 dc22 pm22 cd22 ct22 : Value}
    {f23 : Addr} {od23 an23 : Option Addr} {sl23 : Array (Option Value)} {oc23 kV23 dc23 pm23 cd23 ct23 : Value}
    {f24 : Addr} {od24 an24 : Option Addr} {sl24 : Array (Option Value)} {oc24 kV24 dc24 pm24 cd24 ct24 : Value}
    {f25 : Addr} {od25 an25 : Option Addr} {sl25 : Array (Option Value)} {oc25 kV25 dc25 pm25 cd25 ct25 : Value}
    {f26 : Addr} {od26 an26 : Option Addr} {sl26 : Array (Option Value)} {oc26 kV26 dc26 pm26 cd26 ct26 : Value}
    {f27 : Addr} {od27 an27 : Option Addr} {sl27 : Array (Option Value)} {oc27 kV27 dc27 pm27 cd27 ct27 : Value}
    {f28 : Addr} {od28 an28 : Option Addr} {sl28 : Array (Option Value)} {oc28 kV28 dc28 pm28 cd28 ct28 : Value}
    {f29 : Addr} {od29 an29 : Option Addr} {sl29 : Array (Option Value)} {oc29 kV29 dc29 pm29 cd29 ct29 : Value}
    {f30 : Addr} {od30 an30 : Option Addr} {sl30 : Array (Option Value)} {oc30 kV30 dc30 pm30 cd30 ct30 : Value}
    {f31 : Addr} {od31 an31 : Option Addr} {sl31 : Array (Option Value)} {oc31 kV31 dc31 pm31 cd31 ct31 : Value}
    {f32 : Addr} {od32 an32 : Option Addr} {sl32 : Array (Option Value)} {oc32 kV32 dc32 pm32 cd32 ct32 : Value}
    {f33 : Addr} {od33 an33 : Option Addr} {sl33 : Array (Option Value)} {oc33 kV33 dc33 pm33 cd33 ct33 : Value}
    {tq_KINDS : Addr} {td_KINDS : Option Addr} {tn_KINDS : Nat} {tsl_KINDS : Array (Option Value)} {tkKINDS_0 : Tok} {tkKINDS_1 : Tok}
    {t_NAME_MOST : Tok}
    {t_NAME_SIGNS : Tok}
    {t_ROWS_MOST : Tok}
    {t_SHELVES_MOST : Tok}
    (a1 : PySem.W.findIn K (.ref C_NoSuch) "__init__" = some (some (.ref f1))) (i1 : PySem.W.isFn K (.ref f1) = true)
    (l1 : K.lookup f1 = some ⟨oc1, od1, .func (PySem.W.fnOf "__init__" "NoSuch.__init__" (defArgs s_NoSuch___init__) (defBody s_NoSuch___init__) (defScope s_NoSuch___init__) .none kV1 dc1 pm1 an1 cd1 ct1), sl1⟩) (c1 : PySem.W.codeIn K cd1 "NoSuch.__init__" = true) (k1 : PySem.W.keepIn K (.ref f1) = true)
    (a2 : PySem.W.nsIn K mainGlobals "is_text" = some (some (.ref f2)))
    (l2 : K.lookup f2 = some ⟨oc2, od2, .func (PySem.W.fnOf "is_text" "is_text" (defArgs s_is_text) (defBody s_is_text) (defScope s_is_text) .none kV2 dc2 pm2 an2 cd2 ct2), sl2⟩) (c2 : PySem.W.codeIn K cd2 "is_text" = true) (k2 : PySem.W.keepIn K (.ref f2) = true)
    (a3 : PySem.W.nsIn K mainGlobals "is_name" = some (some (.ref f3)))
    (l3 : K.lookup f3 = some ⟨oc3, od3, .func (PySem.W.fnOf "is_name" "is_name" (defArgs s_is_name) (defBody s_is_name) (defScope s_is_name) .none kV3 dc3 pm3 an3 cd3 ct3), sl3⟩) (c3 : PySem.W.codeIn K cd3 "is_name" = true) (k3 : PySem.W.keepIn K (.ref f3) = true)
    (a4 : PySem.W.nsIn K mainGlobals "is_whole" = some (some (.ref f4)))
    (l4 : K.lookup f4 = some ⟨oc4, od4, .func (PySem.W.fnOf "is_whole" "is_whole" (defArgs s_is_whole) (defBody s_is_whole) (defScope s_is_whole) .none kV4 dc4 pm4 an4 cd4 ct4), sl4⟩) (c4 : PySem.W.codeIn K cd4 "is_whole" = true) (k4 : PySem.W.keepIn K (.ref f4) = true)
    (a5 : PySem.W.nsIn K mainGlobals "spread" = some (some (.ref f5)))
    (l5 : K.lookup f5 = some ⟨oc5, od5, .func (PySem.W.fnOf "spread" "spread" (defArgs s_spread) (defBody s_spread) (defScope s_spread) .none kV5 dc5 pm5 an5 cd5 ct5), sl5⟩) (c5 : PySem.W.codeIn K cd5 "spread" = true) (k5 : PySem.W.keepIn K (.ref f5) = true)
    (a6 : PySem.W.nsIn K mainGlobals "row_in" = some (some (.ref f6)))
    (l6 : K.lookup f6 = some ⟨oc6, od6, .func (PySem.W.fnOf "row_in" "row_in" (defArgs s_row_in) (defBody s_row_in) (defScope s_row_in) .none kV6 dc6 pm6 an6 cd6 ct6), sl6⟩) (c6 : PySem.W.codeIn K cd6 "row_in" = true) (k6 : PySem.W.keepIn K (.ref f6) = true)
    (a7 : PySem.W.nsIn K mainGlobals "is_kind" = some (some (.ref f7)))
    (l7 : K.lookup f7 = some ⟨oc7, od7, .func (PySem.W.fnOf "is_kind" "is_kind" (defArgs s_is_kind) (defBody s_is_kind) (defScope s_is_kind) .none kV7 dc7 pm7 an7 cd7 ct7), sl7⟩) (c7 : PySem.W.codeIn K cd7 "is_kind" = true) (k7 : PySem.W.keepIn K (.ref f7) = true)
    (a8 : PySem.W.nsIn K mainGlobals "is_shelf" = some (some (.ref f8)))
    (l8 : K.lookup f8 = some ⟨oc8, od8, .func (PySem.W.fnOf "is_shelf" "is_shelf" (defArgs s_is_shelf) (defBody s_is_shelf) (defScope s_is_shelf) .none kV8 dc8 pm8 an8 cd8 ct8), sl8⟩) (c8 : PySem.W.codeIn K cd8 "is_shelf" = true) (k8 : PySem.W.keepIn K (.ref f8) = true)
    (a9 : PySem.W.nsIn K mainGlobals "are_shelves" = some (some (.ref f9)))
    (l9 : K.lookup f9 = some ⟨oc9, od9, .func (PySem.W.fnOf "are_shelves" "are_shelves" (defArgs s_are_shelves) (defBody s_are_shelves) (defScope s_are_shelves) .none kV9 dc9 pm9 an9 cd9 ct9), sl9⟩) (c9 : PySem.W.codeIn K cd9 "are_shelves" = true) (k9 : PySem.W.keepIn K (.ref f9) = true)
    (a10 : PySem.W.findIn K (.ref C_Shelves) "__init__" = some (some (.ref f10))) (i10 : PySem.W.isFn K (.ref f10) = true)
    (l10 : K.lookup f10 = some ⟨oc10, od10, .func (PySem.W.fnOf "__init__" "Shelves.__init__" (defArgs s_Shelves___init__) (defBody s_Shelves___init__) (defScope s_Shelves___init__) .none kV10 dc10 pm10 an10 cd10 ct10), sl10⟩) (c10 : PySem.W.codeIn K cd10 "Shelves.__init__" = true) (k10 : PySem.W.keepIn K (.ref f10) = true)
    (a11 : PySem.W.findIn K (.ref C_Shelves) "told" = some (some (.ref f11))) (i11 : PySem.W.isFn K (.ref f11) = true)
    (l11 : K.lookup f11 = some ⟨oc11, od11, .func (PySem.W.fnOf "told" "Shelves.told" (defArgs s_Shelves_told) (defBody s_Shelves_told) (defScope s_Shelves_told) .none kV11 dc11 pm11 an11 cd11 ct11), sl11⟩) (c11 : PySem.W.codeIn K cd11 "Shelves.told" = true) (k11 : PySem.W.keepIn K (.ref f11) = true)
    (a12 : PySem.W.findIn K (.ref C_Shelves) "many_rows" = some (some (.ref f12))) (i12 : PySem.W.isFn K (.ref f12) = true)
    (l12 : K.lookup f12 = some ⟨oc12, od12, .func (PySem.W.fnOf "many_rows" "Shelves.many_rows" (defArgs s_Shelves_many_rows) (defBody s_Shelves_many_rows) (defScope s_Shelves_many_rows) .none kV12 dc12 pm12 an12 cd12 ct12), sl12⟩) (c12 : PySem.W.codeIn K cd12 "Shelves.many_rows" = true) (k12 : PySem.W.keepIn K (.ref f12) = true)
    (a13 : PySem.W.findIn K (.ref C_Shelves) "rows_of" = some (some (.ref f13))) (i13 : PySem.W.isFn K (.ref f13) = true)
    (l13 : K.lookup f13 = some ⟨oc13, od13, .func (PySem.W.fnOf "rows_of" "Shelves.rows_of" (defArgs s_Shelves_rows_of) (defBody s_Shelves_rows_of) (defScope s_Shelves_rows_of) .none kV13 dc13 pm13 an13 cd13 ct13), sl13⟩) (c13 : PySem.W.codeIn K cd13 "Shelves.rows_of" = true) (k13 : PySem.W.keepIn K (.ref f13) = true)
    (a14 : PySem.W.findIn K (.ref C_Shelves) "shelf_with" = some (some (.ref f14))) (i14 : PySem.W.isFn K (.ref f14) = true)
    (l14 : K.lookup f14 = some ⟨oc14, od14, .func (PySem.W.fnOf "shelf_with" "Shelves.shelf_with" (defArgs s_Shelves_shelf_with) (defBody s_Shelves_shelf_with) (defScope s_Shelves_shelf_with) .none kV14 dc14 pm14 an14 cd14 ct14), sl14⟩) (c14 : PySem.W.codeIn K cd14 "Shelves.shelf_with" = true) (k14 : PySem.W.keepIn K (.ref f14) = true)
    (a15 : PySem.W.findIn K (.ref C_Shelves) "shelf_at" = some (some (.ref f15))) (i15 : PySem.W.isFn K (.ref f15) = true)
    (l15 : K.lookup f15 = some ⟨oc15, od15, .func (PySem.W.fnOf "shelf_at" "Shelves.shelf_at" (defArgs s_Shelves_shelf_at) (defBody s_Shelves_shelf_at) (defScope s_Shelves_shelf_at) .none kV15 dc15 pm15 an15 cd15 ct15), sl15⟩) (c15 : PySem.W.codeIn K cd15 "Shelves.shelf_at" = true) (k15 : PySem.W.keepIn K (.ref f15) = true)
    (a16 : PySem.W.findIn K (.ref C_Shelves) "kind_at" = some (some (.ref f16))) (i16 : PySem.W.isFn K (.ref f16) = true)
    (l16 : K.lookup f16 = some ⟨oc16, od16, .func (PySem.W.fnOf "kind_at" "Shelves.kind_at" (defArgs s_Shelves_kind_at) (defBody s_Shelves_kind_at) (defScope s_Shelves_kind_at) .none kV16 dc16 pm16 an16 cd16 ct16), sl16⟩) (c16 : PySem.W.codeIn K cd16 "Shelves.kind_at" = true) (k16 : PySem.W.keepIn K (.ref f16) = true)
    (a17 : PySem.W.findIn K (.ref C_Shelves) "row_for" = some (some (.ref f17))) (i17 : PySem.W.isFn K (.ref f17) = true)
    (l17 : K.lookup f17 = some ⟨oc17, od17, .func (PySem.W.fnOf "row_for" "Shelves.row_for" (defArgs s_Shelves_row_for) (defBody s_Shelves_row_for) (defScope s_Shelves_row_for) .none kV17 dc17 pm17 an17 cd17 ct17), sl17⟩) (c17 : PySem.W.codeIn K cd17 "Shelves.row_for" = true) (k17 : PySem.W.keepIn K (.ref f17) = true)
    (a18 : PySem.W.nsIn K mainGlobals "_law_cell_at" = some (some (.ref f18)))
    (l18 : K.lookup f18 = some ⟨oc18, od18, .func (PySem.W.fnOf "_law_cell_at" "_law_cell_at" (defArgs s_l_cell_at) (defBody s_l_cell_at) (defScope s_l_cell_at) .none kV18 dc18 pm18 an18 cd18 ct18), sl18⟩) (c18 : PySem.W.codeIn K cd18 "_law_cell_at" = true) (k18 : PySem.W.keepIn K (.ref f18) = true)
    (a19 : PySem.W.nsIn K mainGlobals "_law_mixed" = some (some (.ref f19)))
    (l19 : K.lookup f19 = some ⟨oc19, od19, .func (PySem.W.fnOf "_law_mixed" "_law_mixed" (defArgs s_l_mixed) (defBody s_l_mixed) (defScope s_l_mixed) .none kV19 dc19 pm19 an19 cd19 ct19), sl19⟩) (c19 : PySem.W.codeIn K cd19 "_law_mixed" = true) (k19 : PySem.W.keepIn K (.ref f19) = true)
    (a20 : PySem.W.nsIn K mainGlobals "_law_sign" = some (some (.ref f20)))
    (l20 : K.lookup f20 = some ⟨oc20, od20, .func (PySem.W.fnOf "_law_sign" "_law_sign" (defArgs s_l_sign) (defBody s_l_sign) (defScope s_l_sign) .none kV20 dc20 pm20 an20 cd20 ct20), sl20⟩) (c20 : PySem.W.codeIn K cd20 "_law_sign" = true) (k20 : PySem.W.keepIn K (.ref f20) = true)
    (a21 : PySem.W.nsIn K mainGlobals "_law_laid_over" = some (some (.ref f21)))
    (l21 : K.lookup f21 = some ⟨oc21, od21, .func (PySem.W.fnOf "_law_laid_over" "_law_laid_over" (defArgs s_l_laid_over) (defBody s_l_laid_over) (defScope s_l_laid_over) .none kV21 dc21 pm21 an21 cd21 ct21), sl21⟩) (c21 : PySem.W.codeIn K cd21 "_law_laid_over" = true) (k21 : PySem.W.keepIn K (.ref f21) = true)
    (a22 : PySem.W.nsIn K mainGlobals "_law_spread" = some (some (.ref f22)))
    (l22 : K.lookup f22 = some ⟨oc22, od22, .func (PySem.W.fnOf "_law_spread" "_law_spread" (defArgs s_l_spread) (defBody s_l_spread) (defScope s_l_spread) .none kV22 dc22 pm22 an22 cd22 ct22), sl22⟩) (c22 : PySem.W.codeIn K cd22 "_law_spread" = true) (k22 : PySem.W.keepIn K (.ref f22) = true)
    (a23 : PySem.W.nsIn K mainGlobals "_law_letter" = some (some (.ref f23)))
    (l23 : K.lookup f23 = some ⟨oc23, od23, .func (PySem.W.fnOf "_law_letter" "_law_letter" (defArgs s_l_letter) (defBody s_l_letter) (defScope s_l_letter) .none kV23 dc23 pm23 an23 cd23 ct23), sl23⟩) (c23 : PySem.W.codeIn K cd23 "_law_letter" = true) (k23 : PySem.W.keepIn K (.ref f23) = true)
    (a24 : PySem.W.nsIn K mainGlobals "_law_names" = some (some (.ref f24)))
    (l24 : K.lookup f24 = some ⟨oc24, od24, .func (PySem.W.fnOf "_law_names" "_law_names" (defArgs s_l_names) (defBody s_l_names) (defScope s_l_names) .none kV24 dc24 pm24 an24 cd24 ct24), sl24⟩) (c24 : PySem.W.codeIn K cd24 "_law_names" = true) (k24 : PySem.W.keepIn K (.ref f24) = true)
    (a25 : PySem.W.nsIn K mainGlobals "_law_whole" = some (some (.ref f25)))
    (l25 : K.lookup f25 = some ⟨oc25, od25, .func (PySem.W.fnOf "_law_whole" "_law_whole" (defArgs s_l_whole) (defBody s_l_whole) (defScope s_l_whole) .none kV25 dc25 pm25 an25 cd25 ct25), sl25⟩) (c25 : PySem.W.codeIn K cd25 "_law_whole" = true) (k25 : PySem.W.keepIn K (.ref f25) = true)
    (a26 : PySem.W.nsIn K mainGlobals "_law_shelves" = some (some (.ref f26)))
    (l26 : K.lookup f26 = some ⟨oc26, od26, .func (PySem.W.fnOf "_law_shelves" "_law_shelves" (defArgs s_l_shelves) (defBody s_l_shelves) (defScope s_l_shelves) .none kV26 dc26 pm26 an26 cd26 ct26), sl26⟩) (c26 : PySem.W.codeIn K cd26 "_law_shelves" = true) (k26 : PySem.W.keepIn K (.ref f26) = true)
    (a27 : PySem.W.nsIn K mainGlobals "_law_odd_shelf" = some (some (.ref f27)))
    (l27 : K.lookup f27 = some ⟨oc27, od27, .func (PySem.W.fnOf "_law_odd_shelf" "_law_odd_shelf" (defArgs s_l_odd_shelf) (defBody s_l_odd_shelf) (defScope s_l_odd_shelf) .none kV27 dc27 pm27 an27 cd27 ct27), sl27⟩) (c27 : PySem.W.codeIn K cd27 "_law_odd_shelf" = true) (k27 : PySem.W.keepIn K (.ref f27) = true)
    (a28 : PySem.W.nsIn K mainGlobals "_law_spoiled" = some (some (.ref f28)))
    (l28 : K.lookup f28 = some ⟨oc28, od28, .func (PySem.W.fnOf "_law_spoiled" "_law_spoiled" (defArgs s_l_spoiled) (defBody s_l_spoiled) (defScope s_l_spoiled) .none kV28 dc28 pm28 an28 cd28 ct28), sl28⟩) (c28 : PySem.W.codeIn K cd28 "_law_spoiled" = true) (k28 : PySem.W.keepIn K (.ref f28) = true)
    (a29 : PySem.W.nsIn K mainGlobals "_law_refused" = some (some (.ref f29)))
    (l29 : K.lookup f29 = some ⟨oc29, od29, .func (PySem.W.fnOf "_law_refused" "_law_refused" (defArgs s_l_refused) (defBody s_l_refused) (defScope s_l_refused) .none kV29 dc29 pm29 an29 cd29 ct29), sl29⟩) (c29 : PySem.W.codeIn K cd29 "_law_refused" = true) (k29 : PySem.W.keepIn K (.ref f29) = true)
    (a30 : PySem.W.nsIn K mainGlobals "_law_no_shelf" = some (some (.ref f30)))
    (l30 : K.lookup f30 = some ⟨oc30, od30, .func (PySem.W.fnOf "_law_no_shelf" "_law_no_shelf" (defArgs s_l_no_shelf) (defBody s_l_no_shelf) (defScope s_l_no_shelf) .none kV30 dc30 pm30 an30 cd30 ct30), sl30⟩) (c30 : PySem.W.codeIn K cd30 "_law_no_shelf" = true) (k30 : PySem.W.keepIn K (.ref f30) = true)
    (a31 : PySem.W.nsIn K mainGlobals "_law_no_row" = some (some (.ref f31)))
    (l31 : K.lookup f31 = some ⟨oc31, od31, .func (PySem.W.fnOf "_law_no_row" "_law_no_row" (defArgs s_l_no_row) (defBody s_l_no_row) (defScope s_l_no_row) .none kV31 dc31 pm31 an31 cd31 ct31), sl31⟩) (c31 : PySem.W.codeIn K cd31 "_law_no_row" = true) (k31 : PySem.W.keepIn K (.ref f31) = true)
    (a32 : PySem.W.nsIn K mainGlobals "_law_stand" = some (some (.ref f32)))
    (l32 : K.lookup f32 = some ⟨oc32, od32, .func (PySem.W.fnOf "_law_stand" "_law_stand" (defArgs s_l_stand) (defBody s_l_stand) (defScope s_l_stand) .none kV32 dc32 pm32 an32 cd32 ct32), sl32⟩) (c32 : PySem.W.codeIn K cd32 "_law_stand" = true) (k32 : PySem.W.keepIn K (.ref f32) = true)
    (a33 : PySem.W.nsIn K mainGlobals "law" = some (some (.ref f33)))
    (l33 : K.lookup f33 = some ⟨oc33, od33, .func (PySem.W.fnOf "law" "law" (defArgs s_law) (defBody s_law) (defScope s_law) .none kV33 dc33 pm33 an33 cd33 ct33), sl33⟩) (c33 : PySem.W.codeIn K cd33 "law" = true) (k33 : PySem.W.keepIn K (.ref f33) = true)
    (aC_Shelves : PySem.W.nsIn K mainGlobals "Shelves" = some (some (.ref C_Shelves))) (pg_Shelves : PySem.W.plainGet K C_Shelves Str.empty = true) (hd_Shelves : PySem.W.hasDictIn K C_Shelves = true) (po_Shelves : PySem.W.plainOver K C_Shelves = true) (sa_Shelves : PySem.W.findIn K (.ref C_Shelves) "__setattr__" = some (some (.builtin "object.__setattr__"))) (mk_Shelves : PySem.W.makesIn K C_Shelves = true) (kc_Shelves : PySem.W.keepIn K (.ref C_Shelves) = true)
    (no_Shelves_shelves : PySem.W.findIn K (.ref C_Shelves) "shelves" = some none)
    (aC_BadWord : PySem.W.nsIn K mainGlobals "BadWord" = some (some (.ref C_BadWord)))
    (aC_NoSuch : PySem.W.nsIn K mainGlobals "NoSuch" = some (some (.ref C_NoSuch)))
    (xj_BadWord : PySem.W.findIn K (.ref C_BadWord) "__init__" = some (some (.builtin "ValueError.__init__")))
    (xx_BadWord : L2.xIn K C_BadWord = true) (kc_BadWord : PySem.W.keepIn K (.ref C_BadWord) = true) (sa_BadWord : PySem.W.findIn K (.ref C_BadWord) "__setattr__" = some (some (.builtin "object.__setattr__"))) (ga_BadWord : PySem.W.findIn K (.ref C_BadWord) "__getattribute__" = some (some (.builtin "BaseException.__getattribute__"))) (gn_BadWord : PySem.W.findIn K (.ref C_BadWord) "__getattr__" = some none) (hd_BadWord : PySem.W.hasDictIn K C_BadWord = true)
    (em_BadWord_BadWord : PySem.W.exmOne K (.ref C_BadWord) (.ref C_BadWord) = some true)
    (em_BadWord_NoSuch : PySem.W.exmOne K (.ref C_BadWord) (.ref C_NoSuch) = some false)
    (xx_NoSuch : L2.xIn K C_NoSuch = true) (kc_NoSuch : PySem.W.keepIn K (.ref C_NoSuch) = true) (sa_NoSuch : PySem.W.findIn K (.ref C_NoSuch) "__setattr__" = some (some (.builtin "object.__setattr__"))) (ga_NoSuch : PySem.W.findIn K (.ref C_NoSuch) "__getattribute__" = some (some (.builtin "BaseException.__getattribute__"))) (gn_NoSuch : PySem.W.findIn K (.ref C_NoSuch) "__getattr__" = some none) (hd_NoSuch : PySem.W.hasDictIn K C_NoSuch = true)
    (no_NoSuch_name : PySem.W.findIn K (.ref C_NoSuch) "name" = some none)
    (em_NoSuch_BadWord : PySem.W.exmOne K (.ref C_NoSuch) (.ref C_BadWord) = some false)
    (em_NoSuch_NoSuch : PySem.W.exmOne K (.ref C_NoSuch) (.ref C_NoSuch) = some true)
    (z_all : PySem.W.nsIn K mainGlobals "all" = some none)
    (z_bool : PySem.W.nsIn K mainGlobals "bool" = some none)
    (z_enumerate : PySem.W.nsIn K mainGlobals "enumerate" = some none)
    (z_int : PySem.W.nsIn K mainGlobals "int" = some none)
    (z_isinstance : PySem.W.nsIn K mainGlobals "isinstance" = some none)
    (z_len : PySem.W.nsIn K mainGlobals "len" = some none)
    (z_list : PySem.W.nsIn K mainGlobals "list" = some none)
    (z_ord : PySem.W.nsIn K mainGlobals "ord" = some none)
    (z_range : PySem.W.nsIn K mainGlobals "range" = some none)
    (z_set : PySem.W.nsIn K mainGlobals "set" = some none)
    (z_str : PySem.W.nsIn K mainGlobals "str" = some none)
    (z_sum : PySem.W.nsIn K mainGlobals "sum" = some none)
    (z_tuple : PySem.W.nsIn K mainGlobals "tuple" = some none)
    (g_KINDS : PySem.W.nsIn K mainGlobals "KINDS" = some (some (.ref tq_KINDS))) (gl_KINDS : K.lookup tq_KINDS = some ⟨.type "tuple", td_KINDS, .seq [.str "table" tkKINDS_0, .str "stream" tkKINDS_1].toArray tn_KINDS, tsl_KINDS⟩)
    (g_NAME_MOST : PySem.W.nsIn K mainGlobals "NAME_MOST" = some (some (.int 12 t_NAME_MOST)))
    (g_NAME_SIGNS : PySem.W.nsIn K mainGlobals "NAME_SIGNS" = some (some (.str "abcdefghijklmnopqrstuvwxyz0123456789" t_NAME_SIGNS)))
    (g_ROWS_MOST : PySem.W.nsIn K mainGlobals "ROWS_MOST" = some (some (.int 9 t_ROWS_MOST)))
    (g_SHELVES_MOST : PySem.W.nsIn K mainGlobals "SHELVES_MOST" = some (some (.int 6 t_SHELVES_MOST))) :
    ∃ a, Txt K mg a :=
  ⟨⟨C_BadWord, C_NoSuch, C_Shelves, f1, (PySem.W.fnOf "__init__" "NoSuch.__init__" (defArgs s_NoSuch___init__) (defBody s_NoSuch___init__) (defScope s_NoSuch___init__) .none kV1 dc1 pm1 an1 cd1 ct1), f2, (PySem.W.fnOf "is_text" "is_text" (defArgs s_is_text) (defBody s_is_text) (defScope s_is_text) .none kV2 dc2 pm2 an2 cd2 ct2), f3, (PySem.W.fnOf "is_name" "is_name" (defArgs s_is_name) (defBody s_is_name) (defScope s_is_name) .none kV3 dc3 pm3 an3 cd3 ct3), f4, (PySem.W.fnOf "is_whole" "is_whole" (defArgs s_is_whole) (defBody s_is_whole) (defScope s_is_whole) .none kV4 dc4 pm4 an4 cd4 ct4), f5, (PySem.W.fnOf "spread" "spread" (defArgs s_spread) (defBody s_spread) (defScope s_spread) .none kV5 dc5 pm5 an5 cd5 ct5), f6, (PySem.W.fnOf "row_in" "row_in" (defArgs s_row_in) (defBody s_row_in) (defScope s_row_in) .none kV6 dc6 pm6 an6 cd6 ct6), f7, (PySem.W.fnOf "is_kind" "is_kind" (defArgs s_is_kind) (defBody s_is_kind) (defScope s_is_kind) .none kV7 dc7 pm7 an7 cd7 ct7), f8, (PySem.W.fnOf "is_shelf" "is_shelf" (defArgs s_is_shelf) (defBody s_is_shelf) (defScope s_is_shelf) .none kV8 dc8 pm8 an8 cd8 ct8), f9, (PySem.W.fnOf "are_shelves" "are_shelves" (defArgs s_are_shelves) (defBody s_are_shelves) (defScope s_are_shelves) .none kV9 dc9 pm9 an9 cd9 ct9), f10, (PySem.W.fnOf "__init__" "Shelves.__init__" (defArgs s_Shelves___init__) (defBody s_Shelves___init__) (defScope s_Shelves___init__) .none kV10 dc10 pm10 an10 cd10 ct10), f11, (PySem.W.fnOf "told" "Shelves.told" (defArgs s_Shelves_told) (defBody s_Shelves_told) (defScope s_Shelves_told) .none kV11 dc11 pm11 an11 cd11 ct11), f12, (PySem.W.fnOf "many_rows" "Shelves.many_rows" (defArgs s_Shelves_many_rows) (defBody s_Shelves_many_rows) (defScope s_Shelves_many_rows) .none kV12 dc12 pm12 an12 cd12 ct12), f13, (PySem.W.fnOf "rows_of" "Shelves.rows_of" (defArgs s_Shelves_rows_of) (defBody s_Shelves_rows_of) (defScope s_Shelves_rows_of) .none kV13 dc13 pm13 an13 cd13 ct13), f14, (PySem.W.fnOf "shelf_with" "Shelves.shelf_with" (defArgs s_Shelves_shelf_with) (defBody s_Shelves_shelf_with) (defScope s_Shelves_shelf_with) .none kV14 dc14 pm14 an14 cd14 ct14), f15, (PySem.W.fnOf "shelf_at" "Shelves.shelf_at" (defArgs s_Shelves_shelf_at) (defBody s_Shelves_shelf_at) (defScope s_Shelves_shelf_at) .none kV15 dc15 pm15 an15 cd15 ct15), f16, (PySem.W.fnOf "kind_at" "Shelves.kind_at" (defArgs s_Shelves_kind_at) (defBody s_Shelves_kind_at) (defScope s_Shelves_kind_at) .none kV16 dc16 pm16 an16 cd16 ct16), f17, (PySem.W.fnOf "row_for" "Shelves.row_for" (defArgs s_Shelves_row_for) (defBody s_Shelves_row_for) (defScope s_Shelves_row_for) .none kV17 dc17 pm17 an17 cd17 ct17), f18, (PySem.W.fnOf "_law_cell_at" "_law_cell_at" (defArgs s_l_cell_at) (defBody s_l_cell_at) (defScope s_l_cell_at) .none kV18 dc18 pm18 an18 cd18 ct18), f19, (PySem.W.fnOf "_law_mixed" "_law_mixed" (defArgs s_l_mixed) (defBody s_l_mixed) (defScope s_l_mixed) .none kV19 dc19 pm19 an19 cd19 ct19), f20, (PySem.W.fnOf "_law_sign" "_law_sign" (defArgs s_l_sign) (defBody s_l_sign) (defScope s_l_sign) .none kV20 dc20 pm20 an20 cd20 ct20), f21, (PySem.W.fnOf "_law_laid_over" "_law_laid_over" (defArgs s_l_laid_over) (defBody s_l_laid_over) (defScope s_l_laid_over) .none kV21 dc21 pm21 an21 cd21 ct21), f22, (PySem.W.fnOf "_law_spread" "_law_spread" (defArgs s_l_spread) (defBody s_l_spread) (defScope s_l_spread) .none kV22 dc22 pm22 an22 cd22 ct22), f23, (PySem.W.fnOf "_law_letter" "_law_letter" (defArgs s_l_letter) (defBody s_l_letter) (defScope s_l_letter) .none kV23 dc23 pm23 an23 cd23 ct23), f24, (PySem.W.fnOf "_law_names" "_law_names" (defArgs s_l_names) (defBody s_l_names) (defScope s_l_names) .none kV24 dc24 pm24 an24 cd24 ct24), f25, (PySem.W.fnOf "_law_whole" "_law_whole" (defArgs s_l_whole) (defBody s_l_whole) (defScope s_l_whole) .none kV25 dc25 pm25 an25 cd25 ct25), f26, (PySem.W.fnOf "_law_shelves" "_law_shelves" (defArgs s_l_shelves) (defBody s_l_shelves) (defScope s_l_shelves) .none kV26 dc26 pm26 an26 cd26 ct26), f27, (PySem.W.fnOf "_law_odd_shelf" "_law_odd_shelf" (defArgs s_l_odd_shelf) (defBody s_l_odd_shelf) (defScope s_l_odd_shelf) .none kV27 dc27 pm27 an27 cd27 ct27), f28, (PySem.W.fnOf "_law_spoiled" "_law_spoiled" (defArgs s_l_spoiled) (defBody s_l_spoiled) (defScope s_l_spoiled) .none kV28 dc28 pm28 an28 cd28 ct28), f29, (PySem.W.fnOf "_law_refused" "_law_refused" (defArgs s_l_refused) (defBody s_l_refused) (defScope s_l_refused) .none kV29 dc29 pm29 an29 cd29 ct29), f30, (PySem.W.fnOf "_law_no_shelf" "_law_no_shelf" (defArgs s_l_no_shelf) (defBody s_l_no_shelf) (defScope s_l_no_shelf) .none kV30 dc30 pm30 an30 cd30 ct30), f31, (PySem.W.fnOf "_law_no_row" "_law_no_row" (defArgs s_l_no_row) (defBody s_l_no_row) (defScope s_l_no_row) .none kV31 dc31 pm31 an31 cd31 ct31), f32, (PySem.W.fnOf "_law_stand" "_law_stand" (defArgs s_l_stand) (defBody s_l_stand) (defScope s_l_stand) .none kV32 dc32 pm32 an32 cd32 ct32), f33, (PySem.W.fnOf "law" "law" (defArgs s_law) (defBody s_law) (defScope s_law) .none kV33 dc33 pm33 an33 cd33 ct33)⟩, {
    F_NoSuch___init__ := fun_mk (st := s_NoSuch___init__) l1 c1 k1,
    b_NoSuch___init__ := ((fun_mk (st := s_NoSuch___init__) l1 c1 k1).binds (fun _ _ _ _ _ _ => el2 fun _ _ => rfl)),
    m_is_text := PySem.W.mg_of X G a2,
    F_is_text := fun_mk (st := s_is_text) l2 c2 k2,
    b_is_text := ((fun_mk (st := s_is_text) l2 c2 k2).binds (fun _ _ _ _ _ _ => el3 fun _ _ _ => rfl)),
    m_is_name := PySem.W.mg_of X G a3,
    F_is_name := fun_mk (st := s_is_name) l3 c3 k3,
    b_is_name := ((fun_mk (st := s_is_name) l3 c3 k3).binds (fun _ _ _ _ _ _ => el1 fun _ => rfl)),
    m_is_whole := PySem.W.mg_of X G a4,
    F_is_whole := fun_mk (st := s_is_whole) l4 c4 k4,
    b_is_whole := ((fun_mk (st := s_is_whole) l4 c4 k4).binds (fun _ _ _ _ _ _ => el3 fun _ _ _ => rfl)),
    m_spread := PySem.W.mg_of X G a5,
    F_spread := fun_mk (st := s_spread) l5 c5 k5,
    b_spread := ((fun_mk (st := s_spread) l5 c5 k5).binds (fun _ _ _ _ _ _ => el1 fun _ => rfl)),
    m_row_in := PySem.W.mg_of X G a6,
    F_row_in := fun_mk (st := s_row_in) l6 c6 k6,
    b_row_in := ((fun_mk (st := s_row_in) l6 c6 k6).binds (fun _ _ _ _ _ _ => el2 fun _ _ => rfl)),
    m_is_kind := PySem.W.mg_of X G a7,
    F_is_kind := fun_mk (st := s_is_kind) l7 c7 k7,
    b_is_kind := ((fun_mk (st := s_is_kind) l7 c7 k7).binds (fun _ _ _ _ _ _ => el1 fun _ => rfl)),
    m_is_shelf := PySem.W.mg_of X G a8,
    F_is_shelf := fun_mk (st := s_is_shelf) l8 c8 k8,
    b_is_shelf := ((fun_mk (st := s_is_shelf) l8 c8 k8).binds (fun _ _ _ _ _ _ => el1 fun _ => rfl)),
    m_are_shelves := PySem.W.mg_of X G a9,
    F_are_shelves := fun_mk (st := s_are_shelves) l9 c9 k9,
    b_are_shelves := ((fun_mk (st := s_are_shelves) l9 c9 k9).binds (fun _ _ _ _ _ _ => el1 fun _ => rfl)),
    F_Shelves___init__ := fun_mk (st := s_Shelves___init__) l10 c10 k10,
    b_Shelves___init__ := ((fun_mk (st := s_Shelves___init__) l10 c10 k10).binds (fun _ _ _ _ _ _ => el2 fun _ _ => rfl)),
    M_Shelves_told := ⟨a11, i11, k11⟩,
    F_Shelves_told := fun_mk (st := s_Shelves_told) l11 c11 k11,
    b_Shelves_told := ((fun_mk (st := s_Shelves_told) l11 c11 k11).binds (fun _ _ _ _ _ _ => el1 fun _ => rfl)),
    M_Shelves_many_rows := ⟨a12, i12, k12⟩,
    F_Shelves_many_rows := fun_mk (st := s_Shelves_many_rows) l12 c12 k12,
    b_Shelves_many_rows := ((fun_mk (st := s_Shelves_many_rows) l12 c12 k12).binds (fun _ _ _ _ _ _ => el1 fun _ => rfl)),
    M_Shelves_rows_of := ⟨a13, i13, k13⟩,
    F_Shelves_rows_of := fun_mk (st := s_Shelves_rows_of) l13 c13 k13,
    b_Shelves_rows_of := ((fun_mk (st := s_Shelves_rows_of) l13 c13 k13).binds (fun _ _ _ _ _ _ => el2 fun _ _ => rfl)),
    M_Shelves_shelf_with := ⟨a14, i14, k14⟩,
    F_Shelves_shelf_with := fun_mk (st := s_Shelves_shelf_with) l14 c14 k14,
    b_Shelves_shelf_with := ((fun_mk (st := s_Shelves_shelf_with) l14 c14 k14).binds (fun _ _ _ _ _ _ => el2 fun _ _ => rfl)),
    M_Shelves_shelf_at := ⟨a15, i15, k15⟩,
    F_Shelves_shelf_at := fun_mk (st := s_Shelves_shelf_at) l15 c15 k15,
    b_Shelves_shelf_at := ((fun_mk (st := s_Shelves_shelf_at) l15 c15 k15).binds (fun _ _ _ _ _ _ => el2 fun _ _ => rfl)),
    M_Shelves_kind_at := ⟨a16, i16, k16⟩,
    F_Shelves_kind_at := fun_mk (st := s_Shelves_kind_at) l16 c16 k16,
    b_Shelves_kind_at := ((fun_mk (st := s_Shelves_kind_at) l16 c16 k16).binds (fun _ _ _ _ _ _ => el2 fun _ _ => rfl)),
    M_Shelves_row_for := ⟨a17, i17, k17⟩,
    F_Shelves_row_for := fun_mk (st := s_Shelves_row_for) l17 c17 k17,
    b_Shelves_row_for := ((fun_mk (st := s_Shelves_row_for) l17 c17 k17).binds (fun _ _ _ _ _ _ => el3 fun _ _ _ => rfl)),
    m_l_cell_at := PySem.W.mg_of X G a18,
    F_l_cell_at := fun_mk (st := s_l_cell_at) l18 c18 k18,
    b_l_cell_at := ((fun_mk (st := s_l_cell_at) l18 c18 k18).binds (fun _ _ _ _ _ _ => el2 fun _ _ => rfl)),
    m_l_mixed := PySem.W.mg_of X G a19,
    F_l_mixed := fun_mk (st := s_l_mixed) l19 c19 k19,
    b_l_mixed := ((fun_mk (st := s_l_mixed) l19 c19 k19).binds (fun _ _ _ _ _ _ => el2 fun _ _ => rfl)),
    m_l_sign := PySem.W.mg_of X G a20,
    F_l_sign := fun_mk (st := s_l_sign) l20 c20 k20,
    b_l_sign := ((fun_mk (st := s_l_sign) l20 c20 k20).binds (fun _ _ _ _ _ _ => el2 fun _ _ => rfl)),
    m_l_laid_over := PySem.W.mg_of X G a21,
    F_l_laid_over := fun_mk (st := s_l_laid_over) l21 c21 k21,
    b_l_laid_over := ((fun_mk (st := s_l_laid_over) l21 c21 k21).binds (fun _ _ _ _ _ _ => el2 fun _ _ => rfl)),
    m_l_spread := PySem.W.mg_of X G a22,
    F_l_spread := fun_mk (st := s_l_spread) l22 c22 k22,
    b_l_spread := ((fun_mk (st := s_l_spread) l22 c22 k22).binds (fun _ _ _ _ _ _ => el1 fun _ => rfl)),
    m_l_letter := PySem.W.mg_of X G a23,
    F_l_letter := fun_mk (st := s_l_letter) l23 c23 k23,
    b_l_letter := ((fun_mk (st := s_l_letter) l23 c23 k23).binds (fun _ _ _ _ _ _ => el1 fun _ => rfl)),
    m_l_names := PySem.W.mg_of X G a24,
    F_l_names := fun_mk (st := s_l_names) l24 c24 k24,
    b_l_names := ((fun_mk (st := s_l_names) l24 c24 k24).binds (fun _ _ _ _ _ _ => el2 fun _ _ => rfl)),
    m_l_whole := PySem.W.mg_of X G a25,
    F_l_whole := fun_mk (st := s_l_whole) l25 c25 k25,
    b_l_whole := ((fun_mk (st := s_l_whole) l25 c25 k25).binds (fun _ _ _ _ _ _ => el2 fun _ _ => rfl)),
    m_l_shelves := PySem.W.mg_of X G a26,
    F_l_shelves := fun_mk (st := s_l_shelves) l26 c26 k26,
    b_l_shelves := ((fun_mk (st := s_l_shelves) l26 c26 k26).binds (fun _ _ _ _ _ _ => el1 fun _ => rfl)),
    m_l_odd_shelf := PySem.W.mg_of X G a27,
    F_l_odd_shelf := fun_mk (st := s_l_odd_shelf) l27 c27 k27,
    b_l_odd_shelf := ((fun_mk (st := s_l_odd_shelf) l27 c27 k27).binds (fun _ _ _ _ _ _ => el2 fun _ _ => rfl)),
    m_l_spoiled := PySem.W.mg_of X G a28,
    F_l_spoiled := fun_mk (st := s_l_spoiled) l28 c28 k28,
    b_l_spoiled := ((fun_mk (st := s_l_spoiled) l28 c28 k28).binds (fun _ _ _ _ _ _ => el2 fun _ _ => rfl)),
    m_l_refused := PySem.W.mg_of X G a29,
    F_l_refused := fun_mk (st := s_l_refused) l29 c29 k29,
    b_l_refused := ((fun_mk (st := s_l_refused) l29 c29 k29).binds (fun _ _ _ _ _ _ => el1 fun _ => rfl)),
    m_l_no_shelf := PySem.W.mg_of X G a30,
    F_l_no_shelf := fun_mk (st := s_l_no_shelf) l30 c30 k30,
    b_l_no_shelf := ((fun_mk (st := s_l_no_shelf) l30 c30 k30).binds (fun _ _ _ _ _ _ => el3 fun _ _ _ => rfl)),
    m_l_no_row := PySem.W.mg_of X G a31,
    F_l_no_row := fun_mk (st := s_l_no_row) l31 c31 k31,
    b_l_no_row := ((fun_mk (st := s_l_no_row) l31 c31 k31).binds (fun _ _ _ _ _ _ => el2 fun _ _ => rfl)),
    m_l_stand := PySem.W.mg_of X G a32,
    F_l_stand := fun_mk (st := s_l_stand) l32 c32 k32,
    b_l_stand := ((fun_mk (st := s_l_stand) l32 c32 k32).binds (fun _ _ _ _ _ _ => el3 fun _ _ _ => rfl)),
    m_law := PySem.W.mg_of X G a33,
    F_law := fun_mk (st := s_law) l33 c33 k33,
    b_law := ((fun_mk (st := s_law) l33 c33 k33).binds (fun _ _ _ _ _ _ => el1 fun _ => rfl)),
    cl_Shelves := ⟨pg_Shelves, hd_Shelves, po_Shelves, sa_Shelves⟩,
    mg_Shelves := PySem.W.mg_of X G aC_Shelves,
    k_Shelves := ⟨mk_Shelves, a10, i10, kc_Shelves⟩,
    no_Shelves_shelves := no_Shelves_shelves,
    mg_BadWord := PySem.W.mg_of X G aC_BadWord,
    mg_NoSuch := PySem.W.mg_of X G aC_NoSuch,
    xi0_BadWord := xj_BadWord,
    x_BadWord := ⟨xx_BadWord, kc_BadWord, sa_BadWord, ga_BadWord, gn_BadWord, hd_BadWord⟩,
    em_BadWord_BadWord := em_BadWord_BadWord,
    em_BadWord_NoSuch := em_BadWord_NoSuch,
    x_NoSuch := ⟨xx_NoSuch, kc_NoSuch, sa_NoSuch, ga_NoSuch, gn_NoSuch, hd_NoSuch⟩,
    xi_NoSuch := a1,
    xf_NoSuch := i1,
    no_NoSuch_name := no_NoSuch_name,
    em_NoSuch_BadWord := em_NoSuch_BadWord,
    em_NoSuch_NoSuch := em_NoSuch_NoSuch,
    n_all := PySem.W.mg_none_of X G z_all,
    n_bool := PySem.W.mg_none_of X G z_bool,
    n_enumerate := PySem.W.mg_none_of X G z_enumerate,
    n_int := PySem.W.mg_none_of X G z_int,
    n_isinstance := PySem.W.mg_none_of X G z_isinstance,
    n_len := PySem.W.mg_none_of X G z_len,
    n_list := PySem.W.mg_none_of X G z_list,
    n_ord := PySem.W.mg_none_of X G z_ord,
    n_range := PySem.W.mg_none_of X G z_range,
    n_set := PySem.W.mg_none_of X G z_set,
    n_str := PySem.W.mg_none_of X G z_str,
    n_sum := PySem.W.mg_none_of X G z_sum,
    n_tuple := PySem.W.mg_none_of X G z_tuple,
    c_KINDS := ⟨_, PySem.W.mg_of X G g_KINDS, fun _ => .inr ⟨_, _, _, gl_KINDS, rfl, rfl, (show 2 ≤ sizeLine by decide), (.cons ⟨_, rfl⟩ (.cons ⟨_, rfl⟩ .nil))⟩⟩,
    c_NAME_MOST := ⟨_, PySem.W.mg_of X G g_NAME_MOST, ⟨_, rfl⟩⟩,
    c_NAME_SIGNS := ⟨_, PySem.W.mg_of X G g_NAME_SIGNS, ⟨_, rfl⟩⟩,
    c_ROWS_MOST := ⟨_, PySem.W.mg_of X G g_ROWS_MOST, ⟨_, rfl⟩⟩,
    c_SHELVES_MOST := ⟨_, PySem.W.mg_of X G g_SHELVES_MOST, ⟨_, rfl⟩⟩,
    bl_law := fun s u => .of_eq rfl }⟩
theorem walk {l : PySem.W.OpenLaw} {q : Program} {loose : List Str} {XP : (Str → Option Value) → Heap → Prop} {YP : World → Heap → Prop} {d : DefRec} {K : Params → PySem.W.Frag} (hn : l.most = some 63) (hdf : d.params.defaults = [])
    (hY : ∀ (w : World) (h : Heap), YP w h → (K w.params).In h)
    (F : ∀ (w : World) (mg : Str → Option Value) (fa : Addr) (h : Heap), (K w.params).In h → h.Ns mainGlobals mg → mg d.name = some (.ref fa) →
      ∃ fd : FuncData, (∀ (s : Shared) (u : Value), BindsTo s fd ⟨[u], []⟩ [("_law_script", u)]) ∧ ∀ base : Heap, (K w.params).In base → base.Ns mainGlobals mg → FnOk l.prog w (K w.params) mg base CX0 8 fa fd ["_law_script"] (sp_law (K w.params))) :
    PySem.W.WalkO q loose XP YP l.row.toRowW d [] (fun f vs => PySem.call f vs) :=
  L2.walk_of (n := 63) (k := 8) (x := "_law_script") (CX := fun _ => CX0) (sp := fun w => sp_law (K w.params)) hn (by decide) hdf ⟨rfl, by decide, by decide⟩ hY F (fun _ _ a ns hl _ hS => ⟨a, ns, rfl, hS, hl, fun _ => rfl⟩) fun _ _ _ _ _ z => z
end K05
def PySem.W.Fast.tw11341983746428877505 : Unit := ()
def PySem.W.Fast.tw17891920404936655500 : Unit := ()
def PySem.W.Fast.tw15700172705394489314 : Unit := ()
def PySem.W.Fast.tw14320447773156699385 : Unit := ()
def PySem.W.Fast.tw5922434995091435355 : Unit := ()
def PySem.W.Fast.tw12818800432254373090 : Unit := ()
def PySem.W.Fast.tw2442723816185094169 : Unit := ()
def PySem.W.Fast.tw14943846458373858933 : Unit := ()
def PySem.W.Fast.tw11560284069753545867 : Unit := ()
def PySem.W.Fast.tw4151179994116837843 : Unit := ()
def PySem.W.Fast.tw8401554005547634866 : Unit := ()
def PySem.W.Fast.tw6559431547370537890 : Unit := ()
def PySem.W.Fast.tw14275697863980853147 : Unit := ()
def PySem.W.Fast.tw6234713705441566608 : Unit := ()
def PySem.W.Fast.tw14733066137534954204 : Unit := ()
def PySem.W.Fast.tw15311071229062718238 : Unit := ()
def PySem.W.Fast.tw6016193820560004880 : Unit := ()
def PySem.W.Fast.tw14962834366701450708 : Unit := ()
def PySem.W.Fast.tw1529679053504804166 : Unit := ()
def PySem.W.Fast.tw13839498877691348485 : Unit := ()
def PySem.W.Fast.tw12932006055543174708 : Unit := ()
def PySem.W.Fast.tw12950203540153644070 : Unit := ()

open PySem PySem.W PyProof.Rows
set_option maxRecDepth 100000 in
set_option maxHeartbeats 0 in
theorem PySem.Challenge.cw_lettercell_k05_shelves_holds : PySem.Challenge.rw_lettercell_k05_shelves.Holds := by
  w_on; o_law; k_head; (case hw => w_witness2)
  k_fill
  refine K05.walk (l := PySem.Challenge.rw_lettercell_k05_shelves) rfl rfl (fun w h Y => PySem.W.kIn_of Y) ?F
  case F =>
    intro w mg fa h KX G hmg
    have T : ∃ t, K05.Txt (L2.KOf KX) mg t := by
      dsimp only [L2.KOf]
      refine' K05.txt_mk KX G ?a1 ?i1 ?l1 ?c1 ?k1 ?a2 ?l2 ?c2 ?k2 ?a3 ?l3 ?c3 ?k3 ?a4 ?l4 ?c4 ?k4 ?a5 ?l5 ?c5 ?k5 ?a6 ?l6 ?c6 ?k6 ?a7 ?l7 ?c7 ?k7 ?a8 ?l8 ?c8 ?k8 ?a9 ?l9 ?c9 ?k9 ?a10 ?i10 ?l10 ?c10 ?k10 ?a11 ?i11 ?l11 ?c11 ?k11 ?a12 ?i12 ?l12 ?c12 ?k12 ?a13 ?i13 ?l13 ?c13 ?k13 ?a14 ?i14 ?l14 ?c14 ?k14 ?a15 ?i15 ?l15 ?c15 ?k15 ?a16 ?i16 ?l16 ?c16 ?k16 ?a17 ?i17 ?l17 ?c17 ?k17 ?a18 ?l18 ?c18 ?k18 ?a19 ?l19 ?c19 ?k19 ?a20 ?l20 ?c20 ?k20 ?a21 ?l21 ?c21 ?k21 ?a22 ?l22 ?c22 ?k22 ?a23 ?l23 ?c23 ?k23 ?a24 ?l24 ?c24 ?k24 ?a25 ?l25 ?c25 ?k25 ?a26 ?l26 ?c26 ?k26 ?a27 ?l27 ?c27 ?k27 ?a28 ?l28 ?c28 ?k28 ?a29 ?l29 ?c29 ?k29 ?a30 ?l30 ?c30 ?k30 ?a31 ?l31 ?c31 ?k31 ?a32 ?l32 ?c32 ?k32 ?a33 ?l33 ?c33 ?k33 ?aC_Shelves ?pg_Shelves ?hd_Shelves ?po_Shelves ?sa_Shelves ?mk_Shelves ?kc_Shelves ?no_Shelves_shelves ?aC_BadWord ?aC_NoSuch ?xj_BadWord ?xx_BadWord ?kc_BadWord ?sa_BadWord ?ga_BadWord ?gn_BadWord ?hd_BadWord ?em_BadWord_BadWord ?em_BadWord_NoSuch ?xx_NoSuch ?kc_NoSuch ?sa_NoSuch ?ga_NoSuch ?gn_NoSuch ?hd_NoSuch ?no_NoSuch_name ?em_NoSuch_BadWord ?em_NoSuch_NoSuch ?z_all ?z_bool ?z_enumerate ?z_int ?z_isinstance ?z_len ?z_list ?z_ord ?z_range ?z_set ?z_str ?z_sum ?z_tuple ?g_KINDS ?gl_KINDS ?g_NAME_MOST ?g_NAME_SIGNS ?g_ROWS_MOST ?g_SHELVES_MOST
      (case aC_NoSuch => k_is)
      (case aC_BadWord => k_is)
      (case aC_Shelves => k_is)
      (case a1 => k_is)
      (case i1 => k_is)
      (case l1 => k_is)
      (case c1 => k_is)
      (case k1 => k_is)
      (case a2 => k_is)
      (case l2 => k_is)
      (case c2 => k_is)
      (case k2 => k_is)
      (case a3 => k_is)
      (case l3 => k_is)
      (case c3 => k_is)
      (case k3 => k_is)
      (case a4 => k_is)
      (case l4 => k_is)
      (case c4 => k_is)
      (case k4 => k_is)
      (case a5 => k_is)
      (case l5 => k_is)
      (case c5 => k_is)
      (case k5 => k_is)
      (case a6 => k_is)
      (case l6 => k_is)
      (case c6 => k_is)
      (case k6 => k_is)
      (case a7 => k_is)
      (case l7 => k_is)
      (case c7 => k_is)
      (case k7 => k_is)
      (case a8 => k_is)
      (case l8 => k_is)
      (case c8 => k_is)
      (case k8 => k_is)
      (case a9 => k_is)
      (case l9 => k_is)
      (case c9 => k_is)
      (case k9 => k_is)
      (case a10 => k_is)
      (case i10 => k_is)
      (case l10 => k_is)
      (case c10 => k_is)
      (case k10 => k_is)
      (case a11 => k_is)
      (case i11 => k_is)
      (case l11 => k_is)
      (case c11 => k_is)
      (case k11 => k_is)
      (case a12 => k_is)
      (case i12 => k_is)
      (case l12 => k_is)
      (case c12 => k_is)
      (case k12 => k_is)
      (case a13 => k_is)
      (case i13 => k_is)
      (case l13 => k_is)
      (case c13 => k_is)
      (case k13 => k_is)
      (case a14 => k_is)
      (case i14 => k_is)
      (case l14 => k_is)
      (case c14 => k_is)
      (case k14 => k_is)
      (case a15 => k_is)
      (case i15 => k_is)
      (case l15 => k_is)
      (case c15 => k_is)
      (case k15 => k_is)
      (case a16 => k_is)
      (case i16 => k_is)
      (case l16 => k_is)
      (case c16 => k_is)
      (case k16 => k_is)
      (case a17 => k_is)
      (case i17 => k_is)
      (case l17 => k_is)
      (case c17 => k_is)
      (case k17 => k_is)
      (case a18 => k_is)
      (case l18 => k_is)
      (case c18 => k_is)
      (case k18 => k_is)
      (case a19 => k_is)
      (case l19 => k_is)
      (case c19 => k_is)
      (case k19 => k_is)
      (case a20 => k_is)
      (case l20 => k_is)
      (case c20 => k_is)
      (case k20 => k_is)
      (case a21 => k_is)
      (case l21 => k_is)
      (case c21 => k_is)
      (case k21 => k_is)
      (case a22 => k_is)
      (case l22 => k_is)
      (case c22 => k_is)
      (case k22 => k_is)
      (case a23 => k_is)
      (case l23 => k_is)
      (case c23 => k_is)
      (case k23 => k_is)
      (case a24 => k_is)
      (case l24 => k_is)
      (case c24 => k_is)
      (case k24 => k_is)
      (case a25 => k_is)
      (case l25 => k_is)
      (case c25 => k_is)
      (case k25 => k_is)
      (case a26 => k_is)
      (case l26 => k_is)
      (case c26 => k_is)
      (case k26 => k_is)
      (case a27 => k_is)
      (case l27 => k_is)
      (case c27 => k_is)
      (case k27 => k_is)
      (case a28 => k_is)
      (case l28 => k_is)
      (case c28 => k_is)
      (case k28 => k_is)
      (case a29 => k_is)
      (case l29 => k_is)
      (case c29 => k_is)
      (case k29 => k_is)
      (case a30 => k_is)
      (case l30 => k_is)
      (case c30 => k_is)
      (case k30 => k_is)
      (case a31 => k_is)
      (case l31 => k_is)
      (case c31 => k_is)
      (case k31 => k_is)
      (case a32 => k_is)
      (case l32 => k_is)
      (case c32 => k_is)
      (case k32 => k_is)
      (case a33 => k_is)
      (case l33 => k_is)
      (case c33 => k_is)
      (case k33 => k_is)
      (case pg_Shelves => k_is)
      (case hd_Shelves => k_is)
      (case po_Shelves => k_is)
      (case sa_Shelves => k_is)
      (case mk_Shelves => k_is)
      (case kc_Shelves => k_is)
      (case no_Shelves_shelves => k_is)
      (case xj_BadWord => k_is)
      (case xx_BadWord => kernel_rfl)
      (case kc_BadWord => k_is)
      (case sa_BadWord => k_is)
      (case ga_BadWord => k_is)
      (case gn_BadWord => k_is)
      (case hd_BadWord => k_is)
      (case em_BadWord_BadWord => kernel_rfl)
      (case em_BadWord_NoSuch => kernel_rfl)
      (case xx_NoSuch => kernel_rfl)
      (case kc_NoSuch => k_is)
      (case sa_NoSuch => k_is)
      (case ga_NoSuch => k_is)
      (case gn_NoSuch => k_is)
      (case hd_NoSuch => k_is)
      (case no_NoSuch_name => k_is)
      (case em_NoSuch_BadWord => kernel_rfl)
      (case em_NoSuch_NoSuch => kernel_rfl)
      (case z_all => k_is)
      (case z_bool => k_is)
      (case z_enumerate => k_is)
      (case z_int => k_is)
      (case z_isinstance => k_is)
      (case z_len => k_is)
      (case z_list => k_is)
      (case z_ord => k_is)
      (case z_range => k_is)
      (case z_set => k_is)
      (case z_str => k_is)
      (case z_sum => k_is)
      (case z_tuple => k_is)
      (case g_KINDS => k_is)
      (case gl_KINDS => k_is)
      (case g_NAME_MOST => k_is)
      (case g_NAME_SIGNS => k_is)
      (case g_ROWS_MOST => k_is)
      (case g_SHELVES_MOST => k_is)
    obtain ⟨t, T⟩ := T
    have e0 := hmg.symm.trans T.m_law
    cases e0
    exact ⟨_, T.bl_law, fun base kb nb => K05.ok_law T⟩
#print axioms PySem.Challenge.cw_lettercell_k05_shelves_holds

