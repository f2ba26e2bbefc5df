import PyProof.Rows.All
import Wide.All
import OpenK.AllK
import Wide.FinOn
import Lean
import PyProof.EqAt
import PyProof.EqKinds
import PyProof.TupleCall
import KE.KRevIter
import PyProof.StationsW
import PyProof.ExcBaseAll.ValueError
import PyProof.ExcInit
import PyProof.InstStoreFacts
import KE.KTryMore
import PyProof.NsDelKeeps
import KE.BitLaws
import PyProof.StrLawsReplace
import PyProof.StrLawsTight
import PyProof.StrReplace2
import KE.KIntText
import PyProof.Rows.StrIntSpec
import KE.KIsAll
import PySem.Challenge.RW_lettercell_k17_lines_spoiled_amid
-- CHANGE: your row's module here, as the last of these rows
set_option Elab.async false
set_option linter.all false
set_option maxRecDepth 100000
/-! THE HAND LAYER, for ints, bools, texts, own classes, LISTS and tuples (index, slices, in, append, pop ..), calls, loops. Paste it whole ahead of your own text; what your proof does not reach may be deleted. -/
namespace L2
open PySem PySem.Spec PyProof.Rows

/-- a key: an int or a str -/
abbrev Key := Sum Int Str
def keyIs : Key → Value → Bool
  | .inl k, v => Value.isInt k v
  | .inr x, v => Value.isStrOf x v
def keyH (w : World) : Key → Int
  | .inl k => hashInt k
  | .inr x => hashStr w x
theorem keyIs_shape : ∀ {k : Key} {v : Value}, keyIs k v = true → (∃ i t, k = Sum.inl i ∧ v = Value.int i t) ∨ (∃ x t, k = Sum.inr x ∧ v = Value.str x t)
  | .inl i, v, h => by
    obtain ⟨t, e⟩ := Value.isInt_shape (k := i) (v := v) h
    exact .inl ⟨i, t, rfl, e⟩
  | .inr x, v, h => by
    obtain ⟨t, e⟩ := Value.isStrOf_shape (x := x) (v := v) h
    exact .inr ⟨x, t, rfl, e⟩
theorem keyIs_int (i : Int) (t : Tok) : keyIs (.inl i) (.int i t) = true := by simp [keyIs, Value.isInt]
theorem keyIs_str (x : Str) (t : Tok) : keyIs (.inr x) (.str x t) = true := by simp [keyIs, Value.isStrOf]
theorem key_ll (a b : Int) : decide ((Sum.inl a : Key) = Sum.inl b) = (a == b) := by
  by_cases e : a = b
  · subst e; simp
  · have h : ¬ (Sum.inl a : Key) = Sum.inl b := fun q => e (Sum.inl.inj q)
    rw [decide_eq_false h]
    exact (beq_eq_false_iff_ne.mpr e).symm
theorem key_rr (a b : Str) : decide ((Sum.inr a : Key) = Sum.inr b) = decide (a = b) := by
  by_cases e : a = b
  · subst e; simp
  · have h : ¬ (Sum.inr a : Key) = Sum.inr b := fun q => e (Sum.inr.inj q)
    rw [decide_eq_false h, decide_eq_false e]
theorem key_lr (a : Int) (b : Str) : decide ((Sum.inl a : Key) = Sum.inr b) = false := decide_eq_false (fun q => nomatch q)
theorem key_rl (a : Str) (b : Int) : decide ((Sum.inr a : Key) = Sum.inl b) = false := decide_eq_false (fun q => nomatch q)

def mixKind (prog : Program) (w : World) : PySem.KeyKind prog w Key where
  is := keyIs
  hash := keyH w
  inj := fun v a b ha hb => by
    rcases keyIs_shape ha with ⟨i, t, rfl, rfl⟩ | ⟨x, t, rfl, rfl⟩
    · rcases keyIs_shape hb with ⟨j, u, rfl, e⟩ | ⟨y, u, rfl, e⟩
      · injection e with e1 _; rw [e1]
      · exact nomatch e
    · rcases keyIs_shape hb with ⟨j, u, rfl, e⟩ | ⟨y, u, rfl, e⟩
      · exact nomatch e
      · injection e with e1 _; rw [e1]
  byValue := fun k v h => by
    rcases keyIs_shape h with ⟨i, t, rfl, rfl⟩ | ⟨x, t, rfl, rfl⟩ <;> rfl
  pyHash := fun hv h => by
    rcases keyIs_shape hv with ⟨i, t, rfl, rfl⟩ | ⟨x, t, rfl, rfl⟩
    · exact wpAny_pyHash_int h
    · exact wpAny_pyHash_str h
  eqBool := fun hu hv h => by
    rcases keyIs_shape hu with ⟨i, t, rfl, rfl⟩ | ⟨x, t, rfl, rfl⟩
    · rcases keyIs_shape hv with ⟨j, u, rfl, rfl⟩ | ⟨y, u, rfl, rfl⟩
      · rw [key_ll] at h; exact wpAny_eqBool_int h
      · rw [key_lr] at h; exact SeqAt.EqAt.int_str i t y u _ _ _ _ h
    · rcases keyIs_shape hv with ⟨j, u, rfl, rfl⟩ | ⟨y, u, rfl, rfl⟩
      · rw [key_rl] at h; exact SeqAt.EqAt.str_int x t j u _ _ _ _ h
      · rw [key_rr] at h; exact wpAny_eqBool_str h
  «strs» := fun k x t v h => by
    rcases keyIs_shape h with ⟨i, u, rfl, e⟩ | ⟨y, u, rfl, e⟩
    · exact nomatch e
    · injection e with e1 _
      subst e1
      cases v <;> rfl

theorem mixKind_int (prog : Program) (w : World) (i : Int) (t : Tok) : (mixKind prog w).is (.inl i) (.int i t) = true := keyIs_int i t
theorem mixKind_str (prog : Program) (w : World) (x : Str) (t : Tok) : (mixKind prog w).is (.inr x) (.str x t) = true := keyIs_str x t
end L2

namespace L2
open PySem PySem.Spec PyProof.Rows

/-- a value, without the heap -/
inductive V where
  | non | bl (b : Bool) | int (i : Int) | str (x : Str) | byt (b : Array UInt8) | flt (b : UInt64) | ref (a : Addr) | ty (n : String)
  deriving DecidableEq

def RelV : V → Value → Prop
  | .non, u => u = Value.none
  | .bl b, u => u = Value.bool b
  | .int i, u => ∃ t, u = Value.int i t
  | .str x, u => ∃ t, u = Value.str x t
  | .byt b, u => ∃ t, u = Value.bytes b t
  | .flt b, u => ∃ t, u = Value.float b t
  | .ref a, u => u = Value.ref a
  | .ty n, u => u = Value.type n

abbrev Vals : List V → List Value → Prop := Paired RelV
theorem Vals.length {xs : List V} {us : List Value} (r : Vals xs us) : xs.length = us.length := Paired.length r
theorem Vals.get : ∀ {xs : List V} {us : List Value} {i : Nat} {x : V}, Vals xs us → xs[i]? = some x → ∃ u, us[i]? = some u ∧ RelV x u
  | _, _, _, _, .nil, e => by simp at e
  | _, _, 0, _, .cons r _, e => by simp at e; subst e; exact ⟨_, rfl, r⟩
  | _, _, i + 1, x, .cons _ t, e => by
    obtain ⟨u, h1, h2⟩ := Vals.get (i := i) (x := x) t (by simpa using e)
    exact ⟨u, by simpa using h1, h2⟩
theorem Vals.set {x : V} {u : Value} (r : RelV x u) : ∀ {xs : List V} {us : List Value} (i : Nat), Vals xs us → Vals (xs.set i x) (us.set i u)
  | _, _, _, .nil => .nil
  | _, _, 0, .cons _ t => .cons r t
  | _, _, i + 1, .cons q t => .cons q (Vals.set r i t)
theorem Vals.append : ∀ {xs ys : List V} {us ws : List Value}, Vals xs us → Vals ys ws → Vals (xs ++ ys) (us ++ ws)
  | _, _, _, _, .nil, s => s
  | _, _, _, _, .cons r t, s => .cons r (Vals.append t s)
theorem Vals.take : ∀ {xs : List V} {us : List Value} (n : Nat), Vals xs us → Vals (xs.take n) (us.take n)
  | _, _, 0, _ => .nil
  | _, _, _ + 1, .nil => .nil
  | _, _, n + 1, .cons r t => .cons r (Vals.take n t)
theorem Vals.drop : ∀ {xs : List V} {us : List Value} (n : Nat), Vals xs us → Vals (xs.drop n) (us.drop n)
  | _, _, 0, r => r
  | _, _, _ + 1, .nil => .nil
  | _, _, n + 1, .cons _ t => Vals.drop n t
theorem Vals.none_of : ∀ {xs : List V} {us : List Value} {i : Nat}, Vals xs us → xs[i]? = none → us[i]? = none := fun {xs us i} r e => by
  have h1 := r.length
  have h2 : xs.length ≤ i := List.getElem?_eq_none_iff.mp e
  exact List.getElem?_eq_none_iff.mpr (by omega)

def RelO : Option V → Option Value → Prop
  | some v, some u => RelV v u
  | none, none => True
  | _, _ => False
def KV {κ : Type} : List (κ × V) → List (κ × Value) → Prop := Paired fun (p : κ × V) (q : κ × Value) => p.1 = q.1 ∧ RelV p.2 q.2

/-- a key of a dict (00_mix): an int or a text -/
def kV : Key → V
  | .inl i => .int i
  | .inr x => .str x

/-- what stands at a tracked address -/
inductive HO where
  /-- a list -/
  | lst (xs : List V)
  /-- a tuple (never changes) -/
  | tup (xs : List V)
  /-- a dict whose keys are ints and texts; one whose keys are tuples of ints and texts (the empty one is both) -/
  | dK (kvs : List (Key × V)) | dT (kvs : List (List Key × V))
  /-- a set of ints: its members, its size -/
  | set (S : Int → Bool) (n : Nat)
  /-- an instance of the class at C, its dict at dx, its attributes -/
  | ins (C dx : Addr) (fs : List (Str × V))
  /-- the dict of the instance at x -/
  | own (x : Addr)
  /-- the dict of an exception -/
  | xd (fs : List (Str × V))
  /-- a bound method, f of x -/
  | met (f x : Addr)
  /-- a range object lo, lo + 1, .. below hi -/
  | rng (lo hi : Int)
  /-- a thing that is known to the object (the script; a dict while a loop walks it): read, never written while it is so -/
  | frz (o : Obj) (u : HO)
  /-- a code object's table -/
  | tbl (ps : Array Value)
  /-- any other thing, by what is true of its one object (a def of one's own: SetO a S n := HO.ext fun h => ..) -/
  | ext (φ : Heap → Prop)

abbrev Hp := Addr → Option HO
def upd (H : Hp) (a : Addr) (o : HO) : Hp := fun b => if b = a then some o else H b
theorem upd_same {H : Hp} {a : Addr} {o : HO} : upd H a o a = some o := by unfold upd; rw [if_pos rfl]
theorem upd_ne {H : Hp} {a b : Addr} {o : HO} (h : b ≠ a) : upd H a o b = H b := by unfold upd; rw [if_neg h]
/-- two objects of different content stand apart -/
theorem ne_of {H : Hp} {a b : Addr} {o u : HO} (h : H a = some o) (h' : H b = some u) (d : o ≠ u) : a ≠ b := by
  intro e; subst e; rw [h] at h'; exact d (Option.some.inj h')
theorem ne_of_none {H : Hp} {a b : Addr} {o : HO} (h : H a = some o) (h' : H b = none) : a ≠ b := by
  intro e; subst e; rw [h] at h'; cases h'

section
variable (P : Program) (w : World)
def ObjOk (H : Hp) (h : Heap) (a : Addr) : HO → Prop
  | .lst xs => xs.length ≤ sizeLine ∧ ∃ (its : List Value) (n : Nat), Vals xs its ∧ h.get? a = some { cls := .type "list", data := .seq its.toArray n }
  | .tup xs => xs.length ≤ sizeLine ∧ ∃ its : List Value, Vals xs its ∧ IsTup h a its.toArray
  | .dK kvs => kvs.length ≤ sizeLine ∧ (a == sysModules) = false ∧ ∃ vs, KV kvs vs ∧ h.DictOf (mixKind P w) a vs
  | .dT kvs => kvs.length ≤ sizeLine ∧ (a == sysModules) = false ∧ ∃ xs : List (List Key × Addr × Value),
      Paired (fun (p : List Key × V) (q : List Key × Addr × Value) => p.1 = q.1 ∧ H q.2.1 = some (.tup (p.1.map kV)) ∧ RelV p.2 q.2.2) kvs xs ∧
      ∃ o es ep, h.get? a = some o ∧ o.ExactDict ∧ o.data = .dict es ep ∧ es.toList = xs.map (entryOfKey (tupleKind (mixKind P w))) ∧ (xs.map (·.1)).Nodup
  | .set S n => h.SetOf (intKind P w) a S n
  | .ins C dx fs => H dx = some (.own a) ∧ fs.length ≤ 1000 ∧ dx ≠ a ∧ h.get? a = some (PySem.W.instObj C dx) ∧
      ∃ mA, h.Ns1 dx mA ∧ (∀ f, RelO (fs.lookup f) (mA f)) ∧ PySem.Within mA (fs.map (·.1))
  | .own _ => ∃ o, h.get? a = some o
  | .xd fs => ∃ mA, h.Ns1 a mA ∧ ∀ f, RelO (fs.lookup f) (mA f)
  | .rng lo hi => ∃ t u v, h.get? a = some { cls := .type "range", data := .fields #[.int lo t, .int hi u, .int 1 v] }
  | .frz o u => h.get? a = some o ∧ ObjOk H h a u
  | .tbl ps => h.get? a = some { cls := .none, data := .fields ps }
  | .met f x => h.get? a = some (PySem.W.methodObj (.ref f) (.ref x))
  | .ext φ => φ h ∧ (∃ o, h.get? a = some o) ∧ ∀ h1 h2 : Heap, φ h1 → (∀ o, h1.get? a = some o → h2.get? a = some o) → φ h2
/-- the abstract heap is held -/
def HOk (H : Hp) (h : Heap) : Prop := ∀ a o, H a = some o → ObjOk P w H h a o
end

section
variable {P : Program} {w : World} {H H' : Hp} {h h' : Heap} {a : Addr} {o : HO}
theorem ObjOk.lt (x : ObjOk P w H h a o) : a < h.objs.size := by
  cases o with
  | lst xs => obtain ⟨_, _, _, _, e⟩ := x; exact Heap.lt_size e
  | tup xs => obtain ⟨_, _, _, p⟩ := x; exact p.lt
  | dK kvs => obtain ⟨_, _, _, _, o, _, _, e, _⟩ := x; exact Heap.lt_size e
  | dT kvs => obtain ⟨_, _, _, _, o, _, _, e, _⟩ := x; exact Heap.lt_size e
  | set S n => obtain ⟨o, _, _, _, e, _⟩ := x; exact Heap.lt_size e
  | ins C dx fs => obtain ⟨_, _, _, e, _⟩ := x; exact Heap.lt_size e
  | own y => obtain ⟨_, e⟩ := x; exact Heap.lt_size e
  | xd fs => obtain ⟨_, ⟨_, _, _, e, _⟩, _⟩ := x; exact Heap.lt_size e
  | rng lo hi => obtain ⟨_, _, _, e⟩ := x; exact Heap.lt_size e
  | frz ob u => obtain ⟨e, _⟩ := x; exact Heap.lt_size e
  | tbl ps => exact Heap.lt_size (show h.get? a = some _ from x)
  | met f y => exact Heap.lt_size (show h.get? a = some _ from x)
  | ext φ => obtain ⟨_, ⟨_, e⟩, _⟩ := x; exact Heap.lt_size e
theorem Paired.mapP {α β : Type} {F G : α → β → Prop} : ∀ {l₁ : List α} {l₂ : List β}, Paired F l₁ l₂ → (∀ a b, F a b → G a b) → Paired G l₁ l₂
  | _, _, .nil, _ => .nil
  | _, _, .cons r t, f => .cons (f _ _ r) (Paired.mapP t f)
/-- what an object's description leans on: its own object, its own dict, the tuples -/
theorem ObjOk.stay (x : ObjOk P w H h a o) (k : ∀ b u, (b = a ∨ H b = some (.own a)) → h.get? b = some u → h'.get? b = some u)
    (ho : ∀ b, H b = some (.own a) → H' b = some (.own a)) (ht : ∀ b xs, H b = some (.tup xs) → H' b = some (.tup xs)) : ObjOk P w H' h' a o := by
  induction o with
  | lst xs => obtain ⟨z, its, n, r, e⟩ := x; exact ⟨z, its, n, r, k _ _ (.inl rfl) e⟩
  | tup xs => obtain ⟨z, its, r, ob, e, c⟩ := x; exact ⟨z, its, r, ob, k _ _ (.inl rfl) e, c⟩
  | dK kvs => obtain ⟨z, y, vs, r, ob, es, ep, e, c⟩ := x; exact ⟨z, y, vs, r, ob, es, ep, k _ _ (.inl rfl) e, c⟩
  | dT kvs =>
    obtain ⟨z, y, xs, r, ob, es, ep, e, c⟩ := x
    exact ⟨z, y, xs, Paired.mapP r fun p q z => ⟨z.1, ht _ _ z.2.1, z.2.2⟩, ob, es, ep, k _ _ (.inl rfl) e, c⟩
  | set S n => obtain ⟨ob, es, ep, t, e, c⟩ := x; exact ⟨ob, es, ep, t, k _ _ (.inl rfl) e, c⟩
  | ins C dx fs =>
    obtain ⟨d, z, ne, e, mA, ⟨od, es, ep, e2, c⟩, r⟩ := x
    exact ⟨ho _ d, z, ne, k _ _ (.inl rfl) e, mA, ⟨od, es, ep, k _ _ (.inr d) e2, c⟩, r⟩
  | own y => obtain ⟨ob, e⟩ := x; exact ⟨ob, k _ _ (.inl rfl) e⟩
  | xd fs => obtain ⟨mA, ⟨od, es, ep, e, c⟩, r⟩ := x; exact ⟨mA, ⟨od, es, ep, k _ _ (.inl rfl) e, c⟩, r⟩
  | rng lo hi => obtain ⟨t, u, v, e⟩ := x; exact ⟨t, u, v, k _ _ (.inl rfl) e⟩
  | frz ob u ih => obtain ⟨e, q⟩ := x; exact ⟨k _ _ (.inl rfl) e, ih q⟩
  | tbl ps =>
    have e : h.get? a = some { cls := .none, data := .fields ps } := x
    show h'.get? a = some { cls := .none, data := .fields ps }
    exact k a _ (.inl rfl) e
  | met f y =>
    have e : h.get? a = some (PySem.W.methodObj (.ref f) (.ref y)) := x
    show h'.get? a = some (PySem.W.methodObj (.ref f) (.ref y))
    exact k a _ (.inl rfl) e
  | ext φ => obtain ⟨p, ⟨o, e⟩, st⟩ := x; exact ⟨st _ _ p fun o q => k _ _ (.inl rfl) q, ⟨o, k _ _ (.inl rfl) e⟩, st⟩
theorem HOk.lt (x : HOk P w H h) (e : H a = some o) : a < h.objs.size := (x a o e).lt
theorem HOk.fresh (x : HOk P w H h) (e : h.objs.size ≤ a) : H a = none := by
  cases q : H a with
  | none => rfl
  | some u => exact absurd (Nat.lt_of_lt_of_le (x.lt q) e) (Nat.lt_irrefl _)
/-- every object of the heap is kept -/
theorem HOk.kept (x : HOk P w H h) (k : ∀ b u, h.get? b = some u → h'.get? b = some u) : HOk P w H h' := fun a o e =>
  (x a o e).stay (fun b u _ q => k b u q) (fun _ q => q) fun _ _ q => q
/-- a new object is laid and tracked -/
theorem HOk.laid (x : HOk P w H h) (k : ∀ b u, h.get? b = some u → h'.get? b = some u) (hp : h.objs.size ≤ a) (new : ObjOk P w (upd H a o) h' a o) : HOk P w (upd H a o) h' := fun b u e => by
  have hn := x.fresh hp
  by_cases hb : b = a
  · subst hb; rw [upd_same] at e; cases e; exact new
  · rw [upd_ne hb] at e
    exact (x b u e).stay (fun c v _ q => k c v q) (fun c q => by rw [upd_ne (ne_of_none q hn)]; exact q) fun c xs q => by rw [upd_ne (ne_of_none q hn)]; exact q
end

/-- what may be read as u: it is u, or a known u -/
def Rd (H : Hp) (a : Addr) (u : HO) : Prop := H a = some u ∨ ∃ o, H a = some (.frz o u)
theorem Rd.of {H : Hp} {a : Addr} {u : HO} (h : H a = some u) : Rd H a u := .inl h
theorem Rd.ok {P : Program} {w : World} {H : Hp} {h : Heap} {a : Addr} {u : HO} (r : Rd H a u) (x : HOk P w H h) : ObjOk P w H h a u := by
  rcases r with r | ⟨o, r⟩
  · exact x a u r
  · obtain ⟨_, q⟩ := x a _ r
    exact q
/-- what may be written -/
def Mut : Option HO → Prop
  | some (.lst _) => True
  | some (.dK _) => True
  | some (.dT _) => True
  | some (.set _ _) => True
  | some (.ins _ _ _) => True
  | some (.ext _) => True
  | _ => False
section
variable {P : Program} {w : World} {H : Hp} {h h' : Heap} {x e : Addr} {o' : HO}
/-- the object at e is changed: x itself, or the dict of the instance x -/
theorem HOk.write (ok : HOk P w H h) (mu : Mut (H x)) (he : e = x ∨ H e = some (.own x)) (k : ∀ b u, b ≠ e → h.get? b = some u → h'.get? b = some u) (heo : ∃ u, h'.get? e = some u)
    (new : ObjOk P w (upd H x o') h' x o') : HOk P w (upd H x o') h' := fun b u q => by
  have nown : ∀ c y, H c = some (.own y) → c ≠ x := fun c y r z => by subst z; rw [r] at mu; exact mu
  have ntup : ∀ c xs, H c = some (.tup xs) → c ≠ x := fun c xs r z => by subst z; rw [r] at mu; exact mu
  by_cases hb : b = x
  · subst hb; rw [upd_same] at q; cases q; exact new
  · rw [upd_ne hb] at q
    by_cases hbe : b = e
    · have q' : H b = some (.own x) := by
        rcases he with z | z
        · exact absurd (hbe.trans z) hb
        · rw [hbe]; exact z
      rw [q] at q'; cases q'
      obtain ⟨v, hv⟩ := heo
      exact ⟨v, by rw [hbe]; exact hv⟩
    · refine (ok b u q).stay (fun c v hc r => k c v ?_ r) (fun c r => by rw [upd_ne (nown c b r)]; exact r) fun c xs r => by rw [upd_ne (ntup c xs r)]; exact r
      rcases hc with rfl | hc
      · exact hbe
      · rintro rfl
        rcases he with z | z
        · exact nown c b hc z
        · rw [hc] at z; cases z; exact hb rfl
end

/-! ### kept unless tracked; of the frames at fs (the callers') the slots may change (an exception that passes writes there); of the records at ex (iterators) nothing is said -/
structure Un (fs ex : List Addr) (H H' : Hp) (h h' : Heap) : Prop where
  keep : ∀ b o, h.get? b = some o → H b = none → b ∉ fs → b ∉ ex → h'.get? b = some o
  slot : ∀ b o, h.get? b = some o → H b = none → b ∈ fs → b ∉ ex → ∃ sl, h'.get? b = some { o with slots := sl }
  free : ∀ b o, h.get? b = some o → H b = none → b ∉ ex → H' b = none
  there : ∀ b o, h.get? b = some o → b ∉ ex → ∃ o', h'.get? b = some o'
  tups : ∀ b xs, H b = some (.tup xs) → H' b = some (.tup xs)
  frzs : ∀ b o u, H b = some (.frz o u) → H' b = some (.frz o u)
  tbls : ∀ b ps, H b = some (.tbl ps) → ∃ more, H' b = some (.tbl (ps ++ more))
section
variable {fs fs' ex ex' : List Addr} {H H1 H2 : Hp} {h h1 h2 h' : Heap} {a x e : Addr} {o : HO}
theorem Un.any (u : Un fs ex H H1 h h1) {b : Addr} {ob : Obj} (q : h.get? b = some ob) (n : H b = none) (hx : b ∉ ex) : ∃ sl, h1.get? b = some { ob with slots := sl } := by
  by_cases hb : b ∈ fs
  · exact u.slot b ob q n hb hx
  · exact ⟨ob.slots, u.keep b ob q n hb hx⟩
theorem Un.trans (a : Un fs ex H H1 h h1) (b : Un fs ex H1 H2 h1 h2) : Un fs ex H H2 h h2 where
  keep := fun c ob q n hc hx => b.keep c ob (a.keep c ob q n hc hx) (a.free c ob q n hx) hc hx
  slot := fun c ob q n hc hx => by
    obtain ⟨sl, e1⟩ := a.slot c ob q n hc hx
    obtain ⟨sl', e2⟩ := b.slot c _ e1 (a.free c ob q n hx) hc hx
    exact ⟨sl', e2⟩
  free := fun c ob q n hx => by
    obtain ⟨o', e1⟩ := a.there c ob q hx
    exact b.free c o' e1 (a.free c ob q n hx) hx
  there := fun c ob q hx => by
    obtain ⟨o', e1⟩ := a.there c ob q hx
    exact b.there c o' e1 hx
  tups := fun c xs q => b.tups c xs (a.tups c xs q)
  frzs := fun c ob xs q => b.frzs c ob xs (a.frzs c ob xs q)
  tbls := fun c ps q => by
    obtain ⟨m1, e1⟩ := a.tbls c ps q
    obtain ⟨m2, e2⟩ := b.tbls c _ e1
    exact ⟨m1 ++ m2, by rw [e2, Array.append_assoc]⟩
theorem Un.kept (k : ∀ b u, h.get? b = some u → h'.get? b = some u) : Un fs ex H H h h' :=
  ⟨fun b ob q _ _ _ => k b ob q, fun b ob q _ _ _ => ⟨ob.slots, k b ob q⟩, fun _ _ _ n _ => n, fun b ob q _ => ⟨ob, k b ob q⟩, fun _ _ q => q, fun _ _ _ q => q, fun _ ps q => ⟨#[], by rw [q]; simp⟩⟩
theorem Un.refl : Un fs ex H H h h := Un.kept fun _ _ q => q
theorem Un.laid (k : ∀ b u, h.get? b = some u → h'.get? b = some u) (hp : h.objs.size ≤ a) (hn : H a = none) : Un fs ex H (upd H a o) h h' where
  keep := fun b u q _ _ _ => k b u q
  slot := fun b u q _ _ _ => ⟨u.slots, k b u q⟩
  free := fun b u q n _ => by rw [upd_ne (Nat.ne_of_lt (Nat.lt_of_lt_of_le (Heap.lt_size q) hp))]; exact n
  there := fun b u q _ => ⟨u, k b u q⟩
  tups := fun b xs q => by rw [upd_ne (ne_of_none q hn)]; exact q
  frzs := fun b u xs q => by rw [upd_ne (ne_of_none q hn)]; exact q
  tbls := fun b ps q => ⟨#[], by rw [upd_ne (ne_of_none q hn), q]; simp⟩
theorem Un.write (mu : Mut (H x)) (he : e = x ∨ H e = some (.own x)) (k : ∀ b u, b ≠ e → h.get? b = some u → h'.get? b = some u) (heo : ∃ u, h'.get? e = some u) : Un fs ex H (upd H x o) h h' := by
  have hx : ∀ b, H b = none → b ≠ x := fun b n z => by subst z; rw [n] at mu; exact mu
  have hb : ∀ b, H b = none → b ≠ e := fun b n z => by
    subst z
    rcases he with r | r
    · exact hx b n r
    · rw [n] at r; cases r
  have hm : ∀ b u, H b = some u → ¬ Mut (some u) → b ≠ x := fun b u q nm z => by subst z; rw [q] at mu; exact nm mu
  refine ⟨fun b u q n _ _ => k b u (hb b n) q, fun b u q n _ _ => ⟨u.slots, k b u (hb b n) q⟩, fun b u q n _ => by rw [upd_ne (hx b n)]; exact n, fun b u q _ => ?_,
    fun b xs q => by rw [upd_ne (hm b _ q fun z => z)]; exact q, fun b u xs q => by rw [upd_ne (hm b _ q fun z => z)]; exact q, fun b ps q => ⟨#[], by rw [upd_ne (hm b _ q fun z => z), q]; simp⟩⟩
  by_cases hbe : b = e
  · subst hbe; exact heo
  · exact ⟨u, k b u hbe q⟩
theorem Un.mono (u : Un fs ex H H1 h h1) (hs : ∀ b ∈ fs, b ∈ fs') (hx : ∀ b ∈ ex, b ∈ ex') : Un fs' ex' H H1 h h1 :=
  ⟨fun b ob q n hb he => u.keep b ob q n (fun z => hb (hs b z)) fun z => he (hx b z), fun _ _ q n _ he => u.any q n fun z => he (hx _ z), fun b ob q n he => u.free b ob q n fun z => he (hx b z), fun b ob q he => u.there b ob q fun z => he (hx b z), u.tups, u.frzs, u.tbls⟩
end

/-! ### the heap without what is tracked -/
def trk (h : Heap) (H : Hp) : List Addr := (List.range h.objs.size).filter fun a => (H a).isSome
def hidT (h : Heap) (H : Hp) : Heap := PySem.W.hideAll h (trk h H)
theorem hidT_size (h : Heap) (H : Hp) : (hidT h H).objs.size = h.objs.size := PySem.W.hideAll_size _ _
theorem hidT_get {h : Heap} {H : Hp} {b : Addr} {o : Obj} (e : h.get? b = some o) (n : H b = none) : (hidT h H).get? b = some o :=
  PySem.W.hideAll_get _ e fun hm => by
    have q : (H b).isSome = true := (List.mem_filter.mp hm).2
    rw [n] at q; simp at q
theorem of_hidT {h : Heap} {H : Hp} {b : Addr} {o : Obj} (e : (hidT h H).get? b = some o) : h.get? b = some o ∧ H b = none := by
  have e' : h.get? b = some o := PySem.W.of_hideAll (trk h H) e
  refine ⟨e', ?_⟩
  cases q : H b with
  | none => rfl
  | some x =>
    have hm : b ∈ trk h H := List.mem_filter.mpr ⟨List.mem_range.mpr (Heap.lt_size e'), by simp [q]⟩
    have z : (hidT h H).get? b = none := PySem.W.hideAll_none (trk h H) hm
    rw [z] at e; cases e

/-! ### OpenK's ledger, filled with every new object but one -/
def allNews (g h : Heap) (L : Addr) : List (Addr × Obj) := (List.range h.objs.size).filterMap fun a => if a = L ∨ (g.get? a).isSome = true then none else (h.get? a).map fun o => (a, o)
def rest (g h : Heap) (L d : Addr) : List (Addr × Obj) := (allNews g h L).filter fun p => decide (p.1 ≠ d)
end L2

namespace L2
open PySem PySem.Spec PyProof.Rows

/-- the module's facts, over the base: the heap at the law's entry without what is tracked there -/
structure Mod (K : PySem.W.Frag) (mg : Str → Option Value) (base : Heap) : Prop where
  kin : K.In base
  glob : base.Ns mainGlobals mg
  blt : ∃ mb, base.Ns builtinsNs mb ∧ ∀ x : Str, x ≠ "__name__" → mb x = bootBuiltins x
  nolimit : base.NoLimit

/-- the context: a def's body (or a comprehension's block) running. base: fixed through the whole law; s₀, H₀: the entry; outer: the frames whose slots others may change (a def's callers); stack: all frames that run;
   ex: iterators that were made ahead of the entry and are walked here (a comprehension's); fn: the names whose cells were made at the entry (a def: all; a comprehension's block: its own); calm: not within an except suite; pn: pins that every state bears; xe: what is wanted of an exception that leaves the code -/
structure Cx where
  prog : Program
  w : World
  K : PySem.W.Frag
  mg : Str → Option Value
  base : Heap
  A : Around
  N : List Str
  s₀ : Shared
  H₀ : Hp
  env : Env
  outer : List Env
  stack : List Env
  ex : List Addr
  fn : Str → Bool
  calm : Bool
  pn : List (Addr × Obj)
  xe : Value → Shared → Prop
/-- the callers' frames -/
def frs (l : List Env) : List Addr := l.filterMap (·.frame)
abbrev Cx.fs (X : Cx) : List Addr := frs X.outer

def Vis (sc : Scope) (x : Str) : Prop := sc.names.lookup x = some .local ∨ sc.names.lookup x = some .cell ∨ sc.names.lookup x = some .free
def Loc (sc : Scope) (x : Str) : Prop := sc.names.lookup x = some .local ∨ sc.names.lookup x = some .cell
def Look (env : Env) (h : Heap) (m : Str → Option Value) (x : Str) (u : Value) : Prop :=
  (env.kindOf x = some .local ∧ m x = some u) ∨ ((env.kindOf x = some .cell ∨ env.kindOf x = some .free) ∧ ∃ c, env.cells.lookup x = some c ∧ h.IsCell c (some u))

structure Cx.Ok (X : Cx) : Prop where
  mod : Mod X.K X.mg X.base
  kind : X.env.scope.kind = .function
  glob : X.env.globals = mainGlobals
  blt : X.env.builtins = builtinsNs
  above : X.s₀.heap.objs.size ≤ X.env.locals
  inj : ∀ x y c, X.env.cells.lookup x = some c → X.env.cells.lookup y = some c → x = y
  has : ∀ x, (X.env.kindOf x = some .cell ∨ X.env.kindOf x = some .free) → ∃ c, X.env.cells.lookup x = some c
  cab : ∀ x c, X.fn x = true → X.env.cells.lookup x = some c → X.s₀.heap.objs.size ≤ c
  hd : X.calm = true → X.A.handled = none
  frames : X.A.frames = some X.stack
  stk : X.stack = X.outer ∨ (X.stack = X.env :: X.outer ∧ X.env.frame = some X.env.locals)
  exf : ∀ b ∈ X.ex, b ≠ X.env.locals ∧ ∀ x c, X.env.cells.lookup x = some c → c ≠ b
  bs : ∀ b o, X.base.get? b = some o → X.s₀.heap.get? b = some o ∧ X.H₀ b = none
  bsz : X.base.objs.size ≤ X.s₀.heap.objs.size
  noex : ∀ b o, X.base.get? b = some o → b ∉ X.ex
  exfs : ∀ b ∈ X.ex, b ∉ X.fs
  funs : X.s₀.heap.FunFrames X.base X.outer
  frf : ∀ b ∈ X.fs, X.H₀ b = none

structure Inv (X : Cx) (pins : List (Addr × Obj)) (σ : List (Option V)) (H : Hp) (s : Shared) : Prop where
  ok : X.Ok
  os : s.os = X.s₀.os
  bare : AllBare s.gens
  base : Un X.fs X.ex X.H₀ H X.s₀.heap s.heap
  loc : ∃ m, s.heap.Ns X.env.locals m ∧ ∀ (i : Nat) (x : Str) (v : V), X.N[i]? = some x → σ[i]? = some (some v) → Vis X.env.scope x → ∃ u, RelV v u ∧ Look X.env s.heap m x u
  cell : ∀ x c, X.env.cells.lookup x = some c → ∃ v, s.heap.IsCell c v
  free : H X.env.locals = none
  freeC : ∀ x c, X.env.cells.lookup x = some c → H c = none
  pin : ∀ p ∈ X.pn ++ pins, s.heap.get? p.1 = some p.2 ∧ H p.1 = none ∧ p.1 ≠ X.env.locals ∧ p.1 ∉ X.fs ∧ ∀ v, p.2.data ≠ .cell v
  hok : HOk X.prog X.w H s.heap
  len : σ.length = X.N.length

section
variable {X : Cx} {pins : List (Addr × Obj)} {σ : List (Option V)} {H H' : Hp} {s : Shared} {h' : Heap}

theorem Cx.Ok.nofr (ok : X.Ok) {b : Addr} {o : Obj} (e : X.base.get? b = some o) : b ∉ X.fs := fun hb => by
  have := (ok.funs.mem hb).1
  rw [e] at this; cases this
theorem Inv.bs (I : Inv X pins σ H s) : ∀ b o, X.base.get? b = some o → s.heap.get? b = some o ∧ H b = none := fun b o e =>
  ⟨I.base.keep b o (I.ok.bs b o e).1 (I.ok.bs b o e).2 (I.ok.nofr e) (I.ok.noex b o e), I.base.free b o (I.ok.bs b o e).1 (I.ok.bs b o e).2 (I.ok.noex b o e)⟩
theorem Inv.bk (I : Inv X pins σ H s) : ∀ b o, X.base.get? b = some o → s.heap.get? b = some o := fun b o e => (I.bs b o e).1
theorem Inv.mod (I : Inv X pins σ H s) : Mod X.K X.mg X.base := I.ok.mod
theorem Inv.kIn (I : Inv X pins σ H s) : X.K.In s.heap := I.ok.mod.kin.keeps I.bk
theorem Inv.nolimit (I : Inv X pins σ H s) : s.heap.NoLimit := I.ok.mod.nolimit.keeps I.bk
/-- the frame over the base: for OpenK's rules (K.In X.base is I.mod.kin) -/
theorem Inv.fr (I : Inv X pins σ H s) : ∃ m, Fr X.base X.env.locals s.heap m :=
  let ⟨m, hn, _⟩ := I.loc
  ⟨m, hn, I.bk, Nat.le_trans I.ok.bsz I.ok.above⟩
theorem Inv.lt (I : Inv X pins σ H s) : X.env.locals < s.heap.objs.size := let ⟨_, hn, _⟩ := I.loc; hn.lt
theorem Inv.sz (I : Inv X pins σ H s) : X.s₀.heap.objs.size ≤ s.heap.objs.size := Nat.le_trans I.ok.above (Nat.le_of_lt I.lt)
theorem Inv.nofs (I : Inv X pins σ H s) {a : Addr} (h : s.heap.objs.size ≤ a) : a ∉ X.fs := fun hb => by
  obtain ⟨_, o, ho, _⟩ := I.ok.funs.mem hb
  exact absurd (Nat.lt_of_lt_of_le (Heap.lt_size ho) (Nat.le_trans I.sz h)) (Nat.lt_irrefl _)
theorem Inv.cne (I : Inv X pins σ H s) : ∀ x c, X.env.cells.lookup x = some c → c ≠ X.env.locals := fun x c e z => by
  obtain ⟨v, o, ho, hd⟩ := I.cell x c e
  obtain ⟨m, ⟨o', es, ep, ho', hd', _⟩, _⟩ := I.loc
  rw [z, ho'] at ho; cases ho; rw [hd'] at hd; cases hd
theorem Inv.funs (I : Inv X pins σ H s) : s.heap.FunFrames X.base X.outer := by
  have all : ∀ (l : List Env), (∀ b ∈ frs l, b ∈ X.fs) → X.s₀.heap.FunFrames X.base l → s.heap.FunFrames X.base l := by
    intro l
    induction l with
    | nil => intro _ _; trivial
    | cons env r ih =>
      intro hs hl
      obtain ⟨hk, ⟨L, o, hf, hn, ho, hd⟩, hr⟩ := hl
      have hL : L ∈ X.fs := hs L (by unfold frs; rw [List.filterMap_cons, hf]; exact List.mem_cons_self)
      obtain ⟨sl, e⟩ := I.base.slot L o ho (I.ok.frf L hL) hL fun z => I.ok.exfs L z hL
      exact ⟨hk, ⟨L, _, hf, hn, e, hd⟩, ih (fun b hb => hs b (by unfold frs; rw [List.filterMap_cons, hf]; exact List.mem_cons_of_mem _ hb)) hr⟩
  exact all X.outer (fun _ hb => hb) I.ok.funs

/-- the frames that run, for a call -/
theorem Inv.stack (I : Inv X pins σ H s) : s.heap.FunFrames X.base X.stack := by
  rcases I.ok.stk with e | ⟨e, hf⟩
  · rw [e]; exact I.funs
  · rw [e]
    obtain ⟨m, hn, _⟩ := I.loc
    refine .cons (by rw [I.ok.kind]; decide) hf hn ?_ I.funs
    exact Heap.get?_none_of_le (Nat.le_trans I.ok.bsz I.ok.above)
theorem Inv.stkSub (I : Inv X pins σ H s) : ∀ b ∈ frs X.stack, b ∈ X.env.locals :: X.fs := fun b hb => by
  rcases I.ok.stk with e | ⟨e, hf⟩
  · rw [e] at hb; exact List.mem_cons_of_mem _ hb
  · rw [e] at hb
    unfold frs at hb
    rw [List.filterMap_cons, hf] at hb
    exact hb
theorem Inv.stkFree (I : Inv X pins σ H s) : ∀ b ∈ frs X.stack, H b = none := fun b hb => by
  rcases List.mem_cons.mp (I.stkSub b hb) with e | hb
  · rw [e]; exact I.free
  · obtain ⟨_, o, ho, _⟩ := I.ok.funs.mem hb
    exact I.base.free b o ho (I.ok.frf b hb) fun z => I.ok.exfs b z hb

/-- THE STEP: the untracked objects but the frame and the records at ch are kept (the callers' frames up to slots), the frame's map is kept, the new abstract heap is held -/
theorem Inv.step {g' : Array GenState} {t' : Nat} {d' : Drawn} {ch : List Addr} (I : Inv X pins σ H s)
    (hch : ∀ b ∈ ch, (b ∈ X.ex ∨ X.s₀.heap.objs.size ≤ b) ∧ b ≠ X.env.locals ∧ (∀ x c, X.env.cells.lookup x = some c → c ≠ b) ∧ ∀ p ∈ X.pn ++ pins, p.1 ≠ b)
    (keep : ∀ b o, b ≠ X.env.locals → b ∉ X.fs → b ∉ ch → s.heap.get? b = some o → H b = none → h'.get? b = some o)
    (slot : ∀ b o, b ≠ X.env.locals → b ∈ X.fs → b ∉ ch → s.heap.get? b = some o → H b = none → ∃ sl, h'.get? b = some { o with slots := sl }) (free : ∀ b o, b ∉ ch → s.heap.get? b = some o → H b = none → H' b = none)
    (there : ∀ b o, b ∉ ch → s.heap.get? b = some o → ∃ o', h'.get? b = some o')
    (tups : ∀ b xs, H b = some (.tup xs) → H' b = some (.tup xs)) (frzs : ∀ b o u, H b = some (.frz o u) → H' b = some (.frz o u)) (tbls : ∀ b ps, H b = some (.tbl ps) → ∃ more, H' b = some (.tbl (ps ++ more)))
    (ns : ∀ m, s.heap.Ns X.env.locals m → h'.Ns X.env.locals m) (hok : HOk X.prog X.w H' h') (hg : AllBare g') :
    Inv X pins σ H' { s with heap := h', gens := g', drawn := d', toks := t' } := by
  have neL : ∀ b o, X.s₀.heap.get? b = some o → b ≠ X.env.locals := fun b o e => Nat.ne_of_lt (Nat.lt_of_lt_of_le (Heap.lt_size e) I.ok.above)
  have neC : ∀ b o, X.s₀.heap.get? b = some o → b ∉ X.ex → b ∉ ch := fun b o e hx hb => by
    rcases (hch b hb).1 with z | z
    · exact hx z
    · exact absurd (Nat.lt_of_lt_of_le (Heap.lt_size e) z) (Nat.lt_irrefl _)
  have cellK : ∀ x c, X.env.cells.lookup x = some c → ∀ v, s.heap.IsCell c v → h'.IsCell c v := fun x c e v ⟨o, ho, hd⟩ => by
    have nch : c ∉ ch := fun z => (hch c z).2.2.1 x c e rfl
    by_cases hc : c ∈ X.fs
    · obtain ⟨sl, q⟩ := slot c o (I.cne x c e) hc nch ho (I.freeC x c e)
      exact ⟨_, q, hd⟩
    · exact ⟨o, keep c o (I.cne x c e) hc nch ho (I.freeC x c e), hd⟩
  refine ⟨I.ok, I.os, hg, ⟨fun b o e n hb hx => ?_, fun b o e n hb hx => ?_, fun b o e n hx => ?_, fun b o e hx => ?_, fun b xs e => tups b xs (I.base.tups b xs e), fun b o xs e => frzs b o xs (I.base.frzs b o xs e), fun b ps e => ?_⟩, ?_, fun x c e => ?_, ?_, fun x c e => ?_, fun p hp => ?_, hok, I.len⟩
  · exact keep b o (neL b o e) hb (neC b o e hx) (I.base.keep b o e n hb hx) (I.base.free b o e n hx)
  · obtain ⟨sl, e1⟩ := I.base.slot b o e n hb hx
    obtain ⟨sl', e2⟩ := slot b _ (neL b o e) hb (neC b o e hx) e1 (I.base.free b o e n hx)
    exact ⟨sl', e2⟩
  · obtain ⟨o', e1⟩ := I.base.there b o e hx
    exact free b o' (neC b o e hx) e1 (I.base.free b o e n hx)
  · obtain ⟨o', e1⟩ := I.base.there b o e hx
    exact there b o' (neC b o e hx) e1
  · obtain ⟨m1, e1⟩ := I.base.tbls b ps e
    obtain ⟨m2, e2⟩ := tbls b _ e1
    exact ⟨m1 ++ m2, by rw [e2, Array.append_assoc]⟩
  · obtain ⟨m, hn, hl⟩ := I.loc
    refine ⟨m, ns m hn, fun i x v e1 e2 e3 => ?_⟩
    obtain ⟨u, r, l⟩ := hl i x v e1 e2 e3
    refine ⟨u, r, ?_⟩
    rcases l with l | ⟨k, c, e, z⟩
    · exact .inl l
    · exact .inr ⟨k, c, e, cellK x c e _ z⟩
  · obtain ⟨v, z⟩ := I.cell x c e
    exact ⟨v, cellK x c e v z⟩
  · obtain ⟨m, ⟨o, _, _, ho, _⟩, _⟩ := I.loc
    exact free _ o (fun z => (hch _ z).2.1 rfl) ho I.free
  · obtain ⟨v, o, ho, hd⟩ := I.cell x c e
    exact free c o (fun z => (hch c z).2.2.1 x c e rfl) ho (I.freeC x c e)
  · obtain ⟨e, n, ne, nf, d⟩ := I.pin p hp
    have nch : p.1 ∉ ch := fun z => (hch p.1 z).2.2.2 p hp rfl
    exact ⟨keep p.1 p.2 ne nf nch e n, free p.1 p.2 nch e n, ne, nf, d⟩
/-- .. where the frame's own object is kept too -/
theorem Inv.un {t' : Nat} (I : Inv X pins σ H s) (u : Un X.fs [] H H' s.heap h') (hok : HOk X.prog X.w H' h') : Inv X pins σ H' { s with heap := h', toks := t' } := by
  obtain ⟨m, ⟨o, es, ep, ho, r⟩, _⟩ := id I.loc
  obtain ⟨sl, hL⟩ := u.any ho I.free (by simp)
  exact I.step (g' := s.gens) (d' := s.drawn) (ch := []) (fun _ z => nomatch z) (fun b o _ hb _ e n => u.keep b o e n hb (by simp)) (fun b o _ hb _ e n => u.slot b o e n hb (by simp)) (fun b o _ e n => u.free b o e n (by simp)) (fun b o _ e => u.there b o e (by simp)) u.tups u.frzs u.tbls (fun m' hm => by
    obtain ⟨o', es', ep', ho', r'⟩ := hm
    rw [ho] at ho'; cases ho'
    exact ⟨_, es', ep', hL, r'⟩) hok I.bare
/-- behind a call (or a comprehension's block): the slots of this frame may have changed too, the records at ch may have turned -/
theorem Inv.call {g' : Array GenState} {t' : Nat} {d' : Drawn} {ch : List Addr} (I : Inv X pins σ H s) (u : Un (frs X.stack) ch H H' s.heap h') (hok : HOk X.prog X.w H' h') (hg : AllBare g')
    (hch : ∀ b ∈ ch, (b ∈ X.ex ∨ X.s₀.heap.objs.size ≤ b) ∧ b ≠ X.env.locals ∧ (∀ x c, X.env.cells.lookup x = some c → c ≠ b) ∧ ∀ p ∈ X.pn ++ pins, p.1 ≠ b) :
    Inv X pins σ H' { s with heap := h', gens := g', drawn := d', toks := t' } := by
  obtain ⟨m, ⟨o, es, ep, ho, r⟩, _⟩ := id I.loc
  obtain ⟨sl, hL⟩ := u.any ho I.free fun z => (hch _ z).2.1 rfl
  exact I.step (ch := ch) hch (fun b o hL hb hc e n => u.keep b o e n (fun z => (List.mem_cons.mp (I.stkSub b z)).elim hL hb) hc) (fun b o _ _ hc e n => u.any e n hc) (fun b o hc e n => u.free b o e n hc) (fun b o hc e => u.there b o e hc) u.tups u.frzs u.tbls (fun m' hm => by
    obtain ⟨o', es', ep', ho', r'⟩ := hm
    rw [ho] at ho'; cases ho'
    exact ⟨_, es', ep', hL, r'⟩) hok hg
/-- an untracked record of ours (an iterator) has turned -/
theorem Inv.turned {t' : Nat} {it : Addr} (I : Inv X pins σ H s) (k : ∀ b o, b ≠ it → s.heap.get? b = some o → h'.get? b = some o) (hn : H it = none) (hL : it ≠ X.env.locals)
    (h1 : it ∈ X.ex ∨ X.s₀.heap.objs.size ≤ it) (h2 : ∀ x c, X.env.cells.lookup x = some c → c ≠ it) (h3 : ∀ p ∈ X.pn ++ pins, p.1 ≠ it) : Inv X pins σ H { s with heap := h', toks := t' } := by
  have nit : ∀ b u, H b = some u → b ≠ it := fun b u e z => by rw [z, hn] at e; cases e
  refine I.step (g' := s.gens) (d' := s.drawn) (ch := [it]) (fun b hb => ?_) (fun b o _ _ hc e _ => k b o (fun z => hc (by simp [z])) e) (fun b o _ _ hc e _ => ⟨o.slots, k b o (fun z => hc (by simp [z])) e⟩) (fun _ _ _ _ n => n)
    (fun b o hc e => ⟨o, k b o (fun z => hc (by simp [z])) e⟩) (fun _ _ e => e) (fun _ _ _ e => e) (fun b ps e => ⟨#[], by rw [e]; simp⟩) (fun m hm => ?_) (fun b u e => ?_) I.bare
  · have e : b = it := by simpa using hb
    subst e
    exact ⟨h1, hL, h2, h3⟩
  · obtain ⟨o, es, ep, ho, r⟩ := hm
    exact ⟨o, es, ep, k _ o (Ne.symm hL) ho, r⟩
  · refine (I.hok b u e).stay (fun c v hc q => k c v ?_ q) (fun _ q => q) fun _ _ q => q
    rcases hc with z | z
    · rw [z]; exact nit b u e
    · exact nit c _ z
theorem Inv.tok (I : Inv X pins σ H s) (t : Nat) : Inv X pins σ H { s with toks := t } := I.un (h' := s.heap) (t' := t) Un.refl I.hok
/-- all objects kept -/
theorem Inv.kept {t' : Nat} (I : Inv X pins σ H s) (k : ∀ b u, s.heap.get? b = some u → h'.get? b = some u) : Inv X pins σ H { s with heap := h', toks := t' } := I.un (Un.kept k) (I.hok.kept k)
/-- a new object laid and tracked -/
theorem Inv.laid {a : Addr} {o : HO} {t' : Nat} (I : Inv X pins σ H s) (k : ∀ b u, s.heap.get? b = some u → h'.get? b = some u) (hp : s.heap.objs.size ≤ a) (new : ObjOk X.prog X.w (upd H a o) h' a o) :
    Inv X pins σ (upd H a o) { s with heap := h', toks := t' } := I.un (Un.laid k hp (I.hok.fresh hp)) (I.hok.laid k hp new)
/-- an object written -/
theorem Inv.write {x e : Addr} {o : HO} {t' : Nat} (I : Inv X pins σ H s) (mu : Mut (H x)) (he : e = x ∨ H e = some (.own x)) (k : ∀ b u, b ≠ e → s.heap.get? b = some u → h'.get? b = some u) (heo : ∃ u, h'.get? e = some u)
    (new : ObjOk X.prog X.w (upd H x o) h' x o) : Inv X pins σ (upd H x o) { s with heap := h', toks := t' } := I.un (Un.write mu he k heo) (I.hok.write mu he k heo new)
theorem Inv.pins_of {pins' : List (Addr × Obj)} (I : Inv X pins σ H s) (h : ∀ p ∈ pins', s.heap.get? p.1 = some p.2 ∧ H p.1 = none ∧ p.1 ≠ X.env.locals ∧ p.1 ∉ X.fs ∧ ∀ v, p.2.data ≠ .cell v) : Inv X pins' σ H s :=
  ⟨I.ok, I.os, I.bare, I.base, I.loc, I.cell, I.free, I.freeC, fun p hp => (List.mem_append.mp hp).elim (fun z => I.pin p (List.mem_append_left _ z)) (h p), I.hok, I.len⟩

theorem nodup_ix {N : List Str} (hN : N.Nodup) {i j : Nat} {x : Str} (a : N[i]? = some x) (b : N[j]? = some x) : i = j := by
  obtain ⟨h1, e1⟩ := List.getElem?_eq_some_iff.mp a
  obtain ⟨h2, e2⟩ := List.getElem?_eq_some_iff.mp b
  exact (List.getElem_inj hN).mp (e1.trans e2.symm)

/-- a name is stored; what changed -/
theorem store_ok2 {M : Model} {A : Around} {E : Value → Shared → Prop} {i : Nat} {x : Str} {v : V} {u : Value} {Q : Unit → Shared → Prop} (I : Inv X pins σ H s) (hN : X.N.Nodup) (hi : X.N[i]? = some x) (hx : Loc X.env.scope x) (r : RelV v u)
    (h : ∀ s', Inv X pins (σ.set i (some v)) H s' → (∃ a, Heap.SameBut a s.heap s'.heap ∧ (a = X.env.locals ∨ X.env.cells.lookup x = some a)) → Q () s') (hf : X.fn x = true ∨ X.env.scope.names.lookup x = some .local := by first | exact .inl rfl | exact .inr rfl | assumption) : wpAny M A (storeName X.env x u) Q E s := by
  obtain ⟨m, hn, hl⟩ := id I.loc
  have hcls : (X.env.scope.kind == .class || (X.env.scope.kind == .module && X.env.locals != X.env.globals)) = false := by rw [I.ok.kind]; rfl
  have hiσ : i < σ.length := by rw [I.len]; exact (List.getElem?_eq_some_iff.mp hi).1
  have cne := I.cne
  have tracked : ∀ {a : Addr} {h' : Heap}, (∃ o, s.heap.get? a = some o ∧ H a = none) → Heap.SameBut a s.heap h' → HOk X.prog X.w H h' := fun {a h'} ha hs b ob e => by
    obtain ⟨_, _, hfree⟩ := ha
    refine (I.hok b ob e).stay (fun c w' hc q => (hs.2 c ?_).trans q) (fun _ q => q) fun _ _ q => q
    rintro rfl
    rcases hc with rfl | hc
    · rw [hfree] at e; cases e
    · rw [hfree] at hc; cases hc
  rcases hx with hk | hk
  · refine wpAny_storeName_local hk hn (fun h' hn' hs => ?_) hcls
    obtain ⟨oL, _, _, hoL, _⟩ := id hn
    refine h _ ⟨I.ok, I.os, I.bare, ⟨fun b o e n hb hx => ?_, fun b o e n hb hx => ?_, I.base.free, fun b o e hx => ?_, I.base.tups, I.base.frzs, I.base.tbls⟩, ⟨_, hn', fun j y v' e1 e2 e3 => ?_⟩, fun y c e => ?_, I.free, I.freeC, fun p hp => ?_, tracked ⟨oL, hoL, I.free⟩ hs, by simpa using I.len⟩ ⟨_, hs, .inl rfl⟩
    · exact (hs.2 b (Nat.ne_of_lt (Nat.lt_of_lt_of_le (Heap.lt_size e) I.ok.above))).trans (I.base.keep b o e n hb hx)
    · obtain ⟨sl, e1⟩ := I.base.slot b o e n hb hx
      exact ⟨sl, (hs.2 b (Nat.ne_of_lt (Nat.lt_of_lt_of_le (Heap.lt_size e) I.ok.above))).trans e1⟩
    · obtain ⟨o', e1⟩ := I.base.there b o e hx
      exact ⟨o', (hs.2 b (Nat.ne_of_lt (Nat.lt_of_lt_of_le (Heap.lt_size e) I.ok.above))).trans e1⟩
    · by_cases hj : j = i
      · subst hj
        rw [hi] at e1; cases e1
        rw [List.getElem?_set_self hiσ] at e2
        cases e2
        exact ⟨u, r, .inl ⟨hk, by simp⟩⟩
      · rw [List.getElem?_set_ne (Ne.symm hj)] at e2
        obtain ⟨u', r', q⟩ := hl j y v' e1 e2 e3
        refine ⟨u', r', ?_⟩
        rcases q with ⟨k, e⟩ | ⟨k, c, e, z⟩
        · refine .inl ⟨k, ?_⟩
          have : y ≠ x := fun e => hj (nodup_ix hN e1 (e ▸ hi))
          simp [this, e]
        · exact .inr ⟨k, c, e, z.sameBut hs (cne y c e)⟩
    · obtain ⟨w', z⟩ := I.cell y c e
      exact ⟨w', z.sameBut hs (cne y c e)⟩
    · obtain ⟨e, n, ne, nf, d⟩ := I.pin p hp
      exact ⟨(hs.2 p.1 ne).trans e, n, ne, nf, d⟩
  · have hfn : X.fn x = true := by
      rcases hf with z | z
      · exact z
      · rw [z] at hk; cases hk
    obtain ⟨c, hc⟩ := I.ok.has x (.inl hk)
    obtain ⟨w', z⟩ := I.cell x c hc
    refine wpAny_storeName_cell I.ok.kind hk hc z (fun h' hc' hs => ?_)
    obtain ⟨oc, hoc, hocd⟩ := id z
    refine h { s with heap := h' } ⟨I.ok, I.os, I.bare, ⟨fun b o e n hb hx => ?_, fun b o e n hb hx => ?_, I.base.free, fun b o e hx => ?_, I.base.tups, I.base.frzs, I.base.tbls⟩, ⟨m, hn.sameBut hs (Ne.symm (cne x c hc)), fun j y v' e1 e2 e3 => ?_⟩, fun y c' e => ?_, I.free, I.freeC, fun p hp => ?_, tracked ⟨oc, hoc, I.freeC x c hc⟩ hs, by simpa using I.len⟩ ⟨c, hs, .inr hc⟩
    · exact (hs.2 b (Nat.ne_of_lt (Nat.lt_of_lt_of_le (Heap.lt_size e) (I.ok.cab x c hfn hc)))).trans (I.base.keep b o e n hb hx)
    · obtain ⟨sl, e1⟩ := I.base.slot b o e n hb hx
      exact ⟨sl, (hs.2 b (Nat.ne_of_lt (Nat.lt_of_lt_of_le (Heap.lt_size e) (I.ok.cab x c hfn hc)))).trans e1⟩
    · obtain ⟨o', e1⟩ := I.base.there b o e hx
      exact ⟨o', (hs.2 b (Nat.ne_of_lt (Nat.lt_of_lt_of_le (Heap.lt_size e) (I.ok.cab x c hfn hc)))).trans e1⟩
    · by_cases hj : j = i
      · subst hj
        rw [hi] at e1; cases e1
        rw [List.getElem?_set_self hiσ] at e2
        cases e2
        exact ⟨u, r, .inr ⟨.inl hk, c, hc, hc'⟩⟩
      · rw [List.getElem?_set_ne (Ne.symm hj)] at e2
        obtain ⟨u', r', q⟩ := hl j y v' e1 e2 e3
        refine ⟨u', r', ?_⟩
        rcases q with q | ⟨k, c', e, z'⟩
        · exact .inl q
        · refine .inr ⟨k, c', e, z'.sameBut hs ?_⟩
          rintro rfl
          exact hj (nodup_ix hN e1 (I.ok.inj _ _ _ e hc ▸ hi))
    · by_cases hcc : c' = c
      · subst hcc; exact ⟨_, hc'⟩
      · obtain ⟨w2, z2⟩ := I.cell y c' e
        exact ⟨w2, z2.sameBut hs hcc⟩
    · obtain ⟨e, n, ne, nf, d⟩ := I.pin p hp
      refine ⟨(hs.2 p.1 ?_).trans e, n, ne, nf, d⟩
      intro q
      rw [q, hoc] at e
      have q' : oc = p.2 := Option.some.inj e
      exact d w' (by rw [← q']; exact hocd)
theorem store_ok {M : Model} {A : Around} {E : Value → Shared → Prop} {i : Nat} {x : Str} {v : V} {u : Value} {Q : Unit → Shared → Prop} (I : Inv X pins σ H s) (hN : X.N.Nodup) (hi : X.N[i]? = some x) (hx : Loc X.env.scope x) (r : RelV v u)
    (h : ∀ s', Inv X pins (σ.set i (some v)) H s' → Q () s') (hf : X.fn x = true ∨ X.env.scope.names.lookup x = some .local := by first | exact .inl rfl | exact .inr rfl | assumption) : wpAny M A (storeName X.env x u) Q E s :=
  store_ok2 I hN hi hx r (fun s' I' _ => h s' I') hf
/-- behind a call or a block, the state as it is -/
theorem Inv.call' {s' : Shared} {ch : List Addr} (I : Inv X pins σ H s) (ho : s'.os = s.os) (u : Un (frs X.stack) ch H H' s.heap s'.heap) (hok : HOk X.prog X.w H' s'.heap) (hg : AllBare s'.gens)
    (hch : ∀ b ∈ ch, (b ∈ X.ex ∨ X.s₀.heap.objs.size ≤ b) ∧ b ≠ X.env.locals ∧ (∀ x c, X.env.cells.lookup x = some c → c ≠ b) ∧ ∀ p ∈ X.pn ++ pins, p.1 ≠ b) : Inv X pins σ H' s' := by
  obtain ⟨h', g', d', t', o'⟩ := s'
  have e : o' = s.os := ho
  subst e
  exact I.call (g' := g') (t' := t') (d' := d') u hok hg hch
end

/-! ### the judgements -/
/-- an exception: its class, its own dict's address (where it has one), the abstract heap behind it -/
abbrev XK := Value → Option Addr → Hp → Prop
abbrev St := List (Option V)
abbrev VK := V → Hp → Prop
/-- an expression's reading; a test's; an argument list's -/
abbrev TE := St → Hp → VK → Prop
abbrev TT := St → Hp → (Bool → Hp → Prop) → Prop
abbrev TA := St → Hp → (List V → Hp → Prop) → Prop
/-- what is wanted behind a statement -/
structure Ends where
  nx : St → Hp → Prop
  rt : VK
  bk : St → Hp → Prop := fun _ _ => False
  ct : St → Hp → Prop := fun _ _ => False
abbrev TS := Ends → St → Hp → Prop

def EP (X : Cx) (pins : List (Addr × Obj)) (σ : St) (Q : VK) (u : Value) (s' : Shared) : Prop := ∃ v H', Inv X pins σ H' s' ∧ RelV v u ∧ Q v H'
def TP (X : Cx) (pins : List (Addr × Obj)) (σ : St) (Q : Bool → Hp → Prop) (b : Bool) (s' : Shared) : Prop := ∃ H', Inv X pins σ H' s' ∧ Q b H'
def AP (X : Cx) (pins : List (Addr × Obj)) (σ : St) (Q : List V → Hp → Prop) (us : List Value) (s' : Shared) : Prop := ∃ vs H', Inv X pins σ H' s' ∧ Vals vs us ∧ Q vs H'
def SP (X : Cx) (pins : List (Addr × Obj)) (D : Ends) (f : Flow) (s' : Shared) : Prop :=
  match f with
  | .next => ∃ σ' H', Inv X pins σ' H' s' ∧ D.nx σ' H'
  | .brk => ∃ σ' H', Inv X pins σ' H' s' ∧ D.bk σ' H'
  | .cont => ∃ σ' H', Inv X pins σ' H' s' ∧ D.ct σ' H'
  | .ret u => ∃ v σ' H', Inv X pins σ' H' s' ∧ RelV v u ∧ D.rt v H'

def PE (X : Cx) (e : Expr) (t : TE) : Prop :=
  ∀ (pins : List (Addr × Obj)) (s : Shared) (σ : St) (H : Hp) (Q : VK), Inv X pins σ H s → t σ H Q → wpAny (model X.prog X.w) X.A (eval e X.env) (EP X pins σ Q) X.xe s
def PT (X : Cx) (e : Expr) (t : TT) : Prop :=
  ∀ (pins : List (Addr × Obj)) (s : Shared) (σ : St) (H : Hp) (Q : Bool → Hp → Prop), Inv X pins σ H s → t σ H Q → wpAny (model X.prog X.w) X.A (isTrue e X.env (eval e X.env)) (TP X pins σ Q) X.xe s
/-- a test whatever its 'whole' is (and, or) -/
def PW (X : Cx) (e : Expr) (t : TT) : Prop :=
  ∀ (whole : Sem Value) (pins : List (Addr × Obj)) (s : Shared) (σ : St) (H : Hp) (Q : Bool → Hp → Prop), Inv X pins σ H s → t σ H Q → wpAny (model X.prog X.w) X.A (isTrue e X.env whole) (TP X pins σ Q) X.xe s
theorem PW.pt {X : Cx} {e : Expr} {t : TT} (h : PW X e t) : PT X e t := h _
/-- an argument list (no star), from the left -/
def PA (X : Cx) (es : List Expr) (t : TA) : Prop :=
  ∀ (pos : Pos) (pins : List (Addr × Obj)) (s : Shared) (σ : St) (H : Hp) (Q : List V → Hp → Prop), Inv X pins σ H s → t σ H Q → wpAny (model X.prog X.w) X.A (spliced (backTo pos (starEach es X.env))) (AP X pins σ Q) X.xe s
def PS (X : Cx) (st : Stmt) (t : TS) : Prop :=
  ∀ (pins : List (Addr × Obj)) (s : Shared) (σ : St) (H : Hp) (D : Ends), Inv X pins σ H s → t D σ H → wpAny (model X.prog X.w) X.A (exec st X.env) (SP X pins D) X.xe s
def PSs (X : Cx) (st : List Stmt) (t : TS) : Prop :=
  ∀ (pins : List (Addr × Obj)) (s : Shared) (σ : St) (H : Hp) (D : Ends), Inv X pins σ H s → t D σ H → wpAny (model X.prog X.w) X.A (execs st X.env) (SP X pins D) X.xe s
/-- weaken the end -/
theorem thn {α : Type} {t : Sem α} {Q Q' : α → Shared → Prop} {M : Model} {A : Around} {E : Value → Shared → Prop} {s : Shared} (h : wpAny M A t Q E s) (hQ : ∀ a s, Q a s → Q' a s) : wpAny M A t Q' E s := wpAny_mono h hQ fun _ _ x => x
end L2

namespace L2
open PySem PySem.Spec PyProof.Rows
section
variable {X : Cx}

/-! ### names and constants -/
def tVar (i : Nat) : TE := fun σ H Q => ∃ v, σ[i]? = some (some v) ∧ Q v H
def tC (v : V) : TE := fun _ H Q => Q v H
theorem pe_var {i : Nat} {x : Str} {pos : Pos} (hN : X.N[i]? = some x) (hv : Vis X.env.scope x) (hd : (x == ("__debug__" : Str)) = false := by decide) (hcd : (x == ("__classdict__" : Str)) = false := by decide) : PE X (.Name x pos) (tVar i) := by
  intro pins s σ H Q I h
  obtain ⟨v, e, h⟩ := h
  obtain ⟨m, hn, hl⟩ := I.loc
  obtain ⟨u, r, l⟩ := hl i x v hN e hv
  have fin : EP X pins σ Q u s := ⟨v, H, I, r, h⟩
  rcases l with ⟨hk, hm⟩ | ⟨hk, c, hc, hcell⟩
  · exact wpAny_Name (wpAny_loadName_local I.ok.kind hk hn hm fin) hd
  · rcases hk with hk | hk
    · exact wpAny_Name (wpAny_loadName_cell I.ok.kind hk hc hcell fin) hd
    · exact wpAny_Name (wpAny_loadName_free I.ok.kind hk hc hcell fin hcd) hd
theorem pe_int {i j pos} : PE X (.Constant (.int i) j pos) (tC (.int i)) := fun _ _ _ H _ I h => wpAny_Constant_int ⟨.int i, H, I.tok _, ⟨_, rfl⟩, h⟩
theorem pe_bl {b j pos} : PE X (.Constant (.bool b) j pos) (tC (.bl b)) := fun _ _ _ H _ I h => Constant_bool ⟨.bl b, H, I, rfl, h⟩
theorem pe_non {j pos} : PE X (.Constant .none j pos) (tC .non) := fun _ _ _ H _ I h => Constant_none ⟨.non, H, I, rfl, h⟩
theorem pe_str {x j pos} : PE X (.Constant (.str x) j pos) (tC (.str x)) := fun _ _ _ H _ I h => Calls.Constant_str ⟨.str x, H, I.tok _, ⟨_, rfl⟩, h⟩

/-- a global name of the def -/
def Gl (X : Cx) (x : Str) : Prop := X.env.kindOf x = some .globalImplicit
theorem ld_glob {E : Value → Shared → Prop} {pins : List (Addr × Obj)} {s : Shared} {σ : St} {H : Hp} {x : Str} {u : Value} {pos : Pos} {Q : Value → Shared → Prop} (I : Inv X pins σ H s) (hg : Gl X x) (hm : X.mg x = some u) (h : Q u s)
    (hd : (x == ("__debug__" : Str)) = false := by decide) : wpAny (model X.prog X.w) X.A (eval (.Name x pos) X.env) Q E s :=
  Calls.Name_function_global I.ok.kind hg (Calls.loadGlobal_global (by rw [I.ok.glob]; exact I.mod.glob.keeps I.bk) hm h) hd
theorem ld_blt {E : Value → Shared → Prop} {pins : List (Addr × Obj)} {s : Shared} {σ : St} {H : Hp} {x : Str} {u : Value} {pos : Pos} {Q : Value → Shared → Prop} (I : Inv X pins σ H s) (hg : Gl X x) (hm : X.mg x = none) (hv : bootBuiltins x = some u) (h : Q u s)
    (hn : x ≠ "__name__" := by decide) (hd : (x == ("__debug__" : Str)) = false := by decide) : wpAny (model X.prog X.w) X.A (eval (.Name x pos) X.env) Q E s := by
  obtain ⟨mb, h1, h2⟩ := I.mod.blt
  exact Calls.Name_function_global I.ok.kind hg (Calls.loadGlobal_builtin (by rw [I.ok.glob]; exact I.mod.glob.keeps I.bk) hm (by rw [I.ok.blt]; exact h1.keeps I.bk) ((h2 x hn).trans hv) h) hd
/-- a module's constant, a class, a function, as a value -/
theorem pe_glob {x : Str} {v : V} {u : Value} {pos : Pos} (hg : Gl X x) (hm : X.mg x = some u) (r : RelV v u) (hd : (x == ("__debug__" : Str)) = false := by decide) : PE X (.Name x pos) (tC v) :=
  fun _ _ _ H _ I h => ld_glob I hg hm ⟨v, H, I, r, h⟩ hd
theorem pe_bltn {x : Str} {v : V} {u : Value} {pos : Pos} (hg : Gl X x) (hm : X.mg x = none) (hv : bootBuiltins x = some u) (r : RelV v u) (hn : x ≠ "__name__" := by decide) (hd : (x == ("__debug__" : Str)) = false := by decide) : PE X (.Name x pos) (tC v) :=
  fun _ _ _ H _ I h => ld_blt I hg hm hv ⟨v, H, I, r, h⟩ hn hd

/-! ### arithmetic -/
/-- two ints -/
def t2I (ta tb : TE) (k : Int → Int → Hp → Prop) : St → Hp → Prop := fun σ H => ta σ H fun x H1 => tb σ H1 fun y H2 => ∃ i j, x = .int i ∧ y = .int j ∧ k i j H2
def tAdd (ta tb : TE) : TE := fun σ H Q => t2I ta tb (fun i j H2 => Q (.int (i + j)) H2) σ H
def tSub (ta tb : TE) : TE := fun σ H Q => t2I ta tb (fun i j H2 => Q (.int (i - j)) H2) σ H
/-- the left factor below 2^64 -/
def tMul (ta tb : TE) : TE := fun σ H Q => t2I ta tb (fun i j H2 => (-(2 ^ 64) < i ∧ i < 2 ^ 64) ∧ Q (.int (i * j)) H2) σ H
variable {a b : Expr} {ta tb : TE} {pos : Pos}
/-! ### comparisons -/
def PC (X : Cx) (op : CmpOp) (a b : Expr) (t : TE) : Prop :=
  ∀ (pins : List (Addr × Obj)) (s : Shared) (σ : St) (H : Hp) (Q : VK), Inv X pins σ H s → t σ H Q →
    wpAny (model X.prog X.w) X.A (eval a X.env) (fun v s₁ => wpAny (model X.prog X.w) X.A (eval b X.env) (fun u s₂ => wpAny (model X.prog X.w) X.A (compareOp op v u) (EP X pins σ Q) X.xe s₂) X.xe s₁) X.xe s
theorem nobehind (b : Expr) {op : CmpOp} (h : op ≠ .In) (h2 : op ≠ .NotIn) : behindInMarks op b = false := by
  have e1 : (op == CmpOp.In) = false := by cases op <;> first | rfl | exact absurd rfl h
  have e2 : (op == CmpOp.NotIn) = false := by cases op <;> first | rfl | exact absurd rfl h2
  cases b <;> simp [behindInMarks, e1, e2]
def tCmp (p : Int → Int → Bool) (ta tb : TE) : TE := fun σ H Q => t2I ta tb (fun i j H2 => Q (.bl (p i j)) H2) σ H
abbrev tLt : TE → TE → TE := tCmp fun i j => decide (i < j)
abbrev tLe : TE → TE → TE := tCmp fun i j => decide (i ≤ j)
abbrev tGt : TE → TE → TE := tCmp fun i j => decide (j < i)
abbrev tGe : TE → TE → TE := tCmp fun i j => decide (j ≤ i)
abbrev tEqI : TE → TE → TE := tCmp fun i j => decide (i = j)
abbrev tNeI : TE → TE → TE := tCmp fun i j => !decide (i = j)
/-- is None -/
def tIsN (ta : TE) : TE := fun σ H Q => ta σ H fun x H1 => Q (.bl (decide (x = .non))) H1
def tNotN (ta : TE) : TE := fun σ H Q => ta σ H fun x H1 => Q (.bl (!decide (x = .non))) H1
theorem RelV.none_iff {x : V} {v : Value} (r : RelV x v) : (v == Value.none) = decide (x = .non) := by
  cases x with
  | non => cases r; rfl
  | bl _ => cases r; rfl
  | int _ => obtain ⟨t, rfl⟩ := r; rfl
  | str _ => obtain ⟨t, rfl⟩ := r; rfl
  | byt _ => obtain ⟨t, rfl⟩ := r; rfl
  | flt _ => obtain ⟨t, rfl⟩ := r; rfl
  | ref _ => cases r; rfl
  | ty _ => cases r; rfl
theorem pc_notN {j pos'} (ha : PE X a ta) : PC X .IsNot a (.Constant .none j pos') (tNotN ta) := by
  intro pins s σ H Q I h
  refine thn (ha pins s σ H _ I h) fun v s1 ⟨x, H1, I1, r1, q1⟩ => ?_
  exact Constant_none (isnot_none_gen ⟨.bl _, H1, I1, by rw [r1.none_iff]; rfl, q1⟩)
/-- a comparison as a value, as a test -/
def tB (t : TE) : TT := fun σ H Q => t σ H fun x H1 => ∃ c, x = .bl c ∧ Q c H1
theorem pe_cmp {op : CmpOp} {t : TE} (h : PC X op a b t) (h1 : behindInMarks op b = false := by first | exact nobehind _ (by decide) (by decide) | rfl) : PE X (.Compare a [op] [b] pos) t := fun pins s σ H Q I hw => wpAny_Compare1 (h pins s σ H Q I hw) h1
/-! ### and, or, not -/
variable {tA tB' : TT} {rest : List Expr}
def tAnd (t u : TT) : TT := fun σ H Q => t σ H fun c H1 => if c = true then u σ H1 Q else Q false H1
def tOr (t u : TT) : TT := fun σ H Q => t σ H fun c H1 => if c = true then Q true H1 else u σ H1 Q
def tNot (t : TT) : TT := fun σ H Q => t σ H fun c H1 => Q (!c) H1
theorem pw_and1 (ha : PT X a tA) : PW X (.BoolOp .And [a] pos) tA := by
  intro wh pins s σ H Q I h
  refine isTrue_and (thn (ha pins s σ H Q I h) fun c s1 e => ?_)
  cases c with
  | true => exact isTrue_and_nil e
  | false => exact e
theorem pw_or1 (ha : PT X a tA) : PW X (.BoolOp .Or [a] pos) tA := by
  intro wh pins s σ H Q I h
  refine isTrue_or (thn (ha pins s σ H Q I h) fun c s1 e => ?_)
  cases c with
  | false => exact isTrue_or_nil e
  | true => exact e
theorem pw_and (ha : PT X a tA) (hb : PW X (.BoolOp .And (b :: rest) pos) tB') : PW X (.BoolOp .And (a :: b :: rest) pos) (tAnd tA tB') := by
  intro wh pins s σ H Q I h
  refine isTrue_and (thn (ha pins s σ H _ I h) fun c s1 ⟨H1, I1, q1⟩ => ?_)
  cases c with
  | true => exact hb wh pins s1 σ H1 Q I1 q1
  | false => exact ⟨H1, I1, q1⟩
theorem pw_or (ha : PT X a tA) (hb : PW X (.BoolOp .Or (b :: rest) pos) tB') : PW X (.BoolOp .Or (a :: b :: rest) pos) (tOr tA tB') := by
  intro wh pins s σ H Q I h
  refine isTrue_or (thn (ha pins s σ H _ I h) fun c s1 ⟨H1, I1, q1⟩ => ?_)
  cases c with
  | true => exact ⟨H1, I1, q1⟩
  | false => exact hb wh pins s1 σ H1 Q I1 q1
theorem pt_not (ha : PT X a tA) : PT X (.UnaryOp .Not a pos) (tNot tA) := by
  intro pins s σ H Q I h
  exact isTrue_not (ha pins s σ H (fun c H1 => Q (!c) H1) I h)
/-- .. as values (bools) -/
def tAndV (ta tb : TE) : TE := fun σ H Q => ta σ H fun x H1 => ∃ c, x = .bl c ∧ if c = true then tb σ H1 Q else Q (.bl false) H1
def tOrV (ta tb : TE) : TE := fun σ H Q => ta σ H fun x H1 => ∃ c, x = .bl c ∧ if c = true then Q (.bl true) H1 else tb σ H1 Q
def tNotV (ta : TE) : TE := fun σ H Q => ta σ H fun x H1 => ∃ c, x = .bl c ∧ Q (.bl (!c)) H1
theorem pe_one {op} {t : TE} (h : PE X a t) : PE X (.BoolOp op [a] pos) t := fun pins s σ H Q I hw => BoolOp_one (h pins s σ H Q I hw)
theorem pe_and (ha : PE X a ta) (hb : PE X (.BoolOp .And (b :: rest) pos) tb) : PE X (.BoolOp .And (a :: b :: rest) pos) (tAndV ta tb) := by
  intro pins s σ H Q I h
  refine BoolOp_and (thn (ha pins s σ H _ I h) fun v s1 ⟨x, H1, I1, r1, q1⟩ => ?_)
  obtain ⟨c, rfl, q1⟩ := q1
  cases r1
  refine wpAny_truthy_bool ?_
  cases c with
  | true => exact hb pins s1 σ H1 Q I1 q1
  | false => exact ⟨.bl false, H1, I1, rfl, q1⟩
theorem pe_not (ha : PE X a ta) : PE X (.UnaryOp .Not a pos) (tNotV ta) := by
  intro pins s σ H Q I h
  refine UnaryOp_ (thn (ha pins s σ H _ I h) fun v s1 ⟨x, H1, I1, r1, q1⟩ => ?_)
  obtain ⟨c, rfl, q1⟩ := q1
  cases r1
  exact not_of (wpAny_truthy_bool ⟨.bl (!c), H1, I1, rfl, q1⟩)
/-- a if t else b -/
def tIf (t : TT) (ta tb : TE) : TE := fun σ H Q => t σ H fun c H1 => if c = true then ta σ H1 Q else tb σ H1 Q
end
end L2

namespace L2
open PySem PySem.Spec PyProof.Rows

/-! ### a list, a tuple that is read: tracked, frozen, or an object of the module -/
def SqL (K : PySem.W.Frag) (H : Hp) (a : Addr) (xs : List V) : Prop :=
  Rd H a (.lst xs) ∨
    ∃ (o : Obj) (its : Array Value) (n : Nat), K.lookup a = some o ∧ o.cls = .type "list" ∧ o.dict = none ∧ o.data = .seq its n ∧ its.size ≤ sizeLine ∧ Vals xs its.toList
def SqT (K : PySem.W.Frag) (H : Hp) (a : Addr) (xs : List V) : Prop :=
  Rd H a (.tup xs) ∨
    ∃ (o : Obj) (its : Array Value) (n : Nat), K.lookup a = some o ∧ o.cls = .type "tuple" ∧ o.data = .seq its n ∧ its.size ≤ sizeLine ∧ Vals xs its.toList
def absV : Value → Option V
  | .none => some .non
  | .bool b => some (.bl b)
  | .int i _ => some (.int i)
  | .str x _ => some (.str x)
  | .bytes b _ => some (.byt b)
  | .float b _ => some (.flt b)
  | .ref a => some (.ref a)
  | .type n => some (.ty n)
  | _ => none
theorem RelV.abs {x : V} {u : Value} (r : RelV x u) : absV u = some x := by
  cases x with
  | non => cases r; rfl
  | bl _ => cases r; rfl
  | int _ => obtain ⟨t, rfl⟩ := r; rfl
  | str _ => obtain ⟨t, rfl⟩ := r; rfl
  | byt _ => obtain ⟨t, rfl⟩ := r; rfl
  | flt _ => obtain ⟨t, rfl⟩ := r; rfl
  | ref _ => cases r; rfl
  | ty _ => cases r; rfl
theorem RelV.inj {x y : V} {u : Value} (r : RelV x u) (q : RelV y u) : x = y := Option.some.inj (r.abs.symm.trans q.abs)
theorem Vals.inj : ∀ {xs ys : List V} {us : List Value}, Vals xs us → Vals ys us → xs = ys
  | _, _, _, .nil, .nil => rfl
  | _, _, _, .cons r t, .cons r' t' => by rw [r.inj r', Vals.inj t t']
section
variable {X : Cx} {pins : List (Addr × Obj)} {σ : St} {H : Hp} {s : Shared} {a : Addr} {xs ys : List V}
theorem SqL.of {K : PySem.W.Frag} (h : H a = some (.lst xs)) : SqL K H a xs := .inl (.inl h)
theorem SqT.of {K : PySem.W.Frag} (h : H a = some (.tup xs)) : SqT K H a xs := .inl (.inl h)
theorem Inv.list (I : Inv X pins σ H s) (h : SqL X.K H a xs) : ∃ its : List Value, Vals xs its ∧ PlainL s.heap a its.toArray ∧ xs.length ≤ sizeLine := by
  rcases h with h | ⟨o, its, n, hk, hc, hd, hs, hz, r⟩
  · obtain ⟨z, its, n, r, e⟩ := h.ok I.hok
    exact ⟨its, r, ⟨_, n, e, rfl, rfl, rfl⟩, z⟩
  · refine ⟨its.toList, r, ⟨o, n, I.kIn a o hk, hc, hd, by simpa using hs⟩, ?_⟩
    have e := r.length
    simp only [Array.length_toList] at e
    omega
theorem Inv.tuple (I : Inv X pins σ H s) (h : SqT X.K H a xs) : ∃ its : List Value, Vals xs its ∧ IsTup s.heap a its.toArray ∧ xs.length ≤ sizeLine := by
  rcases h with h | ⟨o, its, n, hk, hc, hs, hz, r⟩
  · obtain ⟨z, its, r, p⟩ := h.ok I.hok
    exact ⟨its, r, p, z⟩
  · refine ⟨its.toList, r, ⟨o, I.kIn a o hk, hc, n, by simpa using hs⟩, ?_⟩
    have e := r.length
    simp only [Array.length_toList] at e
    omega
theorem Inv.list_inj (I : Inv X pins σ H s) (h : SqL X.K H a xs) (h' : SqL X.K H a ys) : xs = ys := by
  obtain ⟨its, r, ⟨o, n, e, _, _, d⟩, _⟩ := I.list h
  obtain ⟨its', r', ⟨o', n', e', _, _, d'⟩, _⟩ := I.list h'
  rw [e] at e'; cases e'
  rw [d] at d'
  injection d' with d1 _
  have : its = its' := by simpa using congrArg Array.toList d1
  subst this
  exact r.inj r'
theorem Inv.tuple_inj (I : Inv X pins σ H s) (h : SqT X.K H a xs) (h' : SqT X.K H a ys) : xs = ys := by
  obtain ⟨its, r, ⟨o, e, _, n, d⟩, _⟩ := I.tuple h
  obtain ⟨its', r', ⟨o', e', _, n', d'⟩, _⟩ := I.tuple h'
  rw [e] at e'; cases e'
  rw [d] at d'
  injection d' with d1 _
  have : its = its' := by simpa using congrArg Array.toList d1
  subst this
  exact r.inj r'
end

/-! ### another wish about exceptions -/
abbrev Cx.wish (X : Cx) (E : Value → Shared → Prop) : Cx := { X with xe := E }
/-- no exception leaves -/
abbrev Cx.nox (X : Cx) : Cx := X.wish fun _ _ => False
theorem Cx.Ok.wish {X : Cx} (ok : X.Ok) (E : Value → Shared → Prop) : (X.wish E).Ok :=
  ⟨ok.mod, ok.kind, ok.glob, ok.blt, ok.above, ok.inj, ok.has, ok.cab, ok.hd, ok.frames, ok.stk, ok.exf, ok.bs, ok.bsz, ok.noex, ok.exfs, ok.funs, ok.frf⟩
theorem Cx.Ok.unwish {X : Cx} {E : Value → Shared → Prop} (ok : (X.wish E).Ok) : X.Ok :=
  ⟨ok.mod, ok.kind, ok.glob, ok.blt, ok.above, ok.inj, ok.has, ok.cab, ok.hd, ok.frames, ok.stk, ok.exf, ok.bs, ok.bsz, ok.noex, ok.exfs, ok.funs, ok.frf⟩
section
variable {X : Cx} {pins : List (Addr × Obj)} {σ : St} {H : Hp} {s : Shared} {E : Value → Shared → Prop}
theorem Inv.wish (I : Inv X pins σ H s) (E : Value → Shared → Prop) : Inv (X.wish E) pins σ H s := ⟨I.ok.wish E, I.os, I.bare, I.base, I.loc, I.cell, I.free, I.freeC, I.pin, I.hok, I.len⟩
theorem Inv.unwish (I : Inv (X.wish E) pins σ H s) : Inv X pins σ H s := ⟨I.ok.unwish, I.os, I.bare, I.base, I.loc, I.cell, I.free, I.freeC, I.pin, I.hok, I.len⟩
theorem SP.unwish {D : Ends} {f : Flow} {s' : Shared} (h : SP (X.wish E) pins D f s') : SP X pins D f s' := by
  cases f with
  | next => obtain ⟨σ', H', I, q⟩ := h; exact ⟨σ', H', I.unwish, q⟩
  | brk => obtain ⟨σ', H', I, q⟩ := h; exact ⟨σ', H', I.unwish, q⟩
  | cont => obtain ⟨σ', H', I, q⟩ := h; exact ⟨σ', H', I.unwish, q⟩
  | ret u => obtain ⟨v, σ', H', I, r, q⟩ := h; exact ⟨v, σ', H', I.unwish, r, q⟩
theorem PE.nox {e : Expr} {t : TE} (h : PE X.nox e t) : PE X e t := fun pins s σ H Q I hw =>
  wpAny_mono (h pins s σ H Q (I.wish _) hw) (fun _ _ ⟨v, H', I', r, q⟩ => ⟨v, H', I'.unwish, r, q⟩) fun _ _ z => False.elim z
theorem PT.nox {e : Expr} {t : TT} (h : PT X.nox e t) : PT X e t := fun pins s σ H Q I hw =>
  wpAny_mono (h pins s σ H Q (I.wish _) hw) (fun _ _ ⟨H', I', q⟩ => ⟨H', I'.unwish, q⟩) fun _ _ z => False.elim z
theorem PSs.nox {st : List Stmt} {t : TS} (h : PSs X.nox st t) : PSs X st t := fun pins s σ H D I hw =>
  wpAny_mono (h pins s σ H D (I.wish _) hw) (fun _ _ q => q.unwish) fun _ _ z => False.elim z
end

/-! ### blocks and small statements -/
section
variable {X : Cx} {st : Stmt} {rest : List Stmt} {t u : TS} {e : Expr} {te : TE} {pos : Pos}
def tNext : TS := fun D σ H => D.nx σ H
def tSeq (t u : TS) : TS := fun D σ H => t { D with nx := u D } σ H
theorem pss_nil : PSs X [] tNext := fun _ _ σ H _ I h => wpAny_execs_nil ⟨σ, H, I, h⟩
theorem pss_cons (h1 : PS X st t) (h2 : PSs X rest u) : PSs X (st :: rest) (tSeq t u) := by
  intro pins s σ H D I h
  refine wpAny_execs_cons (thn (h1 pins s σ H { D with nx := u D } I h) fun f s1 q => ?_)
  cases f with
  | next =>
    obtain ⟨σ', H', I', q⟩ := q
    exact h2 pins s1 σ' H' D I' q
  | ret v => exact q
  | brk => exact q
  | cont => exact q
theorem pss_one (h1 : PS X st t) : PSs X [st] t := by
  intro pins s σ H D I h
  refine wpAny_execs_cons (thn (h1 pins s σ H D I h) fun f s1 q => ?_)
  cases f with
  | next => exact wpAny_execs_nil q
  | ret v => exact q
  | brk => exact q
  | cont => exact q
def tBreak : TS := fun D σ H => D.bk σ H
def tCont : TS := fun D σ H => D.ct σ H
/-- in a def's body nothing is shown -/
theorem Inv.quiet {pins : List (Addr × Obj)} {σ : St} {H : Hp} {s : Shared} (I : Inv X pins σ H s) : interactive X.env = false := by simp [interactive, I.ok.kind]
/-- an expression whose value is dropped -/
def tDrop (te : TE) : TS := fun D σ H => te σ H fun _ H1 => D.nx σ H1
theorem ps_expr (he : PE X e te) (hs : swapsWith e none pos.line X.env = pure false := by rfl) : PS X (.Expr e pos) (tDrop te) := by
  intro pins s σ H D I h
  exact wpAny_Expr_any (thn (he pins s σ H _ I h) fun v s1 ⟨x, H1, I1, r1, q1⟩ => ⟨σ, H1, I1, q1⟩) I.quiet hs
def tRet (te : TE) : TS := fun D σ H => te σ H D.rt
theorem ps_ret (he : PE X e te) : PS X (.Return (some e) pos) (tRet te) := by
  intro pins s σ H D I h
  exact wpAny_Return_some (thn (he pins s σ H _ I h) fun v s1 ⟨x, H1, I1, r1, q1⟩ => ⟨x, σ, H1, I1, r1, q1⟩)
def tRetN : TS := fun D _ H => D.rt .non H
def tIfS (c : TT) (t u : TS) : TS := fun D σ H => c σ H fun b H1 => if b = true then t D σ H1 else u D σ H1
theorem ps_if {c : Expr} {a b : List Stmt} {tc : TT} (hc : PT X c tc) (ha : PSs X a t) (hb : PSs X b u) : PS X (.If c a b pos) (tIfS tc t u) := by
  intro pins s σ H D I h
  refine wpAny_If (thn (hc pins s σ H _ I h) fun d s1 ⟨H1, I1, q1⟩ => ?_)
  cases d with
  | true => exact ha pins s1 σ H1 D I1 q1
  | false => exact hb pins s1 σ H1 D I1 q1
/-- code that the proof never comes to -/
def tNever : TS := fun _ _ _ => False
end

/-! ### targets -/
abbrev TG := V → St → Hp → (St → Hp → Prop) → Prop
abbrev TGs := List V → St → Hp → (St → Hp → Prop) → Prop
def PG (X : Cx) (target : Expr) (t : TG) : Prop :=
  ∀ (pins : List (Addr × Obj)) (s : Shared) (σ : St) (H : Hp) (v : V) (u : Value) (Q : St → Hp → Prop), Inv X pins σ H s → RelV v u → t v σ H Q →
    wpAny (model X.prog X.w) X.A (assign target X.env u) (fun _ s' => ∃ σ' H', Inv X pins σ' H' s' ∧ Q σ' H') X.xe s
/-- several targets, one after another -/
def PGs (X : Cx) (ts : List Expr) (t : TGs) : Prop :=
  ∀ (pins : List (Addr × Obj)) (s : Shared) (σ : St) (H : Hp) (vs : List V) (us : List Value) (Q : St → Hp → Prop), Inv X pins σ H s → Vals vs us → t vs σ H Q →
    wpAny (model X.prog X.w) X.A (assignInOrder ((assignEach ts X.env).map (·.2)) us) (fun _ s' => ∃ σ' H', Inv X pins σ' H' s' ∧ Q σ' H') X.xe s
/-- o[i] = v, by values -/
abbrev TSet := V → V → V → Hp → (Hp → Prop) → Prop
def PSet (X : Cx) (t : TSet) : Prop :=
  ∀ (pins : List (Addr × Obj)) (s : Shared) (σ : St) (H : Hp) (o i v : V) (ov iv u : Value) (Q : Hp → Prop), Inv X pins σ H s → RelV o ov → RelV i iv → RelV v u → t o i v H Q →
    wpAny (model X.prog X.w) X.A (setItem ov iv u) (fun _ s' => ∃ H', Inv X pins σ H' s' ∧ Q H') X.xe s
/-- a op= b, by values -/
abbrev TIp := V → V → Hp → VK → Prop
def PIp (X : Cx) (op : Operator) (t : TIp) : Prop :=
  ∀ (pins : List (Addr × Obj)) (s : Shared) (σ : St) (H : Hp) (x y : V) (v u : Value) (Q : VK), Inv X pins σ H s → RelV x v → RelV y u → t x y H Q →
    wpAny (model X.prog X.w) X.A (inplaceOp op v u) (EP X pins σ Q) X.xe s
section
variable {X : Cx} {pos : Pos}
def gName (i : Nat) : TG := fun v σ H Q => Q (σ.set i (some v)) H
theorem pg_name {i : Nat} {x : Str} (hN : X.N.Nodup) (hi : X.N[i]? = some x) (hx : Loc X.env.scope x) (hf : X.fn x = true ∨ X.env.scope.names.lookup x = some .local := by first | exact .inl rfl | exact .inr rfl | assumption) : PG X (.Name x pos) (gName i) := by
  intro pins s σ H v u Q I r h
  exact wpAny_assign_Name (store_ok I hN hi hx r (fun s' I' => ⟨_, H, I', h⟩) hf)
def gNil : TGs := fun vs σ H Q => vs = [] ∧ Q σ H
def gCons (t : TG) (u : TGs) : TGs := fun vs σ H Q => ∃ v r, vs = v :: r ∧ t v σ H fun σ' H' => u r σ' H' Q
theorem pgs_nil : PGs X [] gNil := by
  intro pins s σ H vs us Q I r h
  obtain ⟨e, h⟩ := h
  subst e
  cases r
  exact assignInOrder_nil ⟨σ, H, I, h⟩
theorem pgs_cons {e : Expr} {es : List Expr} {t : TG} {u : TGs} (h1 : PG X e t) (h2 : PGs X es u)
    (hs : (assignEach (e :: es) X.env).map (·.2) = assign e X.env :: (assignEach es X.env).map (·.2) := by rfl) : PGs X (e :: es) (gCons t u) := by
  intro pins s σ H vs us Q I r h
  obtain ⟨v, vr, e1, h⟩ := h
  subst e1
  cases r with
  | cons r rr =>
    rw [hs]
    refine assignInOrder_cons (thn (h1 pins s σ H _ _ _ I r h) fun _ s1 ⟨σ1, H1, I1, q1⟩ => ?_)
    exact h2 pins s1 σ1 H1 _ _ Q I1 rr q1
/-- (a, b, ..) = a tuple of that length -/
def gTup (K : PySem.W.Frag) (n : Nat) (t : TGs) : TG := fun v σ H Q => ∃ a xs, v = .ref a ∧ SqT K H a xs ∧ xs.length = n ∧ t xs σ H Q
theorem pg_tup {es : List Expr} {k : Nat} {t : TGs} {n : Nat} (hc : X.calm = true) (h : PGs X es t)
    (hn : (assignEach es X.env).length = n := by rfl) (hst : (assignEach es X.env).findIdx? (·.1) = none := by rfl) : PG X (.Tuple es k pos) (gTup X.K n t) := by
  intro pins s σ H v u Q I r hw
  obtain ⟨a, xs, e1, hq, hl, hw⟩ := hw
  subst e1
  cases r
  obtain ⟨its, rv, ht, hz⟩ := I.tuple hq
  refine assign_Tuple_tuple (I.ok.hd hc) ht (by simp [hn, ← hl, rv.length]) hst fun h' hx => ?_
  have I1 : Inv X pins σ H { s with heap := h' } := I.kept (t' := s.toks) fun b o e => hx b o (Nat.ne_of_lt (Heap.lt_size e)) e
  exact h pins _ σ H xs _ Q I1 (by simpa using rv) hw
/-- o[i] = .. -/
def gSub (to ti : TE) (t : TSet) : TG := fun v σ H Q => to σ H fun o H1 => ti σ H1 fun i H2 => t o i v H2 fun H3 => Q σ H3
theorem pg_sub {o i : Expr} {to ti : TE} {t : TSet} (ho : PE X o to) (hi : PE X i ti) (hs : PSet X t)
    (ha : ∀ v, assign (.Subscript o i pos) X.env v = (do
      let ov ← holding [v] (eval o X.env)
      let iv ← holding [v, ov] (eval i X.env)
      standAt pos
      holding [v, ov, iv] (setItem ov iv v)
      release [v, ov, iv] []) := by intro _; rfl) : PG X (.Subscript o i pos) (gSub to ti t) := by
  intro pins s σ H v u Q I r h
  rw [ha]
  refine wpAny_bind (wpAny_holding (thn (ho pins s σ H _ I h) fun ov s1 ⟨x, H1, I1, r1, q1⟩ => ?_))
  refine wpAny_bind (wpAny_holding (thn (hi pins s1 σ H1 _ I1 q1) fun iv s2 ⟨y, H2, I2, r2, q2⟩ => ?_))
  refine wpAny_bind (wpAny_standAt (wpAny_bind (wpAny_holding (thn (hs pins s2 σ H2 x y v ov iv u _ I2 r1 r2 r q2) fun _ s3 ⟨H3, I3, q3⟩ => ?_))))
  exact wpAny_release ⟨σ, H3, I3, q3⟩
/-- target = value -/
def tAsg (te : TE) (g : TG) : TS := fun D σ H => te σ H fun x H1 => g x σ H1 D.nx
theorem ps_asg {tg e : Expr} {te : TE} {g : TG} (he : PE X e te) (hg : PG X tg g) (hs : swapsWithSole [tg] e pos.line X.env = pure false := by rfl) (hw : swappedStores [tg] e X.env = pure none := by rfl)
    (h1 : (assignEach [tg] X.env).map (·.2) = [assign tg X.env] := by rfl) : PS X (.Assign [tg] e pos) (tAsg te g) := by
  intro pins s σ H D I h
  refine wpAny_Assign_stores (thn (he pins s σ H _ I h) fun v s1 ⟨x, H1, I1, r1, q1⟩ => ?_) hs hw
  rw [h1]
  exact thn (hg pins s1 σ H1 x v _ I1 r1 q1) fun _ s2 q => q
/-- name = value -/
theorem ps_set {i : Nat} {x : Str} {e : Expr} {te : TE} {pos' : Pos} (hN : X.N.Nodup) (hi : X.N[i]? = some x) (hx : Loc X.env.scope x) (he : PE X e te) (hs : swapsWith e (some (.Name x pos')) pos.line X.env = pure false := by rfl) (hf : X.fn x = true ∨ X.env.scope.names.lookup x = some .local := by first | exact .inl rfl | exact .inr rfl | assumption) :
    PS X (.Assign [.Name x pos'] e pos) (tAsg te (gName i)) := by
  intro pins s σ H D I h
  refine wpAny_Assign_Name (thn (he pins s σ H _ I h) fun v s1 ⟨y, H1, I1, r1, q1⟩ => ?_) hs
  exact store_ok I1 hN hi hx r1 (fun s2 I2 => ⟨_, H1, I2, q1⟩) hf
/-- a, b = x, y with plain local names: stored from the right; the pair itself is not tracked (the opening rows as in PyProof/Rows/TupAssign.lean:23) -/
def tPar (i j : Nat) (ta : TA) : TS := fun D σ H => ta σ H fun vs H1 => ∃ v w, vs = [v, w] ∧ D.nx ((σ.set i (some v)).set j (some w)) H1
/-- name op= e -/
def tAug (i : Nat) (te : TE) (ti : TIp) : TS := fun D σ H => ∃ x, σ[i]? = some (some x) ∧ te σ H fun y H1 => ti x y H1 fun z H2 => D.nx (σ.set i (some z)) H2
/-- o[i] op= e -/
def tAugS (to ti te : TE) (tget : V → V → Hp → VK → Prop) (tip : TIp) (tset : TSet) : TS := fun D σ H => to σ H fun o H1 => ti σ H1 fun i H2 => tget o i H2 fun x H3 => te σ H3 fun y H4 => tip x y H4 fun z H5 => tset o i z H5 fun H6 => D.nx σ H6
/-- o[i], by values -/
def PGet (X : Cx) (t : V → V → Hp → VK → Prop) : Prop :=
  ∀ (pins : List (Addr × Obj)) (s : Shared) (σ : St) (H : Hp) (o i : V) (ov iv : Value) (Q : VK), Inv X pins σ H s → RelV o ov → RelV i iv → t o i H Q →
    wpAny (model X.prog X.w) X.A (getItem ov iv) (EP X pins σ Q) X.xe s
/-- ints -/
def ipI (f : Int → Int → Int) : TIp := fun x y H Q => ∃ i j, x = .int i ∧ y = .int j ∧ Q (.int (f i j)) H
end

/-! ### while -/
section
variable {X : Cx} {pos : Pos}
/-- the invariant W with its measure -/
def tWhile (c : TT) (tb : TS) : TS := fun D σ H => ∃ W : Nat → St → Hp → Prop, (∃ m, W m σ H) ∧ ∀ m σ H, W m σ H →
  c σ H fun b H1 => if b = true then ∃ N : St → Hp → Prop, (∀ σ' H', N σ' H' → ∃ m', m' < m ∧ W m' σ' H') ∧ tb { D with nx := N, ct := N, bk := D.nx } σ H1 else D.nx σ H1
end

/-! ### what a loop or a comprehension walks -/
/-- at turn i: it yields x (the heap may grow), or it stops -/
structure It where
  go : Nat → Hp → Prop
  yld : Nat → Hp → V → Hp → Prop
  stop : Nat → Hp → Prop
/-- the iterator's own objects may turn: they are not the frame's, not pinned, younger than the entry (or a comprehension's own) -/
def FpOk (X : Cx) (pins : List (Addr × Obj)) (H : Hp) (b : Addr) : Prop :=
  H b = none ∧ b ≠ X.env.locals ∧ b ∉ X.fs ∧ (b ∈ X.ex ∨ X.s₀.heap.objs.size ≤ b) ∧ (∀ x c, X.env.cells.lookup x = some c → c ≠ b) ∧ ∀ p ∈ X.pn ++ pins, p.1 ≠ b
theorem Inv.fpOk {X : Cx} {pins : List (Addr × Obj)} {σ : St} {H H' : Hp} {s : Shared} {b : Addr} (I : Inv X pins σ H s) (hb : s.heap.objs.size ≤ b) (hn : H' b = none) : FpOk X pins H' b := by
  refine ⟨hn, Nat.ne_of_gt (Nat.lt_of_lt_of_le I.lt hb), I.nofs hb, .inr (Nat.le_trans I.sz hb), fun x c e z => ?_, fun p hp z => ?_⟩
  · obtain ⟨v, q⟩ := I.cell x c e
    exact absurd (Nat.lt_of_lt_of_le q.lt (by rw [z]; exact hb)) (Nat.lt_irrefl _)
  · exact absurd (Nat.lt_of_lt_of_le (Heap.lt_size (I.pin p hp).1) (by rw [z]; exact hb)) (Nat.lt_irrefl _)
structure Turn (P : Program) (w : World) (K : PySem.W.Frag) (tg : Expr) (J : It) (fp : List Addr) (it : Addr) (tn : Nat → Heap → Prop) : Prop where
  mem : it ∈ fp
  obj : ∀ i h, tn i h → ∀ b ∈ fp, ∃ o, h.get? b = some o ∧ ∀ v, o.data ≠ .cell v
  keep : ∀ i h h', tn i h → (∀ b ∈ fp, ∀ o, h.get? b = some o → h'.get? b = some o) → tn i h'
  item : ∀ (X : Cx), X.prog = P → X.w = w → X.K = K → X.calm = true → ∀ (i : Nat) (pins : List (Addr × Obj)) (s : Shared) (σ : St) (H : Hp) (E : Value → Shared → Prop), Inv X pins σ H s → (∀ b ∈ fp, FpOk X pins H b) → tn i s.heap → J.go i H →
    wpAny (model P w) X.A (pyNext (.ref it)) (fun r s1 => ∃ u, r = some u ∧
      wpAny (model P w) X.A (letOwnedTupleGo tg (.ref it) u) (fun _ s2 => ∃ x H', Inv X pins σ H' s2 ∧ RelV x u ∧ J.yld i H x H' ∧ tn (i + 1) s2.heap ∧ ∀ b ∈ fp, H' b = none) E s1) E s
  done : ∀ (X : Cx), X.prog = P → X.w = w → X.K = K → X.calm = true → ∀ (i : Nat) (pins : List (Addr × Obj)) (s : Shared) (σ : St) (H : Hp) (E : Value → Shared → Prop), Inv X pins σ H s → (∀ b ∈ fp, FpOk X pins H b) → tn i s.heap → J.stop i H →
    wpAny (model P w) X.A (pyNext (.ref it)) (fun r s1 => r = none ∧ Inv X pins σ H s1) E s
  self : ∀ (A : Around) (i : Nat) (s : Shared) (Q : Value → Shared → Prop) (E : Value → Shared → Prop), tn i s.heap → Q (.ref it) s → wpAny (model P w) A (pyIter (.ref it)) Q E s
abbrev TI := St → Hp → (It → Hp → Prop) → Prop
/-- an iterator has come -/
def PIE (X : Cx) (pins : List (Addr × Obj)) (σ : St) (tg : Expr) (R : It → Hp → Prop) (itv : Value) (s2 : Shared) : Prop :=
  ∃ (it : Addr) (fp : List Addr) (tn : Nat → Heap → Prop) (J : It) (H' : Hp), itv = .ref it ∧ Inv X pins σ H' s2 ∧ Turn X.prog X.w X.K tg J fp it tn ∧ tn 0 s2.heap ∧ (∀ b ∈ fp, FpOk X pins H' b) ∧ R J H'
def PI (X : Cx) (tg iter : Expr) (wi : TI) : Prop :=
  ∀ (pins : List (Addr × Obj)) (s : Shared) (σ : St) (H : Hp) (R : It → Hp → Prop), Inv X pins σ H s → wi σ H R →
    wpAny (model X.prog X.w) X.A (eval iter X.env) (fun v s1 => wpAny (model X.prog X.w) X.A (pyIter v) (PIE X pins σ tg R) X.xe s1) X.xe s

/-- the step ahead of the store is nothing for an iterator that keeps no tuple -/
theorem go_of {M : Model} {A : Around} {E : Value → Shared → Prop} {s : Shared} {tg : Expr} {it : Addr} {u : Value} {o : Obj} {n : String} {vs : Array Value} {Q : Unit → Shared → Prop} (ho : s.heap.get? it = some o) (hc : o.cls = .type n) (hd : o.data = .fields vs)
    (hn : ["enumerate", "zip", "dict_itemiterator", "dict_reverseitemiterator", "odict_iterator", "itertools.zip_longest", "itertools.pairwise"].contains n = false) (hQ : Q () s) : wpAny M A (letOwnedTupleGo tg (.ref it) u) Q E s := by
  unfold letOwnedTupleGo
  cases tg <;> first
    | exact wpAny_pure hQ
    | (cases u <;> first
        | exact wpAny_pure hQ
        | (refine wpAny_bind (wpAny_load ho ?_)
           rw [hc, hd]
           show wpAny M A (if (["enumerate", "zip", "dict_itemiterator", "dict_reverseitemiterator", "odict_iterator", "itertools.zip_longest", "itertools.pairwise"].contains n && vs[0]? == some (rawInt _)) = true then _ else _) Q E s
           rw [if_neg (by intro h; rw [hn, Bool.false_and] at h; cases h)]
           exact wpAny_pure hQ))

/-- the list at a, as it stands at each turn (a loop may append to it) -/
def Itl (K : PySem.W.Frag) (a : Addr) : It :=
  ⟨fun i H => ∃ xs x, SqL K H a xs ∧ xs[i]? = some x, fun i H x H' => H' = H ∧ ∀ xs, SqL K H a xs → xs[i]? = some x, fun i H => ∃ xs, SqL K H a xs ∧ xs.length ≤ i⟩
def Itt (K : PySem.W.Frag) (a : Addr) : It :=
  ⟨fun i H => ∃ xs x, SqT K H a xs ∧ xs[i]? = some x, fun i H x H' => H' = H ∧ ∀ xs, SqT K H a xs → xs[i]? = some x, fun i H => ∃ xs, SqT K H a xs ∧ xs.length ≤ i⟩
/-- lo, lo + 1, .. (n of them) -/
def Itr (lo : Int) (n : Nat) : It := ⟨fun i _ => i < n, fun i H x H' => H' = H ∧ x = .int (lo + i), fun i _ => n ≤ i⟩
theorem turn_list {P : Program} {w : World} {K : PySem.W.Frag} {tg : Expr} (a it : Addr) : Turn P w K tg (Itl K a) [it] it (fun i h => h.IsListIter it a i) where
  mem := by simp
  obj := fun i h st b hb => by
    have e : b = it := by simpa using hb
    subst e
    obtain ⟨o, e, c, d⟩ := st
    exact ⟨o, e, fun v z => by rw [d] at z; cases z⟩
  keep := fun i h h' st k => st.at fun o e => k it (by simp) o e
  item := by
    intro X hP hw hK hc i pins s σ H E I hf st hg
    subst hP hw hK
    obtain ⟨xs, x, hq, hx⟩ := hg
    obtain ⟨its, rv, p, hz⟩ := I.list hq
    obtain ⟨u, hu, ru⟩ := rv.get hx
    obtain ⟨f0, f1, f2, f3, f4, f5⟩ := hf it (by simp)
    refine wpAny_pyNext_list_item st p.isList (x := u) (by simpa using hu) fun h' st' sb => ?_
    have I1 : Inv X pins σ H { s with heap := h' } := I.turned (t' := s.toks) (fun b o hb e => (sb.2 b hb).trans e) f0 f1 f3 f4 f5
    obtain ⟨o, e, c, d⟩ := id st'
    exact ⟨u, rfl, go_of (s := { s with heap := h' }) e c d (by decide) ⟨x, H, I1, ru, ⟨rfl, fun ys hy => by rw [I.list_inj hy hq]; exact hx⟩, st', fun b hb => (hf b hb).1⟩⟩
  done := by
    intro X hP hw hK hc i pins s σ H E I hf st hg
    subst hP hw hK
    obtain ⟨xs, hq, hx⟩ := hg
    obtain ⟨its, rv, p, hz⟩ := I.list hq
    obtain ⟨f0, f1, f2, f3, f4, f5⟩ := hf it (by simp)
    have hl := rv.length
    exact wpAny_pyNext_list_end (I.ok.hd hc) st p.isList (by simp; omega) fun h' eb => ⟨rfl, I.turned (t' := s.toks) (fun b o hb e => eb b o hb e) f0 f1 f3 f4 f5⟩
  self := fun _ _ _ _ _ st h => wpAny_pyIter_listiter st h
theorem turn_tuple {P : Program} {w : World} {K : PySem.W.Frag} {tg : Expr} (a it : Addr) : Turn P w K tg (Itt K a) [it] it (fun i h => h.IsTupleIter it a i) where
  mem := by simp
  obj := fun i h st b hb => by
    have e : b = it := by simpa using hb
    subst e
    obtain ⟨o, e, c, d⟩ := st
    exact ⟨o, e, fun v z => by rw [d] at z; cases z⟩
  keep := fun i h h' st k => st.at fun o e => k it (by simp) o e
  item := by
    intro X hP hw hK hc i pins s σ H E I hf st hg
    subst hP hw hK
    obtain ⟨xs, x, hq, hx⟩ := hg
    obtain ⟨its, rv, p, hz⟩ := I.tuple hq
    obtain ⟨u, hu, ru⟩ := rv.get hx
    obtain ⟨f0, f1, f2, f3, f4, f5⟩ := hf it (by simp)
    refine wpAny_pyNext_tuple_item st (show s.heap.IsTuple a its.toArray from p) (x := u) (by simpa using hu) fun h' st' sb => ?_
    have I1 : Inv X pins σ H { s with heap := h' } := I.turned (t' := s.toks) (fun b o hb e => (sb.2 b hb).trans e) f0 f1 f3 f4 f5
    obtain ⟨o, e, c, d⟩ := id st'
    exact ⟨u, rfl, go_of (s := { s with heap := h' }) e c d (by decide) ⟨x, H, I1, ru, ⟨rfl, fun ys hy => by rw [I.tuple_inj hy hq]; exact hx⟩, st', fun b hb => (hf b hb).1⟩⟩
  done := by
    intro X hP hw hK hc i pins s σ H E I hf st hg
    subst hP hw hK
    obtain ⟨xs, hq, hx⟩ := hg
    obtain ⟨its, rv, p, hz⟩ := I.tuple hq
    obtain ⟨f0, f1, f2, f3, f4, f5⟩ := hf it (by simp)
    have hl := rv.length
    exact wpAny_pyNext_tuple_end (I.ok.hd hc) st (show s.heap.IsTuple a its.toArray from p) (by simp; omega) fun h' eb => ⟨rfl, I.turned (t' := s.toks) (fun b o hb e => eb b o hb e) f0 f1 f3 f4 f5⟩
  self := fun _ _ _ _ _ st h => wpAny_pyIter_tupleiter st h
theorem turn_range {P : Program} {w : World} {K : PySem.W.Frag} {tg : Expr} (it : Addr) (lo : Int) (n : Nat) : Turn P w K tg (Itr lo n) [it] it (fun i h => IsRangeIter h it (lo + (i : Nat) * 1) ((n : Int) - (i : Nat)) 1) where
  mem := by simp
  obj := fun i h st b hb => by
    have e : b = it := by simpa using hb
    subst e
    exact ⟨_, st, fun v z => by
      have z' : Data.fields _ = Data.cell v := z
      cases z'⟩
  keep := fun i h h' st k => k it (by simp) _ st
  item := by
    intro X hP hw hK hc i pins s σ H E I hf st hg
    subst hP hw hK
    obtain ⟨f0, f1, f2, f3, f4, f5⟩ := hf it (by simp)
    have W := Walks.range (prog := X.prog) (w := X.w) (I.ok.hd hc) it lo 1 n
    refine W.item i s _ _ hg st fun v h' tk hv st' kk => ?_
    obtain ⟨t, rfl⟩ := hv
    have I1 : Inv X pins σ H { s with heap := h', toks := tk } := I.turned (fun b o hb e => kk b o (by simpa using hb) e) f0 f1 f3 f4 f5
    refine ⟨_, rfl, go_of (s := { s with heap := h', toks := tk }) (n := "range_iterator") st' rfl rfl (by decide) ⟨.int (lo + i), H, I1, ⟨t, ?_⟩, ⟨rfl, rfl⟩, st', fun b hb => (hf b hb).1⟩⟩
    rw [Int.mul_one]
  done := by
    intro X hP hw hK hc i pins s σ H E I hf st hg
    subst hP hw hK
    obtain ⟨f0, f1, f2, f3, f4, f5⟩ := hf it (by simp)
    exact wpAny_pyNext_range_end (I.ok.hd hc) st (by have : n ≤ i := hg; omega) fun h' eb => ⟨rfl, I.turned (t' := s.toks) (fun b o hb e => eb b o hb e) f0 f1 f3 f4 f5⟩
  self := fun _ _ _ _ _ st h => wpAny_pyIter_rangeiter st h
end L2

namespace L2
open PySem PySem.Spec PyProof.Rows
section
variable {X : Cx} {tg : Expr}
def iList (K : PySem.W.Frag) (tl : TE) : TI := fun σ H R => tl σ H fun x H1 => ∃ a, x = .ref a ∧ (∃ xs, SqL K H1 a xs) ∧ R (Itl K a) H1
def iTup (K : PySem.W.Frag) (tl : TE) : TI := fun σ H R => tl σ H fun x H1 => ∃ a, x = .ref a ∧ (∃ xs, SqT K H1 a xs) ∧ R (Itt K a) H1
/-- a range object just made, walked -/
theorem range_it {pins : List (Addr × Obj)} {σ : St} {H : Hp} {s : Shared} {R : It → Hp → Prop} {E : Value → Shared → Prop} {lo hi : Int} {t u v : Tok} {tk : Nat} (I : Inv X pins σ H s) (h1 : -(2 ^ 62) ≤ lo) (h2 : lo < 2 ^ 62) (h3 : -(2 ^ 62) ≤ hi) (h4 : hi < 2 ^ 62)
    (q : R (Itr lo (hi - lo).toNat) H) : wpAny (model X.prog X.w) X.A (pyIter (.ref s.heap.objs.size)) (PIE X pins σ tg R) E { s with heap := s.heap.push { cls := .type "range", data := .fields #[.int lo t, .int hi u, .int 1 v] }, toks := tk } := by
  refine wpAny_pyIter_range (IsRange.new ..) (small_one h1 h2 h3 h4) ?_
  have I1 : Inv X pins σ H { s with heap := s.heap.push { cls := .type "range", data := .fields #[.int lo t, .int hi u, .int 1 v] }, toks := tk } := I.kept fun b o e => Heap.get?_push_of_some _ e
  refine ⟨(s.heap.push { cls := .type "range", data := .fields #[.int lo t, .int hi u, .int 1 v] }).objs.size, [(s.heap.push { cls := .type "range", data := .fields #[.int lo t, .int hi u, .int 1 v] }).objs.size], _, _, H, rfl,
    I1.kept (t' := tk) fun b o e => Heap.get?_push_of_some _ e, turn_range _ lo (hi - lo).toNat, ?_, fun b hb => ?_, q⟩
  · have e1 : lo + ((0 : Nat) : Int) * 1 = lo := by simp
    have e2 : (((hi - lo).toNat : Nat) : Int) - ((0 : Nat) : Int) = Builtin.Range.rangeSize lo hi 1 := by rw [rangeSize_one]; split <;> omega
    show IsRangeIter _ _ (lo + ((0 : Nat) : Int) * 1) ((((hi - lo).toNat : Nat) : Int) - ((0 : Nat) : Int)) 1
    rw [e1, e2]
    exact Heap.get?_push_size _ rfl
  · have e : b = (s.heap.push { cls := .type "range", data := .fields #[.int lo t, .int hi u, .int 1 v] }).objs.size := by simpa using hb
    subst e
    exact I1.fpOk (Nat.le_refl _) (I1.hok.fresh (Nat.le_refl _))
def iRng1 (ta : TA) : TI := fun σ H R => ta σ H fun vs H1 => ∃ j : Int, vs = [.int j] ∧ -(2 ^ 62) ≤ j ∧ j < 2 ^ 62 ∧ R (Itr 0 j.toNat) H1
def iRng2 (ta : TA) : TI := fun σ H R => ta σ H fun vs H1 => ∃ i j : Int, vs = [.int i, .int j] ∧ (-(2 ^ 62) ≤ i ∧ i < 2 ^ 62 ∧ -(2 ^ 62) ≤ j ∧ j < 2 ^ 62) ∧ R (Itr i (j - i).toNat) H1
theorem pi_range1 {a : Expr} {ta : TA} {p pos : Pos} (hg : Gl X "range") (hm : X.mg "range" = none) (ha : PA X [a] ta) (hs : starEach [a] X.env = [(false, eval a X.env)] := by rfl) : PI X tg (.Call (.Name "range" p) [a] [] pos) (iRng1 ta) := by
  intro pins s σ H R I h
  refine Call_ (ld_blt I hg hm boot_range (PyProof.Rows.callWith_type1 (thn (ha pos pins s σ H _ I h) fun us s1 ⟨vs, H1, I1, r1, q1⟩ => ?_) hs rfl))
  obtain ⟨j, e, q1, q2, q⟩ := q1
  subst e
  cases r1 with
  | cons r rr =>
    cases rr
    obtain ⟨t, rfl⟩ := r
    exact call_range_1 (range_it I1 (by omega) (by omega) q1 q2 (by simpa using q))
/-! ### for -/
/-- W: the invariant by the turn and a measure; N: what the body is to reach -/
def tFor (wi : TI) (g : TG) (tb : TS) : TS := fun D σ H => wi σ H fun J H1 => ∃ W : Nat → Nat → St → Hp → Prop, (∃ m, W 0 m σ H1) ∧ ∀ i m σ H, W i m σ H →
  (J.stop i H ∧ D.nx σ H) ∨ (J.go i H ∧ ∃ N : St → Hp → Prop, (∀ σ' H', N σ' H' → ∃ m', m' < m ∧ W (i + 1) m' σ' H') ∧ ∀ x H', J.yld i H x H' → g x σ H' fun σ2 H2 => tb { D with nx := N, ct := N, bk := D.nx } σ2 H2)
/-- the records at fp as they stand -/
def pinsAt (fp : List Addr) (h : Heap) : List (Addr × Obj) := fp.filterMap fun b => (h.get? b).map fun o => (b, o)
theorem mem_pinsAt {fp : List Addr} {h : Heap} {b : Addr} {o : Obj} (hb : b ∈ fp) (e : h.get? b = some o) : (b, o) ∈ pinsAt fp h := List.mem_filterMap.mpr ⟨b, hb, by rw [e]; rfl⟩
theorem of_pinsAt {fp : List Addr} {h : Heap} {p : Addr × Obj} (hp : p ∈ pinsAt fp h) : p.1 ∈ fp ∧ h.get? p.1 = some p.2 := by
  obtain ⟨b, hb, e⟩ := List.mem_filterMap.mp hp
  cases q : h.get? b with
  | none => rw [q] at e; cases e
  | some o =>
    rw [q] at e
    have e' : (b, o) = p := Option.some.inj e
    subst e'
    exact ⟨hb, q⟩
theorem Inv.pinned {pins : List (Addr × Obj)} {σ : St} {H : Hp} {s : Shared} {fp : List Addr} (I : Inv X pins σ H s) (hf : ∀ b ∈ fp, FpOk X pins H b) (ho : ∀ b ∈ fp, ∃ o, s.heap.get? b = some o ∧ ∀ v, o.data ≠ .cell v) : Inv X (pins ++ pinsAt fp s.heap) σ H s :=
  I.pins_of fun p hp => (List.mem_append.mp hp).elim (fun z => I.pin p (List.mem_append_right _ z)) fun z => by
    obtain ⟨hb, e⟩ := of_pinsAt z
    obtain ⟨f0, f1, f2, _⟩ := hf p.1 hb
    obtain ⟨o, e', d⟩ := ho p.1 hb
    rw [e] at e'; cases e'
    exact ⟨e, f0, f1, f2, d⟩
theorem Inv.unpinned {pins pl : List (Addr × Obj)} {σ : St} {H : Hp} {s : Shared} (I : Inv X (pins ++ pl) σ H s) : Inv X pins σ H s := I.pins_of fun p hp => I.pin p (List.mem_append_right _ (List.mem_append_left _ hp))
theorem ps_for {iter : Expr} {body : List Stmt} {wi : TI} {g : TG} {tb : TS} {pos : Pos} (hp : PassesOwn (model X.prog X.w) X.A X.env X.xe) (hc : X.calm = true) (hi : PI X tg iter wi) (hg : PG X tg g) (hb : PSs X body tb)
    (hs : ∀ x, foldedSetIterable iter X.env x = pure x := by intro _; rfl) : PS X (.For tg iter body [] pos) (tFor wi g tb) := by
  intro pins s σ H D I h
  refine wpAny_For (thn (hi pins s σ H _ I h) fun v s1 h1 => thn h1 fun itv s2 h2 => ?_) hs
  obtain ⟨it, fp, tn, J, H2, e, I2, T, st2, f2, W, ⟨m0, w0⟩, turn⟩ := h2
  subst e
  -- what stays true of the iterator's objects through the loop
  have stat : ∀ {H' : Hp}, (∀ b ∈ fp, H' b = none) → ∀ b ∈ fp, FpOk X pins H' b := fun hn b hb => ⟨hn b hb, (f2 b hb).2⟩
  refine codeAny_forLoop_any (fun n s' => ∃ i σ' H', Inv X pins σ' H' s' ∧ tn i s'.heap ∧ (∀ b ∈ fp, H' b = none) ∧ W i n σ' H') ?_ m0 ⟨0, σ, H2, I2, st2, fun b hb => (f2 b hb).1, w0⟩
  rintro n s3 ⟨i, σ3, H3, I3, st3, fr3, w3⟩
  rcases turn i n σ3 H3 w3 with ⟨stop, qn⟩ | ⟨go, N, hN, step⟩
  · refine wpAny_passesOwn hp (thn (T.done X rfl rfl rfl hc i pins s3 σ3 H3 X.xe I3 (stat fr3) st3 stop) fun r s4 ⟨hr, I4⟩ => ?_)
    subst hr
    exact wpAny_execs_nil ⟨σ3, H3, I4, qn⟩
  · refine wpAny_passesOwn hp (thn (T.item X rfl rfl rfl hc i pins s3 σ3 H3 X.xe I3 (stat fr3) st3 go) fun r s4 ⟨u, hr, h4⟩ => ?_)
    subst hr
    refine wpAny_passesOwn hp (thn h4 fun _ s5 ⟨x, H5, I5, r5, y5, st5, fr5⟩ => ?_)
    have I5' := I5.pinned (stat fr5) (T.obj _ _ st5)
    refine wpAny_passesOwn hp (thn (hg _ s5 σ3 H5 x u _ I5' r5 (step x H5 y5)) fun _ s6 ⟨σ6, H6, I6, q6⟩ => ?_)
    refine wpAny_passesOwn hp (thn (hb _ s6 σ6 H6 _ I6 q6) fun f s7 q7 => ?_)
    have again : ∀ {σ7 : St} {H7 : Hp}, Inv X (pins ++ pinsAt fp s5.heap) σ7 H7 s7 → N σ7 H7 → ∃ m, m < n ∧ ∃ i σ' H', Inv X pins σ' H' s7 ∧ tn i s7.heap ∧ (∀ b ∈ fp, H' b = none) ∧ W i m σ' H' := fun {σ7 H7} I7 n7 => by
      obtain ⟨m', hm, w7⟩ := hN σ7 H7 n7
      refine ⟨m', hm, i + 1, σ7, H7, I7.unpinned, T.keep _ _ _ st5 fun b hb o e => (I7.pin (b, o) (List.mem_append_right _ (List.mem_append_right _ (mem_pinsAt hb e)))).1, fun b hb => ?_, w7⟩
      obtain ⟨o, e, d⟩ := T.obj _ _ st5 b hb
      exact (I7.pin (b, o) (List.mem_append_right _ (List.mem_append_right _ (mem_pinsAt hb e)))).2.1
    cases f with
    | next => obtain ⟨σ7, H7, I7, n7⟩ := q7; exact again I7 n7
    | cont => obtain ⟨σ7, H7, I7, n7⟩ := q7; exact again I7 n7
    | brk => obtain ⟨σ7, H7, I7, q7⟩ := q7; exact ⟨σ7, H7, I7.unpinned, q7⟩
    | ret v => obtain ⟨x7, σ7, H7, I7, r7, q7⟩ := q7; exact ⟨x7, σ7, H7, I7.unpinned, r7, q7⟩
end

/-! ### the forms one uses -/
/-- over a list that the body leaves as it is -/
theorem for_list {K : PySem.W.Frag} {a : Addr} {xs : List V} {g : TG} {tb : TS} {D : Ends} {σ : St} {H : Hp} (Pv : Nat → St → Hp → Prop) (h0 : Pv 0 σ H) (hl : ∀ i σ H, i ≤ xs.length → Pv i σ H → SqL K H a xs)
    (hs : ∀ i x σ H, xs[i]? = some x → Pv i σ H → g x σ H fun σ2 H2 => tb { D with nx := Pv (i + 1), ct := Pv (i + 1), bk := D.nx } σ2 H2) (hd : ∀ σ H, Pv xs.length σ H → D.nx σ H) :
    ∃ W : Nat → Nat → St → Hp → Prop, (∃ m, W 0 m σ H) ∧ ∀ i m σ H, W i m σ H →
      ((Itl K a).stop i H ∧ D.nx σ H) ∨ ((Itl K a).go i H ∧ ∃ N : St → Hp → Prop, (∀ σ' H', N σ' H' → ∃ m', m' < m ∧ W (i + 1) m' σ' H') ∧ ∀ x H', (Itl K a).yld i H x H' → g x σ H' fun σ2 H2 => tb { D with nx := N, ct := N, bk := D.nx } σ2 H2) := by
  refine ⟨fun i m σ H => m = xs.length - i ∧ i ≤ xs.length ∧ Pv i σ H, ⟨xs.length, by simp, Nat.zero_le _, h0⟩, ?_⟩
  rintro i m σ H ⟨rfl, hi, p⟩
  have q := hl i σ H hi p
  by_cases hlt : i < xs.length
  · refine .inr ⟨⟨xs, xs[i], q, by simp [hlt]⟩, Pv (i + 1), fun σ' H' p' => ⟨xs.length - (i + 1), by omega, rfl, hlt, p'⟩, fun x H' y => ?_⟩
    obtain ⟨e, y⟩ := y
    subst e
    exact hs i x σ _ (y xs q) p
  · have e : i = xs.length := by omega
    subst e
    exact .inl ⟨⟨xs, q, Nat.le_refl _⟩, hd σ H p⟩
theorem for_range {lo : Int} {n : Nat} {g : TG} {tb : TS} {D : Ends} {σ : St} {H : Hp} (Pv : Nat → St → Hp → Prop) (h0 : Pv 0 σ H)
    (hs : ∀ i σ H, i < n → Pv i σ H → g (.int (lo + i)) σ H fun σ2 H2 => tb { D with nx := Pv (i + 1), ct := Pv (i + 1), bk := D.nx } σ2 H2) (hd : ∀ σ H, Pv n σ H → D.nx σ H) :
    ∃ W : Nat → Nat → St → Hp → Prop, (∃ m, W 0 m σ H) ∧ ∀ i m σ H, W i m σ H →
      ((Itr lo n).stop i H ∧ D.nx σ H) ∨ ((Itr lo n).go i H ∧ ∃ N : St → Hp → Prop, (∀ σ' H', N σ' H' → ∃ m', m' < m ∧ W (i + 1) m' σ' H') ∧ ∀ x H', (Itr lo n).yld i H x H' → g x σ H' fun σ2 H2 => tb { D with nx := N, ct := N, bk := D.nx } σ2 H2) := by
  refine ⟨fun i m σ H => m = n - i ∧ i ≤ n ∧ Pv i σ H, ⟨n, by simp, Nat.zero_le _, h0⟩, ?_⟩
  rintro i m σ H ⟨rfl, hi, p⟩
  by_cases hlt : i < n
  · refine .inr ⟨hlt, Pv (i + 1), fun σ' H' p' => ⟨n - (i + 1), by omega, rfl, hlt, p'⟩, fun x H' y => ?_⟩
    obtain ⟨e, y⟩ := y
    subst e y
    exact hs i σ _ hlt p
  · have e : i = n := by omega
    subst e
    exact .inl ⟨Nat.le_refl _, hd σ H p⟩
end L2

namespace L2
open PySem PySem.Spec PyProof.Rows

abbrev R2 := V → V → Hp → VK → Prop
/-- a two-place operation on values: f is binaryOp op, inplaceOp op or compareOp op -/
def OpR (X : Cx) (f : Value → Value → Sem Value) (r : R2) : Prop :=
  ∀ (pins : List (Addr × Obj)) (s : Shared) (σ : St) (H : Hp) (x y : V) (v u : Value) (Q : VK), Inv X pins σ H s → RelV x v → RelV y u → r x y H Q →
    wpAny (model X.prog X.w) X.A (f v u) (EP X pins σ Q) X.xe s
/-- a one-place operation -/
def UnR (X : Cx) (f : Value → Sem Value) (r : V → Hp → VK → Prop) : Prop :=
  ∀ (pins : List (Addr × Obj)) (s : Shared) (σ : St) (H : Hp) (x : V) (v : Value) (Q : VK), Inv X pins σ H s → RelV x v → r x H Q →
    wpAny (model X.prog X.w) X.A (f v) (EP X pins σ Q) X.xe s
/-- a call of a value that is known (a builtin, a type) with values -/
def CallR (X : Cx) (f : Value) (r : List V → Hp → VK → Prop) : Prop :=
  ∀ (pins : List (Addr × Obj)) (s : Shared) (σ : St) (H : Hp) (xs : List V) (us : List Value) (Q : VK), Inv X pins σ H s → Vals xs us → r xs H Q →
    wpAny (model X.prog X.w) X.A (call f us) (EP X pins σ Q) X.xe s
/-- a value's truth -/
def TruR (X : Cx) (r : V → Hp → (Bool → Hp → Prop) → Prop) : Prop :=
  ∀ (pins : List (Addr × Obj)) (s : Shared) (σ : St) (H : Hp) (x : V) (v : Value) (Q : Bool → Hp → Prop), Inv X pins σ H s → RelV x v → r x H Q →
    wpAny (model X.prog X.w) X.A (truthy v) (TP X pins σ Q) X.xe s

def tOp (r : R2) (ta tb : TE) : TE := fun σ H Q => ta σ H fun x H1 => tb σ H1 fun y H2 => r x y H2 Q
def tUn (r : V → Hp → VK → Prop) (ta : TE) : TE := fun σ H Q => ta σ H fun x H1 => r x H1 Q
/-- ints in, under C, and a value out -/
def rI (C : Int → Int → Prop) (g : Int → Int → V) : R2 := fun x y H Q => ∃ i j, x = .int i ∧ y = .int j ∧ C i j ∧ Q (g i j) H
def rI0 (g : Int → Int → V) : R2 := fun x y H Q => ∃ i j, x = .int i ∧ y = .int j ∧ Q (g i j) H
def rU (g : Int → V) : V → Hp → VK → Prop := fun x H Q => ∃ i, x = .int i ∧ Q (g i) H

section
variable {X : Cx} {a b c : Expr} {ta tb tc : TE} {pos : Pos}

theorem binT (ha : PE X a ta) (hb : PE X b tb) {pins : List (Addr × Obj)} {s : Shared} {σ : St} {H : Hp} {R : V → V → Hp → Prop} (I : Inv X pins σ H s)
    (h : ta σ H fun x H1 => tb σ H1 fun y H2 => R x y H2) {Q : Value → Shared → Prop} {f : Value → Value → Sem Value}
    (hf : ∀ v u s2 x y H2, Inv X pins σ H2 s2 → RelV x v → RelV y u → R x y H2 → wpAny (model X.prog X.w) X.A (f v u) Q X.xe s2) :
    wpAny (model X.prog X.w) X.A (eval a X.env) (fun v s₁ => wpAny (model X.prog X.w) X.A (eval b X.env) (fun u s₂ => wpAny (model X.prog X.w) X.A (f v u) Q X.xe s₂) X.xe s₁) X.xe s := by
  refine thn (ha pins s σ H _ I h) fun v s1 ⟨x, H1, I1, r1, q1⟩ => ?_
  refine thn (hb pins s1 σ H1 _ I1 q1) fun u s2 ⟨y, H2, I2, r2, q2⟩ => ?_
  exact hf v u s2 x y H2 I2 r1 r2 q2

theorem pe_op {op : Operator} {r : R2} (ho : OpR X (binaryOp op) r) (ha : PE X a ta) (hb : PE X b tb) : PE X (.BinOp a op b pos) (tOp r ta tb) := by
  intro pins s σ H Q I h
  exact wpAny_BinOp (binT ha hb I h fun v u s2 x y H2 I2 rx ry q => ho pins s2 σ H2 x y v u Q I2 rx ry q)
theorem pe_un {op : UnaryOp} {r : V → Hp → VK → Prop} (ho : UnR X (unaryOp op) r) (ha : PE X a ta) : PE X (.UnaryOp op a pos) (tUn r ta) := by
  intro pins s σ H Q I h
  exact UnaryOp_ (thn (ha pins s σ H _ I h) fun v s1 ⟨x, H1, I1, r1, q1⟩ => ho pins s1 σ H1 x v Q I1 r1 q1)
/-! ### ints -/
theorem opI {f : Value → Value → Sem Value} {C : Int → Int → Prop} {g : Int → Int → Int}
    (rule : ∀ (i j : Int) (t u : Tok) (s : Shared) (Q : Value → Shared → Prop) (E : Value → Shared → Prop), C i j → Q (.int (g i j) s.toks) { s with toks := s.toks + 1 } → wpAny (model X.prog X.w) X.A (f (.int i t) (.int j u)) Q E s) :
    OpR X f (rI C fun i j => .int (g i j)) := by
  intro pins s σ H x y v u Q I rx ry h
  obtain ⟨i, j, rfl, rfl, hc, q⟩ := h
  obtain ⟨t, rfl⟩ := rx
  obtain ⟨t', rfl⟩ := ry
  exact rule i j t t' s _ _ hc ⟨.int (g i j), H, I.tok _, ⟨_, rfl⟩, q⟩
theorem opI0 {f : Value → Value → Sem Value} {g : Int → Int → Int}
    (rule : ∀ (i j : Int) (t u : Tok) (s : Shared) (Q : Value → Shared → Prop) (E : Value → Shared → Prop), Q (.int (g i j) s.toks) { s with toks := s.toks + 1 } → wpAny (model X.prog X.w) X.A (f (.int i t) (.int j u)) Q E s) :
    OpR X f (rI0 fun i j => .int (g i j)) := by
  intro pins s σ H x y v u Q I rx ry h
  obtain ⟨i, j, rfl, rfl, q⟩ := h
  obtain ⟨t, rfl⟩ := rx
  obtain ⟨t', rfl⟩ := ry
  exact rule i j t t' s _ _ ⟨.int (g i j), H, I.tok _, ⟨_, rfl⟩, q⟩
theorem opB0 {f : Value → Value → Sem Value} {g : Int → Int → Bool}
    (rule : ∀ (i j : Int) (t u : Tok) (s : Shared) (Q : Value → Shared → Prop) (E : Value → Shared → Prop), Q (.bool (g i j)) s → wpAny (model X.prog X.w) X.A (f (.int i t) (.int j u)) Q E s) :
    OpR X f (rI0 fun i j => .bl (g i j)) := by
  intro pins s σ H x y v u Q I rx ry h
  obtain ⟨i, j, rfl, rfl, q⟩ := h
  obtain ⟨t, rfl⟩ := rx
  obtain ⟨t', rfl⟩ := ry
  exact rule i j t t' s _ _ ⟨.bl (g i j), H, I, rfl, q⟩

def CDiv (i j : Int) : Prop := 0 < j ∧ j < 1073741824
def CDivN (i j : Int) : Prop := j ≠ 0 ∧ j.natAbs < 1073741824
def CPow (i j : Int) : Prop := 0 ≤ j ∧ j ≤ 1000000 ∧ i.natAbs < 2 ^ 64
def CMul (i j : Int) : Prop := (-(2 ^ 64) < i ∧ i < 2 ^ 64) ∨ (-(2 ^ 64) < j ∧ j < 2 ^ 64)
theorem CMul.ok {i j : Int} (h : CMul i j) : IntMulOk i j := by
  rcases h with ⟨h1, h2⟩ | ⟨h1, h2⟩
  · exact .of_left (intBits_le_64 h1 h2)
  · exact .of_right (intBits_le_64 h1 h2)
theorem two_pow_nn (k : Nat) : (0 : Int) ≤ 2 ^ k := by
  rw [two_pow_cast]
  exact Int.natCast_nonneg _

theorem op_add : OpR X (binaryOp .Add) (rI0 fun i j => .int (i + j)) := opI0 fun _ _ _ _ _ _ _ q => add_int q
theorem op_sub : OpR X (binaryOp .Sub) (rI0 fun i j => .int (i - j)) := opI0 fun _ _ _ _ _ _ _ q => sub_int q
theorem op_mul : OpR X (binaryOp .Mult) (rI CMul fun i j => .int (i * j)) := opI fun _ _ _ _ _ _ _ hc q => mul_int q hc.ok
/-- // by a positive divisor -/
theorem op_fdiv : OpR X (binaryOp .FloorDiv) (rI CDiv fun i j => .int (i / j)) := opI fun i j _ _ _ _ _ hc q => by
  have h1 : (0 : Int) < j := hc.1
  have h2 : j < 1073741824 := hc.2
  exact floordiv_int (by omega) (by rw [Int.fdiv_eq_ediv_of_nonneg i (by omega)]; exact q) (.inl (PyProof.noPylong_small (by omega)))
/-- % by a positive divisor of any size -/
theorem op_mod : OpR X (binaryOp .Mod) (rI (fun _ j => 0 < j) fun i j => .int (i % j)) := opI fun i j _ _ _ _ _ hc q => by
  have h1 : (0 : Int) < j := hc
  exact mod_int' (by omega) (by rw [Int.fmod_eq_emod_of_nonneg i (by omega)]; exact q)
theorem op_shl : OpR X (binaryOp .LShift) (rI CPow fun i j => .int (i * 2 ^ j.toNat)) := opI fun _ _ _ _ _ _ _ hc q => lshift_int_small hc.1 hc.2.1 hc.2.2 q
theorem op_shr : OpR X (binaryOp .RShift) (rI (fun _ j => 0 ≤ j) fun i j => .int (i / 2 ^ j.toNat)) := opI fun i j _ _ _ _ _ hc q =>
  rshift_int hc (by rw [Int.fdiv_eq_ediv_of_nonneg i (two_pow_nn _)]; exact q)
theorem op_and : OpR X (binaryOp .BitAnd) (rI0 fun i j => .int (Builtin.bitAnd i j)) := opI0 fun _ _ _ _ _ _ _ q => and_int q
theorem op_or : OpR X (binaryOp .BitOr) (rI0 fun i j => .int (Builtin.bitOr i j)) := opI0 fun _ _ _ _ _ _ _ q => or_int q
theorem op_xor : OpR X (binaryOp .BitXor) (rI0 fun i j => .int (Builtin.bitXor i j)) := opI0 fun _ _ _ _ _ _ _ q => xor_int q

theorem unI {f : Value → Sem Value} {g : Int → Int}
    (rule : ∀ (i : Int) (t : Tok) (s : Shared) (Q : Value → Shared → Prop) (E : Value → Shared → Prop), Q (.int (g i) s.toks) { s with toks := s.toks + 1 } → wpAny (model X.prog X.w) X.A (f (.int i t)) Q E s) :
    UnR X f (rU fun i => .int (g i)) := by
  intro pins s σ H x v Q I rx h
  obtain ⟨i, rfl, q⟩ := h
  obtain ⟨t, rfl⟩ := rx
  exact rule i t s _ _ ⟨.int (g i), H, I.tok _, ⟨_, rfl⟩, q⟩
theorem un_neg : UnR X (unaryOp .USub) (rU fun i => .int (-i)) := unI fun _ _ _ _ _ q => neg_int q
/-! ### bools among ints: n += (a < b) -/
end

/-! ### comparisons -/
/-- the scalars that == tells apart as data does -/
def scal : V → V → Bool
  | .non, .non => true | .non, .int _ => true | .int _, .non => true | .non, .bl _ => true | .bl _, .non => true | .non, .str _ => true | .str _, .non => true
  | .int _, .int _ => true | .bl _, .bl _ => true | .str _, .str _ => true | .byt _, .byt _ => true
  | .int _, .str _ => true | .str _, .int _ => true | .bl _, .str _ => true | .str _, .bl _ => true
  | _, _ => false
def rEq : R2 := fun x y H Q => scal x y = true ∧ Q (.bl (decide (x = y))) H
def rNe : R2 := fun x y H Q => scal x y = true ∧ Q (.bl (!decide (x = y))) H

theorem dec_int {i j : Int} : decide (V.int i = V.int j) = (i == j) := by
  rw [Bool.eq_iff_iff]
  simp
theorem dec_bl {i j : Bool} : decide (V.bl i = V.bl j) = (i == j) := by
  rw [Bool.eq_iff_iff]
  simp
theorem dec_str {i j : Str} : decide (V.str i = V.str j) = (i == j) := by
  rw [Bool.eq_iff_iff]
  simp
theorem dec_byt {i j : Array UInt8} : decide (V.byt i = V.byt j) = (i.toList == j.toList) := by
  rw [Bool.eq_iff_iff]
  cases i
  cases j
  simp

section
variable {X : Cx} {a b c : Expr} {ta tb tc : TE} {pos : Pos}
theorem fin_bl {pins : List (Addr × Obj)} {σ : St} {H : Hp} {s : Shared} {Q : VK} {k k' : Bool} (I : Inv X pins σ H s) (q : Q (.bl k) H) (e : k = k') : EP X pins σ Q (.bool k') s := by
  subst e
  exact ⟨.bl k, H, I, rfl, q⟩
theorem op_eq : OpR X (compareOp .Eq) rEq := by
  intro pins s σ H x y v u Q I rx ry h
  obtain ⟨hs, q⟩ := h
  cases x with
  | non =>
    cases rx
    cases y with
    | non => cases ry; exact PySem.EqNone.eq_none_none (fin_bl I q (by simp))
    | bl j => cases ry; exact PySem.EqNone.eq_none_bool (fin_bl I q (by simp))
    | int j => obtain ⟨t', rfl⟩ := ry; exact PySem.EqNone.eq_none_int (fin_bl I q (by simp))
    | str j => obtain ⟨t', rfl⟩ := ry; exact PySem.EqNone.eq_none_str (fin_bl I q (by simp))
    | _ => exact absurd (show false = true from hs) Bool.false_ne_true
  | bl i =>
    cases rx
    cases y with
    | non => cases ry; exact PySem.EqNone.eq_bool_none (fin_bl I q (by simp))
    | bl j => cases ry; exact eq_bool (fin_bl I q dec_bl)
    | str j => obtain ⟨t', rfl⟩ := ry; exact PySem.EqMixed.eq_bool_str (fin_bl I q (by simp))
    | _ => exact absurd (show false = true from hs) Bool.false_ne_true
  | int i =>
    obtain ⟨t, rfl⟩ := rx
    cases y with
    | non => cases ry; exact PySem.EqNone.eq_int_none (fin_bl I q (by simp))
    | int j => obtain ⟨t', rfl⟩ := ry; exact eq_int (fin_bl I q dec_int)
    | str j => obtain ⟨t', rfl⟩ := ry; exact PySem.EqMixed.eq_int_str (fin_bl I q (by simp))
    | _ => exact absurd (show false = true from hs) Bool.false_ne_true
  | str i =>
    obtain ⟨t, rfl⟩ := rx
    cases y with
    | non => cases ry; exact PySem.EqNone.eq_str_none (fin_bl I q (by simp))
    | bl j => cases ry; exact PySem.EqMixed.eq_str_bool (fin_bl I q (by simp))
    | int j => obtain ⟨t', rfl⟩ := ry; exact PySem.EqMixed.eq_str_int (fin_bl I q (by simp))
    | str j => obtain ⟨t', rfl⟩ := ry; exact eq_str (fin_bl I q dec_str)
    | _ => exact absurd (show false = true from hs) Bool.false_ne_true
  | byt i =>
    obtain ⟨t, rfl⟩ := rx
    cases y with
    | byt j => obtain ⟨t', rfl⟩ := ry; exact PySem.W.eq_bytes (fin_bl I q dec_byt)
    | _ => exact absurd (show false = true from hs) Bool.false_ne_true
  | _ => cases y <;> exact absurd (show false = true from hs) Bool.false_ne_true
theorem op_ne : OpR X (compareOp .NotEq) rNe := by
  intro pins s σ H x y v u Q I rx ry h
  obtain ⟨hs, q⟩ := h
  cases x with
  | non =>
    cases rx
    cases y with
    | non => cases ry; exact PySem.EqNone.ne_none_none (fin_bl I q (by simp))
    | bl j => cases ry; exact PySem.EqNone.ne_none_bool (fin_bl I q (by simp))
    | int j => obtain ⟨t', rfl⟩ := ry; exact PySem.EqNone.ne_none_int (fin_bl I q (by simp))
    | str j => obtain ⟨t', rfl⟩ := ry; exact PySem.EqNone.ne_none_str (fin_bl I q (by simp))
    | _ => exact absurd (show false = true from hs) Bool.false_ne_true
  | bl i =>
    cases rx
    cases y with
    | non => cases ry; exact PySem.EqNone.ne_bool_none (fin_bl I q (by simp))
    | bl j => cases ry; exact ne_bool (fin_bl I q (congrArg not dec_bl))
    | str j => obtain ⟨t', rfl⟩ := ry; exact PySem.EqMixed.ne_bool_str (fin_bl I q (by simp))
    | _ => exact absurd (show false = true from hs) Bool.false_ne_true
  | int i =>
    obtain ⟨t, rfl⟩ := rx
    cases y with
    | non => cases ry; exact PySem.EqNone.ne_int_none (fin_bl I q (by simp))
    | int j => obtain ⟨t', rfl⟩ := ry; exact ne_int (fin_bl I q (congrArg not dec_int))
    | str j => obtain ⟨t', rfl⟩ := ry; exact PySem.EqMixed.ne_int_str (fin_bl I q (by simp))
    | _ => exact absurd (show false = true from hs) Bool.false_ne_true
  | str i =>
    obtain ⟨t, rfl⟩ := rx
    cases y with
    | non => cases ry; exact PySem.EqNone.ne_str_none (fin_bl I q (by simp))
    | bl j => cases ry; exact PySem.EqMixed.ne_str_bool (fin_bl I q (by simp))
    | int j => obtain ⟨t', rfl⟩ := ry; exact PySem.EqMixed.ne_str_int (fin_bl I q (by simp))
    | str j => obtain ⟨t', rfl⟩ := ry; exact ne_str (fin_bl I q (congrArg not dec_str))
    | _ => exact absurd (show false = true from hs) Bool.false_ne_true
  | byt i =>
    obtain ⟨t, rfl⟩ := rx
    cases y with
    | byt j => obtain ⟨t', rfl⟩ := ry; exact PySem.W.ne_bytes (fin_bl I q (congrArg not dec_byt))
    | _ => exact absurd (show false = true from hs) Bool.false_ne_true
  | _ => cases y <;> exact absurd (show false = true from hs) Bool.false_ne_true

theorem op_lt : OpR X (compareOp .Lt) (rI0 fun i j => .bl (decide (i < j))) := opB0 fun _ _ _ _ _ _ _ q => lt_int q
theorem op_gt : OpR X (compareOp .Gt) (rI0 fun i j => .bl (decide (j < i))) := opB0 fun _ _ _ _ _ _ _ q => gt_int q
/-- is, is not of two objects that are tracked lists or instances -/
def isObj : HO → Bool
  | .lst _ => true
  | .ins _ _ _ => true
  | _ => false
/-- two rules for one operation: by cases -/
theorem OpR.or {f : Value → Value → Sem Value} {r r' : R2} (h : OpR X f r) (h' : OpR X f r') : OpR X f (fun x y H Q => r x y H Q ∨ r' x y H Q) := by
  intro pins s σ H x y v u Q I rx ry q
  rcases q with q | q
  · exact h pins s σ H x y v u Q I rx ry q
  · exact h' pins s σ H x y v u Q I rx ry q

theorem nomark (b : Expr) {op : CmpOp} (h : op ≠ .In := by decide) (h2 : op ≠ .NotIn := by decide) : behindInMarks op b = false := by
  have e1 : (op == CmpOp.In) = false := by cases op <;> first | rfl | exact absurd rfl h
  have e2 : (op == CmpOp.NotIn) = false := by cases op <;> first | rfl | exact absurd rfl h2
  cases b <;> simp [behindInMarks, e1, e2]
/-- a comparison as a value; hm: nomark b, or (for in, not in) by with_unfolding_all rfl -/
theorem pe_cmpR {op : CmpOp} {r : R2} (ho : OpR X (compareOp op) r) (ha : PE X a ta) (hb : PE X b tb) (hm : behindInMarks op b = false) : PE X (.Compare a [op] [b] pos) (tOp r ta tb) := by
  intro pins s σ H Q I h
  exact wpAny_Compare1 (binT ha hb I h fun v u s2 x y H2 I2 rx ry q => ho pins s2 σ H2 x y v u Q I2 rx ry q) hm
/-- a reading of a value as a test -/
def tTest (t : TE) : TT := fun σ H Q => t σ H fun x H' => ∃ k, x = .bl k ∧ Q k H'
theorem pt_cmpR {op : CmpOp} {r : R2} (ho : OpR X (compareOp op) r) (ha : PE X a ta) (hb : PE X b tb) (hm : behindInMarks op b = false) : PT X (.Compare a [op] [b] pos) (tTest (tOp r ta tb)) := by
  intro pins s σ H Q I h
  refine wpAny_isTrue_Compare1 (thn (ha pins s σ H _ I h) fun v s1 ⟨x, H1, I1, r1, q1⟩ => thn (hb pins s1 σ H1 _ I1 q1) fun u s2 ⟨y, H2, I2, r2, q2⟩ =>
    thn (ho pins s2 σ H2 x y v u _ I2 r1 r2 q2) fun c s3 ⟨z, H3, I3, r3, k, e, q3⟩ => ?_) hm
  subst e
  cases r3
  exact wpAny_truthy_bool ⟨H3, I3, q3⟩
/-- a op1 b op2 c -/
def tChain (r r' : R2) (ta tb tc : TE) : TE := fun σ H Q => ta σ H fun x H1 => tb σ H1 fun y H2 => r x y H2 fun z H3 => ∃ k, z = .bl k ∧
  (if k = true then tc σ H3 fun w' H4 => r' y w' H4 Q else Q (.bl false) H3)
/-! ### truth -/
/-- a value's truth by the abstract heap -/
def TruV (K : PySem.W.Frag) (x : V) (H : Hp) (k : Bool) : Prop :=
  match x with
  | .non => k = false
  | .bl b => k = b
  | .int i => k = (i != 0)
  | .str y => y.length ≤ sizeLine ∧ k = ((y.length : Int) != 0)
  | .byt y => y.size ≤ sizeLine ∧ k = ((y.size : Int) != 0)
  | .ref p => (∃ xs, SqL K H p xs ∧ k = !xs.isEmpty) ∨ (∃ xs, SqT K H p xs ∧ k = !xs.isEmpty) ∨ ∃ kvs, H p = some (.dK kvs) ∧ k = !kvs.isEmpty
  | _ => False
theorem isEmpty_kv {κ : Type} {kvs : List (κ × V)} {vs : List (κ × Value)} (r : KV kvs vs) : (!vs.isEmpty) = !kvs.isEmpty := by
  cases r <;> rfl
theorem isEmpty_of {xs : List V} {its : List Value} (r : Vals xs its) : (!its.toArray.isEmpty) = !xs.isEmpty := by
  cases r <;> simp
theorem line63 : (sizeLine : Nat) < 2 ^ 63 := by rw [sizeLine_eq]; decide
theorem tru_ok : TruR X (fun x H Q => ∃ k, TruV X.K x H k ∧ Q k H) := by
  intro pins s σ H x v Q I rx h
  obtain ⟨k, e, q⟩ := h
  have hl := line63
  have hs : sizeLine = 16777216 := sizeLine_eq
  cases x with
  | non =>
    cases rx
    have e' : k = false := e
    subst e'
    exact truthy_none ⟨H, I, q⟩
  | bl b =>
    cases rx
    have e' : k = b := e
    subst e'
    exact wpAny_truthy_bool ⟨H, I, q⟩
  | int i =>
    obtain ⟨t, rfl⟩ := rx
    have e' : k = (i != 0) := e
    subst e'
    exact PySem.P.truthy_int ⟨H, I, q⟩
  | str y =>
    obtain ⟨t, rfl⟩ := rx
    obtain ⟨hy, e'⟩ : y.length ≤ sizeLine ∧ k = ((y.length : Int) != 0) := e
    subst e'
    exact PySem.P.truthy_str (by omega) ⟨H, I.tok _, q⟩
  | byt y =>
    obtain ⟨t, rfl⟩ := rx
    obtain ⟨hy, e'⟩ : y.size ≤ sizeLine ∧ k = ((y.size : Int) != 0) := e
    subst e'
    exact PySem.W.truthy_bytes (by omega) ⟨H, I.tok _, q⟩
  | ref p =>
    cases rx
    have e' : (∃ xs, SqL X.K H p xs ∧ k = !xs.isEmpty) ∨ (∃ xs, SqT X.K H p xs ∧ k = !xs.isEmpty) ∨ ∃ kvs, H p = some (.dK kvs) ∧ k = !kvs.isEmpty := e
    rcases e' with ⟨xs, hx, e'⟩ | ⟨xs, hx, e'⟩ | ⟨kvs, hx, e'⟩
    · subst e'
      obtain ⟨its, r, pl, hz⟩ := I.list hx
      have hlen := r.length
      exact wpAny_truthy_list pl.isList (by simp only [List.size_toArray]; omega) ⟨H, I.tok _, by rw [isEmpty_of r]; exact q⟩
    · subst e'
      obtain ⟨its, r, pl, hz⟩ := I.tuple hx
      have hlen := r.length
      exact truthy_tuple pl (by simp only [List.size_toArray]; omega) ⟨H, I.tok _, by rw [isEmpty_of r]; exact q⟩
    · subst e'
      obtain ⟨hz, hS, vs, r, m⟩ : kvs.length ≤ sizeLine ∧ (p == sysModules) = false ∧ ∃ vs, KV kvs vs ∧ s.heap.DictOf (mixKind X.prog X.w) p vs := I.hok p _ hx
      have hlen : kvs.length = vs.length := Paired.length r
      exact wpAny_truthy_dict hS m (by omega) ⟨H, I.tok _, by rw [isEmpty_kv r]; exact q⟩
  | _ => exact (show False from e).elim
/-- any expression whose test is its value's truth (a name, a call, a subscript, a field ..: he by fun _ => rfl) -/
theorem pt_truth (ha : PE X a ta) (he : ∀ whole, isTrue a X.env whole = (do let v ← whole; standAt a.pos; holding [v] (truthy v))) :
    PT X a (fun σ H Q => ta σ H fun x H' => ∃ k, TruV X.K x H' k ∧ Q k H') := by
  intro pins s σ H Q I h
  exact isTrue_plain (thn (ha pins s σ H _ I h) fun v s1 ⟨x, H1, I1, r1, q1⟩ => tru_ok pins s1 σ H1 x v Q I1 r1 q1) (he _)

/-! ### strs and bytes -/
theorem op_add_str : OpR X (binaryOp .Add) (fun x y H Q => ∃ i j, x = .str i ∧ y = .str j ∧ i.length + j.length ≤ sizeLine ∧ Q (.str (i ++ j)) H) := by
  intro pins s σ H x y v u Q I rx ry h
  obtain ⟨i, j, rfl, rfl, hz, q⟩ := h
  obtain ⟨t, rfl⟩ := rx
  obtain ⟨t', rfl⟩ := ry
  exact add_str (fun t' tk => ⟨.str (i ++ j), H, I.tok _, ⟨_, rfl⟩, q⟩) hz
def PlainIxT (b : Expr) : Prop := ∀ o i, subscripted b false o i = operate [o, i] (getItem o i)
/-! ### scalar builtins, by CallR -/
theorem vals1 {x : V} {us : List Value} (r : Vals [x] us) : ∃ u, us = [u] ∧ RelV x u := by
  cases r with
  | cons r1 r2 => cases r2; exact ⟨_, rfl, r1⟩
theorem vals2 {x y : V} {us : List Value} (r : Vals [x, y] us) : ∃ u w', us = [u, w'] ∧ RelV x u ∧ RelV y w' := by
  cases r with
  | cons r1 r2 =>
    cases r2 with
    | cons r3 r4 => cases r4; exact ⟨_, _, rfl, r1, r3⟩
theorem call_int1 : CallR X (.type "int") (fun xs H Q => (∃ i, xs = [.int i] ∧ Q (.int i) H) ∨ ∃ k, xs = [.bl k] ∧ Q (.int (if k then 1 else 0)) H) := by
  intro pins s σ H xs us Q I r h
  rcases h with ⟨i, rfl, q⟩ | ⟨k, rfl, q⟩
  · obtain ⟨u, rfl, t, rfl⟩ := vals1 r
    exact call_int_int ⟨.int i, H, I, ⟨_, rfl⟩, q⟩
  · obtain ⟨u, rfl, r1⟩ := vals1 r
    cases r1
    exact call_int_bool ⟨.int (if k then 1 else 0), H, I.tok _, ⟨_, rfl⟩, q⟩
theorem call_str_int : CallR X (.type "str") (fun xs H Q => ∃ i, xs = [.int i] ∧ i.natAbs.log2 < 1920 ∧ Q (.str (toString i)) H) := by
  intro pins s σ H xs us Q I r h
  obtain ⟨i, rfl, hz, q⟩ := h
  obtain ⟨u, rfl, t, rfl⟩ := vals1 r
  exact PySem.P.str_of_int hz ⟨.str _, H, I.tok _, ⟨_, rfl⟩, q⟩
theorem call_ord : CallR X (.builtin "ord") (fun xs H Q => ∃ x, xs = [.str x] ∧ x.length = 1 ∧ Q (.int (x.cps.getD 0 0 : Nat)) H) := by
  intro pins s σ H xs us Q I r h
  obtain ⟨x, rfl, hz, q⟩ := h
  obtain ⟨u, rfl, t, rfl⟩ := vals1 r
  exact ord_of_one hz ⟨.int _, H, I.tok _, ⟨_, rfl⟩, q⟩
/-- len of a str, a bytes, a list, a tuple -/
def LenV (K : PySem.W.Frag) (x : V) (H : Hp) (n : Nat) : Prop :=
  match x with
  | .str y => y.length ≤ sizeLine ∧ n = y.length
  | .byt y => y.size ≤ sizeLine ∧ n = y.size
  | .ref p => (∃ xs, SqL K H p xs ∧ n = xs.length) ∨ ∃ xs, SqT K H p xs ∧ n = xs.length
  | _ => False
end
end L2

namespace L2
open PySem PySem.Spec PyProof.Rows

/-! ### an instance, its attributes a map -/
structure ObjM (h : Heap) (x dx C : Addr) (mA : Str → Option Value) : Prop where
  obj : h.get? x = some (PySem.W.instObj C dx)
  ns : h.Ns1 dx mA
  ne : dx ≠ x

theorem lookIn_ns {h : Heap} {dx : Addr} {mA : Str → Option Value} (n : h.Ns1 dx mA) : ∃ od, h.get? dx = some od ∧ ∀ name, PySem.W.lookIn name od = some (mA name) := by
  obtain ⟨o, es, ep, ho, hd, hk, _, hm⟩ := n
  refine ⟨o, ho, fun name => ?_⟩
  have e := hm name
  unfold nsFind findBy at e
  rw [← Array.find?_toList] at e
  unfold PySem.W.lookIn
  rw [hd]
  dsimp only
  split
  · rename_i y q
    rw [q] at e
    exact congrArg some e
  · rename_i q
    rw [q] at e
    have a : es.toList.any (·.refKey) = false := by
      rw [List.any_eq_false]
      intro y hy
      obtain ⟨z, t, hkey⟩ := hk y (Array.mem_toList_iff.mp hy)
      simp [DictEntry.refKey, hkey]
    have a' : ¬ es.toList.any (·.refKey) = true := by rw [a]; exact Bool.false_ne_true
    rw [if_neg a']
    exact congrArg some e

theorem ObjM.look {h : Heap} {x dx C : Addr} {mA : Str → Option Value} (I : ObjM h x dx C mA) : ∃ od, PySem.W.InstAt h x (PySem.W.instObj C dx) C (some od) ∧ ∀ name, PySem.W.lookIn name od = some (mA name) :=
  let ⟨od, ho, hl⟩ := lookIn_ns I.ns
  ⟨od, ⟨I.obj, rfl, rfl, ho⟩, hl⟩

section
variable {prog : Program} {w : World} {A : Around} {E : Value → Shared → Prop} {s : Shared} {K : PySem.W.Frag} {x dx C f : Addr} {mA : Str → Option Value} {name : Str} {v : Value}

theorem get_map {expr : Bool} {Q : Value → Shared → Prop} (X : K.In s.heap) (I : ObjM s.heap x dx C mA) (hg : PySem.W.plainGet K C name = true) (hh : PySem.W.hasDictIn K C = true)
    (ha : PySem.W.findIn K (.ref C) name = some none) (hv : mA name = some v) (hv' : PySem.W.handedIn v = true) (h : Q v { s with toks := s.toks + 1 }) :
    wpAny (model prog w) A (getAttr (.ref x) name expr) Q E s := by
  obtain ⟨od, J, hl⟩ := I.look
  exact PySem.W.get_value X J (PySem.W.plainGet_of hg).1 (PySem.W.findObj_own hh ha rfl (by rw [hl, hv])) hv' h

theorem get_meth {pl : Sem Bool} {Q : Value × List Value → Shared → Prop} (X : K.In s.heap) (I : ObjM s.heap x dx C mA) (hg : PySem.W.plainGet K C name = true)
    (hf : PySem.W.findIn K (.ref C) name = some (some (.ref f))) (ht : PySem.W.isFn K (.ref f) = true) (hv : mA name = none) (h : Q (.ref f, [.ref x]) s) :
    wpAny (model prog w) A (getMethod (.ref x) name pl) Q E s := by
  obtain ⟨od, J, hl⟩ := I.look
  exact PySem.W.method_fn X J (PySem.W.plainGet_of hg).1 (PySem.W.plainGet_of hg).2 hf (beq_iff_eq.mp ht) (by show (PySem.W.lookIn name od).map (·.isSome) = some false; rw [hl, hv]; rfl) h

theorem set_map {ns : List Str} {Q : Unit → Shared → Prop} (X : K.In s.heap) (I : ObjM s.heap x dx C mA)
    (hs : PySem.W.findIn K (.ref C) "__setattr__" = some (some (.builtin "object.__setattr__"))) (hp : PySem.W.plainOver K C = true) (ht : PySem.W.takerIn K C name = some none) (hh : PySem.W.hasDictIn K C = true)
    (hw : PySem.Within mA ns) (hsz : ns.length ≤ sizeLine)
    (h : ∀ h', ObjM h' x dx C (fun y => if y = name then some v else mA y) → Heap.SameBut dx s.heap h' → Q () { s with heap := h', toks := s.toks + 2 }) :
    wpAny (model prog w) A (setAttr (.ref x) name v) Q E s := by
  obtain ⟨od, J, hl⟩ := I.look
  refine PySem.W.set_plain X J hs (PySem.W.osa_open (s := { s with toks := s.toks + 1 }) (r := none) X J hp ht fun b => ?_)
  obtain ⟨cd, hc, hd'⟩ := PySem.W.any_some hh
  have hx : s.heap.get? x = some ⟨.ref C, some dx, .plain, #[]⟩ := I.obj
  refine wpAny_bind (wpAny_pure (wpAny_bind (wpAny_bind (wpAny_loadPart hx (wpAny_bind (PySem.W.Looks.here (s := { s with toks := s.toks + 1 }) (PySem.W.looks_clsIn X hc) ?_))))))
  rw [hd']
  refine wpAny_pure (a := some dx) (wpAny_bind (wpAny_pure (wpAny_bind ?_)))
  refine wpAny_nsSet1 (s := { s with toks := s.toks + 1 }) I.ns fun h' hn2 hs2 => ?_
  obtain ⟨oD, esD, epD, hoD, hdD, hcD⟩ := hn2.count (PySem.Within.cons name v hw)
  refine wpAny_bind (wpAny_lookBehind hoD (by rw [hdD]; exact pastItsLine_dict (Nat.le_trans hcD (by rw [List.length_cons]; omega))) ?_)
  exact wpAny_pure (h _ ⟨(hs2.2 _ (Ne.symm I.ne)).trans I.obj, hn2, I.ne⟩ hs2)

/-- C(..): the dict at the heap's end, the instance behind it; then its __init__ -/
theorem make_map {R : Result → Shared → Prop} {vs : List Value} {kw : List (Str × Value)} (X : K.In s.heap) (hm : PySem.W.makesIn K C = true)
    (hi : PySem.W.findIn K (.ref C) "__init__" = some (some (.ref f))) (hf : PySem.W.typeIn K (.ref f) = some (.type "function"))
    (h : codeAny (model prog w) (A.under (.builtin "type.__call__" ⟨.ref C :: vs, kw⟩)) (.call (.ref f) ⟨.ref (s.heap.objs.size + 1) :: vs, kw⟩) (PySem.W.InitBack (s.heap.objs.size + 1) R)
      { s with heap := (s.heap.push PySem.W.emptyDict).push (PySem.W.instObj C s.heap.objs.size) }) :
    codeAny (model prog w) A (.call (.ref C) ⟨vs, kw⟩) R s := by
  obtain ⟨hh, g, d, t, os⟩ := s
  exact PySem.W.make_core (PySem.W.makes_of X hm) (PySem.W.looks_findIn X hi) (fun self => PySem.W.bind_fn X self hf) (.inl rfl) h
end

/-! ### the attributes as a list of pairs -/
def putF (f : Str) (v : V) : List (Str × V) → List (Str × V)
  | [] => [(f, v)]
  | (g, x) :: r => if g = f then (g, v) :: r else (g, x) :: putF f v r
theorem lookup_putF (f g : Str) (v : V) : ∀ fs : List (Str × V), (putF f v fs).lookup g = if g = f then some v else fs.lookup g
  | [] => by
    show List.lookup g [(f, v)] = _
    by_cases h : g = f
    · have hb : (g == f) = true := beq_iff_eq.mpr h
      simp only [List.lookup, hb, if_pos h]
    · have hb : (g == f) = false := beq_eq_false_iff_ne.mpr h
      simp only [List.lookup, hb, if_neg h]
  | (k, x) :: r => by
    have ih := lookup_putF f g v r
    rw [show putF f v ((k, x) :: r) = (if k = f then (k, v) :: r else (k, x) :: putF f v r) from rfl]
    by_cases hk : k = f
    · rw [if_pos hk]
      by_cases h : g = k
      · have hb : (g == k) = true := beq_iff_eq.mpr h
        simp only [List.lookup, hb, if_pos (h.trans hk)]
      · have hb : (g == k) = false := beq_eq_false_iff_ne.mpr h
        simp only [List.lookup, hb, if_neg (fun e : g = f => h (e.trans hk.symm))]
    · rw [if_neg hk]
      by_cases h : g = k
      · have hb : (g == k) = true := beq_iff_eq.mpr h
        simp only [List.lookup, hb, if_neg (fun e : g = f => hk (h.symm.trans e))]
      · have hb : (g == k) = false := beq_eq_false_iff_ne.mpr h
        simp only [List.lookup, hb]
        exact ih
theorem keys_putF (f : Str) (v : V) : ∀ fs : List (Str × V), f ∈ (putF f v fs).map (·.1) ∧ ∀ g, g ∈ fs.map (·.1) → g ∈ (putF f v fs).map (·.1)
  | [] => ⟨by simp [putF], fun g h => by simp at h⟩
  | (k, x) :: r => by
    obtain ⟨i1, i2⟩ := keys_putF f v r
    rw [show putF f v ((k, x) :: r) = (if k = f then (k, v) :: r else (k, x) :: putF f v r) from rfl]
    by_cases hk : k = f
    · rw [if_pos hk]
      subst hk
      exact ⟨by simp, fun g h => by simpa using h⟩
    · rw [if_neg hk]
      refine ⟨?_, fun g h => ?_⟩
      · rw [List.map_cons]
        exact List.mem_cons_of_mem _ i1
      · rw [List.map_cons] at h ⊢
        rcases List.mem_cons.mp h with e | e
        · exact List.mem_cons.mpr (.inl e)
        · exact List.mem_cons_of_mem _ (i2 g e)
theorem length_putF (f : Str) (v : V) : ∀ fs : List (Str × V), (putF f v fs).length ≤ fs.length + 1
  | [] => by simp [putF]
  | (k, x) :: r => by
    have ih := length_putF f v r
    rw [show putF f v ((k, x) :: r) = (if k = f then (k, v) :: r else (k, x) :: putF f v r) from rfl]
    by_cases hk : k = f
    · rw [if_pos hk, List.length_cons, List.length_cons]; omega
    · rw [if_neg hk, List.length_cons, List.length_cons]; omega

theorem RelO.some_of {v : V} {o : Option Value} (r : RelO (some v) o) : ∃ u, o = some u ∧ RelV v u := by
  cases o with
  | none => exact (show False from r).elim
  | some u => exact ⟨u, rfl, r⟩
theorem RelO.none_of {o : Option Value} (r : RelO none o) : o = none := by
  cases o with
  | none => rfl
  | some u => exact (show False from r).elim
theorem handed_of {v : V} {u : Value} (r : RelV v u) : PySem.W.handedIn u = true := by
  cases v with
  | non => cases (show u = Value.none from r); rfl
  | bl b => cases (show u = Value.bool b from r); rfl
  | int i => obtain ⟨t, e⟩ := (show ∃ t, u = Value.int i t from r); cases e; rfl
  | str x => obtain ⟨t, e⟩ := (show ∃ t, u = Value.str x t from r); cases e; rfl
  | byt b => obtain ⟨t, e⟩ := (show ∃ t, u = Value.bytes b t from r); cases e; rfl
  | flt b => obtain ⟨t, e⟩ := (show ∃ t, u = Value.float b t from r); cases e; rfl
  | ref a => cases (show u = Value.ref a from r); rfl
  | ty n => cases (show u = Value.type n from r); rfl

section
variable {P : Program} {w : World} {H H' : Hp} {h h' : Heap} {a C dx : Addr} {fs fs' : List (Str × V)}
theorem ins_get (hok : HOk P w H h) (e : H a = some (.ins C dx fs)) : ∃ mA, ObjM h a dx C mA ∧ (∀ f, RelO (fs.lookup f) (mA f)) ∧ PySem.Within mA (fs.map (·.1)) ∧ fs.length ≤ 1000 ∧ H dx = some (.own a) := by
  obtain ⟨d, z, ne, ob, mA, n, r, q⟩ := (show ObjOk P w H h a (.ins C dx fs) from hok a _ e)
  exact ⟨mA, ⟨ob, n, ne⟩, r, q, z, d⟩
end

/-! ### what of the text a class must have -/
structure Cls (K : PySem.W.Frag) (C : Addr) : Prop where
  pg : PySem.W.plainGet K C Str.empty = true
  hd : PySem.W.hasDictIn K C = true
  po : PySem.W.plainOver K C = true
  sa : PySem.W.findIn K (.ref C) "__setattr__" = some (some (.builtin "object.__setattr__"))
theorem Cls.get {K : PySem.W.Frag} {C : Addr} (c : Cls K C) (f : Str) : PySem.W.plainGet K C f = true := c.pg
/-- no class of it has the name -/
def NoAttr (K : PySem.W.Frag) (C : Addr) (f : Str) : Prop := PySem.W.findIn K (.ref C) f = some none
theorem NoAttr.taker {K : PySem.W.Frag} {C : Addr} {f : Str} (n : NoAttr K C f) : PySem.W.takerIn K C f = some none := by
  unfold PySem.W.takerIn
  rw [show PySem.W.findIn K (.ref C) f = some none from n]
  rfl
/-- a constant of the class -/
structure Con (K : PySem.W.Frag) (C : Addr) (f : Str) (v : V) (u : Value) : Prop where
  at_ : PySem.W.findIn K (.ref C) f = some (some u)
  rel : RelV v u
  get : PySem.W.specialIn K u "__get__" = some none
  cp : PySem.W.copiedNames.contains f = false
/-- a method: a plain def of the class or of one above it -/
structure Meth (K : PySem.W.Frag) (C : Addr) (m : Str) (f : Addr) : Prop where
  at_ : PySem.W.findIn K (.ref C) m = some (some (.ref f))
  fn : PySem.W.isFn K (.ref f) = true
  kp : PySem.W.keepIn K (.ref f) = true

section
variable {X : Cx} {pins : List (Addr × Obj)} {σ : St} {H : Hp} {s : Shared} {a C dx : Addr} {fs : List (Str × V)} {f : Str} {v : V} {A : Around} {E : Value → Shared → Prop}

theorem getattr_ok {b : Bool} {Q : Value → Shared → Prop} (I : Inv X pins σ H s) (e : H a = some (.ins C dx fs)) (c : Cls X.K C) (n : NoAttr X.K C f) (l : fs.lookup f = some v)
    (h : ∀ u s', Inv X pins σ H s' → RelV v u → Q u s') : wpAny (model X.prog X.w) A (getAttr (.ref a) f b) Q E s := by
  obtain ⟨mA, O, r, _, _, _⟩ := ins_get I.hok e
  obtain ⟨u, hu, ru⟩ := RelO.some_of (v := v) (o := mA f) (by rw [← l]; exact r f)
  exact get_map I.kIn O (c.get f) c.hd n hu (handed_of ru) (h u _ (I.tok _) ru)

theorem getmeth_ok {m : Str} {g : Addr} {pl : Sem Bool} {Q : Value × List Value → Shared → Prop} (I : Inv X pins σ H s) (e : H a = some (.ins C dx fs)) (c : Cls X.K C) (k : Meth X.K C m g) (l : fs.lookup m = none)
    (h : Q (.ref g, [.ref a]) s) : wpAny (model X.prog X.w) A (getMethod (.ref a) m pl) Q E s := by
  obtain ⟨mA, O, r, _, _, _⟩ := ins_get I.hok e
  have hn : mA m = none := RelO.none_of (by rw [← l]; exact r m)
  exact get_meth I.kIn O (c.get m) k.at_ k.fn hn h

theorem setattr_ok {y : V} {u : Value} {Q : Unit → Shared → Prop} (I : Inv X pins σ H s) (e : H a = some (.ins C dx fs)) (c : Cls X.K C) (n : NoAttr X.K C f) (hl : fs.length < 1000) (ry : RelV y u)
    (h : ∀ s', Inv X pins σ (upd H a (.ins C dx (putF f y fs))) s' → Q () s') : wpAny (model X.prog X.w) A (setAttr (.ref a) f u) Q E s := by
  obtain ⟨mA, O, r, wi, _, ho⟩ := ins_get I.hok e
  have hz : (fs.map (·.1)).length ≤ sizeLine := by rw [List.length_map, sizeLine_eq]; omega
  refine set_map I.kIn O c.sa c.po n.taker c.hd wi hz fun h' O' sb => h _ ?_
  have hd : ∃ o, h'.get? dx = some o := let ⟨o, _, _, e', _⟩ := O'.ns; ⟨o, e'⟩
  refine I.write (x := a) (e := dx) (by rw [e]; exact True.intro) (.inr ho) (fun b q hb z => (sb.2 b hb).trans z) hd ?_
  refine ⟨by rw [upd_ne O.ne]; exact ho, ?_, O.ne, O'.obj, _, O'.ns, fun g => ?_, fun g hg => ?_⟩
  · have := length_putF f y fs; omega
  · show RelO ((putF f y fs).lookup g) (if g = f then some u else mA g)
    rw [lookup_putF]
    by_cases q : g = f
    · rw [if_pos q, if_pos q]; exact ry
    · rw [if_neg q, if_neg q]; exact r g
  · by_cases q : g = f
    · rw [q]; exact (keys_putF f y fs).1
    · refine (keys_putF f y fs).2 g (wi g fun z => hg ?_)
      show (if g = f then some u else mA g) = none
      rw [if_neg q]; exact z

/-- a new instance, tracked, without attributes -/
theorem Inv.made (I : Inv X pins σ H s) : Inv X pins σ (upd (upd H s.heap.objs.size (.own (s.heap.objs.size + 1))) (s.heap.objs.size + 1) (.ins C s.heap.objs.size []))
    { s with heap := (s.heap.push PySem.W.emptyDict).push (PySem.W.instObj C s.heap.objs.size) } := by
  have e1 : (s.heap.push PySem.W.emptyDict).get? s.heap.objs.size = some PySem.W.emptyDict := Heap.get?_push_size s.heap rfl
  have e2 : ((s.heap.push PySem.W.emptyDict).push (PySem.W.instObj C s.heap.objs.size)).get? (s.heap.objs.size + 1) = some (PySem.W.instObj C s.heap.objs.size) := by
    have := Heap.get?_push_size (s.heap.push PySem.W.emptyDict) (o := PySem.W.instObj C s.heap.objs.size) rfl
    rwa [Heap.size_push] at this
  have e3 : (s.heap.push PySem.W.emptyDict).Ns s.heap.objs.size (fun _ => none) := ⟨PySem.W.emptyDict, #[], _, e1, rfl, (fun e he => absurd he (by simp)), fun _ => rfl⟩
  have I1 := I.laid (a := s.heap.objs.size) (o := .own (s.heap.objs.size + 1)) (h' := s.heap.push PySem.W.emptyDict) (t' := s.toks) (fun b u q => Heap.get?_push_of_some _ q) (Nat.le_refl _) ⟨_, e1⟩
  refine I1.laid (a := s.heap.objs.size + 1) (o := .ins C s.heap.objs.size []) (t' := s.toks) (fun b u q => Heap.get?_push_of_some _ q) (Nat.le_of_eq (Heap.size_push _ _)) ?_
  have ne : s.heap.objs.size ≠ s.heap.objs.size + 1 := Nat.ne_of_lt (Nat.lt_succ_self _)
  refine ⟨by rw [upd_ne ne, upd_same], Nat.zero_le _, ne, e2, fun _ => none, (Heap.Ns1.of_empty e3).at fun o q => Heap.get?_push_of_some _ q, fun _ => True.intro, fun y hy => absurd rfl hy⟩

/-- e.f where nothing but the object is asked: through attributeBase (super) and the last hold -/
theorem attr_of {prog : Program} {w : World} {env : Env} {e : Expr} {f : Str} {pos : Pos} {s : Shared} {Q : Value → Shared → Prop} (hb : attributeBase e f env (eval e env) = eval e env)
    (h : wpAny (model prog w) A (eval e env) (fun o s₁ => wpAny (model prog w) A (getAttr o f true) Q E s₁) E s) : wpAny (model prog w) A (eval (.Attribute e f pos) env) Q E s :=
  Attribute_any_ h (by rw [arm_eval_Attribute, hb])
end

/-! ### readings and rules -/
/-- e.f, an attribute of the instance -/
def tFld (K : PySem.W.Frag) (ta : TE) (f : Str) : TE := fun σ H Q => ta σ H fun x H1 => ∃ a C dx fs v, x = .ref a ∧ H1 a = some (.ins C dx fs) ∧ Cls K C ∧ NoAttr K C f ∧ fs.lookup f = some v ∧ Q v H1
/-- e.f, a constant of the class -/
def tCon (K : PySem.W.Frag) (ta : TE) (f : Str) : TE := fun σ H Q => ta σ H fun x H1 => ∃ a C dx fs v u, x = .ref a ∧ H1 a = some (.ins C dx fs) ∧ Cls K C ∧ Con K C f v u ∧ fs.lookup f = none ∧ Q v H1
/-- e.f = value -/
def sFld (K : PySem.W.Frag) (ta tv : TE) (f : Str) : TS := fun D σ H => tv σ H fun y H1 => ta σ H1 fun x H2 => ∃ a C dx fs, x = .ref a ∧ H2 a = some (.ins C dx fs) ∧ Cls K C ∧ NoAttr K C f ∧ fs.length < 1000 ∧
  D.nx σ (upd H2 a (.ins C dx (putF f y fs)))
/-- an augmented operator on two values -/
def InOp (X : Cx) (op : Operator) (rd : V → V → Hp → VK → Prop) : Prop :=
  ∀ (pins : List (Addr × Obj)) (s : Shared) (σ : St) (H : Hp) (x y : V) (u v : Value) (Q : VK), Inv X pins σ H s → RelV x u → RelV y v → rd x y H Q → wpAny (model X.prog X.w) X.A (inplaceOp op u v) (EP X pins σ Q) X.xe s
/-- e.f op= value -/
def sFldAug (K : PySem.W.Frag) (ta tv : TE) (rd : V → V → Hp → VK → Prop) (f : Str) : TS := fun D σ H => ta σ H fun x H1 => ∃ a C dx fs v, x = .ref a ∧ H1 a = some (.ins C dx fs) ∧ Cls K C ∧ NoAttr K C f ∧ fs.lookup f = some v ∧
  tv σ H1 fun y H2 => rd v y H2 fun z H3 => ∃ dx' fs', H3 a = some (.ins C dx' fs') ∧ fs'.length < 1000 ∧ D.nx σ (upd H3 a (.ins C dx' (putF f z fs')))

section
variable {X : Cx} {o e value : Expr} {f : Str} {pos pos' tpos : Pos} {ta tv : TE}
theorem pe_fld (he : PE X e ta) (hb : attributeBase e f X.env (eval e X.env) = eval e X.env) : PE X (.Attribute e f pos) (tFld X.K ta f) := by
  intro pins s σ H Q I h
  refine attr_of hb (thn (he pins s σ H _ I h) fun u s1 ⟨x, H1, I1, rx, a, C, dx, fs, v, ex, ea, c, n, l, q⟩ => ?_)
  subst ex
  obtain rfl : u = Value.ref a := rx
  exact getattr_ok I1 ea c n l fun u' s2 I2 ru => ⟨v, H1, I2, ru, q⟩
theorem ps_fld (ha : PE X o ta) (hv : PE X value tv) (hs : swapsWith value (some (.Attribute o f pos')) pos.line X.env = pure false) : PS X (.Assign [.Attribute o f pos'] value pos) (sFld X.K ta tv f) := by
  intro pins s σ H D I h
  refine plainObj_wpAny_Assign_Attribute (thn (hv pins s σ H _ I h) fun u s1 ⟨y, H1, I1, ry, q⟩ => thn (ha pins s1 σ H1 _ I1 q) fun ov s2 ⟨x, H2, I2, rx, a, C, dx, fs, ex, ea, c, n, l, q2⟩ => ?_) hs
  subst ex
  obtain rfl : ov = Value.ref a := rx
  exact setattr_ok I2 ea c n l ry fun s3 I3 => ⟨σ, _, I3, q2⟩
def rAdd : V → V → Hp → VK → Prop := fun x y H Q => ∃ i j, x = .int i ∧ y = .int j ∧ Q (.int (i + j)) H
def rSub : V → V → Hp → VK → Prop := fun x y H Q => ∃ i j, x = .int i ∧ y = .int j ∧ Q (.int (i - j)) H
end

/-! ### isinstance -/
section
variable {X : Cx} {pins : List (Addr × Obj)} {σ : St} {H : Hp} {s : Shared} {A : Around} {E : Value → Shared → Prop} {Q : Value → Shared → Prop} {c : Value} {b : Bool}
/-- the type of a value, as the fragment's deciders take it; for an instance its class -/
inductive TyOf (K : PySem.W.Frag) (H : Hp) : V → Value → Prop where
  | non : TyOf K H .non (.type "NoneType")
  | bl (x : Bool) : TyOf K H (.bl x) (.type "bool")
  | int (i : Int) : TyOf K H (.int i) (.type "int")
  | str (x : Str) : TyOf K H (.str x) (.type "str")
  | flt (x : UInt64) : TyOf K H (.flt x) (.type "float")
  | lst {a : Addr} {xs : List V} (e : H a = some (.lst xs)) : TyOf K H (.ref a) (.type "list")
  | frz {a : Addr} {o : Obj} {xs : List V} (e : H a = some (.frz o (.lst xs))) : TyOf K H (.ref a) (.type "list")
  | tup {a : Addr} {xs : List V} (e : H a = some (.tup xs)) : TyOf K H (.ref a) (.type "tuple")
  | dK {a : Addr} {kvs : List (Key × V)} (e : H a = some (.dK kvs)) : TyOf K H (.ref a) (.type "dict")
  | dT {a : Addr} {kvs : List (List Key × V)} (e : H a = some (.dT kvs)) : TyOf K H (.ref a) (.type "dict")
  | ins {a C dx : Addr} {fs : List (Str × V)} (e : H a = some (.ins C dx fs)) (cl : Cls K C) (ha : PySem.W.findIn K (.ref C) "__class__" = some (some (.builtin "object.__class__")))
      (hn : PySem.W.specialIn K (.builtin "object.__class__") "__get__" = some (some (.builtin "getset_descriptor.__get__"))) (htk : PySem.W.takesIn K (.builtin "object.__class__") = some true)
      (hm : PySem.W.mroIn K C (.type "object") = some true) : TyOf K H (.ref a) (.ref C)
/-- isinstance(x, c) for one class c, a built-in or an own one: kitOne's answer -/
theorem isinst_ok {x : V} {u t : Value} (I : Inv X pins σ H s) (rx : RelV x u) (ty : TyOf X.K H x t) (e : PySem.W.kitOne X.K t c = some b) (h : ∀ tk, Q (.bool b) { s with toks := tk }) :
    wpAny (model X.prog X.w) A (call (.builtin "isinstance") [u, c]) Q E s := by
  cases ty with
  | non => cases (show u = Value.none from rx); exact PySem.W.kia_one PySem.W.kitx_none I.kIn True.intro e (fun z => nomatch z) h
  | bl y => cases (show u = Value.bool y from rx); exact PySem.W.kia_one PySem.W.kitx_bool I.kIn True.intro e (fun z => nomatch z) h
  | int i => obtain ⟨t, q⟩ := (show ∃ t, u = Value.int i t from rx); cases q; exact PySem.W.kia_one PySem.W.kitx_int I.kIn True.intro e (fun z => nomatch z) h
  | str y => obtain ⟨t, q⟩ := (show ∃ t, u = Value.str y t from rx); cases q; exact PySem.W.kia_one PySem.W.kitx_str I.kIn True.intro e (fun z => nomatch z) h
  | flt y => obtain ⟨t, q⟩ := (show ∃ t, u = Value.float y t from rx); cases q; exact PySem.W.kia_one PySem.W.kitx_float I.kIn True.intro e (fun z => nomatch z) h
  | @lst a xs ea =>
    cases (show u = Value.ref a from rx)
    obtain ⟨_, _, n, _, h1⟩ := (show ObjOk X.prog X.w H s.heap a (.lst xs) from I.hok a _ ea)
    exact PySem.W.kia_one PySem.W.kitx_list I.kIn ⟨_, h1, rfl⟩ e (fun z => nomatch z) h
  | @frz a ob xs ea =>
    cases (show u = Value.ref a from rx)
    obtain ⟨_, _, _, n, _, h1⟩ := (show ObjOk X.prog X.w H s.heap a (.frz ob (.lst xs)) from I.hok a _ ea)
    exact PySem.W.kia_one PySem.W.kitx_list I.kIn ⟨_, h1, rfl⟩ e (fun z => nomatch z) h
  | @tup a xs ea =>
    cases (show u = Value.ref a from rx)
    obtain ⟨_, _, _, p⟩ := (show ObjOk X.prog X.w H s.heap a (.tup xs) from I.hok a _ ea)
    obtain ⟨o, h1, h2, _⟩ := p
    exact PySem.W.kia_one PySem.W.kitx_tuple I.kIn ⟨o, h1, h2⟩ e (fun z => nomatch z) h
  | @dK a kvs ea =>
    cases (show u = Value.ref a from rx)
    obtain ⟨_, _, vs, _, p⟩ := (show ObjOk X.prog X.w H s.heap a (.dK kvs) from I.hok a _ ea)
    obtain ⟨o, es, ep, h1, h2, _⟩ := p
    exact PySem.W.kia_one PySem.W.kitx_dict I.kIn ⟨o, h1, h2.1⟩ e (fun z => nomatch z) h
  | @dT a kvs ea =>
    cases (show u = Value.ref a from rx)
    obtain ⟨_, _, xs, _, o, es, ep, h1, h2, _⟩ := (show ObjOk X.prog X.w H s.heap a (.dT kvs) from I.hok a _ ea)
    exact PySem.W.kia_one PySem.W.kitx_dict I.kIn ⟨o, h1, h2.1⟩ e (fun z => nomatch z) h
  | @ins a C dx fs ea cl ha hn htk hm =>
    cases (show u = Value.ref a from rx)
    obtain ⟨mA, O, _⟩ := ins_get I.hok ea
    obtain ⟨od, J, _⟩ := O.look
    exact PySem.W.kia_one (PySem.W.kitx_own (cl.get _) cl.hd ha hn htk hm) I.kIn J e (fun z => nomatch z) h
end
end L2

namespace L2
open PySem PySem.Spec PyProof.Rows

/-! ### room -/
structure Room (k : Nat) (A : Around) : Prop where
  hd : A.handled = none
  dp : A.depth + 3 * k + 5 < recursionLimit
  un : A.units + 16 * k + 200 < cLine
theorem Room.mono {j k : Nat} {A : Around} (r : Room k A) (h : j ≤ k) : Room j A := ⟨r.hd, by have := r.dp; omega, by have := r.un; omega⟩
theorem Room.deeper {k : Nat} {A : Around} (r : Room (k + 1) A) (env : Env) : Room k (A.deeper env) :=
  ⟨r.hd, by have := r.dp; show A.depth + 1 + 3 * k + 5 < _; omega, by have := r.un; show A.units + 3 + 16 * k + 200 < _; omega⟩
theorem Room.in1 {k : Nat} {A : Around} (r : Room (k + 1) A) : Room k A.in1 :=
  ⟨r.hd, by have := r.dp; show A.depth + 3 * k + 5 < _; omega, by have := r.un; show A.units + 1 + 16 * k + 200 < _; omega⟩
theorem make_depth {A : Around} {C : Addr} {us : List Value} {kw : List (Str × Value)} : (A.under (.builtin "type.__call__" ⟨.ref C :: us, kw⟩)).depth = A.depth + 1 := by
  first | rfl | simp [Around.under, Code.weight, Code.isCreation, Code.isGuard, Code.isCaller, Code.frames, Code.isFrame, guardIds]
theorem make_units {A : Around} {C : Addr} {us : List Value} {kw : List (Str × Value)} : (A.under (.builtin "type.__call__" ⟨.ref C :: us, kw⟩)).units = A.units + 1 := by
  first | rfl | simp [Around.under, Code.cUnits, Code.frames, Code.isFrame]
theorem Room.make {k : Nat} {A : Around} (r : Room (k + 1) A) (C : Addr) (us : List Value) (kw : List (Str × Value)) : Room k (A.under (.builtin "type.__call__" ⟨.ref C :: us, kw⟩)) :=
  ⟨r.hd, by have := r.dp; rw [make_depth]; omega, by have := r.un; rw [make_units]; omega⟩
theorem Room.depth {k : Nat} {A : Around} (r : Room k A) : A.depth < recursionLimit := by have := r.dp; omega
theorem Room.units {k : Nat} {A : Around} (r : Room k A) : A.units + 64 < cLine := by have := r.un; omega
/-! ### argument lists and displays -/
def tNil : TA := fun _ H Q => Q [] H
def tCons (ta : TE) (tr : TA) : TA := fun σ H Q => ta σ H fun x H1 => tr σ H1 fun xs H2 => Q (x :: xs) H2
section
variable {X : Cx} {e : Expr} {es : List Expr} {te : TE} {t : TA} {pos : Pos}
theorem pa_nil : PA X [] tNil := fun _ _ _ _ H Q I h => Calls.spliced_nil ⟨[], H, I, .nil, h⟩
theorem pa_cons (ha : PE X e te) (hr : PA X es t) (hs : starEach (e :: es) X.env = (false, eval e X.env) :: starEach es X.env := by rfl) : PA X (e :: es) (tCons te t) := by
  intro pos pins s σ H Q I h
  rw [hs]
  show wpAny _ _ (spliced ((false, eval e X.env) :: backTo pos (starEach es X.env))) _ _ s
  refine Calls.spliced_cons (thn (ha pins s σ H _ I h) fun u s1 ⟨x, H1, I1, r1, q1⟩ => ?_)
  exact thn (hr pos pins s1 σ H1 _ I1 q1) fun us s2 ⟨xs, H2, I2, r2, q2⟩ => ⟨x :: xs, H2, I2, .cons r1 r2, q2⟩

/-- a tuple, a list of written items -/
def tTup (t : TA) : TE := fun σ H Q => t σ H fun xs H1 => xs.length ≤ sizeLine ∧ ∀ p, H1 p = none → Q (.ref p) (upd H1 p (.tup xs))
def tLst (t : TA) : TE := fun σ H Q => t σ H fun xs H1 => xs.length ≤ sizeLine ∧ ∀ p, H1 p = none → Q (.ref p) (upd H1 p (.lst xs))
theorem pe_tup {x1} (h : PA X es t) : PE X (.Tuple es x1 pos) (tTup t) := by
  intro pins s σ H Q I hq
  refine wpAny_Tuple_spliced (thn (h pos pins s σ H _ I hq) fun us s1 ⟨xs, H1, I1, r, z, q⟩ => ⟨by rw [← r.length]; exact z, ?_⟩)
  have hf : H1 s1.heap.objs.size = none := I1.hok.fresh (Nat.le_refl _)
  refine ⟨.ref s1.heap.objs.size, upd H1 s1.heap.objs.size (.tup xs), I1.laid (t' := s1.toks) (fun b u e => Heap.get?_push_of_some _ e) (Nat.le_refl _) ?_, rfl, q _ hf⟩
  exact ⟨z, us, r, ⟨_, Heap.get?_push_size _ rfl, rfl, _, rfl⟩⟩
theorem pe_lst (h : PA X es t) : PE X (.List es pos) (tLst t) := by
  intro pins s σ H Q I hq
  refine wpAny_List_spliced (thn (h pos pins s σ H _ I hq) fun us s1 ⟨xs, H1, I1, r, z, q⟩ => ⟨by rw [← r.length]; exact z, ?_⟩)
  have hf : H1 s1.heap.objs.size = none := I1.hok.fresh (Nat.le_refl _)
  refine ⟨.ref s1.heap.objs.size, upd H1 s1.heap.objs.size (.lst xs), I1.laid (t' := s1.toks) (fun b u e => Heap.get?_push_of_some _ e) (Nat.le_refl _) ?_, rfl, q _ hf⟩
  exact ⟨z, us, 0, r, Heap.get?_push_size _ rfl⟩
end

/-! ### what a def promises -/
/-- a def's promise: the bound arguments in the parameters' order, the heap, the wanted end, the wanted exception -/
abbrev Sp := List V → Hp → VK → XK → Prop
/-- how an exception lies behind a call (file 08 gives it): the callers' frames, abstract heap and state ahead of the call, the wish, the exception, the state -/
abbrev CXT := List Env → Hp → Shared → XK → Value → Shared → Prop

/-- the state at a call -/
structure Env0 (P : Program) (w : World) (K : PySem.W.Frag) (mg : Str → Option Value) (base : Heap) (A : Around) (outer : List Env) (s : Shared) (H : Hp) : Prop where
  frames : A.frames = some outer
  mod : Mod K mg base
  bs : ∀ b o, base.get? b = some o → s.heap.get? b = some o ∧ H b = none
  bsz : base.objs.size ≤ s.heap.objs.size
  funs : s.heap.FunFrames base outer
  frf : ∀ b ∈ frs outer, H b = none
  hok : HOk P w H s.heap
  bare : AllBare s.gens
/-- a call's end -/
def CE (outer : List Env) (P : Program) (w : World) (H : Hp) (s : Shared) (Q : VK) (u : Value) (s' : Shared) : Prop :=
  ∃ v H', s'.os = s.os ∧ AllBare s'.gens ∧ Un (frs outer) [] H H' s.heap s'.heap ∧ HOk P w H' s'.heap ∧ RelV v u ∧ Q v H'
def CR (CX : CXT) (outer : List Env) (P : Program) (w : World) (H : Hp) (s : Shared) (Q : VK) (E : XK) (r : Result) (s' : Shared) : Prop :=
  match r with
  | .ok (.ret u) => CE outer P w H s Q u s'
  | .ok _ => False
  | .error e => CX outer H s E e s'
structure FnOk (P : Program) (w : World) (K : PySem.W.Frag) (mg : Str → Option Value) (base : Heap) (CX : CXT) (k : Nat) (f : Addr) (fd : FuncData) (ps : List Str) (sp : Sp) : Prop where
  len : ∀ vs H Q E, sp vs H Q E → vs.length = ps.length
  run : ∀ (A : Around) (outer : List Env) (s : Shared) (H : Hp) (args : Args) (us : List Value) (vs : List V) (Q : VK) (E : XK), Room k A → Env0 P w K mg base A outer s H → BindsTo s fd args (ps.zip us) → Vals vs us → sp vs H Q E →
    codeAny (model P w) A (.call (.ref f) args) (CR CX outer P w H s Q E) s
theorem FnOk.mono {P : Program} {w : World} {K : PySem.W.Frag} {mg : Str → Option Value} {base : Heap} {CX : CXT} {j k : Nat} {f : Addr} {fd : FuncData} {ps : List Str} {sp : Sp} (F : FnOk P w K mg base CX j f fd ps sp) (h : j ≤ k) :
    FnOk P w K mg base CX k f fd ps sp := ⟨F.len, fun A outer s H args us vs Q E hr => F.run A outer s H args us vs Q E (hr.mono h)⟩
theorem Env0.make {P : Program} {w : World} {K : PySem.W.Frag} {mg : Str → Option Value} {base : Heap} {A : Around} {outer : List Env} {s : Shared} {H : Hp} (e : Env0 P w K mg base A outer s H) (C : Addr) (us : List Value) (kw : List (Str × Value)) :
    Env0 P w K mg base (A.under (.builtin "type.__call__" ⟨.ref C :: us, kw⟩)) outer s H := ⟨by first | exact e.frames | (simpa [Around.under, Code.envs, Code.isFrame, pushEnvs] using e.frames), e.mod, e.bs, e.bsz, e.funs, e.frf, e.hok, e.bare⟩
theorem Env0.in1 {P : Program} {w : World} {K : PySem.W.Frag} {mg : Str → Option Value} {base : Heap} {A : Around} {outer : List Env} {s : Shared} {H : Hp} (e : Env0 P w K mg base A outer s H) :
    Env0 P w K mg base A.in1 outer s H := ⟨e.frames, e.mod, e.bs, e.bsz, e.funs, e.frf, e.hok, e.bare⟩

section
variable {X : Cx} {pins : List (Addr × Obj)} {σ : St} {H : Hp} {s s' : Shared}
/-- from a body: what a callee wants -/
theorem Inv.env0 (I : Inv X pins σ H s) : Env0 X.prog X.w X.K X.mg X.base X.A X.stack s H :=
  ⟨I.ok.frames, I.ok.mod, I.bs, Nat.le_trans I.ok.bsz I.sz, I.stack, I.stkFree, I.hok, I.bare⟩
/-- behind a call -/
theorem Inv.after {Q : VK} {u : Value} (I : Inv X pins σ H s) (h : CE X.stack X.prog X.w H s Q u s') : EP X pins σ Q u s' := by
  obtain ⟨v, H', os, bare, un, hok, r, q⟩ := h
  obtain ⟨hh, g, d, t, os'⟩ := s'
  obtain rfl : os' = s.os := os
  exact ⟨v, H', I.call (h' := hh) (g' := g) (d' := d) (t' := t) (ch := []) un hok bare (fun b z => absurd z (by simp)), r, q⟩
end

/-! ### calls -/
/-- f(..): the written arguments, then the defaults dvs; E: what is wanted of an exception -/
def tCall (sp : Sp) (dvs : List V) (E : XK) (t : TA) : TE := fun σ H Q => t σ H fun vs H1 => sp (vs ++ dvs) H1 Q E
/-- o.m(..) of an instance of the class at C -/
def tMeth (C : Addr) (m : Str) (sp : Sp) (dvs : List V) (E : XK) (ta : TE) (t : TA) : TE := fun σ H Q => ta σ H fun x H1 => ∃ a dx fs, x = .ref a ∧ H1 a = some (.ins C dx fs) ∧ fs.lookup m = none ∧
  t σ H1 fun vs H2 => sp (x :: (vs ++ dvs)) H2 Q E
/-- C(..): a new instance and its dict, then __init__ -/
def tMake (C : Addr) (sp : Sp) (dvs : List V) (E : XK) (t : TA) : TE := fun σ H Q => t σ H fun vs H1 => ∀ x dx, H1 x = none → H1 dx = none → dx ≠ x →
  sp (.ref x :: (vs ++ dvs)) (upd (upd H1 dx (.own x)) x (.ins C dx [])) (fun v H2 => v = .non ∧ Q (.ref x) H2) E

/-- how the parameters are bound: us the positional arguments, kw the keywords' values by name, ds the defaults that fill up -/
def Binds (K : PySem.W.Frag) (fd : FuncData) (ps : List Str) (ds : List Value) : Prop :=
  ∀ (s : Shared) (us : List Value), K.In s.heap → (us ++ ds).length = ps.length → BindsTo s fd ⟨us, []⟩ (ps.zip (us ++ ds))
/-- every parameter is given -/
theorem Binds.all {K : PySem.W.Frag} {fd : FuncData} {ps : List Str} (h : ∀ us : List Value, us.length = ps.length → bindArgs fd ⟨us, []⟩ = pure (ps.zip us)) : Binds K fd ps [] := fun s us _ hl => by
  rw [List.append_nil] at hl ⊢
  exact .of_eq (h us hl)

/-- an exception of a callee reaches what this body wants of exceptions -/
def Passes (CX : CXT) (X : Cx) (E : XK) : Prop := ∀ (pins : List (Addr × Obj)) (σ : St) (H : Hp) (s : Shared) (e : Value) (s' : Shared), Inv X pins σ H s → CX X.stack H s E e s' → X.xe e s'

section
variable {X : Cx} {CX : CXT} {k : Nat} {f C : Addr} {fd : FuncData} {ps : List Str} {sp : Sp} {dvs : List V} {ds : List Value} {E : XK} {x m : Str} {p pos apos : Pos} {e o : Expr} {es : List Expr} {ta : TE} {t : TA}

/-- the callee runs -/
theorem run_fn {pins : List (Addr × Obj)} {σ : St} {H : Hp} {s : Shared} {Q : VK} {us : List Value} {vs : List V} (F : FnOk X.prog X.w X.K X.mg X.base CX k f fd ps sp) (hr : Room k X.A) (hb : Binds X.K fd ps ds) (hd : Vals dvs ds) (hx : Passes CX X E)
    (I : Inv X pins σ H s) (r : Vals vs us) (h : sp (vs ++ dvs) H Q E) : wpAny (model X.prog X.w) X.A (call (.ref f) us) (EP X pins σ Q) X.xe s := by
  have r2 : Vals (vs ++ dvs) (us ++ ds) := r.append hd
  have hl : (us ++ ds).length = ps.length := by rw [← r2.length]; exact F.len _ _ _ _ h
  refine wpAny_call (codeAny_mono (F.run X.A X.stack s H ⟨us, []⟩ (us ++ ds) (vs ++ dvs) Q E hr I.env0 (hb s us I.kIn hl) r2 h) fun r s' hq => ?_)
  cases r with
  | error e => exact hx pins σ H s e s' I hq
  | ok fl =>
    cases fl with
    | ret u => exact I.after hq
    | next => exact False.elim hq
    | brk => exact False.elim hq
    | cont => exact False.elim hq

theorem pe_call (F : FnOk X.prog X.w X.K X.mg X.base CX k f fd ps sp) (hr : Room k X.A) (hg : Gl X x) (hm : X.mg x = some (.ref f)) (hk : PySem.W.keepIn X.K (.ref f) = true) (hb : Binds X.K fd ps ds) (hd : Vals dvs ds) (hx : Passes CX X E)
    (ha : PA X (e :: es) t) (hdb : (x == ("__debug__" : Str)) = false := by decide) (he : starEach (e :: es) X.env = (false, eval e X.env) :: starEach es X.env := by rfl) (hpl : (backTo pos (starEach es X.env)).any (·.1) = false := by rfl) :
    PE X (.Call (.Name x p) (e :: es) [] pos) (tCall sp dvs E t) := by
  intro pins s σ H Q I h
  refine wpAny_Call_Name_kw (ld_glob I hg hm ?_ hdb)
  refine PySem.W.callWith_K (h₀ := X.base) I.ok.mod.kin hk (thn (ha pos pins s σ H _ I h) fun us s1 ⟨vs, H1, I1, r, q⟩ => ⟨I1.kIn, ?_⟩) he hpl
  exact run_fn F hr hb hd hx I1 r q
/-- o.m() -/
theorem pe_meth0 {pl : Sem Bool} (he : PE X o ta) (c : Cls X.K C) (hm : Meth X.K C m f) (F : FnOk X.prog X.w X.K X.mg X.base CX k f fd ps sp) (hr : Room k X.A) (hb : Binds X.K fd ps ds) (hd : Vals dvs ds) (hx : Passes CX X E)
    (ht : eval (.Call (.Attribute o m apos) [] [] pos) X.env = (do
      let ov ← eval o X.env
      standAt apos.atName
      let (f, first) ← holding [ov] (getMethod ov m pl)
      callWith pos f first (backTo pos (starEach [] X.env)) (backToKw pos (keywordEach [] X.env))) := by rfl) :
    PE X (.Call (.Attribute o m apos) [] [] pos) (tMeth C m sp dvs E ta tNil) := by
  intro pins s σ H Q I h
  refine PySem.W.methodCall_KW (pl := pl) (thn (he pins s σ H _ I h) fun u s1 ⟨x, H1, I1, rx, a, dx, fs, ex, ea, l, q⟩ => ?_) ht
  subst ex
  obtain rfl : u = Value.ref a := rx
  refine getmeth_ok I1 ea c hm l ?_
  exact PySem.W.callWith_K0 (first := [.ref a]) I1.kIn hm.kp (run_fn (us := [.ref a]) (vs := [.ref a]) F hr hb hd hx I1 (.cons rfl .nil) q)

/-- what a class must have to be made -/
structure Mk (K : PySem.W.Frag) (C f : Addr) : Prop where
  makes : PySem.W.makesIn K C = true
  init : PySem.W.findIn K (.ref C) "__init__" = some (some (.ref f))
  fn : PySem.W.isFn K (.ref f) = true
  kp : PySem.W.keepIn K (.ref C) = true

theorem run_make {pins : List (Addr × Obj)} {σ : St} {H : Hp} {s : Shared} {Q : VK} {us : List Value} {vs : List V} (M : Mk X.K C f) (F : FnOk X.prog X.w X.K X.mg X.base CX k f fd ps sp) (hr : Room (k + 1) X.A) (hb : Binds X.K fd ps ds) (hd : Vals dvs ds)
    (hx : Passes CX X E) (I : Inv X pins σ H s) (r : Vals vs us)
    (h : ∀ x dx, H x = none → H dx = none → dx ≠ x → sp (.ref x :: (vs ++ dvs)) (upd (upd H dx (.own x)) x (.ins C dx [])) (fun v H2 => v = .non ∧ Q (.ref x) H2) E) :
    wpAny (model X.prog X.w) X.A (call (.ref C) us) (EP X pins σ Q) X.xe s := by
  have hq := h (s.heap.objs.size + 1) s.heap.objs.size (I.hok.fresh (Nat.le_succ _)) (I.hok.fresh (Nat.le_refl _)) (Nat.ne_of_lt (Nat.lt_succ_self _))
  have I2 := Inv.made (C := C) I
  have r2 : Vals (V.ref (s.heap.objs.size + 1) :: (vs ++ dvs)) (Value.ref (s.heap.objs.size + 1) :: (us ++ ds)) := .cons rfl (r.append hd)
  have hl : (Value.ref (s.heap.objs.size + 1) :: us ++ ds).length = ps.length := by
    have e := r2.length
    rw [F.len _ _ _ _ hq] at e
    exact e.symm
  refine wpAny_call (make_map (f := f) I.kIn M.makes M.init (beq_iff_eq.mp M.fn) (codeAny_mono (F.run _ X.stack _ _ ⟨Value.ref (s.heap.objs.size + 1) :: us, []⟩ (Value.ref (s.heap.objs.size + 1) :: (us ++ ds)) _ _ E (hr.make C us [])
    (I2.env0.make C us []) (hb _ (Value.ref (s.heap.objs.size + 1) :: us) I2.kIn hl) r2 hq) fun r s' hq' => ?_))
  cases r with
  | error e => exact hx pins σ _ _ e s' I2 hq'
  | ok fl =>
    cases fl with
    | ret u =>
      obtain ⟨v, H', I3, rv, ev, q3⟩ := I2.after hq'
      subst ev
      exact ⟨rv, ⟨V.ref (s.heap.objs.size + 1), H', I3, rfl, q3⟩⟩
    | next => exact False.elim hq'
    | brk => exact False.elim hq'
    | cont => exact False.elim hq'
theorem pe_make0 (M : Mk X.K C f) (F : FnOk X.prog X.w X.K X.mg X.base CX k f fd ps sp) (hr : Room (k + 1) X.A) (hg : Gl X x) (hm : X.mg x = some (.ref C)) (hb : Binds X.K fd ps ds) (hd : Vals dvs ds) (hx : Passes CX X E)
    (hdb : (x == ("__debug__" : Str)) = false := by decide) : PE X (.Call (.Name x p) [] [] pos) (tMake C sp dvs E tNil) := by
  intro pins s σ H Q I h
  refine wpAny_Call_Name_kw (ld_glob I hg hm ?_ hdb)
  exact PySem.W.callWith_K0 I.kIn M.kp (run_make (us := []) M F hr hb hd hx I .nil h)
end

/-! ### keywords -/
/-- the values of the keywords, from the left -/
def PK (X : Cx) (kws : List Keyword) (t : TA) : Prop :=
  ∀ (pos : Pos) (pins : List (Addr × Obj)) (s : Shared) (σ : St) (H : Hp) (Q : List V → Hp → Prop), Inv X pins σ H s → t σ H Q → wpAny (model X.prog X.w) X.A (evalAll ((backToKw pos (keywordEach kws X.env)).map (·.2))) (AP X pins σ Q) X.xe s
section
variable {X : Cx} {CX : CXT} {k : Nat} {f C : Addr} {fd : FuncData} {ps ks : List Str} {sp : Sp} {E : XK} {x m : Str} {p pos apos kpos : Pos} {e o : Expr} {es : List Expr} {kws : List Keyword} {te ta : TE} {t tk : TA} {nm : Option Str}
/-- how a call with keywords binds: g puts the positional values us and the keywords' values ws (names ks) in the parameters' order, defaults among them -/
structure KBinds (K : PySem.W.Frag) (fd : FuncData) (ps ks : List Str) (g : List Value → List Value → List Value) (gV : List V → List V → List V) : Prop where
  to : ∀ (s : Shared) (us ws : List Value), K.In s.heap → (g us ws).length = ps.length → BindsTo s fd ⟨us, ks.zip ws⟩ (ps.zip (g us ws))
  rel : ∀ {vs : List V} {us : List Value} {zs : List V} {ws : List Value}, Vals vs us → Vals zs ws → Vals (gV vs zs) (g us ws)
def tCallK (sp : Sp) (gV : List V → List V → List V) (E : XK) (t tk : TA) : TE := fun σ H Q => t σ H fun vs H1 => tk σ H1 fun zs H2 => sp (gV vs zs) H2 Q E
variable {g : List Value → List Value → List Value} {gV : List V → List V → List V}
end

/-! ### a def's body keeps its promise -/
/-- names: the parameters first -/
structure FnScope (N P : List Str) (sc : Scope) : Prop where
  kind : sc.kind = .function
  co : sc.isCoroutine = false
  gen : sc.isGenerator = false
  nd : N.Nodup
  pre : N.take P.length = P
  par : ∀ x ∈ P, sc.names.lookup x = some .local ∨ sc.names.lookup x = some .cell
  nofree : ∀ y ∈ sc.names, y.2 ≠ .free

theorem bindL_out {kindOf : Str → Option NameKind} {x : Str} : ∀ {binds : List (Str × Value)} {m : Str → Option Value}, (∀ v, (x, v) ∉ binds) → bindL kindOf binds m x = m x
  | [], _, _ => rfl
  | (n, v) :: r, m, h => by
    unfold bindL
    rw [bindL_out fun w hw => h w (List.mem_cons_of_mem _ hw)]
    split
    · have : x ≠ n := by rintro rfl; exact h v List.mem_cons_self
      simp [this]
    · rfl
theorem bindC_out {kindOf : Str → Option NameKind} {x : Str} : ∀ {binds : List (Str × Value)} {m : Str → Option Value}, (∀ v, (x, v) ∉ binds) → bindC kindOf binds m x = m x
  | [], _, _ => rfl
  | (n, v) :: r, m, h => by
    unfold bindC
    rw [bindC_out fun w hw => h w (List.mem_cons_of_mem _ hw)]
    split
    · rfl
    · have : x ≠ n := by rintro rfl; exact h v List.mem_cons_self
      simp [this]
theorem bindL_get {kindOf : Str → Option NameKind} {x : Str} {v : Value} : ∀ {P : List Str} {vs : List Value} {i : Nat} {m : Str → Option Value}, P.Nodup → P[i]? = some x → vs[i]? = some v → kindOf x = some .local →
    bindL kindOf (P.zip vs) m x = some v
  | [], _, _, _, _, h, _, _ => by simp at h
  | _ :: _, [], _, _, _, _, h, _ => by simp at h
  | p :: P, w :: vs, 0, m, nd, h1, h2, hk => by
    simp at h1 h2; subst h1; subst h2
    show bindL kindOf ((p, w) :: P.zip vs) m p = _
    unfold bindL
    rw [bindL_out fun v hv => (List.nodup_cons.mp nd).1 (List.of_mem_zip hv).1, if_pos hk]
    simp
  | p :: P, w :: vs, i + 1, m, nd, h1, h2, hk => by
    show bindL kindOf ((p, w) :: P.zip vs) m x = _
    unfold bindL
    exact bindL_get (i := i) (List.nodup_cons.mp nd).2 (by simpa using h1) (by simpa using h2) hk
theorem bindC_get {kindOf : Str → Option NameKind} {x : Str} {v : Value} : ∀ {P : List Str} {vs : List Value} {i : Nat} {m : Str → Option Value}, P.Nodup → P[i]? = some x → vs[i]? = some v → kindOf x ≠ some .local →
    bindC kindOf (P.zip vs) m x = some v
  | [], _, _, _, _, h, _, _ => by simp at h
  | _ :: _, [], _, _, _, _, h, _ => by simp at h
  | p :: P, w :: vs, 0, m, nd, h1, h2, hk => by
    simp at h1 h2; subst h1; subst h2
    show bindC kindOf ((p, w) :: P.zip vs) m p = _
    unfold bindC
    rw [bindC_out fun v hv => (List.nodup_cons.mp nd).1 (List.of_mem_zip hv).1, if_neg hk]
    simp
  | p :: P, w :: vs, i + 1, m, nd, h1, h2, hk => by
    show bindC kindOf ((p, w) :: P.zip vs) m x = _
    unfold bindC
    exact bindC_get (i := i) (List.nodup_cons.mp nd).2 (by simpa using h1) (by simpa using h2) hk

/-- the names' values at the entry -/
def start (N : List Str) (vs : List V) : St := vs.map some ++ List.replicate (N.length - vs.length) none

/-- the context of a def's body, at its entry; an exception leaves the frame, then lies as CX says -/
def cxOf (CX : CXT) (P : Program) (w : World) (K : PySem.W.Frag) (mg : Str → Option Value) (base : Heap) (N : List Str) (qual : Str) (scope : Scope) (f : Addr) (cd : Value) (A : Around) (outer : List Env) (s : Shared) (H : Hp) (E : XK) : Cx where
  prog := P
  w := w
  K := K
  mg := mg
  base := base
  A := A.deeper (envOfC qual scope s.heap.objs.size f cd)
  N := N
  s₀ := s
  H₀ := H
  env := envOfC qual scope s.heap.objs.size f cd
  outer := outer
  stack := envOfC qual scope s.heap.objs.size f cd :: outer
  ex := []
  calm := true
  fn := fun _ => true
  pn := []
  xe := fun e s' => wpAny (model P w) (A.deeper (envOfC qual scope s.heap.objs.size f cd)) (leaving (envOfC qual scope s.heap.objs.size f cd) e) (fun _ s'' => CX outer H s E e s'') (fun e' s'' => CX outer H s E e' s'') s'

theorem cell_has {sc : Scope} {n : Nat} {x : Str} (h : sc.names.lookup x = some .cell) : ∃ c, (cellsFrom n sc.names []).lookup x = some c := by
  have q := PySem.W.cellsFrom_some sc.names n [] (.inl h)
  exact Option.isSome_iff_exists.mp q

theorem inv_start {CX : CXT} {P : Program} {w : World} {K : PySem.W.Frag} {mg : Str → Option Value} {base : Heap} {N ps : List Str} {qual : Str} {scope : Scope} {f : Addr} {cd : Value} {A : Around} {outer : List Env} {s s1 : Shared} {H : Hp} {E : XK} {us : List Value} {vs : List V}
    (S : FnScope N ps scope) (hd : A.handled = none) (e0 : Env0 P w K mg base A outer s H) (hl : vs.length = ps.length) (r : Vals vs us)
    (x : InCallC s s.heap.objs.size (bindL (envOfC qual scope s.heap.objs.size f cd).kindOf (ps.zip us) fun _ => none) (cellsFrom (s.heap.objs.size + 1) scope.names []) (bindC (envOfC qual scope s.heap.objs.size f cd).kindOf (ps.zip us) fun _ => none) s1) :
    Inv (cxOf CX P w K mg base N qual scope f cd A outer s H E) [] (start N vs) H s1 := by
  have hpl : ps.length ≤ N.length := by have := congrArg List.length S.pre; rw [List.length_take] at this; omega
  obtain ⟨h1, tk, rfl, hk⟩ := x.done
  have noA : ∀ b : Addr, b ∉ (cxOf CX P w K mg base N qual scope f cd A outer s H E).ex := fun b z => absurd (show b ∈ ([] : List Addr) from z) (by simp)
  refine ⟨⟨e0.mod, S.kind, rfl, rfl, Nat.le_refl _, fun y z c h1 h2 => ?_, fun y hy => ?_, fun y c _ h => ?_, fun _ => hd, Around.frames_deeper e0.frames, .inr ⟨rfl, rfl⟩, fun b z => absurd z (noA b), e0.bs, e0.bsz, fun b _ _ => noA b, fun b z => absurd z (noA b), e0.funs, e0.frf⟩,
    rfl, e0.bare, Un.kept hk, ⟨_, x.toInCall.ns, fun i y v h1 h2 h3 => ?_⟩, fun y c h => ⟨_, x.cell y c h⟩, e0.hok.fresh (Nat.le_refl _), fun y c h => ?_, fun p hp => absurd (show p ∈ ([] : List (Addr × Obj)) from hp) (by simp), e0.hok.kept hk, ?_⟩
  · exact name_of_addr x.apart (PySem.mem_of_lookup h1) (PySem.mem_of_lookup h2)
  · have hy : scope.names.lookup y = some .cell ∨ scope.names.lookup y = some .free := hy
    rcases hy with hy | hy
    · exact cell_has hy
    · exact absurd rfl (S.nofree _ (PySem.mem_of_lookup hy))
  · exact Nat.le_of_lt (x.above y c (PySem.mem_of_lookup h))
  · have hi : i < vs.length := by
      unfold start at h2
      by_cases hi : i < vs.length
      · exact hi
      · rw [List.getElem?_append_right (by simpa using hi)] at h2
        rw [List.getElem?_replicate] at h2
        split at h2 <;> cases h2
    have ha : vs[i]? = some v := by
      unfold start at h2
      rw [List.getElem?_append_left (by simpa using hi), List.getElem?_map] at h2
      cases e : vs[i]? with
      | none => rw [e] at h2; cases h2
      | some a => rw [e] at h2; cases h2; rfl
    obtain ⟨u, hu, rv⟩ := r.get ha
    have hp : ps[i]? = some y := by
      rw [← S.pre, List.getElem?_take_of_lt (by omega)]; exact h1
    have ndP : ps.Nodup := by rw [← S.pre]; exact S.nd.sublist (List.take_sublist _ _)
    refine ⟨u, rv, ?_⟩
    rcases S.par y (List.mem_of_getElem? hp) with k | k
    · exact .inl ⟨k, bindL_get ndP hp hu k⟩
    · obtain ⟨c, e⟩ := cell_has (n := s.heap.objs.size + 1) k
      refine .inr ⟨.inl k, c, e, ?_⟩
      have q := x.cell y c e
      rw [bindC_get ndP hp hu (by show scope.names.lookup y ≠ _; rw [k]; decide)] at q
      exact q
  · exact e0.hok.fresh (Nat.le_of_lt (x.above y c (PySem.mem_of_lookup h)))
  · unfold start
    show _ = N.length
    rw [List.length_append, List.length_map, List.length_replicate]
    omega

/-- THE RULE: a def (or a method) of the text, by its body. The body's reading t is chosen for each entry; it is run at the parameters' values -/
theorem fn_of {CX : CXT} {P : Program} {w : World} {K : PySem.W.Frag} {mg : Str → Option Value} {base : Heap} {k : Nat} {f : Addr} {name qual : Str} {params : Arguments} {body : List Stmt} {scope : Scope} {dV kV doc pm cdv ct oc : Value} {an od : Option Addr}
    {osl : Array (Option Value)} {N ps : List Str} {sp : Sp} (lk : K.lookup f = some ⟨oc, od, .func (PySem.W.fnOf name qual params body scope dV kV doc pm an cdv ct), osl⟩) (hcd : PySem.W.codeIn K cdv qual = true) (S : FnScope N ps scope)
    (len : ∀ vs H Q E, sp vs H Q E → vs.length = ps.length)
    (hbody : ∀ (A : Around) (outer : List Env) (s : Shared) (H : Hp) (vs : List V) (Q : VK) (E : XK), Room k (A.deeper (envOfC qual scope s.heap.objs.size f cdv)) → sp vs H Q E →
      ∃ t, PSs (cxOf CX P w K mg base N qual scope f cdv A outer s H E) body t ∧ t { nx := fun _ H' => Q .non H', rt := Q } (start N vs) H) :
    FnOk P w K mg base CX (k + 1) f (PySem.W.fnOf name qual params body scope dV kV doc pm an cdv ct) ps sp := by
  refine ⟨len, fun A outer s H args us vs Q E hr e0 hb r hsp => ?_⟩
  have hl := len _ _ _ _ hsp
  have KX : K.In s.heap := e0.mod.kin.keeps fun b o e => (e0.bs b o e).1
  have lim : s.heap.NoLimit := e0.mod.nolimit.keeps fun b o e => (e0.bs b o e).1
  have hkind : ∀ y ∈ ps.zip us, scope.names.lookup y.1 = some .local ∨ (scope.names.lookup y.1 = some .cell ∧ ((cellsFrom (s.heap.objs.size + 1) scope.names []).lookup y.1).isSome = true) := fun ⟨n, v⟩ hy => by
    rcases S.par n (List.of_mem_zip hy).1 with q | q
    · exact .inl q
    · exact .inr ⟨q, PySem.W.cellsFrom_some _ _ _ (.inl q)⟩
  refine codeAny_call_function hr.depth (KX _ _ lk) rfl S.co S.gen rfl (PySem.W.codeRec_of KX hcd) (hb _ _ _ _ ?_)
  refine wpAny_newFunctionEnv_cells S.kind hkind fun env he s1 x => ?_
  subst he
  refine ⟨lim.keeps x.toInCall.keep, codeAny_func ?_⟩
  obtain ⟨t, ht, hq⟩ := hbody A outer s H vs Q E (hr.deeper _) hsp
  have I : Inv (cxOf CX P w K mg base N qual scope f cdv A outer s H E) [] (start N vs) H s1 := inv_start S hr.hd e0 hl r x
  refine wpAny_mono (ht [] s1 (start N vs) H _ I hq) (fun fl s' hs => ?_) fun e s' hs => hs
  have fin : ∀ {σ' : St} {H' : Hp} {v : V} {u : Value}, Inv (cxOf CX P w K mg base N qual scope f cdv A outer s H E) [] σ' H' s' → RelV v u → Q v H' → CE outer P w H s Q u s' :=
    fun {σ' H' v u} J rv q => ⟨v, H', J.os, J.bare, J.base, J.hok, rv, q⟩
  cases fl with
  | ret u =>
    obtain ⟨v, σ', H', J, rv, q⟩ := hs
    exact fin J rv q
  | next =>
    obtain ⟨σ', H', J, q⟩ := hs
    exact fin (v := V.non) (u := Value.none) J rfl q
  | brk =>
    obtain ⟨_, _, _, q⟩ := hs
    exact False.elim q
  | cont =>
    obtain ⟨_, _, _, q⟩ := hs
    exact False.elim q
end L2

namespace L2
open PySem PySem.Spec PyProof.Rows
section
variable {X : Cx} {x : Str} {p pos : Pos} {e : Expr} {es : List Expr} {t : TA} {id T : String} {r : List V → Hp → VK → Prop}

def tCB (r : List V → Hp → VK → Prop) (t : TA) : TE := fun σ H Q => t σ H fun vs H1 => r vs H1 Q
/-- f(e, ..), f a built-in function -/
theorem pe_callB (hc : CallR X (.builtin id) r) (hg : Gl X x) (hm : X.mg x = none) (hv : bootBuiltins x = some (.builtin id)) (ha : PA X (e :: es) t) (hn : x ≠ "__name__" := by decide) (hdb : (x == ("__debug__" : Str)) = false := by decide)
    (he : starEach (e :: es) X.env = (false, eval e X.env) :: starEach es X.env := by rfl) (hpl : (backTo pos (starEach es X.env)).any (·.1) = false := by rfl) : PE X (.Call (.Name x p) (e :: es) [] pos) (tCB r t) := by
  intro pins s σ H Q I h
  refine wpAny_Call_Name_kw (ld_blt I hg hm hv ?_ hn hdb)
  exact PyProof.Rows.callWith_builtin1 (thn (ha pos pins s σ H _ I h) fun us s1 ⟨vs, H1, I1, r1, q1⟩ => hc pins s1 σ H1 vs us Q I1 r1 q1) he hpl
/-- T(e, ..), T a built-in type -/
theorem pe_callTy (hc : CallR X (.type T) r) (hg : Gl X x) (hm : X.mg x = none) (hv : bootBuiltins x = some (.type T)) (ha : PA X (e :: es) t) (hn : x ≠ "__name__" := by decide) (hdb : (x == ("__debug__" : Str)) = false := by decide)
    (he : starEach (e :: es) X.env = (false, eval e X.env) :: starEach es X.env := by rfl) (hpl : (backTo pos (starEach es X.env)).any (·.1) = false := by rfl) : PE X (.Call (.Name x p) (e :: es) [] pos) (tCB r t) := by
  intro pins s σ H Q I h
  refine wpAny_Call_Name_kw (ld_blt I hg hm hv ?_ hn hdb)
  exact PyProof.Rows.callWith_type1 (thn (ha pos pins s σ H _ I h) fun us s1 ⟨vs, H1, I1, r1, q1⟩ => hc pins s1 σ H1 vs us Q I1 r1 q1) he hpl
end
end L2

namespace HT
open PySem PyProof.Rows

/-- t < u of tuples of ints -/
def lexLt : List Int → List Int → Bool
  | [], [] => false
  | [], _ :: _ => true
  | _ :: _, [] => false
  | x :: xs, y :: ys => if x = y then lexLt xs ys else decide (x < y)
section
open PySem.SeqAt
open PySem.AutoSeq1 (wpAny_loadPart')
open PySem.MeetsSeq PySem.MeetsSeq2 PySem.MeetsSeq3

end

section
variable {prog : Program} {w : World} {A : Around} {E : Value → Shared → Prop} {s : Shared}

/-! ### t[a:b], not the whole -/
/-- a slice's bound as a place among n (d where it is left out) -/
def sIx (n d : Nat) : Option Int → Nat
  | none => d
  | some v => if v < 0 then (v + (n : Int)).toNat else min v.toNat n
theorem sIx_none (n d : Nat) : sIx n d none = d := rfl
theorem sIx_nat (n d k : Nat) : sIx n d (some (k : Int)) = min k n := by
  show (if (k : Int) < 0 then ((k : Int) + (n : Int)).toNat else min (k : Int).toNat n) = min k n
  rw [if_neg (by omega), Int.toNat_natCast]
theorem sIx_le (n d : Nat) (hd : d ≤ n) (o : Option Int) : sIx n d o ≤ n := by
  cases o with
  | none => exact hd
  | some v =>
    show (if v < 0 then (v + (n : Int)).toNat else min v.toNat n) ≤ n
    by_cases hv : v < 0
    · rw [if_pos hv]; omega
    · rw [if_neg hv]; exact Nat.min_le_right _ _
theorem clip_eq (v : Int) (n d : Nat) : (if v < 0 then max (v + (n : Int)) 0 else min v (n : Int)) = ((sIx n d (some v) : Nat) : Int) := by
  show (if v < 0 then max (v + (n : Int)) 0 else min v (n : Int)) = (((if v < 0 then (v + (n : Int)).toNat else min v.toNat n) : Nat) : Int)
  by_cases hv : v < 0
  · simp only [if_pos hv]; omega
  · simp only [if_neg hv]; omega
theorem adjust_gen (lo hi : Option Int) (n : Nat) : Builtin.Slice.sliceAdjust lo hi 1 (n : Int) = (((sIx n 0 lo : Nat) : Int), ((sIx n n hi : Nat) : Int)) := by
  have h1 : ¬ ((1 : Int) < 0) := by omega
  unfold Builtin.Slice.sliceAdjust
  simp only [h1, if_false]
  refine Prod.ext ?_ ?_
  · cases lo with
    | none => rfl
    | some v => exact clip_eq v n 0
  · cases hi with
    | none => rfl
    | some v => exact clip_eq v n n
theorem places_gen (i j : Nat) : Builtin.Slice.slicePlaces (i : Int) (j : Int) 1 = j - i := by
  unfold Builtin.Slice.slicePlaces
  have h1 : (1 : Int) > 0 := by omega
  simp only [h1, if_true, Int.ediv_one]
  split <;> omega
theorem slicePart_ {v : Value} {o : Option Int} {Q : Option Int → Shared → Prop} (p : IsPart v o) (h : Q o s) : wpAny (model prog w) A (Builtin.Slice.slicePartIndex v) Q E s := by
  cases p with
  | none => exact slicePart_none h
  | int i t => exact slicePart_int h
theorem sliceApplied_gen {sl : Addr} {vl vu : Value} {lo hi : Option Int} {n : Nat} {Q : Int × Int × Nat → Shared → Prop} (hs : s.heap.IsSliceOf sl vl vu .none) (pl : IsPart vl lo) (pu : IsPart vu hi)
    (h : Q (((sIx n 0 lo : Nat) : Int), 1, sIx n n hi - sIx n 0 lo) s) : wpAny (model prog w) A (Builtin.Slice.sliceApplied (.ref sl) (pure (n : Int))) Q E s := by
  obtain ⟨os, hos, hcs, hds⟩ := id hs
  unfold Builtin.Slice.sliceApplied Builtin.Slice.sliceFields
  refine wpAny_bind (wpAny_bind (wpAny_field hos hds (x := vl) rfl (wpAny_bind (wpAny_field hos hds (x := vu) rfl (wpAny_bind (wpAny_field hos hds (x := .none) rfl (wpAny_pure ?_)))))))
  refine wpAny_bind (slicePart_none ?_)
  show wpAny _ _ (if ((1 : Int) == 0) = true then _ else _) _ _ s
  rw [if_neg (by decide)]
  refine wpAny_bind (slicePart_ pl (wpAny_bind (slicePart_ pu (wpAny_bind (wpAny_pure ?_)))))
  show wpAny _ _ (match Builtin.Slice.sliceAdjust lo hi 1 (n : Int) with | (lo, hi) => pure (lo, (1 : Int), Builtin.Slice.slicePlaces lo hi 1)) _ _ s
  rw [adjust_gen lo hi n]
  show wpAny _ _ (pure (((sIx n 0 lo : Nat) : Int), (1 : Int), Builtin.Slice.slicePlaces ((sIx n 0 lo : Nat) : Int) ((sIx n n hi : Nat) : Int) 1)) _ _ s
  rw [places_gen]
  exact wpAny_pure h
theorem pick_gen (xs : Array Value) (i k : Nat) : ((List.range k).filterMap fun (m : Nat) => xs[((i : Int) + (m : Int) * 1).toNat]?).toArray = ((xs.toList.drop i).take k).toArray := by
  have e : (fun (m : Nat) => xs[((i : Int) + (m : Int) * 1).toNat]?) = fun m => xs[i + m]? := by
    funext m
    have : ((i : Int) + (m : Int) * 1).toNat = i + m := by omega
    rw [this]
  rw [e]
  have := pick_run xs i k
  rw [List.filterMap_map] at this
  have e2 : ((fun x => xs[x]?) ∘ fun x => i + x) = fun m => xs[i + m]? := rfl
  rw [e2] at this
  rw [this]

theorem getItem_tuple_cut {t sl : Addr} {items : Array Value} {vl vu : Value} {lo hi : Option Int} {Q : Value → Shared → Prop} (ht : IsTup s.heap t items) (hs : s.heap.IsSliceOf sl vl vu .none) (pl : IsPart vl lo) (pu : IsPart vu hi)
    (hw : ¬ (sIx items.size 0 lo = 0 ∧ sIx items.size items.size hi = items.size))
    (h : Q (.ref s.heap.objs.size) { s with heap := s.heap.push { cls := .type "tuple", data := .seq ((items.toList.drop (sIx items.size 0 lo)).take (sIx items.size items.size hi - sIx items.size 0 lo)).toArray } })
    (hsz : items.size ≤ sizeLine) : wpAny (model prog w) A (getItem (.ref t) (.ref sl)) Q E s := by
  have htake : sizeOk (.seq ((items.toList.drop (sIx items.size 0 lo)).take (sIx items.size items.size hi - sIx items.size 0 lo)).toArray) := by
    show ((items.toList.drop (sIx items.size 0 lo)).take (sIx items.size items.size hi - sIx items.size 0 lo)).toArray.size ≤ sizeLine
    rw [List.size_toArray, List.length_take, List.length_drop, Array.length_toList]
    omega
  have hj : sIx items.size items.size hi ≤ items.size := sIx_le _ _ (Nat.le_refl _) hi
  obtain ⟨os, hos, hcs, hds⟩ := id hs
  have hTs : s.TypeIs (.ref sl) "slice" := ⟨os, hos, hcs⟩
  unfold getItem
  try with_reducible refine wpAny_holding ?_
  first | refine wpAny_bind (wpAny_pure ?_) | skip
  refine wpAny_bind (wpAny_sequenceKey ht.typeIs (by decide) ?_)
  refine wpAny_bind (wpAny_callSpecial?_slot (name := Str.ofString "__getitem__") ht.typeIs PyProof.Rows.slot_tuple_getitem
    (wpAny_call_entry PyProof.Rows.slot_tuple_getitem ht.typeIs entry_tuple_getitem ?_ (args_tuple_getitem _ _)))
  show wpAny _ _ (Builtin.Tuple.tupleItemsOf (.ref t) >>= _) _ _ s
  refine wpAny_bind (tupleItemsOf_ ht ?_)
  refine wpAny_bind (wpAny_typeOf hTs ?_)
  rw [if_pos (by decide)]
  refine wpAny_bind (sliceApplied_gen hs pl pu ?_)
  have hno : ¬ ((((sIx items.size 0 lo : Nat) : Int) == 0 && (1 : Int) == 1 && (sIx items.size items.size hi - sIx items.size 0 lo) == items.size) = true) := by
    intro q
    rw [Bool.and_eq_true, Bool.and_eq_true] at q
    have q1 : ((sIx items.size 0 lo : Nat) : Int) = 0 := eq_of_beq q.1.1
    have q2 : sIx items.size items.size hi - sIx items.size 0 lo = items.size := eq_of_beq q.2
    exact hw ⟨by omega, by omega⟩
  show wpAny _ _ (if (((sIx items.size 0 lo : Nat) : Int) == 0 && (1 : Int) == 1 && (sIx items.size items.size hi - sIx items.size 0 lo) == items.size) = true then _ else _) _ _ s
  rw [if_neg hno, pick_gen]
  first
    | exact wpAny_bind (m := Builtin.Tuple.tupleExact _) (wpAny_newObj_type (wpAny_pure ⟨_, rfl, wpAny_pure h⟩) htake)
    | exact wpAny_bind (m := Builtin.Tuple.tupleExact _) (wpAny_newObj_type (wpAny_bind (wpAny_pure (wpAny_pure ⟨_, rfl, wpAny_pure h⟩))) htake)
    | exact wpAny_bind (wpAny_bind (m := Builtin.Tuple.tupleExact _) (wpAny_newObj_type (wpAny_pure (wpAny_pure ⟨_, rfl, wpAny_pure h⟩)) htake))
    | exact wpAny_bind (wpAny_bind (m := Builtin.Tuple.tupleExact _) (wpAny_newObj_type (wpAny_pure ⟨_, rfl, wpAny_pure h⟩) htake))
end
end HT

namespace L2
open PySem PySem.Spec PyProof.Rows

/-! ### the parts of a slice -/
abbrev TO := St → Hp → (Option Int → Hp → Prop) → Prop
/-- a slice's part (left out, or an int) -/
def PO (X : Cx) (e : Option Expr) (t : TO) : Prop :=
  ∀ (pins : List (Addr × Obj)) (s : Shared) (σ : St) (H : Hp) (Q : Option Int → Hp → Prop), Inv X pins σ H s → t σ H Q →
    wpAny (model X.prog X.w) X.A (evalPart e X.env) (fun u s' => ∃ o H', Inv X pins σ H' s' ∧ IsPart u o ∧ Q o H') X.xe s
def tNoPart : TO := fun _ H Q => Q none H
def tPart (t : TE) : TO := fun σ H Q => t σ H fun x H1 => ∃ i, x = .int i ∧ Q (some i) H1

section
variable {X : Cx} {e : Expr} {te : TE} {lo hi : Option Expr} {tl th : TO} {pos p2 : Pos}

theorem po_none : PO X none tNoPart := by
  intro pins s σ H Q I h
  rw [evalPart_none]
  exact wpAny_pure ⟨none, H, I, .none, h⟩
theorem po_some (h : PE X e te) : PO X (some e) (tPart te) := by
  intro pins s σ H Q I hw
  rw [evalPart_some]
  refine thn (h pins s σ H _ I hw) fun u s1 ⟨x, H1, I1, r1, q1⟩ => ?_
  obtain ⟨i, rfl, q⟩ := q1
  obtain ⟨t, rfl⟩ := r1
  exact ⟨some i, H1, I1, .int i t, q⟩

/-- what a slice of a value is, by values: the slice object stands at sl -/
def SlR (X : Cx) (r : V → Option Int → Option Int → Hp → VK → Prop) : Prop :=
  ∀ (pins : List (Addr × Obj)) (s : Shared) (σ : St) (H : Hp) (x : V) (v vl vu : Value) (lo hi : Option Int) (sl : Addr) (Q : VK), Inv X pins σ H s → RelV x v → s.heap.IsSliceOf sl vl vu .none → IsPart vl lo → IsPart vu hi → r x lo hi H Q →
    ∃ T id, typeLookup (.type T) "__getitem__" = pure (some (.builtin id)) ∧ s.TypeIs v T ∧ wpAny (model X.prog X.w) X.A (getItem v (.ref sl)) (EP X pins σ Q) X.xe s
theorem SlR.or {r r' : V → Option Int → Option Int → Hp → VK → Prop} (h : SlR X r) (h' : SlR X r') : SlR X (fun x lo hi H Q => r x lo hi H Q ∨ r' x lo hi H Q) := by
  intro pins s σ H x v vl vu lo hi sl Q I rx hs pl pu q
  rcases q with q | q
  · exact h pins s σ H x v vl vu lo hi sl Q I rx hs pl pu q
  · exact h' pins s σ H x v vl vu lo hi sl Q I rx hs pl pu q
def tSl (r : V → Option Int → Option Int → Hp → VK → Prop) (te : TE) (tl th : TO) : TE := fun σ H Q => te σ H fun x H1 => tl σ H1 fun l H2 => th σ H2 fun u H3 => r x l u H3 Q
/-- a[lo:hi], any a -/
theorem pe_slice {r : V → Option Int → Option Int → Hp → VK → Prop} (hr : SlR X r) (he : PE X e te) (hl : PO X lo tl) (hu : PO X hi th) : PE X (.Subscript e (.Slice lo hi none p2) pos) (tSl r te tl th) := by
  intro pins s σ H Q I h
  refine Subscript_ (thn (he pins s σ H _ I h) fun v s1 ⟨x, H1, I1, r1, q1⟩ => ?_)
  refine wpAny_Slice (thn (hl pins s1 σ H1 _ I1 q1) fun vl s2 ⟨l, H2, I2, pl, q2⟩ => thn (hu pins s2 σ H2 _ I2 q2) fun vu s3 ⟨u, H3, I3, pu, q3⟩ => ?_)
  rw [evalPart_none]
  refine wpAny_pure ?_
  have I4 : Inv X pins σ H3 { s3 with heap := s3.heap.push { cls := .type "slice", data := .fields #[vl, vu, .none] } } := I3.kept (t' := s3.toks) fun b ob q => Heap.get?_push_of_some _ q
  obtain ⟨T, id, hT, ht, hg⟩ := hr pins { s3 with heap := s3.heap.push { cls := .type "slice", data := .fields #[vl, vu, .none] } } σ H3 x v vl vu l u s3.heap.objs.size Q I4 r1 (Heap.IsSliceOf.new ..) pl pu q3
  show wpAny (model X.prog X.w) X.A (subscriptTail e (.Slice lo hi none p2) v (.ref s3.heap.objs.size)) (EP X pins σ Q) X.xe { s3 with heap := s3.heap.push { cls := .type "slice", data := .fields #[vl, vu, .none] } }
  exact tail_any (ops := [.ref s3.heap.objs.size, v]) ht hT hg (by with_unfolding_all rfl)

/-- the items of xs[lo:hi] -/
def cutV (xs : List V) (lo hi : Option Int) : List V := (xs.drop (HT.sIx xs.length 0 lo)).take (HT.sIx xs.length xs.length hi - HT.sIx xs.length 0 lo)
theorem cutV_length (xs : List V) (lo hi : Option Int) : (cutV xs lo hi).length ≤ xs.length := by
  unfold cutV
  rw [List.length_take, List.length_drop]
  omega
/-- t[lo:hi], not the whole of it (the whole would be t itself) -/
def rSlT (K : PySem.W.Frag) : V → Option Int → Option Int → Hp → VK → Prop := fun x lo hi H Q => ∃ a xs, x = .ref a ∧ SqT K H a xs ∧
  ¬ (HT.sIx xs.length 0 lo = 0 ∧ HT.sIx xs.length xs.length hi = xs.length) ∧ ∀ p, H p = none → Q (.ref p) (upd H p (.tup (cutV xs lo hi)))
theorem sl_tup : SlR X (rSlT X.K) := by
  intro pins s σ H x v vl vu lo hi sl Q I rx hs pl pu h
  obtain ⟨a, xs, rfl, hx, hw, q⟩ := h
  cases rx
  obtain ⟨its, r, ht, hz⟩ := I.tuple hx
  have hlen : its.toArray.size = xs.length := by rw [List.size_toArray]; exact r.length.symm
  refine ⟨"tuple", _, PyProof.Rows.slot_tuple_getitem.lookup, ht.typeIs, ?_⟩
  refine HT.getItem_tuple_cut ht hs pl pu (by rw [hlen]; exact hw) ?_ (by rw [hlen]; exact hz)
  rw [hlen]
  refine ⟨.ref s.heap.objs.size, _, I.laid (t' := s.toks) (o := .tup (cutV xs lo hi)) (fun b ob q => Heap.get?_push_of_some _ q) (Nat.le_refl _) ?_, rfl, q _ (I.hok.fresh (Nat.le_refl _))⟩
  exact ⟨Nat.le_trans (cutV_length xs lo hi) hz, _, (r.drop (HT.sIx xs.length 0 lo)).take (HT.sIx xs.length xs.length hi - HT.sIx xs.length 0 lo), IsTup.new _ _⟩

/-! ### t < u, t + u -/
def rLtT (K : PySem.W.Frag) : R2 := fun x y H Q => ∃ a b ns ms, x = .ref a ∧ y = .ref b ∧ SqT K H a (ns.map V.int) ∧ SqT K H b (ms.map V.int) ∧ Q (.bl (HT.lexLt ns ms)) H
/-- t + u, t not empty: u empty gives t itself -/
def rCatT (K : PySem.W.Frag) : R2 := fun x y H Q => ∃ a b xs ys, x = .ref a ∧ y = .ref b ∧ SqT K H a xs ∧ SqT K H b ys ∧ xs ≠ [] ∧ xs.length + ys.length ≤ sizeLine ∧
  (ys = [] → Q (.ref a) H) ∧ (ys ≠ [] → ∀ p, H p = none → Q (.ref p) (upd H p (.tup (xs ++ ys))))
end
end L2

namespace L2
open PySem PySem.Spec PyProof.Rows

/-! ### places -/
/-- the place that an index of any sign means -/
def ixN (n : Nat) (i : Int) : Option Nat := if 0 ≤ i then (if i < n then some i.toNat else none) else if -(n : Int) ≤ i then some (i + n).toNat else none
def atI {α : Type} (xs : List α) (i : Int) : Option α := (ixN xs.length i).bind fun j => xs[j]?
theorem ixN_seq {n : Nat} {i : Int} {j : Nat} (h : ixN n i = some j) : seqIndex? i n = some j ∧ j < n ∧ -(n : Int) ≤ i ∧ i < n := by
  unfold ixN at h
  by_cases h0 : 0 ≤ i
  · rw [if_pos h0] at h
    by_cases h1 : i < n
    · rw [if_pos h1] at h
      have e : i.toNat = j := Option.some.inj h
      exact ⟨by rw [seqIndex_of h0 h1, e], by omega, by omega, h1⟩
    · rw [if_neg h1] at h; cases h
  · rw [if_neg h0] at h
    by_cases h1 : -(n : Int) ≤ i
    · rw [if_pos h1] at h
      have e : (i + n).toNat = j := Option.some.inj h
      exact ⟨by rw [seqIndex_neg (by omega) h1, e], by omega, h1, by omega⟩
    · rw [if_neg h1] at h; cases h
theorem atI_get {α : Type} {xs : List α} {i : Int} {v : α} (h : atI xs i = some v) : ∃ j, seqIndex? i xs.length = some j ∧ xs[j]? = some v ∧ j < xs.length ∧ -(xs.length : Int) ≤ i ∧ i < xs.length := by
  unfold atI at h
  cases e : ixN xs.length i with
  | none => rw [e] at h; cases h
  | some j =>
    rw [e] at h
    obtain ⟨h1, h2, h3, h4⟩ := ixN_seq e
    exact ⟨j, h1, h, h2, h3, h4⟩
theorem atI_nat {α : Type} {xs : List α} {j : Nat} {v : α} (h : xs[j]? = some v) : atI xs (j : Int) = some v := by
  have hj : j < xs.length := (List.getElem?_eq_some_iff.mp h).1
  have e : ixN xs.length (j : Int) = some j := by
    unfold ixN
    rw [if_pos (by omega), if_pos (by omega)]; simp
  unfold atI; rw [e]; exact h
/-! ### what may be subscripted -/
/-- what stands as an index of a plain subscript -/
def PlainIx (b : Expr) : Prop := ∀ o i, subscripted b false o i = operate [o, i] (getItem o i)
/-- a subscript by values -/
def IxR (X : Cx) (r : R2) : Prop :=
  ∀ (value slice : Expr) (pins : List (Addr × Obj)) (s : Shared) (σ : St) (H : Hp) (x y : V) (v u : Value) (Q : VK), Inv X pins σ H s → RelV x v → RelV y u → r x y H Q →
    subscripted slice false v u = operate [v, u] (getItem v u) → wpAny (model X.prog X.w) X.A (subscriptTail value slice v u) (EP X pins σ Q) X.xe s
/-- a call of a builtin's method by values: the receiver, the arguments -/
def MtR (X : Cx) (id : String) (r : V → List V → Hp → VK → Prop) : Prop :=
  ∀ (pins : List (Addr × Obj)) (s : Shared) (σ : St) (H : Hp) (x : V) (xs : List V) (v : Value) (us : List Value) (Q : VK), Inv X pins σ H s → RelV x v → Vals xs us → r x xs H Q →
    wpAny (model X.prog X.w) X.A (call (.builtin id) (v :: us)) (EP X pins σ Q) X.xe s
section
variable {X : Cx} {a b : Expr} {ta tb : TE} {pos : Pos}
theorem IxR.or {r r' : R2} (h : IxR X r) (h' : IxR X r') : IxR X (fun x y H Q => r x y H Q ∨ r' x y H Q) := by
  intro value slice pins s σ H x y v u Q I rx ry q hs
  rcases q with q | q
  · exact h value slice pins s σ H x y v u Q I rx ry q hs
  · exact h' value slice pins s σ H x y v u Q I rx ry q hs
theorem MtR.or {id : String} {r r' : V → List V → Hp → VK → Prop} (h : MtR X id r) (h' : MtR X id r') : MtR X id (fun x xs H Q => r x xs H Q ∨ r' x xs H Q) := by
  intro pins s σ H x xs v us Q I rx rs q
  rcases q with q | q
  · exact h pins s σ H x xs v us Q I rx rs q
  · exact h' pins s σ H x xs v us Q I rx rs q
/-- a[b] -/
theorem pe_ix {r : R2} (hr : IxR X r) (ha : PE X a ta) (hb : PE X b tb) (hs : PlainIx b) : PE X (.Subscript a b pos) (tOp r ta tb) := by
  intro pins s σ H Q I h
  exact Subscript_ (binT ha hb I h fun v u s2 x y H2 I2 rx ry q => hr a b pins s2 σ H2 x y v u Q I2 rx ry q (hs _ _))

def rIxL (K : PySem.W.Frag) : R2 := fun x y H Q => ∃ p xs i v, x = .ref p ∧ y = .int i ∧ SqL K H p xs ∧ atI xs i = some v ∧ Q v H
def rIxT (K : PySem.W.Frag) : R2 := fun x y H Q => ∃ p xs i v, x = .ref p ∧ y = .int i ∧ SqT K H p xs ∧ atI xs i = some v ∧ Q v H
def rIxS : R2 := fun x y H Q => ∃ z i c, x = .str z ∧ y = .int i ∧ z.length ≤ sizeLine ∧ atI z.cps.toList i = some c ∧ Q (.str ⟨#[c]⟩) H
theorem ix_list : IxR X (rIxL X.K) := by
  intro value slice pins s σ H x y v u Q I rx ry h hs
  obtain ⟨p, xs, i, z, rfl, rfl, hq, he, q⟩ := h
  cases rx
  obtain ⟨t, rfl⟩ := ry
  obtain ⟨its, r, pl, hz⟩ := I.list hq
  obtain ⟨j, h1, h2, h3, h4, h5⟩ := atI_get he
  obtain ⟨w, ew, rw'⟩ := r.get h2
  have hl := r.length
  have hn := line63
  have fin : EP X pins σ Q w s := ⟨z, H, I, rw', q⟩
  by_cases h0 : 0 ≤ i
  · have hj : i.toNat = j := by
      rw [seqIndex_of h0 h5] at h1
      exact Option.some.inj h1
    exact item_listR pl.isList h0 (by omega) (by rw [hj]; simpa using ew) fin hs
  · have hj : (i + (its.toArray.size : Int)).toNat = j := by
      rw [seqIndex_neg (by omega) h4] at h1
      rw [List.size_toArray, ← hl]
      exact Option.some.inj h1
    exact subscriptTail_builtinR (x := w) pl.isList.typeIs slot_list_getitem.lookup
      (wpAny_getItem_list_neg (Q := fun r s' => r = w ∧ EP X pins σ Q r s') pl.isList (by omega) (by rw [List.size_toArray] <;> omega) (by omega) (by rw [hj]; simpa using ew) ⟨rfl, fin⟩) hs
theorem ix_tup : IxR X (rIxT X.K) := by
  intro value slice pins s σ H x y v u Q I rx ry h hs
  obtain ⟨p, xs, i, z, rfl, rfl, hq, he, q⟩ := h
  cases rx
  obtain ⟨t, rfl⟩ := ry
  obtain ⟨its, r, pl, hz⟩ := I.tuple hq
  obtain ⟨j, h1, h2, h3, h4, h5⟩ := atI_get he
  obtain ⟨w, ew, rw'⟩ := r.get h2
  have hl := r.length
  have hn := line63
  have fin : EP X pins σ Q w s := ⟨z, H, I, rw', q⟩
  exact subscriptTail_builtinR (x := w) pl.typeIs slot_tuple_getitem.lookup
    (getItem_tuple (j := j) (Q := fun r s' => r = w ∧ EP X pins σ Q r s') pl (by omega) (by omega) (by rw [List.size_toArray, ← hl]; exact h1) (by simpa using ew) ⟨rfl, fin⟩) hs
theorem ix_str : IxR X rIxS := by
  intro value slice pins s σ H x y v u Q I rx ry h hs
  obtain ⟨z, i, c, rfl, rfl, hz, he, q⟩ := h
  obtain ⟨t, rfl⟩ := rx
  obtain ⟨t', rfl⟩ := ry
  obtain ⟨j, h1, h2, h3, h4, h5⟩ := atI_get he
  have hl : z.cps.toList.length = z.length := by simp [Str.length]
  rw [hl] at h1 h4 h5
  have hn := line63
  exact tail_any (typeIs_str s z t) slot_str_getitem.lookup (getItem_str (c := c) (by
    have e1 : decide (i < -(2 ^ 63 : Int)) = false := decide_eq_false (by omega)
    have e2 : decide (i ≥ 2 ^ 63) = false := decide_eq_false (by omega)
    rw [e1, e2, Bool.or_false]) (by rw [h1]; simpa using h2) ⟨.str ⟨#[c]⟩, H, I.tok _, ⟨_, rfl⟩, q⟩) hs
/-- list, tuple or str -/
def rIx (K : PySem.W.Frag) : R2 := fun x y H Q => rIxL K x y H Q ∨ rIxT K x y H Q ∨ rIxS x y H Q
/-! ### xs[i] = v, any sign -/
/-- the list's object behind a store -/
theorem mapSeq_set (its : List Value) (n j : Nat) (u : Value) : Obj.mapSeq (·.setIfInBounds j u) { cls := .type "list", data := .seq its.toArray n } = { cls := .type "list", data := .seq (its.set j u).toArray n } := by
  simp [Obj.mapSeq]
theorem Inv.lst {pins : List (Addr × Obj)} {σ : St} {H : Hp} {s : Shared} {p : Addr} {xs : List V} (I : Inv X pins σ H s) (h : H p = some (.lst xs)) :
    ∃ (its : List Value) (n : Nat), Vals xs its ∧ s.heap.get? p = some { cls := .type "list", data := .seq its.toArray n } ∧ xs.length ≤ sizeLine := by
  obtain ⟨z, its, n, r, e⟩ := I.hok p _ h
  exact ⟨its, n, r, e, z⟩
/-- the list at p is written by an update of its object -/
theorem Inv.lstUpd {pins : List (Addr × Obj)} {σ : St} {H : Hp} {s : Shared} {p : Addr} {xs ys : List V} {its its' : List Value} {n n' : Nat} {f : Obj → Obj} (I : Inv X pins σ H s) (h : H p = some (.lst xs))
    (ho : s.heap.get? p = some { cls := .type "list", data := .seq its.toArray n }) (hf : f { cls := .type "list", data := .seq its.toArray n } = { cls := .type "list", data := .seq its'.toArray n' }) (r : Vals ys its') (hz : ys.length ≤ sizeLine) (t : Nat) :
    Inv X pins σ (upd H p (.lst ys)) { s with heap := s.heap.update p f, toks := t } := by
  have e : (s.heap.update p f).get? p = some { cls := .type "list", data := .seq its'.toArray n' } := by
    rw [Heap.get?_update_self f ho (by rw [hf] <;> rfl), hf]
  refine I.write (x := p) (e := p) (by rw [h]; trivial) (.inl rfl) (fun b u hb q => (Heap.get?_update_other _ _ (Ne.symm hb)).trans q) ⟨_, e⟩ ?_
  exact ⟨hz, its', n', r, e⟩
def rSetL : V → V → V → Hp → (Hp → Prop) → Prop := fun o i v H Q => ∃ p xs k j, o = .ref p ∧ i = .int k ∧ H p = some (.lst xs) ∧ ixN xs.length k = some j ∧ Q (upd H p (.lst (xs.set j v)))
theorem set_list : PSet X rSetL := by
  intro pins s σ H o i v ov iv u Q I ro ri rv h
  obtain ⟨p, xs, k, j, rfl, rfl, hp, hj, q⟩ := h
  cases ro
  obtain ⟨t, rfl⟩ := ri
  obtain ⟨its, n, r, ho, hz⟩ := I.lst hp
  obtain ⟨h1, h2, h3, h4⟩ := ixN_seq hj
  have hl := r.length
  have hn := line63
  have I' : Inv X pins σ (upd H p (.lst (xs.set j v))) { s with heap := s.heap.update p (Obj.mapSeq (·.setIfInBounds j u)) } :=
    I.lstUpd hp ho (mapSeq_set its n j u) (r.set rv j) (by rw [List.length_set]; exact hz) s.toks
  by_cases h0 : 0 ≤ k
  · have hk : k.toNat = j := by
      rw [seqIndex_of h0 h4] at h1
      exact Option.some.inj h1
    exact PySem.W.ki_setAt ho h0 (by omega) (by rw [List.size_toArray, ← hl]; exact h4) (by rw [hk]; exact ⟨_, I', q⟩)
  · have hk : (k + (its.toArray.size : Int)).toNat = j := by
      rw [seqIndex_neg (by omega) h3] at h1
      rw [List.size_toArray, ← hl]
      exact Option.some.inj h1
    exact PySem.W.ki_setBack ho (by omega) (by rw [List.size_toArray, ← hl]; exact h3) (by omega) (by rw [hk]; exact ⟨_, I', q⟩)

/-! ### slices -/
theorem slice_bounds (lo hi : Option Int) (n : Nat) : (sliceBounds lo hi none n).1 = ((HT.sIx n 0 lo : Nat) : Int) ∧ (sliceBounds lo hi none n).2.1 = ((HT.sIx n n hi : Nat) : Int) ∧ (sliceBounds lo hi none n).2.2 = 1 := by
  refine ⟨?_, ?_, rfl⟩
  · cases lo with
    | none => simp [sliceBounds, HT.sIx]
    | some i =>
      simp only [sliceBounds, HT.sIx, Option.getD_none, show (1 : Int) > 0 by decide, if_true]
      by_cases h : i < 0
      · simp only [h, if_true] <;> omega
      · simp only [h, if_false] <;> omega
  · cases hi with
    | none => simp [sliceBounds, HT.sIx]
    | some i =>
      simp only [sliceBounds, HT.sIx, Option.getD_none, show (1 : Int) > 0 by decide, if_true]
      by_cases h : i < 0
      · simp only [h, if_true] <;> omega
      · simp only [h, if_false] <;> omega
theorem slicePick_cut (its : List Value) (lo hi : Option Int) : slicePick its.toArray lo hi none = ((its.drop (HT.sIx its.length 0 lo)).take (HT.sIx its.length its.length hi - HT.sIx its.length 0 lo)).toArray := by
  obtain ⟨h1, h2, h3⟩ := slice_bounds lo hi its.toArray.size
  unfold slicePick
  rw [h1, h2, h3]
  simp only [sliceRange_one, pick_run, List.size_toArray] <;> rfl
/-- xs[lo:hi] of a list: a new list -/
def rSlL (K : PySem.W.Frag) : V → Option Int → Option Int → Hp → VK → Prop := fun x lo hi H Q => ∃ a xs, x = .ref a ∧ SqL K H a xs ∧ ∀ p, H p = none → Q (.ref p) (upd H p (.lst (cutV xs lo hi)))
theorem sl_list : SlR X (rSlL X.K) := by
  intro pins s σ H x v vl vu lo hi sl Q I rx hs pl pu h
  obtain ⟨a, xs, rfl, hx, q⟩ := h
  cases rx
  obtain ⟨its, r, ht, hz⟩ := I.list hx
  have hlen := r.length
  refine ⟨"list", _, slot_list_getitem.lookup, ht.isList.typeIs, ?_⟩
  refine wpAny_getItem_list_slice ht.isList hs pl pu .none (by simp) ?_ (by rw [List.size_toArray] <;> omega)
  rw [slicePick_cut, ← hlen]
  refine ⟨.ref s.heap.objs.size, _, I.laid (t' := s.toks) (o := .lst (cutV xs lo hi)) (fun b ob q => Heap.get?_push_of_some _ q) (Nat.le_refl _) ?_, rfl, q _ (I.hok.fresh (Nat.le_refl _))⟩
  exact ⟨Nat.le_trans (cutV_length xs lo hi) hz, _, 0, (r.drop (HT.sIx xs.length 0 lo)).take (HT.sIx xs.length xs.length hi - HT.sIx xs.length 0 lo), Heap.get?_push_size _ rfl⟩

/-! ### in, not in: flat items -/
def flatV : V → Bool
  | .non => true
  | .bl _ => true
  | .int _ => true
  | .str _ => true
  | _ => false
/-- == of flat values -/
def eqV : V → V → Bool
  | .non, .non => true
  | .bl a, .bl b => a == b
  | .bl a, .int b => (if a then 1 else 0) == b
  | .int a, .bl b => a == (if b then 1 else 0)
  | .int a, .int b => a == b
  | .str a, .str b => a == b
  | _, _ => false
/-- the items' answers, read off the values (a value's own answer does not lean on its token) -/
def eqU (x : V) (u : Value) : Bool := match u with
  | .none => eqV .non x
  | .bool b => eqV (.bl b) x
  | .int i _ => eqV (.int i) x
  | .str z _ => eqV (.str z) x
  | _ => false
def inV (x : V) (xs : List V) : Bool := xs.any fun y => eqV y x
/-- x in a list or tuple of flat items -/
def rIn (K : PySem.W.Frag) (neg : Bool) : R2 := fun x y H Q => ∃ p xs, y = .ref p ∧ (SqL K H p xs ∨ SqT K H p xs) ∧ flatV x = true ∧ xs.all flatV = true ∧ Q (.bl (if neg then !inV x xs else inV x xs)) H
/-! ### len, list(x), tuple(x) of any list or tuple that is read -/
theorem call_len_seq : CallR X (.builtin "len") (fun xs H Q => ∃ p ys, xs = [.ref p] ∧ (SqL X.K H p ys ∨ SqT X.K H p ys) ∧ Q (.int ys.length) H) := by
  intro pins s σ H xs us Q I r h
  obtain ⟨p, ys, rfl, hq, q⟩ := h
  obtain ⟨u, rfl, rx⟩ := vals1 r
  cases rx
  have hn := line63
  rcases hq with hq | hq
  · obtain ⟨its, r', pl, hz⟩ := I.list hq
    have hlen := r'.length
    exact Calls.call_len_list pl.isList (by simp only [List.size_toArray] <;> omega) ⟨.int ys.length, H, I.tok _, ⟨s.toks + 1, by rw [List.size_toArray, hlen]⟩, q⟩
  · obtain ⟨its, r', pl, hz⟩ := I.tuple hq
    have hlen := r'.length
    exact len_tuple pl (by simp only [List.size_toArray] <;> omega) ⟨.int ys.length, H, I.tok _, ⟨s.toks + 1, by rw [List.size_toArray, hlen]⟩, q⟩
theorem call_len_str : CallR X (.builtin "len") (fun xs H Q => ∃ z, xs = [.str z] ∧ z.length ≤ sizeLine ∧ Q (.int z.length) H) := by
  intro pins s σ H xs us Q I r h
  obtain ⟨z, rfl, hz, q⟩ := h
  obtain ⟨u, rfl, t, rfl⟩ := vals1 r
  have hn := line63
  exact len_str (by omega) ⟨.int z.length, H, I.tok _, ⟨_, rfl⟩, q⟩
theorem CallR.or {f : Value} {r r' : List V → Hp → VK → Prop} (h : CallR X f r) (h' : CallR X f r') : CallR X f (fun xs H Q => r xs H Q ∨ r' xs H Q) := by
  intro pins s σ H xs us Q I rs q
  rcases q with q | q
  · exact h pins s σ H xs us Q I rs q
  · exact h' pins s σ H xs us Q I rs q
theorem call_list_of : CallR X (.type "list") (fun xs H Q => ∃ p ys, xs = [.ref p] ∧ (SqL X.K H p ys ∨ SqT X.K H p ys) ∧ ∀ l, H l = none → Q (.ref l) (upd H l (.lst ys))) := by
  intro pins s σ H xs us Q I r h
  obtain ⟨p, ys, rfl, hq, q⟩ := h
  obtain ⟨u, rfl, rx⟩ := vals1 r
  cases rx
  have fin : ∀ (its : List Value), Vals ys its → ys.length ≤ sizeLine → ∀ (h' : Heap) (c' : Nat), (∀ b o', s.heap.get? b = some o' → h'.get? b = some o') →
      h'.get? s.heap.objs.size = some { cls := .type "list", dict := none, data := .seq its.toArray c', slots := #[] } → EP X pins σ Q (.ref s.heap.objs.size) { s with heap := h' } := fun its r' hz h' c' kp e =>
    ⟨.ref s.heap.objs.size, _, I.laid (t' := s.toks) kp (Nat.le_refl _) (show ObjOk X.prog X.w _ h' _ (.lst ys) from ⟨hz, its, c', r', e⟩), rfl, q _ (I.hok.fresh (Nat.le_refl _))⟩
  rcases hq with hq | hq
  · obtain ⟨its, r', pl, hz⟩ := I.list hq
    have hlen := r'.length
    obtain ⟨o, ho, hc, n, hd⟩ := pl.isList
    exact call_list_seq p (.inl rfl) ho hc hd (fun h' c' kp e => fin its r' hz h' c' kp e) (by simp only [List.size_toArray] <;> omega)
  · obtain ⟨its, r', pl, hz⟩ := I.tuple hq
    have hlen := r'.length
    obtain ⟨o, ho, hc, n, hd⟩ := pl
    exact call_list_seq p (.inr rfl) ho hc hd (fun h' c' kp e => fin its r' hz h' c' kp e) (by simp only [List.size_toArray] <;> omega)
/-! ### the call of a builtin's method: o.m(..) -/
/-- the value is of that builtin type -/
def tyV (K : PySem.W.Frag) (T : String) (x : V) (H : Hp) : Prop := match x with
  | .str _ => T = "str"
  | .int _ => T = "int"
  | .ref p => (T = "list" ∧ ∃ xs, SqL K H p xs) ∨ (T = "tuple" ∧ ∃ o, K.lookup p = some o ∧ o.cls = .type "tuple" ∧ o.dict = none) ∨
      (T = "dict" ∧ ((∃ kvs, H p = some (.dK kvs)) ∨ ∃ kvs, H p = some (.dT kvs))) ∨ (T = "set" ∧ ∃ S n, H p = some (.set S n))
  | _ => False
theorem tyV_is {pins : List (Addr × Obj)} {σ : St} {H : Hp} {s : Shared} {T : String} {x : V} {v : Value} (I : Inv X pins σ H s) (r : RelV x v) (ty : tyV X.K T x H) :
    s.TypeIs v T ∧ ∀ a, v = .ref a → ∃ ob, s.heap.get? a = some ob ∧ ob.dict = none := by
  cases x with
  | str z =>
    obtain ⟨t, rfl⟩ := r
    cases (show T = "str" from ty)
    exact ⟨typeIs_str s z t, fun _ e => nomatch e⟩
  | int i =>
    obtain ⟨t, rfl⟩ := r
    cases (show T = "int" from ty)
    exact ⟨typeIs_int s i t, fun _ e => nomatch e⟩
  | ref p =>
    cases r
    rcases ty with ⟨rfl, xs, hq⟩ | ⟨rfl, o, hk, hc, hd⟩ | ⟨rfl, hk⟩ | ⟨rfl, S, n, hk⟩
    · obtain ⟨its, _, pl, _⟩ := I.list hq
      refine ⟨pl.isList.typeIs, fun a e => ?_⟩
      cases e
      obtain ⟨o, n, e, c, hd, _⟩ := pl
      exact ⟨o, e, hd⟩
    · refine ⟨⟨o, I.kIn p o hk, hc⟩, fun a e => ?_⟩
      cases e
      exact ⟨o, I.kIn _ o hk, hd⟩
    · have z : ∃ o, s.heap.get? p = some o ∧ o.ExactDict := by
        rcases hk with ⟨kvs, hk⟩ | ⟨kvs, hk⟩
        · obtain ⟨_, _, _, _, o, _, _, e, ex, _⟩ := I.hok p _ hk
          exact ⟨o, e, ex⟩
        · obtain ⟨_, _, _, _, o, _, _, e, ex, _⟩ := I.hok p _ hk
          exact ⟨o, e, ex⟩
      obtain ⟨o, e, ex⟩ := z
      refine ⟨⟨o, e, ex.1⟩, fun a e2 => ?_⟩
      cases e2
      exact ⟨o, e, ex.2.1⟩
    · obtain ⟨o, _, _, _, e, ex, _⟩ := I.hok p _ hk
      refine ⟨⟨o, e, ex.1⟩, fun a e2 => ?_⟩
      cases e2
      exact ⟨o, e, ex.2.1⟩
  | _ => exact False.elim ty
def tBM0 (K : PySem.W.Frag) (T : String) (r : V → List V → Hp → VK → Prop) (to : TE) : TE := fun σ H Q => to σ H fun x H1 => tyV K T x H1 ∧ r x [] H1 Q
def tBM (K : PySem.W.Frag) (T : String) (r : V → List V → Hp → VK → Prop) (to : TE) (t : TA) : TE := fun σ H Q => to σ H fun x H1 => tyV K T x H1 ∧ t σ H1 fun xs H2 => r x xs H2 Q
variable {o e : Expr} {es : List Expr} {to : TE} {t : TA} {name : Str} {apos cpos : Pos} {T id : String} {r : V → List V → Hp → VK → Prop}
theorem pe_bm (pa : PlainAttrs T) (slot : Slot T name id) (hty : typeOf (.builtin id) = pure (.type "method_descriptor")) (hm : MtR X id r) (ho : PE X o to) (ha : PA X (e :: es) t)
    (hbase : attributeBase o name X.env (eval o X.env) = eval o X.env := by rfl)
    (hfew : ((backTo cpos (starEach (e :: es) X.env)).all (fun x => !x.1) && (backToKw cpos (keywordEach [] X.env)).all (fun x => x.1.isSome)
      && decide ((e :: es).length + ([] : List Keyword).length + (if ([] : List Keyword).isEmpty then 0 else 1) < 30)) = true := by rfl)
    (hline : (apos.endLine == cpos.line) = true := by rfl) (hs : starEach (e :: es) X.env = (false, eval e X.env) :: starEach es X.env := by rfl) (hplain : (backTo cpos (starEach es X.env)).any (·.1) = false := by rfl) :
    PE X (.Call (.Attribute o name apos) (e :: es) [] cpos) (tBM X.K T r to t) := by
  intro pins s σ H Q I h
  refine wpAny_Call_method_late hbase hfew hline rfl (thn (ho pins s σ H _ I h) fun v s1 ⟨x, H1, I1, r1, ty, q1⟩ => ?_)
  obtain ⟨h1, h2⟩ := tyV_is I1 r1 ty
  refine ⟨T, id, pa, slot, hty, h1, h2, ?_⟩
  have hA := ha cpos pins s1 σ H1 _ I1 q1
  rw [hs] at hA ⊢
  refine Calls.callWith_builtin (by show (false || (backTo cpos (starEach es X.env)).any (·.1)) = false; rw [hplain] <;> rfl) (Calls.evalArgs_plain ?_)
  exact thn hA fun us s2 ⟨vs, H2, I2, r2, q2⟩ => hm pins s2 σ H2 x vs v us Q I2 r1 r2 q2
/- xs.append(e), list.index on a module's tuple .. are MtR facts of 06m -/
end
end L2

namespace L2
open PySem PySem.Spec PyProof.Rows

def MtM (X : Cx) (id : String) (r : V → List V → Hp → VK → Prop) : Prop :=
  ∀ (pins : List (Addr × Obj)) (s : Shared) (σ : St) (H : Hp) (x : V) (xs : List V) (v : Value) (us : List Value) (Q : VK), Inv X pins σ H s → RelV x v → Vals xs us → r x xs H Q →
    wpAny (model X.prog X.w) X.A (call (.builtin id) (v :: us)) (EP X pins σ Q) X.xe s

/-! ### lists of values -/
theorem Vals.one : ∀ {x : V} {us : List Value}, Vals [x] us → ∃ u, us = [u] ∧ RelV x u
  | _, _, .cons r .nil => ⟨_, rfl, r⟩
theorem Vals.two : ∀ {x y : V} {us : List Value}, Vals [x, y] us → ∃ u v, us = [u, v] ∧ RelV x u ∧ RelV y v
  | _, _, _, .cons r (.cons q .nil) => ⟨_, _, rfl, r, q⟩
theorem Vals.zero : ∀ {us : List Value}, Vals [] us → us = []
  | _, .nil => rfl
theorem Vals.dropLast {xs : List V} {us : List Value} (h : Vals xs us) : Vals xs.dropLast us.dropLast := by
  induction h with
  | nil => exact .nil
  | cons r t ih =>
    cases t with
    | nil => exact .nil
    | cons q t' => exact .cons r ih
theorem Vals.eraseIdx : ∀ {xs : List V} {us : List Value} (i : Nat), Vals xs us → Vals (xs.eraseIdx i) (us.eraseIdx i)
  | _, _, _, .nil => .nil
  | _, _, 0, .cons _ t => t
  | _, _, i + 1, .cons r t => .cons r (Vals.eraseIdx i t)
theorem Vals.reverse {xs : List V} {us : List Value} (h : Vals xs us) : Vals xs.reverse us.reverse := by
  induction h with
  | nil => exact .nil
  | cons r t ih => rw [List.reverse_cons, List.reverse_cons]; exact Vals.append ih (.cons r .nil)
section
variable {X : Cx} {pins : List (Addr × Obj)} {σ : St} {H : Hp} {s : Shared} {l b : Addr} {xs ys zs : List V}

/-! ### the two steps: a tracked list is rewritten, a new list is laid -/
theorem Inv.lset {its its' : List Value} {n : Nat} {f : Array Value → Array Value} {t' : Nat} (I : Inv X pins σ H s) (hH : H l = some (.lst xs))
    (e : s.heap.get? l = some { cls := .type "list", data := .seq its.toArray n }) (hf : f its.toArray = its'.toArray) (hv : Vals ys its') (hz : ys.length ≤ sizeLine) :
    Inv X pins σ (upd H l (.lst ys)) { s with heap := s.heap.update l (Obj.mapSeq f), toks := t' } := by
  have q := PySem.IsL.update e f
  rw [hf] at q
  refine I.write (x := l) (e := l) (by rw [hH]; exact trivial) (.inl rfl) (fun b' u hb hu => (Heap.get?_update_other s.heap (Obj.mapSeq f) (Ne.symm hb)).trans hu) ⟨_, q⟩ ?_
  exact ⟨hz, its', _, hv, q⟩
theorem Inv.lnew {its : List Value} {t' : Nat} (I : Inv X pins σ H s) (hv : Vals ys its) (hz : ys.length ≤ sizeLine) :
    Inv X pins σ (upd H s.heap.objs.size (.lst ys)) { s with heap := s.heap.push { cls := .type "list", data := .seq its.toArray }, toks := t' } :=
  I.laid (fun _ _ q => Heap.get?_push_of_some _ q) (Nat.le_refl _) ⟨hz, its, 0, hv, Heap.get?_push_size _ rfl⟩
theorem Inv.fresh (I : Inv X pins σ H s) : H s.heap.objs.size = none := I.hok.fresh (Nat.le_refl _)
theorem Inv.lstM (I : Inv X pins σ H s) (hH : H l = some (.lst xs)) : xs.length ≤ sizeLine ∧ ∃ (its : List Value) (n : Nat), Vals xs its ∧ xs.length = its.length ∧ s.heap.get? l = some { cls := .type "list", data := .seq its.toArray n } := by
  obtain ⟨z, its, n, r, e⟩ := I.hok l _ hH
  exact ⟨z, its, n, r, r.length, e⟩

end

section
variable {X : Cx}

/-! ### methods -/
def rAppend : V → List V → Hp → VK → Prop := fun x vs H Q => ∃ l xs y, x = .ref l ∧ vs = [y] ∧ H l = some (.lst xs) ∧ xs.length < sizeLine ∧ Q .non (upd H l (.lst (xs ++ [y])))
theorem mt_append : MtM X "list.append" rAppend := by
  intro pins s σ H x vs v us Q I rx rv h
  obtain ⟨l, xs, y, rfl, rfl, hH, hz, q⟩ := h
  cases rx
  obtain ⟨u, rfl, ru⟩ := rv.one
  obtain ⟨z, its, n, r, hl, e⟩ := I.lstM hH
  refine call_meets F.slot_list_append ⟨_, e, rfl⟩ F.entry_list_append (F.args_list_append_2 _ _) (PySem.list_append l its.toArray n u (by rw [List.size_toArray]; omega)) ⟨e, ?_⟩
  refine ⟨.non, _, I.lset (its' := its ++ [u]) hH e (by simp) (r.append (.cons ru .nil)) ?_, rfl, q⟩
  rw [List.length_append, List.length_singleton]
  omega

def rExtend : V → List V → Hp → VK → Prop := fun x vs H Q => ∃ l b xs zs, x = .ref l ∧ vs = [.ref b] ∧ H l = some (.lst xs) ∧ H b = some (.lst zs) ∧ xs.length + zs.length ≤ sizeLine ∧ Q .non (upd H l (.lst (xs ++ zs)))
def rPop : V → List V → Hp → VK → Prop := fun x vs H Q => ∃ l xs y, x = .ref l ∧ vs = [] ∧ H l = some (.lst xs) ∧ xs[xs.length - 1]? = some y ∧ Q y (upd H l (.lst xs.dropLast))
def rPopAt : V → List V → Hp → VK → Prop := fun x vs H Q => ∃ l xs i k y, x = .ref l ∧ vs = [.int i] ∧ H l = some (.lst xs) ∧ -(2 ^ 63) ≤ i ∧ i < 2 ^ 63 ∧ seqIndex? i xs.length = some k ∧ xs[k]? = some y ∧ Q y (upd H l (.lst (xs.eraseIdx k)))
def rReverse : V → List V → Hp → VK → Prop := fun x vs H Q => ∃ l xs, x = .ref l ∧ vs = [] ∧ H l = some (.lst xs) ∧ Q .non (upd H l (.lst xs.reverse))
def rClear : V → List V → Hp → VK → Prop := fun x vs H Q => ∃ l xs, x = .ref l ∧ vs = [] ∧ H l = some (.lst xs) ∧ Q .non (upd H l (.lst []))
/-! ### list + list, list += list, list * int -/
def rCat : R2 := fun x y H Q => ∃ l b xs zs, x = .ref l ∧ y = .ref b ∧ H l = some (.lst xs) ∧ H b = some (.lst zs) ∧ xs.length + zs.length ≤ sizeLine ∧ ∀ p, H p = none → Q (.ref p) (upd H p (.lst (xs ++ zs)))
/-- a list times an int (a negative one is nothing) -/
def rRep : R2 := fun x y H Q => ∃ l k xs, x = .ref l ∧ y = .int k ∧ H l = some (.lst xs) ∧ -(2 ^ 63) ≤ k ∧ k < 2 ^ 63 ∧ xs.length * k.toNat ≤ sizeLine ∧
  ∀ p, H p = none → Q (.ref p) (upd H p (.lst (List.replicate k.toNat xs).flatten))
/-! ### del xs[i] -/
end

/-! ### xs[a:b] = ys -/
section
variable {prog : Program} {w : World} {A : Around} {E : Value → Shared → Prop} {s : Shared}
end

section
variable {X : Cx}
end
end L2

namespace Att
open PySem PySem.W PySem.Calls PyProof.Rows

/-! ### the script -/
theorem ints_of_wellAll {P : Params} {h : Heap} : ∀ (ns : List Int) (vs : List Value), WellAll P h vs (ns.map WData.int) → IntsAre vs ns := by
  intro ns
  induction ns with
  | nil =>
    intro vs w
    rw [List.map_nil] at w
    cases w
    exact .nil
  | cons n ns ih =>
    intro vs w
    rw [List.map_cons] at w
    cases w with
    | cons a b =>
      cases a
      exact .cons _ _ (ih _ b)

theorem script_of {l : OpenLaw} {n : Nat} (hn : l.most = some n) {P : Params} {h : Heap} {args : List WData} {vals : List Value}
    (hpre : l.row.toRowW.claim.pre args = true) (hwl : WellAll P h vals args) :
    ∃ a vs ns, vals = [Value.ref a] ∧ args = [WData.list (ns.map WData.int)] ∧ h.get? a = some { cls := .type "list", data := .seq vs.toArray } ∧ IntsAre vs ns ∧ ns.length ≤ n := by
  have hsh : WShape.hasAll [] args [.list .int] = true := (pre_splitW hpre).1
  have hc : l.pre.holds [] { args := args } = true := (pre_splitW hpre).2
  obtain ⟨d, r, rfl, h1, h2⟩ := hasAllW_cons hsh
  obtain rfl := hasAllW_nil h2
  obtain ⟨xs, rfl, h3⟩ := hasW_list h1
  obtain ⟨ns, rfl⟩ := items_int h3
  have hlen : ns.length ≤ n := by
    unfold OpenLaw.pre at hc
    have h4 : (WTm.not (.lt (.lit (.int (n : Int))) (.len (.arg 0)))).holds [] { args := [.list (ns.map .int)] } = true := by
      have h4 := (holds_andW hc).1
      rw [hn] at h4
      exact h4
    have h5 := condW_of h4 (w_not (w_lt w_lit (w_len_list (w_arg rfl))))
    rw [List.length_map] at h5
    refine Nat.le_of_not_lt fun q => ?_
    have q' : (n : Int) < ((ns.length : Nat) : Int) := by omega
    first
      | (rw [decide_eq_true q'] at h5; exact absurd h5 (by decide))
      | (simp at h5; omega)
  cases hwl with
  | cons w1 w2 =>
    cases w2
    cases w1 with
    | list ho hall => exact ⟨_, _, ns, rfl, rfl, ho, ints_of_wellAll ns _ hall, hlen⟩

theorem post_true (l : OpenLaw) (args : List WData) : l.row.toRowW.claim.post args (.bool true) args = true :=
  postW_of (r := l.row.toRowW) (X := (true == true))
    (show WShape.has [] (.bool true) .bool = true by first | rfl | decide | simp [WShape.has, WShape.arms, WShape.armsAll])
    (show (WTm.eq .res (.lit (.bool true))).value [] { args := args, res := some (.bool true), after := args } = some (.bool (true == true)) from w_eq_bool (w_res rfl) w_lit) rfl

/-! ### the attachment: holds_open's last premise (the goal 'hc' behind k_head) from a wpAny of the law's body -/
/-- the same from a codeAny of the CALL (for a layer whose function contracts speak of calls) -/
theorem attach_call {l : OpenLaw} {n : Nat} {q : Program} {loose : List Str} {XP : (Str → Option Value) → Heap → Prop} {YP : World → Heap → Prop} {d : DefRec}
    (hn : l.most = some n) (hdf : d.params.defaults = [])
    (call : ∀ (w : World) (s₀ s₁ : Shared) (mg mb : Str → Option Value) (fa : Addr) (o : Obj) (pm cd doc : Value) (a : Addr) (vs : List Value) (ns : List Int),
      Ground q loose [] XP w s₀ mg mb s₁.heap → YP w s₁.heap →
      s₁.heap.get? fa = some o → o.data = .func (docDef d.name d.params d.body d.scope pm cd doc) → s₁.heap.CodeRec cd d.name → mg d.name = some (.ref fa) →
      s₁.heap.get? a = some { cls := .type "list", data := .seq vs.toArray } → IntsAre vs ns → ns.length ≤ n → s₁.gens = #[] →
      codeAny (model l.prog w) callerA (.call (.ref fa) ⟨[.ref a], []⟩) (fun r s' => r = .ok (.ret (.bool true)) ∧ OldK s₁.heap s'.heap ∧ s'.os = s₁.os ∧ AllBare s'.gens) s₁) :
    WalkO q loose XP YP l.row.toRowW d [] (fun f vs => PySem.call f vs) := by
  intro w s₀ s₁ mg mb G Y fa o pm cd doc dV kV ho hd hcd hD hmg hg args vals as hpre hlay hrd hwl hlo
  obtain rfl : dV = .none := Dflts.none hD hdf
  obtain rfl : kV = .none := Dflts.noKw hD
  obtain ⟨a, vs, ns, rfl, rfl, hobj, hints, hlen⟩ := script_of hn hpre hwl
  refine enter_call (codeAny_mono (call w s₀ s₁ mg mb fa o pm cd doc a vs ns G Y ho (fd_plain hd) hcd hmg hobj hints hlen hg) fun r s' hq => ?_)
  obtain ⟨rfl, h2, h3, h4⟩ := hq
  exact ⟨.inl ⟨.bool true, .bool true, [], rfl, fun _ => rfl, .bool true, post_true l _, fun _ => ⟨List.Pairwise.nil, fun _ hm => (nomatch hm)⟩⟩, h2, h3, h4⟩

/-! ### rules over ANY heap (no ledger) from facts about the written part K: the library's own take a ledger (News) for what they write -/
section
variable {prog : Program} {w : World} {A : Around} {E : Value → Shared → Prop} {s : Shared} {K : Frag}

/-! the whole heap as the ledger: makes every rule that writes through a ledger a rule over any heap -/
def noObjs (h : Heap) : Heap := { h with objs := #[] }
def ledger (h : Heap) (L d : Addr) : List (Addr × Obj) := (List.range h.objs.size).filterMap fun a => if a = L ∨ a = d then none else (h.get? a).map fun o => (a, o)
end
end Att

namespace L2
open PySem PySem.Spec PyProof.Rows

theorem vals_ints : ∀ {vs : List Value} {ns : List Int}, IntsAre vs ns → Vals (ns.map V.int) vs
  | _, _, .nil => .nil
  | _, _, .cons n t h => .cons ⟨t, rfl⟩ (vals_ints h)

/-- nothing is tracked but the script, known to the object (or it is an object of the module) -/
def Only (H : Hp) : Prop := ∀ b, H b = none ∨ ∃ o xs, H b = some (.frz o (.lst xs))

/-- THE HEAD: the law's promise, at the heap behind the top. F, the promise of the law's def, may use that base is part of the heap (so K.In base, base.Ns mainGlobals mg stand in Mod) -/
theorem law_call {P : Program} {w : World} {K : PySem.W.Frag} {mg mb : Str → Option Value} {CX : CXT} {k : Nat} {fa a : Addr} {fd : FuncData} {x : Str} {sp : Sp} {s₁ : Shared} {vs : List Value} {ns : List Int}
    (KX : K.In s₁.heap) (hns : s₁.heap.Ns mainGlobals mg) (hb : s₁.heap.Ns builtinsNs mb) (hbb : ∀ x : Str, x ≠ "__name__" → mb x = bootBuiltins x) (hlim : s₁.heap.NoLimit) (hg : s₁.gens = #[])
    (ha : s₁.heap.get? a = some { cls := .type "list", data := .seq vs.toArray }) (hi : IntsAre vs ns) (hl : ns.length ≤ sizeLine) (hr : Room k callerA)
    (F : ∀ base : Heap, K.In base → base.Ns mainGlobals mg → FnOk P w K mg base CX k fa fd [x] sp) (hbind : ∀ (s : Shared) (u : Value), BindsTo s fd ⟨[u], []⟩ [(x, u)])
    (hsp : ∀ H : Hp, Only H → SqL K H a (ns.map V.int) → sp [.ref a] H (fun v _ => v = .bl true) fun _ _ _ => False)
    (hCX : ∀ H e s', CX [] H s₁ (fun _ _ _ => False) e s' → False) :
    codeAny (model P w) callerA (.call (.ref fa) ⟨[.ref a], []⟩) (fun r s' => r = .ok (.ret (.bool true)) ∧ OldK s₁.heap s'.heap ∧ s'.os = s₁.os ∧ AllBare s'.gens) s₁ := by
  have rv := vals_ints hi
  have lenV := hi.length
  -- from an abstract heap in which nothing but the script may be tracked
  have core : ∀ H : Hp, Only H → SqL K H a (ns.map V.int) → HOk P w H s₁.heap → (∀ b, H b ≠ none → b = a) → (H a ≠ none → K.lookup a = none) →
      codeAny (model P w) callerA (.call (.ref fa) ⟨[.ref a], []⟩) (fun r s' => r = .ok (.ret (.bool true)) ∧ OldK s₁.heap s'.heap ∧ s'.os = s₁.os ∧ AllBare s'.gens) s₁ := by
    intro H hO hS hok hA hK
    have base_of : ∀ {b : Addr} {o : Obj}, s₁.heap.get? b = some o → H b = none → (hidT s₁.heap H).get? b = some o := fun e n => hidT_get e n
    have noA : ∀ {b : Addr} {o : Obj} {es : Array DictEntry} {ep : Nat}, s₁.heap.get? b = some o → o.data = .dict es ep → H b = none := fun {b o es ep} e d => by
      cases q : H b with
      | none => rfl
      | some u =>
        have e' : b = a := hA b (by rw [q]; simp)
        subst e'
        rw [ha] at e; cases e
        have d' : Data.seq vs.toArray _ = Data.dict es ep := d
        cases d'
    have nsK : ∀ {b : Addr} {m : Str → Option Value}, s₁.heap.Ns b m → (hidT s₁.heap H).Ns b m := fun {b m} ⟨o, es, ep, e, d, r⟩ => ⟨o, es, ep, base_of e (noA e d), d, r⟩
    have hKb : K.In (hidT s₁.heap H) := fun b o e => base_of (KX b o e) (by
      cases q : H b with
      | none => rfl
      | some u =>
        have e' : b = a := hA b (by rw [q]; simp)
        subst e'
        rw [hK (by rw [q]; simp)] at e; cases e)
    have hM : Mod K mg (hidT s₁.heap H) := ⟨hKb, nsK hns, ⟨mb, nsK hb, hbb⟩, let ⟨mc, h1, h2⟩ := hlim; ⟨mc, nsK h1, h2⟩⟩
    have e0 : Env0 P w K mg (hidT s₁.heap H) callerA [] s₁ H := ⟨rfl, hM, fun b o e => of_hidT e, Nat.le_of_eq (hidT_size _ _), trivial, fun b hb => absurd (show b ∈ ([] : List Addr) from hb) (by simp), hok, .of_eq hg⟩
    refine codeAny_mono ((F _ hKb (nsK hns)).run callerA [] s₁ H ⟨[.ref a], []⟩ [.ref a] [.ref a] _ _ hr e0 (hbind s₁ (.ref a)) (.cons rfl .nil) (hsp H hO hS)) fun r s' h => ?_
    cases r with
    | error e => exact (hCX H e s' h).elim
    | ok fl =>
      cases fl with
      | next => exact False.elim h
      | brk => exact False.elim h
      | cont => exact False.elim h
      | ret u =>
        obtain ⟨v, H', os, bare, un, hok', r', q⟩ := h
        have q' : v = .bl true := q
        subst q'
        obtain rfl : u = Value.bool true := r'
        refine ⟨rfl, OldK.of_keep fun b o e => ?_, os, bare⟩
        cases q : H b with
        | none => exact un.keep b o e q (by intro z; exact absurd (show b ∈ ([] : List Addr) from z) (by simp)) (by simp)
        | some u =>
          rcases hO b with z | ⟨ob, xs, z⟩
          · rw [q] at z; cases z
          · have z2 := un.frzs b ob _ z
            obtain ⟨e1, _⟩ := hok b _ z
            obtain ⟨e2, _⟩ := hok' b _ z2
            rw [e] at e1; cases e1
            exact e2
  cases hk : K.lookup a with
  | some o =>
    -- the script is one of the module's own objects
    have e := KX a o hk
    rw [ha] at e
    cases e
    refine core (fun _ => none) (fun _ => .inl rfl) (.inr ⟨_, vs.toArray, _, hk, rfl, rfl, rfl, by rw [List.size_toArray, lenV]; exact hl, by simpa using rv⟩) (fun b u z => by have z' : (none : Option HO) = some u := z; cases z') (fun b z => absurd rfl z) fun z => absurd rfl z
  | none =>
    refine core (fun b => if b = a then some (.frz { cls := .type "list", data := .seq vs.toArray } (.lst (ns.map V.int))) else none) (fun b => ?_) (.inl (.inr ⟨{ cls := .type "list", data := .seq vs.toArray }, if_pos rfl⟩)) (fun b u z => ?_) (fun b z => ?_) fun _ => hk
    · by_cases hb : b = a
      · exact .inr ⟨_, _, if_pos hb⟩
      · exact .inl (if_neg hb)
    · by_cases hb : b = a
      · have z' := (if_pos hb).symm.trans z
        cases z'
        subst hb
        exact ⟨ha, by rw [List.length_map]; exact hl, vs, _, rv, ha⟩
      · have z' := (if_neg hb).symm.trans z
        cases z'
    · by_cases hb : b = a
      · exact hb
      · exact absurd (if_neg hb) z
end L2

namespace L2
open PySem PySem.Spec PyProof.Rows

abbrev KOf {K : PySem.W.Frag} {h : Heap} (_ : K.In h) : PySem.W.Frag := K

/-- the goal that k_head leaves (case hc), from the law's promise. F gives the function object fd (K's own) once, then the promise over every base -/
theorem walk_of {l : PySem.W.OpenLaw} {n k : Nat} {q : Program} {loose : List Str} {XP : (Str → Option Value) → Heap → Prop} {YP : World → Heap → Prop} {d : DefRec} {K : Params → PySem.W.Frag} {CX : World → CXT} {sp : World → Sp} {x : Str}
    (hn : l.most = some n) (hn2 : n ≤ sizeLine) (hdf : d.params.defaults = []) (hr : Room k callerA)
    (hY : ∀ (w : World) (h : Heap), YP w h → (K w.params).In h)
    (F : ∀ (w : World) (mg : Str → Option Value) (fa : Addr) (h : Heap), (K w.params).In h → h.Ns mainGlobals mg → mg d.name = some (.ref fa) →
      ∃ fd : FuncData, (∀ (s : Shared) (u : Value), BindsTo s fd ⟨[u], []⟩ [(x, u)]) ∧
        ∀ base : Heap, (K w.params).In base → base.Ns mainGlobals mg → FnOk l.prog w (K w.params) mg base (CX w) k fa fd [x] (sp w))
    (hsp : ∀ (w : World) (H : Hp) (a : Addr) (ns : List Int), ns.length ≤ n → Only H → SqL (K w.params) H a (ns.map V.int) → sp w [.ref a] H (fun v _ => v = .bl true) fun _ _ _ => False)
    (hCX : ∀ (w : World) (H : Hp) (s : Shared) (e : Value) (s' : Shared), CX w [] H s (fun _ _ _ => False) e s' → False) :
    PySem.W.WalkO q loose XP YP l.row.toRowW d [] (fun f vs => PySem.call f vs) := by
  refine Att.attach_call hn hdf fun w s₀ s₁ mg mb fa o pm cd doc a vs ns G Y ho hd hcd hmg hobj hints hlen hg => ?_
  have KX := hY w _ Y
  obtain ⟨fd, hb, hF⟩ := F w mg fa _ KX G.T.g hmg
  exact law_call KX G.T.g G.T.b G.T.builtins G.T.nolimit hg hobj hints (Nat.le_trans hlen hn2) hr hF hb (fun H hO hS => hsp w H a ns hlen hO hS) fun H e s' => hCX w H s₁ e s'
end L2

/- THE LAST THEOREM (shape; LID, My.* are yours):
   My.Adr: a structure of the addresses that your layer names (classes, functions); My.Txt K t: a structure (Prop) of the equations over K;
   My.txt_mk : {K} {implicit addresses ..} (e1 : nsIn K mainGlobals "law" = some (some (.ref f))) (e2 : K.lookup f = some ⟨oc, od, .func (fnOf "law" "law" params body scope dV kV doc pm an cdv ct), sl⟩) (e3 : codeIn K cdv "law" = true) .. : ∃ t, My.Txt K t

set_option maxRecDepth 100000 in
set_option maxHeartbeats 0 in
theorem PySem.Challenge.cw_LID_holds : PySem.Challenge.rw_LID.Holds := by
  w_on; o_law; k_head; (case hw => w_witness2)
  k_fill
  refine L2.walk_of (l := PySem.Challenge.rw_LID) (n := 63) (k := 40) (x := "script") (CX := fun w => ..) (sp := fun _ => My.sp_law) rfl (by decide) rfl ⟨rfl, by decide, by decide⟩ (fun w h Y => PySem.W.kIn_of Y) ?F ?S ?C
  case F =>
    intro w mg fa h KX G hmg
    have T : ∃ t, My.Txt (L2.KOf KX) t := by
      dsimp only [L2.KOf]                          -- K must stand as «<heap const> w.params» for k_is
      refine' My.txt_mk ?e1 ?e2 ?e3 ..
      (case e1 => PySem.W.k_is)                    -- in the order: a name -> its address -> its object -> its parts
      (case e2 => PySem.W.k_is)
      ..
    obtain ⟨t, T⟩ := T
    have e0 := hmg.symm.trans (PySem.W.mg_of KX G T.law)
    cases e0                                       -- fa is the law's own address
    exact ⟨_, fun s u => .of_eq rfl, fun base kb nb => My.law_fn T kb nb⟩     -- if «.of_eq rfl» comes too early: refine' ⟨_, ?b, fun base kb nb => My.law_fn T kb nb⟩; exact fun s u => .of_eq rfl
  case S => exact fun w H a ns hl hO hS => ..
  case C => exact ..
(the tactic k_is has no namespace: write k_is) -/

/-! SHORT WORDS over the layer: a def of the text, its body, what a loop and a test want. -/
namespace L2
open PySem PySem.Spec PyProof.Rows

/-! ### the text by places -/
/-- the j-th statement of a class's body -/
def inClass (s : Stmt) (j : Nat) : Stmt := match s with
  | .ClassDef _ _ _ body _ _ _ _ _ _ _ => body.getD j (.Pass ⟨0, 0, 0, 0⟩)
  | _ => .Pass ⟨0, 0, 0, 0⟩
def defArgs (s : Stmt) : Arguments := match s with
  | .FunctionDef _ a _ _ _ _ _ _ _ _ => a
  | _ => { posonlyargs := [], args := [], vararg := none, kwonlyargs := [], kw_defaults := [], kwarg := none, defaults := [] }
def defBody (s : Stmt) : List Stmt := match s with
  | .FunctionDef _ _ b _ _ _ _ _ _ _ => b
  | _ => []
def defScope (s : Stmt) : Scope := match s with
  | .FunctionDef _ _ _ _ _ _ sc _ _ _ => sc
  | _ => { kind := .function, names := [], isGenerator := false, isCoroutine := false }

/-! ### no exception leaves a def -/
abbrev CX0 : CXT := fun _ _ _ _ _ _ => False
abbrev E0 : XK := fun _ _ _ => False
theorem pass0 {X : Cx} : Passes CX0 X E0 := fun _ _ _ _ _ _ _ h => h.elim

/-! ### a def (or method) of the text as it stands behind the top -/
structure Fun (K : PySem.W.Frag) (x qual : Str) (st : Stmt) (f : Addr) (fd : FuncData) : Prop where
  ex : ∃ (oc : Value) (od : Option Addr) (kV doc pm : Value) (an : Option Addr) (cdv ct : Value) (osl : Array (Option Value)),
    fd = PySem.W.fnOf x qual (defArgs st) (defBody st) (defScope st) .none kV doc pm an cdv ct ∧ K.lookup f = some ⟨oc, od, .func fd, osl⟩ ∧ PySem.W.codeIn K cdv qual = true
  kp : PySem.W.keepIn K (.ref f) = true
section
variable {P : Program} {w : World} {K : PySem.W.Frag} {mg : Str → Option Value} {base : Heap}
/-- THE RULE for a def: its body as a term of rules, and the reading of that term -/
theorem Fun.ok {x qual : Str} {st : Stmt} {f : Addr} {fd : FuncData} {N ps : List Str} {k : Nat} {sp : Sp} (F : Fun K x qual st f fd) (S : FnScope N ps (defScope st)) (len : ∀ vs H Q E, sp vs H Q E → vs.length = ps.length)
    (hbody : ∀ (cdv : Value) (A : Around) (outer : List Env) (s : Shared) (H : Hp) (vs : List V) (Q : VK) (E : XK), Room k (A.deeper (envOfC qual (defScope st) s.heap.objs.size f cdv)) → sp vs H Q E →
      ∃ t, PSs (cxOf CX0 P w K mg base N qual (defScope st) f cdv A outer s H E).nox (defBody st) t ∧ t { nx := fun _ H' => Q .non H', rt := Q } (start N vs) H) : FnOk P w K mg base CX0 (k + 1) f fd ps sp := by
  obtain ⟨oc, od, kV, doc, pm, an, cdv, ct, osl, rfl, lk, hcd⟩ := F.ex
  refine fn_of lk hcd S len fun A outer s H vs Q E hr hsp => ?_
  obtain ⟨t, h, q⟩ := hbody cdv A outer s H vs Q E hr hsp
  exact ⟨t, h.nox, q⟩
/-- how its arguments bind (no defaults): h is «fun _ _ _ _ _ _ us hl => match us, hl with | [_, _], _ => rfl», one _ a parameter -/
theorem Fun.binds {x qual : Str} {st : Stmt} {f : Addr} {fd : FuncData} {ps : List Str} (F : Fun K x qual st f fd)
    (h : ∀ (kV doc pm : Value) (an : Option Addr) (cdv ct : Value) (us : List Value), us.length = ps.length → bindArgs (PySem.W.fnOf x qual (defArgs st) (defBody st) (defScope st) .none kV doc pm an cdv ct) ⟨us, []⟩ = pure (ps.zip us)) : Binds K fd ps [] := by
  obtain ⟨oc, od, kV, doc, pm, an, cdv, ct, osl, rfl, lk, hcd⟩ := F.ex
  exact .all (h kV doc pm an cdv ct)
theorem fun_mk {x qual : Str} {st : Stmt} {f : Addr} {oc : Value} {od an : Option Addr} {osl : Array (Option Value)} {kV doc pm cdv ct : Value} (l : K.lookup f = some ⟨oc, od, .func (PySem.W.fnOf x qual (defArgs st) (defBody st) (defScope st) .none kV doc pm an cdv ct), osl⟩)
    (c : PySem.W.codeIn K cdv qual = true) (k : PySem.W.keepIn K (.ref f) = true) : Fun K x qual st f (PySem.W.fnOf x qual (defArgs st) (defBody st) (defScope st) .none kV doc pm an cdv ct) := ⟨⟨oc, od, kV, doc, pm, an, cdv, ct, osl, rfl, l, c⟩, k⟩
end
theorem hu_of {A : Around} {k : Nat} (hr : Room k A) : A.units + 1 < cLine := Nat.lt_of_le_of_lt (Nat.add_le_add_left (by decide : 1 ≤ 64) _) hr.units
/-! ### expressions in short: the name that stands in the i-th slot -/
section
variable {X : Cx}
theorem pv (i : Nat) {x : Str} {pos : Pos} (hN : X.N[i]? = some x := by rfl) (hv : Vis X.env.scope x := by first | exact Or.inl rfl | exact Or.inr (Or.inl rfl) | exact Or.inr (Or.inr rfl)) (hd : (x == ("__debug__" : Str)) = false := by decide)
    (hcd : (x == ("__classdict__" : Str)) = false := by decide) : PE X (.Name x pos) (tVar i) := pe_var hN hv hd hcd
end

/-! ### tests -/
theorem ite2 {c A B : Prop} [Decidable c] (h1 : c → A) (h2 : ¬ c → B) : if c then A else B := by
  by_cases h : c
  · rw [if_pos h]
    exact h1 h
  · rw [if_neg h]
    exact h2 h
/-! ### heaps -/
/-- all that was tracked is as it was -/
def Same (H H' : Hp) : Prop := ∀ b o, H b = some o → H' b = some o
theorem Same.refl (H : Hp) : Same H H := fun _ _ h => h
theorem Same.trans {H H1 H2 : Hp} (a : Same H H1) (b : Same H1 H2) : Same H H2 := fun c o h => b c o (a c o h)
theorem Same.free {H H' : Hp} (e : Same H H') {l : Addr} (h : H' l = Option.none) : H l = Option.none := by
  cases q : H l with
  | none => rfl
  | some o =>
    rw [e l o q] at h
    cases h
theorem Same.seq {K : PySem.W.Frag} {H H' : Hp} {a : Addr} {xs : List V} (e : Same H H') (h : SqL K H a xs) : SqL K H' a xs := by
  rcases h with (h | ⟨o, h⟩) | h
  · exact .inl (.inl (e _ _ h))
  · exact .inl (.inr ⟨o, e _ _ h⟩)
  · exact .inr h

end L2

set_option Elab.async false
set_option linter.all false
set_option maxRecDepth 100000
namespace L2
open PySem PySem.Spec PyProof.Rows

end L2

namespace L2
open PySem PySem.Spec PyProof.Rows

section
variable (P : Program) (w : World)
end

section
variable {P : Program} {w : World} {H H' : Hp} {h h' : Heap} {a : Addr} {o : HO}
end

section
variable {P : Program} {w : World} {H : Hp} {h h' : Heap} {x e : Addr} {o' : HO}
end

section
variable {fs fs' ex ex' : List Addr} {H H1 H2 : Hp} {h h1 h2 h' : Heap} {a x e : Addr} {o : HO}
end

end L2

namespace L2
open PySem PySem.Spec PyProof.Rows

section
variable {X : Cx} {pins : List (Addr × Obj)} {σ : List (Option V)} {H H' : Hp} {s : Shared} {h' : Heap}

end

end L2

namespace L2
open PySem PySem.Spec PyProof.Rows
section
variable {X : Cx}

variable {a b : Expr} {ta tb : TE} {pos : Pos}
variable {tA tB' : TT} {rest : List Expr}
end
end L2

namespace L2
open PySem PySem.Spec PyProof.Rows

section
variable {X : Cx} {pins : List (Addr × Obj)} {σ : St} {H : Hp} {s : Shared} {a : Addr} {xs ys : List V}
end

section
variable {X : Cx} {pins : List (Addr × Obj)} {σ : St} {H : Hp} {s : Shared} {E : Value → Shared → Prop}
end

section
variable {X : Cx} {st : Stmt} {rest : List Stmt} {t u : TS} {e : Expr} {te : TE} {pos : Pos}
end

section
variable {X : Cx} {pos : Pos}
end

section
variable {X : Cx} {pos : Pos}
end

end L2

namespace L2
open PySem PySem.Spec PyProof.Rows
section
variable {X : Cx} {tg : Expr}
end

end L2

namespace L2
open PySem PySem.Spec PyProof.Rows

section
variable {X : Cx} {a b c : Expr} {ta tb tc : TE} {pos : Pos}

end

section
variable {X : Cx} {a b c : Expr} {ta tb tc : TE} {pos : Pos}
end
end L2

namespace L2
open PySem PySem.Spec PyProof.Rows

section
variable {prog : Program} {w : World} {A : Around} {E : Value → Shared → Prop} {s : Shared} {K : PySem.W.Frag} {x dx C f : Addr} {mA : Str → Option Value} {name : Str} {v : Value}

end

section
variable {P : Program} {w : World} {H H' : Hp} {h h' : Heap} {a C dx : Addr} {fs fs' : List (Str × V)}
end

section
variable {X : Cx} {pins : List (Addr × Obj)} {σ : St} {H : Hp} {s : Shared} {a C dx : Addr} {fs : List (Str × V)} {f : Str} {v : V} {A : Around} {E : Value → Shared → Prop}

end

section
variable {X : Cx} {o e value : Expr} {f : Str} {pos pos' tpos : Pos} {ta tv : TE}
end

section
variable {X : Cx} {pins : List (Addr × Obj)} {σ : St} {H : Hp} {s : Shared} {A : Around} {E : Value → Shared → Prop} {Q : Value → Shared → Prop} {c : Value} {b : Bool}
end
end L2

namespace L2
open PySem PySem.Spec PyProof.Rows

section
variable {X : Cx} {e : Expr} {es : List Expr} {te : TE} {t : TA} {pos : Pos}
end

section
variable {X : Cx} {pins : List (Addr × Obj)} {σ : St} {H : Hp} {s s' : Shared}
end

section
variable {X : Cx} {CX : CXT} {k : Nat} {f C : Addr} {fd : FuncData} {ps : List Str} {sp : Sp} {dvs : List V} {ds : List Value} {E : XK} {x m : Str} {p pos apos : Pos} {e o : Expr} {es : List Expr} {ta : TE} {t : TA}

end

section
variable {X : Cx} {CX : CXT} {k : Nat} {f C : Addr} {fd : FuncData} {ps ks : List Str} {sp : Sp} {E : XK} {x m : Str} {p pos apos kpos : Pos} {e o : Expr} {es : List Expr} {kws : List Keyword} {te ta : TE} {t tk : TA} {nm : Option Str}
variable {g : List Value → List Value → List Value} {gV : List V → List V → List V}
end

end L2

namespace L2
open PySem PySem.Spec PyProof.Rows
section
variable {X : Cx} {x : Str} {p pos : Pos} {e : Expr} {es : List Expr} {t : TA} {id T : String} {r : List V → Hp → VK → Prop}

end
end L2

namespace L2
open PySem PySem.Spec PyProof.Rows

section
variable {κ : Type} [DecidableEq κ]
def valV (kvs : List (κ × V)) (k : κ) : Option V := (kvs.find? fun kv => decide (kv.1 = k)).map (·.2)
def putK (kvs : List (κ × V)) (k : κ) (v : V) : List (κ × V) :=
  if (kvs.any fun kv => decide (kv.1 = k)) = true then kvs.map (fun kv => if kv.1 = k then (kv.1, v) else kv) else kvs ++ [(k, v)]
def dropK (kvs : List (κ × V)) (k : κ) : List (κ × V) := kvs.filter fun kv => decide (kv.1 ≠ k)

theorem valV_nil {k : κ} : valV ([] : List (κ × V)) k = none := rfl
theorem valV_pos {p : κ × V} {r : List (κ × V)} {k : κ} (e : p.1 = k) : valV (p :: r) k = some p.2 := by simp [valV, List.find?_cons, e]
theorem valV_neg {p : κ × V} {r : List (κ × V)} {k : κ} (e : ¬ p.1 = k) : valV (p :: r) k = valV r k := by simp [valV, List.find?_cons, e]
theorem valV_any (k : κ) : ∀ kvs : List (κ × V), (kvs.any fun kv => decide (kv.1 = k)) = (valV kvs k).isSome
  | [] => rfl
  | p :: r => by
    rw [List.any_cons]
    by_cases e : p.1 = k
    · simp only [valV_pos e, decide_eq_true e, Bool.true_or, Option.isSome_some]
    · rw [valV_neg e, decide_eq_false e, Bool.false_or]; exact valV_any k r
theorem valV_map (k j : κ) (y : V) : ∀ kvs : List (κ × V), valV (kvs.map fun kv => if kv.1 = k then (kv.1, y) else kv) j = (valV kvs j).map fun x => if j = k then y else x
  | [] => rfl
  | p :: r => by
    have ih := valV_map k j y r
    rw [List.map_cons]
    by_cases h : p.1 = k
    · rw [if_pos h]
      by_cases e : p.1 = j
      · rw [valV_pos (p := (p.1, y)) e, valV_pos e, Option.map_some, if_pos (e.symm.trans h)]
      · rw [valV_neg (p := (p.1, y)) e, valV_neg e, ih]
    · rw [if_neg h]
      by_cases e : p.1 = j
      · rw [valV_pos (p := p) e, valV_pos e, Option.map_some, if_neg (fun z => h (e.trans z))]
      · rw [valV_neg (p := p) e, valV_neg e, ih]
theorem valV_snoc (k j : κ) (y : V) : ∀ kvs : List (κ × V), valV kvs k = none → valV (kvs ++ [(k, y)]) j = if j = k then some y else valV kvs j
  | [], _ => by
    by_cases e : k = j
    · rw [if_pos e.symm]; exact valV_pos (p := (k, y)) e
    · rw [if_neg (fun z => e z.symm)]; exact valV_neg (p := (k, y)) e
  | p :: r, hn => by
    rw [List.cons_append]
    have hk : ¬ p.1 = k := fun z => by rw [valV_pos z] at hn; cases hn
    rw [valV_neg hk] at hn
    have ih := valV_snoc k j y r hn
    by_cases e : p.1 = j
    · rw [valV_pos e, valV_pos e, if_neg (fun z => hk (e.trans z))]
    · rw [valV_neg e, valV_neg e, ih]
theorem valV_put (kvs : List (κ × V)) (k j : κ) (y : V) : valV (putK kvs k y) j = if j = k then some y else valV kvs j := by
  unfold putK
  by_cases a : (kvs.any fun kv => decide (kv.1 = k)) = true
  · rw [if_pos a, valV_map]
    rw [valV_any] at a
    by_cases e : j = k
    · obtain ⟨x, hx⟩ := Option.isSome_iff_exists.mp a
      rw [if_pos e, e, hx, Option.map_some, if_pos rfl]
    · rw [if_neg e]
      cases valV kvs j with
      | none => rfl
      | some x => rw [Option.map_some, if_neg e]
  · rw [if_neg a]
    refine valV_snoc k j y kvs ?_
    rw [valV_any] at a
    cases q : valV kvs k with
    | none => rfl
    | some x => rw [q] at a; exact (a rfl).elim
theorem length_putK (kvs : List (κ × V)) (k : κ) (v : V) : (putK kvs k v).length ≤ kvs.length + 1 := by
  unfold putK
  split
  · rw [List.length_map]; omega
  · rw [List.length_append, List.length_cons, List.length_nil]; omega
theorem RelO.isSome_eq {o : Option V} {u : Option Value} (r : RelO o u) : o.isSome = u.isSome := by
  cases o with
  | none => cases u with
    | none => rfl
    | some _ => exact (show False from r).elim
  | some _ => cases u with
    | none => exact (show False from r).elim
    | some _ => rfl
theorem RelO.getD {o : Option V} {u : Option Value} {d : V} {d' : Value} (r : RelO o u) (rd : RelV d d') : RelV (o.getD d) (u.getD d') := by
  cases o with
  | none => cases u with
    | none => exact rd
    | some _ => exact (show False from r).elim
  | some _ => cases u with
    | none => exact (show False from r).elim
    | some _ => exact r

theorem KV.val {kvs : List (κ × V)} {vs : List (κ × Value)} (r : KV kvs vs) (k : κ) : RelO (valV kvs k) (valueAt vs k) := by
  unfold KV at r
  induction r with
  | nil => exact True.intro
  | @cons p q ps qs h t ih =>
    obtain ⟨h1, h2⟩ := h
    by_cases e : p.1 = k
    · have e' : q.1 = k := h1.symm.trans e
      have b : valueAt (q :: qs) k = some q.2 := by simp [valueAt, List.find?_cons, e']
      rw [valV_pos e, b]; exact h2
    · have e' : ¬ q.1 = k := fun z => e (h1.trans z)
      have b : valueAt (q :: qs) k = valueAt qs k := by simp [valueAt, List.find?_cons, e']
      rw [valV_neg e, b]; exact ih
theorem KV.any {kvs : List (κ × V)} {vs : List (κ × Value)} (r : KV kvs vs) (k : κ) : (kvs.any fun kv => decide (kv.1 = k)) = vs.any fun kv => decide (kv.1 = k) := by
  unfold KV at r
  induction r with
  | nil => rfl
  | cons h t ih => rw [List.any_cons, List.any_cons, ih, h.1]
theorem KV.repl {kvs : List (κ × V)} {vs : List (κ × Value)} (r : KV kvs vs) (k : κ) {y : V} {u : Value} (ry : RelV y u) :
    KV (kvs.map fun kv => if kv.1 = k then (kv.1, y) else kv) (vs.map fun kv => if kv.1 = k then (kv.1, u) else kv) := by
  unfold KV at r ⊢
  induction r with
  | nil => exact .nil
  | @cons p q ps qs h t ih =>
    rw [List.map_cons, List.map_cons]
    refine .cons ?_ ih
    obtain ⟨h1, h2⟩ := h
    by_cases e : p.1 = k
    · rw [if_pos e, if_pos (h1.symm.trans e)]; exact ⟨h1, ry⟩
    · rw [if_neg e, if_neg (fun z => e (h1.trans z))]; exact ⟨h1, h2⟩
theorem KV.put {kvs : List (κ × V)} {vs : List (κ × Value)} (r : KV kvs vs) (k : κ) {y : V} {u : Value} (ry : RelV y u) : KV (putK kvs k y) (stored vs k u) := by
  unfold putK stored
  rw [r.any k]
  by_cases e : (vs.any fun kv => decide (kv.1 = k)) = true
  · rw [if_pos e, if_pos e]; exact r.repl k ry
  · rw [if_neg e, if_neg e]; exact Paired.snoc r ⟨rfl, ry⟩
theorem KV.drop {kvs : List (κ × V)} {vs : List (κ × Value)} (r : KV kvs vs) (k : κ) : KV (dropK kvs k) (without vs k) := by
  unfold KV at r ⊢
  unfold dropK without
  induction r with
  | nil => exact .nil
  | @cons p q ps qs h t ih =>
    obtain ⟨h1, h2⟩ := h
    rw [List.filter_cons, List.filter_cons]
    by_cases e : p.1 = k
    · have a : ¬ decide (p.1 ≠ k) = true := by simp [e]
      have b : ¬ decide (q.1 ≠ k) = true := by simp [h1.symm.trans e]
      rw [if_neg a, if_neg b]; exact ih
    · have e' : ¬ q.1 = k := fun z => e (h1.trans z)
      have a : decide (p.1 ≠ k) = true := by simp [e]
      have b : decide (q.1 ≠ k) = true := by simp [e']
      rw [if_pos a, if_pos b]; exact .cons ⟨h1, h2⟩ ih
theorem KV.keys {kvs : List (κ × V)} {vs : List (κ × Value)} (r : KV kvs vs) : kvs.map (·.1) = vs.map (·.1) := by
  unfold KV at r
  induction r with
  | nil => rfl
  | cons h t ih => rw [List.map_cons, List.map_cons, ih, h.1]
theorem KV.length {kvs : List (κ × V)} {vs : List (κ × Value)} (r : KV kvs vs) : kvs.length = vs.length := Paired.length r
theorem dropK_le (kvs : List (κ × V)) (k : κ) : (dropK kvs k).length ≤ kvs.length := List.length_filter_le _ _
end


theorem kV_is {P : Program} {w : World} {k : Key} {u : Value} (r : RelV (kV k) u) : (mixKind P w).is k u = true := by
  cases k with
  | inl i => obtain ⟨t, e⟩ := (show ∃ t, u = Value.int i t from r); subst e; exact mixKind_int P w i t
  | inr x => obtain ⟨t, e⟩ := (show ∃ t, u = Value.str x t from r); subst e; exact mixKind_str P w x t
theorem items_are {P : Program} {w : World} : ∀ {ks : List Key} {us : List Value}, Vals (ks.map kV) us → ItemsAre (mixKind P w) ks us
  | [], _, r => by rw [List.map_nil] at r; cases r; exact .nil
  | k :: ks, _, r => by
    rw [List.map_cons] at r
    cases r with
    | cons h t => exact .cons (kV_is h) (items_are t)

abbrev KT (H : Hp) : List (List Key × V) → List (List Key × Addr × Value) → Prop := Paired fun p q => p.1 = q.1 ∧ H q.2.1 = some (.tup (p.1.map kV)) ∧ RelV p.2 q.2.2
theorem KT.val {H : Hp} {kvs : List (List Key × V)} {xs : List (List Key × Addr × Value)} (r : KT H kvs xs) (k : List Key) : RelO (valV kvs k) ((atKey xs k).map (·.2)) := by
  induction r with
  | nil => exact True.intro
  | @cons p q ps qs h t ih =>
    obtain ⟨h1, _, h2⟩ := h
    by_cases e : p.1 = k
    · have e' : q.1 = k := h1.symm.trans e
      have b : atKey (q :: qs) k = some q.2 := by simp [atKey, List.find?_cons, e']
      rw [valV_pos e, b]; exact h2
    · have e' : ¬ q.1 = k := fun z => e (h1.trans z)
      have b : atKey (q :: qs) k = atKey qs k := by simp [atKey, List.find?_cons, e']
      rw [valV_neg e, b]; exact ih
theorem KT.repl {H : Hp} {kvs : List (List Key × V)} {xs : List (List Key × Addr × Value)} (r : KT H kvs xs) (k : List Key) {y : V} {u : Value} (ry : RelV y u) :
    KT H (kvs.map fun kv => if kv.1 = k then (kv.1, y) else kv) (xs.map (putAt k u)) := by
  induction r with
  | nil => exact .nil
  | @cons p q ps qs h t ih =>
    rw [List.map_cons, List.map_cons]
    refine .cons ?_ ih
    obtain ⟨h1, h2, h3⟩ := h
    unfold putAt
    by_cases e : p.1 = k
    · rw [if_pos e, if_pos (h1.symm.trans e)]; exact ⟨h1, h2, ry⟩
    · rw [if_neg e, if_neg (fun z => e (h1.trans z))]; exact ⟨h1, h2, h3⟩
theorem KT.put {H : Hp} {kvs : List (List Key × V)} {xs : List (List Key × Addr × Value)} (r : KT H kvs xs) (k : List Key) {b : Addr} {y : V} {u : Value} (hb : H b = some (.tup (k.map kV))) (ry : RelV y u) :
    KT H (putK kvs k y) (storedH xs k b u) := by
  have e : (kvs.any fun kv => decide (kv.1 = k)) = (atKey xs k).isSome := by
    rw [valV_any, (r.val k).isSome_eq, Option.isSome_map]
  unfold putK storedH
  rw [e]
  by_cases q : (atKey xs k).isSome = true
  · rw [if_pos q, if_pos q]; exact r.repl k ry
  · rw [if_neg q, if_neg q]; exact Paired.snoc r ⟨rfl, hb, ry⟩
theorem KT.keeps {H H' : Hp} {kvs : List (List Key × V)} {xs : List (List Key × Addr × Value)} (r : KT H kvs xs) (ht : ∀ b ys, H b = some (.tup ys) → H' b = some (.tup ys)) : KT H' kvs xs :=
  Paired.mapP r fun _ _ z => ⟨z.1, ht _ _ z.2.1, z.2.2⟩

section
variable {P : Program} {w : World} {H : Hp} {h : Heap} {a : Addr}
theorem rd_of {u : HO} (ok : HOk P w H h) (e : Rd H a u) : ObjOk P w H h a u := e.ok ok
theorem dk_rd {kvs : List (Key × V)} (ok : HOk P w H h) (e : Rd H a (.dK kvs)) : kvs.length ≤ sizeLine ∧ (a == sysModules) = false ∧ ∃ vs, KV kvs vs ∧ h.DictOf (mixKind P w) a vs :=
  show ObjOk P w H h a (.dK kvs) from rd_of ok e
theorem dk_of {kvs : List (Key × V)} (ok : HOk P w H h) (e : H a = some (.dK kvs)) : kvs.length ≤ sizeLine ∧ (a == sysModules) = false ∧ ∃ vs, KV kvs vs ∧ h.DictOf (mixKind P w) a vs := dk_rd ok (.inl e)
theorem key_of {ks : List Key} (ok : HOk P w H h) (e : H a = some (.tup (ks.map kV))) : (tupleKind (mixKind P w)).is h ks a := by
  obtain ⟨_, its, r, o, h1, h2, n, h3⟩ := (show ObjOk P w H h a (.tup (ks.map kV)) from ok a _ e)
  exact ⟨o, its.toArray, n, h1, h2, h3, by simpa using items_are r⟩
theorem dt_rd {kvs : List (List Key × V)} (ok : HOk P w H h) (e : Rd H a (.dT kvs)) : kvs.length ≤ sizeLine ∧ (a == sysModules) = false ∧
    ∃ xs, KT H kvs xs ∧ h.DictOfH (tupleKind (mixKind P w)) a xs := by
  obtain ⟨z, y, xs, r, o, es, ep, h1, h2, h3, h4, h5⟩ := (show ObjOk P w H h a (.dT kvs) from rd_of ok e)
  refine ⟨z, y, xs, r, o, es, ep, h1, h2, h3, h4, fun x hx => ?_, h5⟩
  have all : ∀ {l : List (List Key × V)} {m : List (List Key × Addr × Value)}, KT H l m → ∀ x ∈ m, (tupleKind (mixKind P w)).is h x.1 x.2.1 := by
    intro l m q
    induction q with
    | nil => intro x hx; exact nomatch hx
    | @cons p q ps qs hq t ih =>
      intro x hx
      rcases List.mem_cons.mp hx with e | hx
      · subst e
        exact key_of ok (by rw [← hq.1]; exact hq.2.1)
      · exact ih x hx
  exact all r x hx
theorem dt_of {kvs : List (List Key × V)} (ok : HOk P w H h) (e : H a = some (.dT kvs)) : kvs.length ≤ sizeLine ∧ (a == sysModules) = false ∧
    ∃ xs, KT H kvs xs ∧ h.DictOfH (tupleKind (mixKind P w)) a xs := dt_rd ok (.inl e)
end

def DGet (H : Hp) (a : Addr) (y : V) (r : Option V) : Prop :=
  (∃ kvs k, Rd H a (.dK kvs) ∧ y = kV k ∧ r = valV kvs k) ∨ ∃ kvs k b, Rd H a (.dT kvs) ∧ y = .ref b ∧ H b = some (.tup (k.map kV)) ∧ r = valV kvs k
def DPut (H : Hp) (a : Addr) (y v : V) (H' : Hp) : Prop :=
  (∃ kvs k, H a = some (.dK kvs) ∧ y = kV k ∧ kvs.length < sizeLine ∧ H' = upd H a (.dK (putK kvs k v))) ∨
  ∃ kvs k b, H a = some (.dT kvs) ∧ y = .ref b ∧ H b = some (.tup (k.map kV)) ∧ kvs.length < sizeLine ∧ H' = upd H a (.dT (putK kvs k v))
theorem DGet.k {H : Hp} {a : Addr} {kvs : List (Key × V)} {k : Key} (e : H a = some (.dK kvs)) : DGet H a (kV k) (valV kvs k) := .inl ⟨kvs, k, .inl e, rfl, rfl⟩
theorem DGet.t {H : Hp} {a b : Addr} {kvs : List (List Key × V)} {k : List Key} (e : H a = some (.dT kvs)) (eb : H b = some (.tup (k.map kV))) : DGet H a (.ref b) (valV kvs k) := .inr ⟨kvs, k, b, .inl e, rfl, eb, rfl⟩
theorem DPut.k {H : Hp} {a : Addr} {kvs : List (Key × V)} {k : Key} {v : V} (e : H a = some (.dK kvs)) (hl : kvs.length < sizeLine) : DPut H a (kV k) v (upd H a (.dK (putK kvs k v))) := .inl ⟨kvs, k, e, rfl, hl, rfl⟩
theorem DPut.t {H : Hp} {a b : Addr} {kvs : List (List Key × V)} {k : List Key} {v : V} (e : H a = some (.dT kvs)) (eb : H b = some (.tup (k.map kV))) (hl : kvs.length < sizeLine) :
    DPut H a (.ref b) v (upd H a (.dT (putK kvs k v))) := .inr ⟨kvs, k, b, e, rfl, eb, hl, rfl⟩


section
variable {X : Cx} {pins : List (Addr × Obj)} {σ : St} {H : Hp} {s : Shared} {a : Addr} {y v : V} {u r : Value} {o : Option V} {A : Around} {E : Value → Shared → Prop}

theorem d_getItem {Q : Value → Shared → Prop} (hu : A.units + 1 < cLine) (I : Inv X pins σ H s) (g : DGet H a y (some v)) (ry : RelV y u) (h : ∀ w' s', Inv X pins σ H s' → RelV v w' → Q w' s') :
    wpAny (model X.prog X.w) A (getItem (.ref a) u) Q E s := by
  rcases g with ⟨kvs, k, e, ey, l⟩ | ⟨kvs, k, b, e, ey, eb, l⟩
  · subst ey
    obtain ⟨z, hd, vs, rel, dd⟩ := dk_rd I.hok e
    obtain ⟨w', hw, rw'⟩ := RelO.some_of (v := v) (o := valueAt vs k) (by rw [l]; exact rel.val k)
    exact wpAny_getItem_of (kV_is ry) dd.mapOf hw (h w' _ (I.tok _) rw')
  · subst ey
    cases (show u = Value.ref b from ry)
    obtain ⟨z, hd, xs, rel, dd⟩ := dt_rd I.hok e
    obtain ⟨w', hw, rw'⟩ := RelO.some_of (v := v) (o := (atKey xs k).map (·.2)) (by rw [l]; exact rel.val k)
    obtain ⟨p, hp, hp2⟩ := Option.map_eq_some_iff.mp hw
    refine wpAny_getItem_heap (tupleKind_room_in1 hu) (key_of I.hok eb) dd hp ?_
    rw [hp2]
    exact h w' _ (I.tok _) rw'
theorem d_write {h' : Heap} {t' : Nat} {ob : HO} (I : Inv X pins σ H s) (mu : Mut (H a)) (hs : Heap.SameBut a s.heap h') (he : ∃ q, h'.get? a = some q) (new : ObjOk X.prog X.w (upd H a ob) h' a ob) :
    Inv X pins σ (upd H a ob) { s with heap := h', toks := t' } :=
  I.write (x := a) (e := a) mu (.inl rfl) (fun b q hb z => (hs.2 b hb).trans z) he new
theorem dk_new {P : Program} {w : World} {H' : Hp} {h' : Heap} {kvs : List (Key × V)} {vs : List (Key × Value)} (z : kvs.length ≤ sizeLine) (hd : (a == sysModules) = false) (rel : KV kvs vs) (dd : h'.DictOf (mixKind P w) a vs) :
    ObjOk P w H' h' a (.dK kvs) := ⟨z, hd, vs, rel, dd⟩
theorem d_setItem {H' : Hp} {Q : Unit → Shared → Prop} (hu : A.units + 1 < cLine) (I : Inv X pins σ H s) (g : DPut H a y v H') (ry : RelV y u) (rv : RelV v r) (h : ∀ s', Inv X pins σ H' s' → Q () s') :
    wpAny (model X.prog X.w) A (setItem (.ref a) u r) Q E s := by
  rcases g with ⟨kvs, k, e, ey, l, eH⟩ | ⟨kvs, k, b, e, ey, eb, l, eH⟩
  · subst ey eH
    obtain ⟨z, hd, vs, rel, dd⟩ := dk_of I.hok e
    have hz : vs.length ≤ sizeLine := by rw [← rel.length]; exact z
    have hl : (putK kvs k v).length ≤ sizeLine := by have := length_putK kvs k v; omega
    refine wpAny_setItem_pairs (hsz := hz) (kV_is ry) dd fun h' dd' hs => h _ ?_
    have he : ∃ q, h'.get? a = some q := let ⟨q, _, _, hq, _⟩ := dd'; ⟨q, hq⟩
    exact d_write I (by rw [e]; exact True.intro) hs he (dk_new hl hd (rel.put k rv) dd')
  · subst ey eH
    cases (show u = Value.ref b from ry)
    obtain ⟨z, hd, xs, rel, dd⟩ := dt_of I.hok e
    have hz : xs.length ≤ sizeLine := by rw [← Paired.length rel]; exact z
    have hl : (putK kvs k v).length ≤ sizeLine := by have := length_putK kvs k v; omega
    refine wpAny_setItem_heap (hsz := hz) (tupleKind_room_in1 hu) (key_of I.hok eb) dd fun h' dd' hs => h _ ?_
    obtain ⟨q, es, ep, hq, h2, h3, h4, _, h5⟩ := dd'
    refine d_write I (by rw [e]; exact True.intro) hs ⟨q, hq⟩ ⟨hl, hd, _, (rel.put k eb rv).keeps fun c ys ec => ?_, q, es, ep, hq, h2, h3, h4, h5⟩
    rw [upd_ne (ne_of ec e (fun z => nomatch z))]
    exact ec
end

section
variable {X : Cx} {pins : List (Addr × Obj)} {σ : St} {H : Hp} {s : Shared} {a : Addr} {kvs : List (Key × V)} {k : Key} {u : Value} {A : Around} {E : Value → Shared → Prop}
theorem d_len {Q : Value → Shared → Prop} (I : Inv X pins σ H s) (e : Rd H a (.dK kvs)) (h : ∀ t s', Inv X pins σ H s' → Q (.int kvs.length t) s') : wpAny (model X.prog X.w) A (call (.builtin "len") [.ref a]) Q E s := by
  obtain ⟨z, hd, vs, rel, dd⟩ := dk_rd I.hok e
  refine call_len_dict hd dd (by rw [← rel.length]; rw [sizeLine_eq] at z; omega) ?_
  rw [← rel.length]
  exact h _ _ (I.tok _)
end


def NoSl (i : Expr) : Prop := ∀ ov iv, subscripted i false ov iv = operate [ov, iv] (getItem ov iv)
theorem dict_typeIs {X : Cx} {pins : List (Addr × Obj)} {σ : St} {H : Hp} {s : Shared} {a : Addr} {y : V} {o : Option V} (I : Inv X pins σ H s) (g : DGet H a y o) : s.TypeIs (.ref a) "dict" := by
  rcases g with ⟨kvs, k, e, _, _⟩ | ⟨kvs, k, b, e, _, _, _⟩
  · obtain ⟨_, _, vs, _, dd⟩ := dk_rd I.hok e
    exact dd.typeIs
  · obtain ⟨_, _, xs, _, dd⟩ := dt_rd I.hok e
    exact dd.typeIs
def tDGet (td ty : TE) : TE := fun σ H Q => td σ H fun x H1 => ty σ H1 fun y H2 => ∃ a v, x = .ref a ∧ DGet H2 a y (some v) ∧ Q v H2
def tDIn (ty td : TE) : TE := fun σ H Q => ty σ H fun y H1 => td σ H1 fun x H2 => ∃ a o, x = .ref a ∧ DGet H2 a y o ∧ Q (.bl o.isSome) H2
def tDNotIn (ty td : TE) : TE := fun σ H Q => ty σ H fun y H1 => td σ H1 fun x H2 => ∃ a o, x = .ref a ∧ DGet H2 a y o ∧ Q (.bl (!o.isSome)) H2
def sDPut (td ty tv : TE) : TS := fun D σ H => tv σ H fun v H1 => td σ H1 fun x H2 => ty σ H2 fun y H3 => ∃ a H4, x = .ref a ∧ DPut H3 a y v H4 ∧ D.nx σ H4
def sDAug (td ty tv : TE) (rd : V → V → Hp → VK → Prop) : TS := fun D σ H => td σ H fun x H1 => ty σ H1 fun y H2 => ∃ a v, x = .ref a ∧ DGet H2 a y (some v) ∧
  tv σ H2 fun y2 H3 => rd v y2 H3 fun z H4 => ∃ H5, DPut H4 a y z H5 ∧ D.nx σ H5
def sDDel (td ty : TE) : TS := fun D σ H => td σ H fun x H1 => ty σ H1 fun y H2 => ∃ a kvs k, x = .ref a ∧ H2 a = some (.dK kvs) ∧ y = kV k ∧ (valV kvs k).isSome = true ∧ D.nx σ (upd H2 a (.dK (dropK kvs k)))

section
variable {X : Cx} {o i e value : Expr} {pos pos' tpos : Pos} {td ty tv : TE}
end


def tDNewK : TE := fun _ H Q => ∀ p, H p = none → Q (.ref p) (upd H p (.dK []))
def tDNewT : TE := fun _ H Q => ∀ p, H p = none → Q (.ref p) (upd H p (.dT []))
section
variable {X : Cx} {pos : Pos}
end

def tPairs : List (TE × TE) → St → Hp → (List (V × V) → Hp → Prop) → Prop
  | [], _, H, Q => Q [] H
  | (tk, tv) :: r, σ, H, Q => tk σ H fun x H1 => tv σ H1 fun y H2 => tPairs r σ H2 fun ps H3 => Q ((x, y) :: ps) H3
abbrev VV : List (V × V) → List (Value × Value) → Prop := Paired fun p q => RelV p.1 q.1 ∧ RelV p.2 q.2
def PPs (X : Cx) (pos : Pos) (keys : List (Option Expr)) (values : List Expr) (trs : List (TE × TE)) : Prop :=
  ∀ (pins : List (Addr × Obj)) (s : Shared) (σ : St) (H : Hp) (Q : List (V × V) → Hp → Prop), Inv X pins σ H s → tPairs trs σ H Q →
    wpAny (model X.prog X.w) X.A (evalPairs (pairTrees keys values X.env pos)) (fun vs s' => ∃ ps H', Inv X pins σ H' s' ∧ VV ps vs ∧ Q ps H') X.xe s
def mergeK (kvs more : List (Key × V)) : List (Key × V) := more.foldl (fun acc kv => putK acc kv.1 kv.2) kvs
def tDisp (trs : List (TE × TE)) : TE := fun σ H Q => ∀ p, H p = none → tPairs trs σ (upd H p (.dK [])) fun ps H2 => H2 p = some (.dK []) ∧ ∃ kvs : List (Key × V), ps = kvs.map (fun kv => (kV kv.1, kv.2)) ∧ kvs.length ≤ 15 ∧ Q (.ref p) (upd H2 p (.dK (mergeK [] kvs)))
structure M1 (X : Cx) (o : Expr) (m : Str) (apos : Pos) (e : Expr) (cpos : Pos) : Prop where
  base : attributeBase o m X.env (eval o X.env) = eval o X.env
  few : ((backTo cpos (starEach [e] X.env)).all (fun x => !x.1) && (backToKw cpos (keywordEach [] X.env)).all (fun x => x.1.isSome)
    && decide (([e] : List Expr).length + ([] : List Keyword).length + (if ([] : List Keyword).isEmpty then 0 else 1) < 30)) = true
  line : (apos.endLine == cpos.line) = true
  trees : backTo cpos (starEach [e] X.env) = [(false, eval e X.env)]
structure M2 (X : Cx) (o : Expr) (m : Str) (apos : Pos) (e f : Expr) (cpos : Pos) : Prop where
  base : attributeBase o m X.env (eval o X.env) = eval o X.env
  few : ((backTo cpos (starEach [e, f] X.env)).all (fun x => !x.1) && (backToKw cpos (keywordEach [] X.env)).all (fun x => x.1.isSome)
    && decide (([e, f] : List Expr).length + ([] : List Keyword).length + (if ([] : List Keyword).isEmpty then 0 else 1) < 30)) = true
  line : (apos.endLine == cpos.line) = true
  trees : backTo cpos (starEach [e, f] X.env) = [(false, eval e X.env), (false, eval f X.env)]

def IsD (H : Hp) (a : Addr) : Prop := (∃ kvs, Rd H a (.dK kvs)) ∨ ∃ kvs, Rd H a (.dT kvs)
section
variable {X : Cx} {pins : List (Addr × Obj)} {σ : St} {H : Hp} {s : Shared} {a : Addr} {y d : V} {u r : Value} {o : Option V} {A : Around} {E : Value → Shared → Prop}
end

def tDGet1 (td ty : TE) : TE := fun σ H Q => td σ H fun x H1 => ∃ a, x = .ref a ∧ IsD H1 a ∧ ty σ H1 fun y H2 => ∃ o, DGet H2 a y o ∧ Q (o.getD .non) H2
def tDGet2 (td ty tx : TE) : TE := fun σ H Q => td σ H fun x H1 => ∃ a, x = .ref a ∧ IsD H1 a ∧ ty σ H1 fun y H2 => tx σ H2 fun z H3 => ∃ o, DGet H3 a y o ∧ Q (o.getD z) H3
def tDPop1 (td ty : TE) : TE := fun σ H Q => td σ H fun x H1 => ∃ a, x = .ref a ∧ IsD H1 a ∧ ty σ H1 fun y H2 => ∃ kvs k v, H2 a = some (.dK kvs) ∧ y = kV k ∧ valV kvs k = some v ∧ Q v (upd H2 a (.dK (dropK kvs k)))
def tDPop2 (td ty tx : TE) : TE := fun σ H Q => td σ H fun x H1 => ∃ a, x = .ref a ∧ IsD H1 a ∧ ty σ H1 fun y H2 => tx σ H2 fun z H3 => ∃ kvs k, H3 a = some (.dK kvs) ∧ y = kV k ∧
  (∀ v, valV kvs k = some v → Q v (upd H3 a (.dK (dropK kvs k)))) ∧ (valV kvs k = none → Q z H3)
section
variable {X : Cx} {o e f : Expr} {apos cpos : Pos} {td ty tx : TE}
end

section
variable {X : Cx} {pins : List (Addr × Obj)} {σ : St} {H : Hp} {s : Shared} {a : Addr} {kvs : List (Key × V)} {A : Around} {E : Value → Shared → Prop}
end


section
variable {X : Cx} {pins : List (Addr × Obj)} {σ : St} {H : Hp} {s : Shared} {a : Addr} {y : V} {u : Value} {A : Around} {E : Value → Shared → Prop}
end
end L2

namespace Att
open PySem PySem.W PySem.Calls PyProof.Rows

section
variable {prog : Program} {w : World} {A : Around} {E : Value → Shared → Prop} {s : Shared} {K : Frag}

end
end Att

namespace L2
open PySem PySem.Spec PyProof.Rows

end L2

namespace L2
open PySem PySem.Spec PyProof.Rows

end L2

namespace L2
open PySem PySem.Spec PyProof.Rows

section
variable {P : Program} {w : World} {K : PySem.W.Frag} {mg : Str → Option Value} {base : Heap}
end
section
variable {X : Cx}
theorem call_lenD : CallR X (.builtin "len") (fun xs H Q => ∃ a kvs, xs = [V.ref a] ∧ H a = some (.dK kvs) ∧ Q (.int kvs.length) H) := by
  intro pins s σ H xs us Q I r h
  obtain ⟨a, kvs, rfl, ha, q⟩ := h
  obtain ⟨u, rfl, ru⟩ := vals1 r
  cases ru
  exact d_len I (.inl ha) fun t s' I' => ⟨.int kvs.length, H, I', ⟨t, rfl⟩, q⟩
end

section
variable {κ : Type} [DecidableEq κ]
theorem valV_not {kvs : List (κ × V)} {k : κ} (h : valV kvs k = none) : ¬ k ∈ kvs.map (·.1) := by
  intro m
  obtain ⟨p, hp, e⟩ := List.mem_map.mp m
  have q : (kvs.any fun kv => decide (kv.1 = k)) = true := List.any_eq_true.mpr ⟨p, hp, decide_eq_true e⟩
  rw [valV_any, h] at q
  exact absurd q (by simp)
theorem valV_in {kvs : List (κ × V)} {k : κ} {v : V} (h : valV kvs k = some v) : k ∈ kvs.map (·.1) := by
  have q : (kvs.any fun kv => decide (kv.1 = k)) = true := by
    rw [valV_any, h]
    all_goals rfl
  obtain ⟨p, hp, e⟩ := List.any_eq_true.mp q
  exact List.mem_map.mpr ⟨p, hp, of_decide_eq_true e⟩
theorem dropK_pos {p : κ × V} {r : List (κ × V)} {k : κ} (e : p.1 = k) : dropK (p :: r) k = dropK r k := by
  unfold dropK
  rw [List.filter_cons, if_neg (by simp [e])]
theorem dropK_neg {p : κ × V} {r : List (κ × V)} {k : κ} (e : ¬ p.1 = k) : dropK (p :: r) k = p :: dropK r k := by
  unfold dropK
  rw [List.filter_cons, if_pos (by simp [e])]
end
end L2

set_option Elab.async false
set_option linter.all false
set_option maxRecDepth 100000
set_option maxHeartbeats 4000000
namespace L2
open PySem PySem.Spec PyProof.Rows

/-! ### a comprehension's block -/
def closOf (cells : List (Str × Addr)) : List (Str × NameKind) → List (Str × Addr) → List (Str × Addr)
  | [], cs => cs
  | (n, k) :: r, cs => if k = NameKind.free then (match cells.lookup n with | some a => closOf cells r ((n, a) :: cs) | none => closOf cells r cs) else closOf cells r cs
theorem closOf_pure {env : Env} : ∀ (names : List (Str × NameKind)) (cs : List (Str × Addr)), (∀ y ∈ names, y.2 = NameKind.free → ∃ c, env.cells.lookup y.1 = some c) →
    (forIn names cs fun (x : Str × NameKind) r => match x with
      | (name, kind) => if (kind == NameKind.free) = true then do let a ← cellOf env name; pure (ForInStep.yield ((name, a) :: r)) else pure (ForInStep.yield r)) = (pure (closOf env.cells names cs) : Sem (List (Str × Addr)))
  | [], cs, _ => rfl
  | (n, k) :: r, cs, h => by
    have ih := fun cs' => closOf_pure (env := env) r cs' fun y hy => h y (List.mem_cons_of_mem _ hy)
    rw [List.forIn_cons]
    by_cases hk : k = NameKind.free
    · obtain ⟨c, hc⟩ := h (n, k) List.mem_cons_self hk
      have hc' : env.cells.lookup n = some c := hc
      have hcell : cellOf env n = pure c := by unfold cellOf; rw [hc']
      have e1 : closOf env.cells ((n, k) :: r) cs = closOf env.cells r ((n, c) :: cs) := by
        rw [closOf, if_pos hk, hc']
      rw [e1, ← ih ((n, c) :: cs)]
      subst hk
      dsimp only
      rw [hcell]
      rfl
    · have hb : (k == NameKind.free) = false := by simpa using hk
      have e1 : closOf env.cells ((n, k) :: r) cs = closOf env.cells r cs := by
        rw [closOf, if_neg hk]
      rw [e1, ← ih cs]
      dsimp only
      rw [hb]
      rfl
theorem closure_is {scope : Scope} {env : Env} (h : ∀ y ∈ scope.names, y.2 = NameKind.free → ∃ c, env.cells.lookup y.1 = some c) : closureFor scope env = pure (closOf env.cells scope.names []) := by
  have e := closOf_pure (env := env) scope.names [] h
  unfold closureFor
  exact (congrArg (fun t : Sem (List (Str × Addr)) => t >>= fun s => pure s) e).trans rfl
theorem closOf_sound {cells : List (Str × Addr)} : ∀ (names : List (Str × NameKind)) (cs : List (Str × Addr)), (∀ x c, cs.lookup x = some c → cells.lookup x = some c) → ∀ x c, (closOf cells names cs).lookup x = some c → cells.lookup x = some c
  | [], cs, h, x, c, e => h x c e
  | (n, k) :: r, cs, h, x, c, e => by
    by_cases hk : k = NameKind.free
    · cases q : cells.lookup n with
      | none =>
        rw [closOf, if_pos hk, q] at e
        exact closOf_sound r cs h x c e
      | some a =>
        rw [closOf, if_pos hk, q] at e
        refine closOf_sound r _ (fun y d z => ?_) x c e
        rw [List.lookup_cons] at z
        by_cases hy : (y == n) = true
        · rw [hy] at z
          have hy' : y = n := by simpa using hy
          subst hy'
          exact q.trans z
        · have hy' : (y == n) = false := by simpa using hy
          rw [hy'] at z
          exact h y d z
    · rw [closOf, if_neg hk] at e
      exact closOf_sound r cs h x c e
theorem closOf_keep {cells : List (Str × Addr)} : ∀ (names : List (Str × NameKind)) (cs : List (Str × Addr)) (x : Str), (cs.lookup x).isSome = true → ((closOf cells names cs).lookup x).isSome = true
  | [], cs, x, h => h
  | (n, k) :: r, cs, x, h => by
    by_cases hk : k = NameKind.free
    · cases q : cells.lookup n with
      | none => rw [closOf, if_pos hk, q]; exact closOf_keep r cs x h
      | some a =>
        rw [closOf, if_pos hk, q]
        refine closOf_keep r _ x ?_
        rw [List.lookup_cons]
        cases hy : x == n with
        | true => rfl
        | false => exact h
    · rw [closOf, if_neg hk]; exact closOf_keep r cs x h
theorem closOf_has {cells : List (Str × Addr)} : ∀ (names : List (Str × NameKind)) (cs : List (Str × Addr)) (x : Str), (x, NameKind.free) ∈ names → (cells.lookup x).isSome = true → ((closOf cells names cs).lookup x).isSome = true
  | [], cs, x, h, _ => by simp at h
  | (n, k) :: r, cs, x, h, hc => by
    rcases List.mem_cons.mp h with e | e
    · cases e
      obtain ⟨c, hc'⟩ := Option.isSome_iff_exists.mp hc
      rw [closOf, if_pos rfl, hc']
      refine closOf_keep r _ _ ?_
      rw [List.lookup_cons, beq_self_eq_true]
      rfl
    · by_cases hk : k = NameKind.free
      · cases q : cells.lookup n with
        | none => rw [closOf, if_pos hk, q]; exact closOf_has r cs x e hc
        | some a => rw [closOf, if_pos hk, q]; exact closOf_has r _ x e hc
      · rw [closOf, if_neg hk]; exact closOf_has r cs x e hc
theorem lookup_mem {α : Type} : ∀ {l : List (Str × α)} {x : Str} {a : α}, l.lookup x = some a → (x, a) ∈ l
  | [], x, a, h => by simp at h
  | (n, k) :: r, x, a, h => by
    rw [List.lookup_cons] at h
    cases hx : x == n with
    | true =>
      rw [hx] at h
      have e : x = n := by simpa using hx
      subst e
      cases h
      exact List.mem_cons_self
    | false =>
      rw [hx] at h
      exact List.mem_cons_of_mem _ (lookup_mem h)
/-- a name's kind within the block, from its kind in the comprehension's own table -/
theorem relabel_kind {env : Env} : ∀ (names : List (Str × NameKind)) (x : Str) (k : NameKind),
    (names.map fun (p : Str × NameKind) => match p with | (n, k) => if (k == NameKind.free && env.scope.kind == .function && env.kindOf n == some .cell) then (n, NameKind.cell) else (n, k)).lookup x = some k →
      names.lookup x = some k ∨ (k = .cell ∧ names.lookup x = some .free)
  | [], x, k, h => by simp at h
  | (n, k₀) :: r, x, k, h => by
    rw [List.map_cons] at h
    dsimp only at h
    cases hx : x == n with
    | true =>
      rw [List.lookup_cons, hx]
      by_cases hc : (k₀ == NameKind.free && env.scope.kind == .function && env.kindOf n == some .cell) = true
      · rw [if_pos hc, List.lookup_cons, hx] at h
        cases h
        have : k₀ = .free := by
          simp only [Bool.and_eq_true] at hc
          simpa using hc.1.1
        subst this
        exact .inr ⟨rfl, rfl⟩
      · rw [if_neg hc, List.lookup_cons, hx] at h
        exact .inl h
    | false =>
      rw [List.lookup_cons, hx]
      by_cases hc : (k₀ == NameKind.free && env.scope.kind == .function && env.kindOf n == some .cell) = true
      · rw [if_pos hc, List.lookup_cons, hx] at h
        exact relabel_kind r x k h
      · rw [if_neg hc, List.lookup_cons, hx] at h
        exact relabel_kind r x k h
theorem relabel_free {env : Env} : ∀ (names : List (Str × NameKind)) (x : Str), names.lookup x = some .free →
    (names.map fun (p : Str × NameKind) => match p with | (n, k) => if (k == NameKind.free && env.scope.kind == .function && env.kindOf n == some .cell) then (n, NameKind.cell) else (n, k)).lookup x = some .free ∨
    (names.map fun (p : Str × NameKind) => match p with | (n, k) => if (k == NameKind.free && env.scope.kind == .function && env.kindOf n == some .cell) then (n, NameKind.cell) else (n, k)).lookup x = some .cell
  | [], x, h => by simp at h
  | (n, k₀) :: r, x, h => by
    rw [List.map_cons]
    dsimp only
    cases hx : x == n with
    | true =>
      rw [List.lookup_cons, hx] at h
      cases h
      by_cases hc : (NameKind.free == NameKind.free && env.scope.kind == .function && env.kindOf n == some .cell) = true
      · rw [if_pos hc, List.lookup_cons, hx]
        exact .inr rfl
      · rw [if_neg hc, List.lookup_cons, hx]
        exact .inl rfl
    | false =>
      rw [List.lookup_cons, hx] at h
      by_cases hc : (k₀ == NameKind.free && env.scope.kind == .function && env.kindOf n == some .cell) = true
      · rw [if_pos hc, List.lookup_cons, hx]
        exact relabel_free r x h
      · rw [if_neg hc, List.lookup_cons, hx]
        exact relabel_free r x h

def hideN (x y : Str) : Str := if y = x then Str.empty else y
/-- the context of a comprehension's block: its own name in the first slot, then those of the def (M: the def's names, the block's own one hidden) -/
abbrev blk (X : Cx) (x : Str) (scope : Scope) (M : List Str) (C : Addr) (s₀ : Shared) (H₀ : Hp) (fp : List Addr) : Cx :=
  { X with N := x :: M, s₀ := s₀, H₀ := H₀, env := compEnvC scope (closOf X.env.cells scope.names []) C X.env, outer := X.stack, stack := X.stack, ex := fp, fn := fun _ => false, pn := [], xe := fun _ _ => False }

/-- what is asked of a comprehension's table: sc is the def's own one -/
structure CompOk (N M : List Str) (sc : Scope) (x : Str) (scope : Scope) : Prop where
  kind : scope.kind = .function
  cell : ∀ y ∈ scope.names, y.2 ≠ .cell
  names : ∀ y ∈ scope.names, y.2 = .local → scope.names.lookup y.1 = some .local
  own : scope.names.lookup x = some .local
  free : ∀ y ∈ scope.names, y.2 = .free → sc.names.lookup y.1 = some .cell ∨ sc.names.lookup y.1 = some .free
  hid : N.map (hideN x) = M
  nd : (x :: M).Nodup
  others : ∀ y ∈ M, scope.names.lookup y ≠ some .local
  void : scope.names.lookup Str.empty = none

def tComp (wi : TI) (tt : TT) (te : TE) : TE := fun σ H Q => wi σ H fun J H1 => ∀ D, H1 D = none → ∃ W : Nat → Nat → List V → Hp → Prop, (∃ m, W 0 m [] (upd H1 D (.lst []))) ∧ ∀ i m ys H2, W i m ys H2 →
  (J.stop i H2 ∧ H2 D = some (.lst ys) ∧ Q (.ref D) H2) ∨ (J.go i H2 ∧ ys.length < sizeLine ∧ ∀ x H3, J.yld i H2 x H3 → tt (some x :: σ) H3 fun b H4 =>
    if b = true then te (some x :: σ) H4 fun y H5 => H5 D = some (.lst ys) ∧ ∃ m', m' < m ∧ W (i + 1) m' (ys ++ [y]) (upd H5 D (.lst (ys ++ [y]))) else ∃ m', m' < m ∧ W (i + 1) m' ys H4)
def tYes : TT := fun _ H Q => Q true H

section
variable {prog : Program} {w : World} {A : Around} {R : Result → Shared → Prop} {s : Shared}
theorem compLoop_go {elt target iter : Expr} {ifs : List Expr} {scope : Scope} {pos : Pos} {it acc : Value} {env : Env} (Jv : Nat → Shared → Prop)
    (turn : ∀ n s, Jv n s → wpAny (model prog w) A (pyNext it) (fun r s₁ => match r with
      | none => R (.ok .next) s₁
      | some v => wpAny (model prog w) A (letOwnedTupleGo target it v) (fun _ s₀ => wpAny (model prog w) A (assign target env v) (fun _ s₂ =>
          wpAny (model prog w) A (forIn ifs true fun c r => if r = true then do let ok ← isTrue c env (eval c env); pure (ForInStep.yield ok) else pure (ForInStep.yield r)) (fun ok s₃ =>
            if ok = true then wpAny (model prog w) A (eval elt env) (fun x s₄ => wpAny (model prog w) A (call (.builtin "list.append") [acc, x]) (fun _ s₅ => ∃ m, m < n ∧ Jv m s₅) (fun _ _ => False) s₄) (fun _ _ => False) s₃
            else ∃ m, m < n ∧ Jv m s₃) (fun _ _ => False) s₂) (fun _ _ => False) s₀) (fun _ _ => False) s₁) (fun _ _ => False) s)
    (n : Nat) (h : Jv n s) : codeAny (model prog w) A (.compLoop (.ListComp elt [⟨target, iter, ifs, 0⟩] scope pos) 0 it acc env) R s := by
  have no : ∀ {α : Type} {t : Sem α} {Q : α → Shared → Prop} {E : Value → Shared → Prop} {s' : Shared}, wpAny (model prog w) A t Q (fun _ _ => False) s' → wpAny (model prog w) A t Q E s' := fun h => wpAny_mono h (fun _ _ q => q) fun _ _ f => f.elim
  refine codeAny_loop rfl Jv (fun n s hI => ?_) n h
  refine wpAny_noted (env := env) ?_
  rw [compTurn_list]
  refine wpAny_bind (wpAny_standAt (wpAny_bind (thn (no (turn n s hI)) fun r s₁ h₁ => ?_)))
  cases r with
  | none => exact wpAny_pure h₁
  | some v =>
    refine wpAny_bind (thn (no h₁) fun _ s₀ h₀ => wpAny_bind (thn (no h₀) fun _ s₂ h₂ => wpAny_bind (thn (no h₂) fun ok s₃ h₃ => ?_)))
    cases ok with
    | false => exact wpAny_pure ⟨rfl, h₃⟩
    | true => exact wpAny_bind (wpAny_bind (thn (no h₃) fun x s₄ h₄ => wpAny_bind (thn (no h₄) fun _ s₅ h₅ => wpAny_pure (wpAny_pure ⟨rfl, h₅⟩))))
end

section
variable {X : Cx} {pins : List (Addr × Obj)} {σ : St} {H2 : Hp} {s2 : Shared} {E : Value → Shared → Prop}
theorem blk_ok {N M : List Str} {sc scope : Scope} {x : Str} {C : Addr} {H : Hp} {s : Shared} {fp : List Addr} (I : Inv X pins σ H s) (hsc : X.env.scope = sc) (O : CompOk N M sc x scope) (hC : s.heap.objs.size ≤ C)
    (hf : ∀ b ∈ fp, FpOk X pins H b) (hlt : ∀ b ∈ fp, b < s.heap.objs.size) : (blk X x scope M C s H fp).Ok where
  mod := I.ok.mod
  kind := O.kind
  glob := I.ok.glob
  blt := I.ok.blt
  above := hC
  inj := fun y z c e1 e2 => I.ok.inj y z c (closOf_sound _ _ (fun _ _ z => by simp at z) _ _ e1) (closOf_sound _ _ (fun _ _ z => by simp at z) _ _ e2)
  has := fun y hy => by
    have q : scope.names.lookup y = some .free := by
      rcases hy with hy | hy
      · rcases relabel_kind _ _ _ hy with z | ⟨_, z⟩
        · exact absurd rfl (O.cell _ (lookup_mem z))
        · exact z
      · rcases relabel_kind _ _ _ hy with z | ⟨z, _⟩
        · exact z
        · cases z
    have q2 := O.free _ (lookup_mem q) rfl
    rw [← hsc] at q2
    obtain ⟨c, hc⟩ := I.ok.has y q2
    exact Option.isSome_iff_exists.mp (closOf_has _ _ _ (lookup_mem q) (by rw [hc]; rfl))
  cab := fun y c h => by cases h
  hd := I.ok.hd
  frames := I.ok.frames
  stk := .inl rfl
  exf := fun b hb => ⟨Nat.ne_of_lt (Nat.lt_of_lt_of_le (hlt b hb) hC), fun y c e => (hf b hb).2.2.2.2.1 y c (closOf_sound _ _ (fun _ _ z => by simp at z) _ _ e)⟩
  bs := I.bs
  bsz := Nat.le_trans I.ok.bsz I.sz
  noex := fun b o e hb => by
    rcases (hf b hb).2.2.2.1 with z | z
    · exact I.ok.noex b o e z
    · exact absurd (Nat.lt_of_lt_of_le (Heap.lt_size (I.ok.bs b o e).1) z) (Nat.lt_irrefl _)
  exfs := fun b hb z => by
    obtain ⟨_, f1, f2, _⟩ := hf b hb
    exact (List.mem_cons.mp (I.stkSub b z)).elim f1 f2
  funs := I.stack
  frf := I.stkFree

theorem blk_inv {N M : List Str} {sc scope : Scope} {x : Str} {H : Hp} {s : Shared} {fp : List Addr} {h' : Heap} {tk : Nat} (I : Inv X pins σ H s) (hX : X.N = N) (hsc : X.env.scope = sc) (O : CompOk N M sc x scope)
    (hf : ∀ b ∈ fp, FpOk X pins H b) (hlt : ∀ b ∈ fp, b < s.heap.objs.size) {m : Str → Option Value} (hns : h'.Ns s.heap.objs.size m) (k : ∀ b u, s.heap.get? b = some u → h'.get? b = some u) :
    Inv (blk X x scope M s.heap.objs.size s H fp) [] (none :: σ) H { s with heap := h', toks := tk } where
  ok := blk_ok I hsc O (Nat.le_refl _) hf hlt
  os := rfl
  bare := I.bare
  base := Un.kept k
  loc := by
    refine ⟨m, hns, fun i y v e1 e2 e3 => ?_⟩
    cases i with
    | zero => simp at e2
    | succ i =>
      have e1' : M[i]? = some y := by simpa using e1
      have e2' : σ[i]? = some (some v) := by simpa using e2
      have hyM : y ∈ M := List.mem_of_getElem? e1'
      have hfree : scope.names.lookup y = some .free := by
        rcases e3 with e3 | e3 | e3
        · rcases relabel_kind _ _ _ e3 with z | ⟨z, _⟩
          · exact absurd z (O.others y hyM)
          · cases z
        · rcases relabel_kind _ _ _ e3 with z | ⟨_, z⟩
          · exact absurd rfl (O.cell _ (lookup_mem z))
          · exact z
        · rcases relabel_kind _ _ _ e3 with z | ⟨z, _⟩
          · exact z
          · cases z
      have hN : X.N[i]? = some y := by
        rw [hX]
        rw [← O.hid, List.getElem?_map] at e1'
        cases q : N[i]? with
        | none => rw [q] at e1'; cases e1'
        | some z =>
          rw [q] at e1'
          have e4 : hideN x z = y := Option.some.inj e1'
          unfold hideN at e4
          by_cases hz : z = x
          · rw [if_pos hz] at e4
            rw [← e4, O.void] at hfree
            cases hfree
          · rw [if_neg hz] at e4
            rw [e4]
      have q2 := O.free _ (lookup_mem hfree) rfl
      rw [← hsc] at q2
      have hvis : Vis X.env.scope y := q2.elim (fun z => .inr (.inl z)) fun z => .inr (.inr z)
      obtain ⟨m0, hn0, hl⟩ := I.loc
      obtain ⟨u, r, l⟩ := hl i y v hN e2' hvis
      refine ⟨u, r, ?_⟩
      rcases l with ⟨l, _⟩ | ⟨l, c, hc, z⟩
      · exfalso
        have l' : X.env.scope.names.lookup y = some .local := l
        rcases q2 with q2 | q2
        · have q2' : X.env.scope.names.lookup y = some .cell := q2
          rw [l'] at q2'; cases q2'
        · have q2' : X.env.scope.names.lookup y = some .free := q2
          rw [l'] at q2'; cases q2'
      · have hsome := closOf_has scope.names [] y (lookup_mem hfree) (cells := X.env.cells) (by rw [hc]; rfl)
        obtain ⟨c', hc'⟩ := Option.isSome_iff_exists.mp hsome
        have e5 := closOf_sound _ _ (fun _ _ z => by simp at z) _ _ hc'
        rw [hc] at e5
        cases e5
        obtain ⟨o, ho, hd⟩ := z
        refine .inr ⟨?_, c, hc', o, k c o ho, hd⟩
        rcases relabel_free (env := X.env) _ _ hfree with z | z
        · exact .inr z
        · exact .inl z
  cell := fun y c e => by
    obtain ⟨v, o, ho, hd⟩ := I.cell y c (closOf_sound _ _ (fun _ _ z => by simp at z) _ _ e)
    exact ⟨v, o, k c o ho, hd⟩
  free := I.hok.fresh (Nat.le_refl _)
  freeC := fun y c e => I.freeC y c (closOf_sound _ _ (fun _ _ z => by simp at z) _ _ e)
  pin := fun p hp => by simp at hp
  hok := I.hok.kept k
  len := by
    have e : N.length = M.length := by rw [← O.hid, List.length_map]
    simp only [List.length_cons]
    rw [I.len, hX, e]

variable {elt iter : Expr} {ifs : List Expr} {x : Str} {px pos : Pos} {N M : List Str} {sc scope : Scope} {tt : TT} {te : TE} {it : Addr} {fp : List Addr} {tn : Nat → Heap → Prop} {J : It}
theorem comp_block (hcalm : X.calm = true) (hX : X.N = N) (hsc : X.env.scope = sc) (O : CompOk N M sc x scope)
    (hts : ∀ (C : Addr) (s₀ : Shared) (H₀ : Hp) (fp : List Addr) (pins : List (Addr × Obj)) (s : Shared) (σ : St) (H : Hp) (Q : Bool → Hp → Prop), Inv (blk X x scope M C s₀ H₀ fp) pins σ H s → tt σ H Q →
      wpAny (model X.prog X.w) X.A (forIn ifs true fun c r => if r = true then do let ok ← isTrue c (blk X x scope M C s₀ H₀ fp).env (eval c (blk X x scope M C s₀ H₀ fp).env); pure (ForInStep.yield ok) else pure (ForInStep.yield r)) (TP (blk X x scope M C s₀ H₀ fp) pins σ Q) (fun _ _ => False) s)
    (hel : ∀ (C : Addr) (s₀ : Shared) (H₀ : Hp) (fp : List Addr), PE (blk X x scope M C s₀ H₀ fp) elt te)
    (I2 : Inv X pins σ H2 s2) (T : Turn X.prog X.w X.K (.Name x px) J fp it tn) (st2 : tn 0 s2.heap) (f2 : ∀ b ∈ fp, FpOk X pins H2 b) {Qd : Addr → Hp → Prop}
    (q : ∀ D, H2 D = none → ∃ W : Nat → Nat → List V → Hp → Prop, (∃ m, W 0 m [] (upd H2 D (.lst []))) ∧ ∀ i m ys H3, W i m ys H3 →
      (J.stop i H3 ∧ H3 D = some (.lst ys) ∧ Qd D H3) ∨ (J.go i H3 ∧ ys.length < sizeLine ∧ ∀ x H4, J.yld i H3 x H4 → tt (some x :: σ) H4 fun b H5 =>
        if b = true then te (some x :: σ) H5 fun y H6 => H6 D = some (.lst ys) ∧ ∃ m', m' < m ∧ W (i + 1) m' (ys ++ [y]) (upd H6 D (.lst (ys ++ [y]))) else ∃ m', m' < m ∧ W (i + 1) m' ys H5))
    {RR : Value → Addr → Result → Shared → Prop} (hRR : ∀ D C H' s', Inv X pins σ H' s' → FpOk X pins H' C → (∃ m, s'.heap.Ns C m) → Qd D H' → RR (.ref D) C (.ok .next) s') :
    wpAny (model X.prog X.w) X.A (newList []) (fun acc s₃ => wpAny (model X.prog X.w) X.A (newFunctionEnv scope X.env.globals (closOf X.env.cells scope.names []) [] X.env.qual none .none (some X.env)) (fun cenv s₄ =>
      codeAny (model X.prog X.w) X.A (.compStart (.ListComp elt [⟨.Name x px, iter, ifs, 0⟩] scope pos) 0 (.ref it) acc { cenv with scope := relabel scope X.env }) (RR acc cenv.locals) s₄) E s₃) E s2 := by
  have hlt2 : ∀ b ∈ fp, b < s2.heap.objs.size := fun b hb => let ⟨o, e, _⟩ := T.obj _ _ st2 b hb; Heap.lt_size e
  have nD : H2 s2.heap.objs.size = none := I2.hok.fresh (Nat.le_refl _)
  obtain ⟨W, ⟨m0, w0⟩, turn⟩ := q s2.heap.objs.size nD
  have I3 := I2.lnew (its := []) (ys := []) (t' := s2.toks) .nil (Nat.zero_le _)
  refine wpAny_newObj_type (wpAny_newFunctionEnv O.cell (by intro y hy; simp at hy) (fun h₁ hns₁ hsb₁ => ?_) O.kind)
  dsimp only at hns₁ hsb₁ ⊢
  generalize hs3 : ({ s2 with heap := s2.heap.push { cls := .type "list", data := .seq ([] : List Value).toArray }, toks := s2.toks } : Shared) = s3 at I3
  have eh : s3.heap = s2.heap.push { cls := .type "list", data := .seq ([] : List Value).toArray } := by rw [← hs3]
  have es : s3 = { s2 with heap := s2.heap.push { cls := .type "list", data := .seq ([] : List Value).toArray } } := hs3.symm
  have k1 : ∀ b u, s3.heap.get? b = some u → h₁.get? b = some u := fun b u e => by
    refine hsb₁.extBut b u ?_ (Heap.get?_push_of_some _ (by rw [← eh]; exact e))
    rw [← eh]
    exact Nat.ne_of_lt (Heap.lt_size e)
  have f3 : ∀ b ∈ fp, FpOk X pins (upd H2 s2.heap.objs.size (.lst [])) b := fun b hb => ⟨by rw [upd_ne (Nat.ne_of_lt (hlt2 b hb))]; exact (f2 b hb).1, (f2 b hb).2⟩
  have hlt3 : ∀ b ∈ fp, b < s3.heap.objs.size := fun b hb => by
    rw [eh, Heap.size_push]
    exact Nat.lt_succ_of_lt (hlt2 b hb)
  have st3 : tn 0 h₁ := T.keep _ _ _ st2 fun b hb o e => k1 b o (by rw [eh]; exact Heap.get?_push_of_some _ e)
  have hns3 : h₁.Ns s3.heap.objs.size (fun x => ([] : List (Str × Value)).reverse.lookup x) := by rw [eh]; exact hns₁
  have IB := blk_inv (tk := s2.toks) I3 hX hsc O f3 hlt3 hns3 k1
  have eC : s3.heap.objs.size = (s2.heap.push { cls := .type "list", data := .seq ([] : List Value).toArray }).objs.size := by rw [eh]
  have stat : ∀ {H' : Hp}, (∀ b ∈ fp, H' b = none) → ∀ b ∈ fp, FpOk (blk X x scope M s3.heap.objs.size s3 (upd H2 s2.heap.objs.size (.lst [])) fp) [] H' b := fun hn b hb => by
    obtain ⟨g0, g1, g2, g3, g4, g5⟩ := f3 b hb
    exact ⟨hn b hb, Nat.ne_of_lt (hlt3 b hb), fun z => (List.mem_cons.mp (I3.stkSub b z)).elim g1 g2, .inl hb, fun y c e => g4 y c (closOf_sound _ _ (fun _ _ z => by simp at z) _ _ e), fun p hp => by simp at hp⟩
  have loop : ∀ s4 : Shared, s4 = { s3 with heap := h₁, toks := s2.toks } →
      codeAny (model X.prog X.w) X.A (.compLoop (.ListComp elt [⟨.Name x px, iter, ifs, 0⟩] scope pos) 0 (.ref it) (.ref s2.heap.objs.size) (compEnvC scope (closOf X.env.cells scope.names []) s3.heap.objs.size X.env))
        (RR (.ref s2.heap.objs.size) s3.heap.objs.size) s4 := by
    rintro s4 rfl
    refine compLoop_go (fun n s' => ∃ i ys o H', Inv (blk X x scope M s3.heap.objs.size s3 (upd H2 s2.heap.objs.size (.lst [])) fp) [] (o :: σ) H' s' ∧ tn i s'.heap ∧ (∀ b ∈ fp, H' b = none) ∧ W i n ys H') ?_ m0
      ⟨0, [], none, _, IB, st3, fun b hb => (f3 b hb).1, w0⟩
    rintro n s5 ⟨i, ys, o, H5, I5, st5, fr5, w5⟩
    rcases turn i n ys H5 w5 with ⟨stop, hD, qd⟩ | ⟨go, hz, step⟩
    · refine thn (T.done (blk X x scope M s3.heap.objs.size s3 (upd H2 s2.heap.objs.size (.lst [])) fp) rfl rfl rfl hcalm i [] s5 _ H5 _ I5 (stat fr5) st5 stop) fun r s6 ⟨hr, I6⟩ => ?_
      subst hr
      have IX := I3.call' I6.os I6.base I6.hok I6.bare fun b hb => let ⟨_, g1, _, g3, g4, g5⟩ := f3 b hb; ⟨g3, g1, g4, g5⟩
      obtain ⟨mm, hmm, _⟩ := I6.loc
      exact hRR _ _ H5 s6 IX (I3.fpOk (Nat.le_refl _) I6.free) ⟨mm, hmm⟩ qd
    · refine thn (T.item (blk X x scope M s3.heap.objs.size s3 (upd H2 s2.heap.objs.size (.lst [])) fp) rfl rfl rfl hcalm i [] s5 _ H5 _ I5 (stat fr5) st5 go) fun r s6 ⟨u, hr, h6⟩ => ?_
      subst hr
      refine thn h6 fun _ s7 ⟨y, H7, I7, r7, y7, st7, fr7⟩ => ?_
      have I7' := I7.pinned (stat fr7) (T.obj _ _ st7)
      refine wpAny_assign_Name (store_ok (i := 0) I7' O.nd rfl (.inl (lookup_relabel_local O.own)) r7 (fun s8 I8 => ?_) (.inr (lookup_relabel_local O.own)))
      have I8' : Inv (blk X x scope M s3.heap.objs.size s3 (upd H2 s2.heap.objs.size (.lst [])) fp) ([] ++ pinsAt fp s7.heap) (some y :: σ) H7 s8 := I8
      refine thn (hts _ _ _ _ _ s8 _ H7 _ I8' (step y H7 y7)) fun ok s9 ⟨H9, I9, q9⟩ => ?_
      have again : ∀ {ys' : List V} {H' : Hp} {s' : Shared} {m : Nat}, Inv (blk X x scope M s3.heap.objs.size s3 (upd H2 s2.heap.objs.size (.lst [])) fp) ([] ++ pinsAt fp s7.heap) (some y :: σ) H' s' → m < n → W (i + 1) m ys' H' →
          ∃ m, m < n ∧ ∃ i ys o H', Inv (blk X x scope M s3.heap.objs.size s3 (upd H2 s2.heap.objs.size (.lst [])) fp) [] (o :: σ) H' s' ∧ tn i s'.heap ∧ (∀ b ∈ fp, H' b = none) ∧ W i m ys H' := fun {ys' H' s' m} I' hm w' => by
        refine ⟨m, hm, i + 1, ys', some y, H', I'.unpinned, T.keep _ _ _ st7 fun b hb o e => (I'.pin (b, o) (List.mem_append_right _ (List.mem_append_right _ (mem_pinsAt hb e)))).1, fun b hb => ?_, w'⟩
        obtain ⟨o, e, d⟩ := T.obj _ _ st7 b hb
        exact (I'.pin (b, o) (List.mem_append_right _ (List.mem_append_right _ (mem_pinsAt hb e)))).2.1
      cases ok with
      | false =>
        obtain ⟨m', hm, w'⟩ := q9
        exact again I9 hm w'
      | true =>
        refine thn (hel _ _ _ _ _ s9 _ H9 _ I9 q9) fun u2 s10 ⟨y2, H10, I10, r10, hD, m', hm, w'⟩ => ?_
        refine thn (mt_append _ s10 _ H10 (.ref s2.heap.objs.size) [y2] (.ref s2.heap.objs.size) [u2] (fun _ H' => H' = upd H10 s2.heap.objs.size (.lst (ys ++ [y2]))) I10 rfl (.cons r10 .nil) ⟨_, ys, y2, rfl, rfl, hD, hz, rfl⟩) fun _ s11 ⟨_, H11, I11, _, e11⟩ => ?_
        subst e11
        exact again I11 hm w'
  have fin := codeAny_compStart_list (loop _ rfl) (T.self X.A 0 _ _ _ st3 (loop _ rfl))
  rw [es] at fin
  exact fin
end
end L2

set_option Elab.async false
set_option linter.all false
set_option maxRecDepth 100000
set_option maxHeartbeats 4000000
namespace L2
open PySem PySem.Spec PyProof.Rows

section
variable {X : Cx} {elt iter c : Expr} {ifs : List Expr} {x y : Str} {px py pos spos : Pos} {scope sc : Scope} {N M : List Str} {wi : TI} {tt : TT} {te : TE}
theorem pe_compG (hcalm : X.calm = true) (hX : X.N = N) (hsc : X.env.scope = sc) (O : CompOk N M sc x scope) (hi : PI X (.Name x px) iter wi)
    (hts : ∀ (C : Addr) (s₀ : Shared) (H₀ : Hp) (fp : List Addr) (pins : List (Addr × Obj)) (s : Shared) (σ : St) (H : Hp) (Q : Bool → Hp → Prop), Inv (blk X x scope M C s₀ H₀ fp) pins σ H s → tt σ H Q →
      wpAny (model X.prog X.w) X.A (forIn ifs true fun c r => if r = true then do let ok ← isTrue c (blk X x scope M C s₀ H₀ fp).env (eval c (blk X x scope M C s₀ H₀ fp).env); pure (ForInStep.yield ok) else pure (ForInStep.yield r)) (TP (blk X x scope M C s₀ H₀ fp) pins σ Q) (fun _ _ => False) s)
    (hel : ∀ (C : Addr) (s₀ : Shared) (H₀ : Hp) (fp : List Addr), PE (blk X x scope M C s₀ H₀ fp) elt te) (hs : ∀ x, foldedSetIterable iter X.env x = pure x := by intro _; rfl) :
    PE X (.ListComp elt [⟨.Name x px, iter, ifs, 0⟩] scope pos) (tComp wi tt te) := by
  intro pins s σ H Q I h
  rw [eval_ListComp]
  have hcl : closureFor scope X.env = pure (closOf X.env.cells scope.names []) := closure_is fun z hz hf => by
    have q := O.free z hz hf
    rw [← hsc] at q
    exact I.ok.has z.1 q
  refine wpAny_comprehension_free (use := none) rfl hs hcl O.kind O.names (thn (hi pins s σ H _ I h) fun v s1 h1 => thn h1 fun itv s2 h2 => ?_)
  obtain ⟨it, fp, tn, J, H2, e, I2, T, st2, f2, q2⟩ := h2
  subst e
  refine comp_block (Qd := fun D H' => Q (.ref D) H') (RR := fun acc C => compPost (model X.prog X.w) X.A X.xe none (EP X pins σ Q) acc C) hcalm hX hsc O hts hel I2 T st2 f2 (fun D hD => q2 D hD) ?_
  intro D C H' s' I' hC hm q'
  obtain ⟨m, hm⟩ := hm
  obtain ⟨c0, c1, c2, c3, c4, c5⟩ := hC
  exact ⟨m, hm, fun h' hs' => ⟨.ref D, H', I'.turned (t' := s'.toks) (fun b o hb e => hs'.extBut b o hb e) c0 c1 c3 c4 c5, rfl, q'⟩⟩
theorem ps_setcG {i : Nat} (hcalm : X.calm = true) (hX : X.N = N) (hsc : X.env.scope = sc) (O : CompOk N M sc x scope) (hi : PI X (.Name x px) iter wi)
    (hts : ∀ (C : Addr) (s₀ : Shared) (H₀ : Hp) (fp : List Addr) (pins : List (Addr × Obj)) (s : Shared) (σ : St) (H : Hp) (Q : Bool → Hp → Prop), Inv (blk X x scope M C s₀ H₀ fp) pins σ H s → tt σ H Q →
      wpAny (model X.prog X.w) X.A (forIn ifs true fun c r => if r = true then do let ok ← isTrue c (blk X x scope M C s₀ H₀ fp).env (eval c (blk X x scope M C s₀ H₀ fp).env); pure (ForInStep.yield ok) else pure (ForInStep.yield r)) (TP (blk X x scope M C s₀ H₀ fp) pins σ Q) (fun _ _ => False) s)
    (hel : ∀ (C : Addr) (s₀ : Shared) (H₀ : Hp) (fp : List Addr), PE (blk X x scope M C s₀ H₀ fp) elt te)
    (hNd : X.N.Nodup) (hiy : X.N[i]? = some y) (hy : X.env.scope.names.lookup y = some .local)
    (hsw : swapsWith (.ListComp elt [⟨.Name x px, iter, ifs, 0⟩] scope pos) (some (.Name y py)) spos.line X.env = pure true) (hs : ∀ x, foldedSetIterable iter X.env x = pure x := by intro _; rfl) :
    PS X (.Assign [.Name y py] (.ListComp elt [⟨.Name x px, iter, ifs, 0⟩] scope pos) spos) (tAsg (tComp wi tt te) (gName i)) := by
  intro pins s σ H D I h
  have hcl : closureFor scope X.env = pure (closOf X.env.cells scope.names []) := closure_is fun z hz hf => by
    have q := O.free z hz hf
    rw [← hsc] at q
    exact I.ok.has z.1 q
  have key : wpAny (model X.prog X.w) X.A (comprehension (.ListComp elt [⟨.Name x px, iter, ifs, 0⟩] scope pos) scope X.env (firstIterPos [⟨.Name x px, iter, ifs, 0⟩] pos) (newList []) false (eval iter X.env) (some (assign (.Name y py) X.env)))
      (fun _ s' => SP X pins D .next s') X.xe s := by
    refine wpAny_comprehension_free (use := some (assign (.Name y py) X.env)) (Q := fun _ s' => SP X pins D .next s') rfl hs hcl O.kind O.names (thn (hi pins s σ H _ I h) fun v s1 h1 => thn h1 fun itv s2 h2 => ?_)
    obtain ⟨it, fp, tn, J, H2, e, I2, T, st2, f2, q2⟩ := h2
    subst e
    refine comp_block (Qd := fun D0 H' => D.nx (σ.set i (some (.ref D0))) H') (RR := fun acc C => compPost (model X.prog X.w) X.A X.xe (some (assign (.Name y py) X.env)) (fun _ s' => SP X pins D .next s') acc C) hcalm hX hsc O hts hel I2 T st2 f2 (fun D0 hD => q2 D0 hD) ?_
    intro D0 C H' s' I' hC hm q'
    obtain ⟨m, hm⟩ := hm
    obtain ⟨c0, c1, c2, c3, c4, c5⟩ := hC
    show wpAny _ _ (assign (.Name y py) X.env (.ref D0)) _ _ s'
    refine wpAny_assign_Name (store_ok2 (v := .ref D0) I' hNd hiy (.inl hy) rfl (fun s'' I'' ⟨a, sb, ha⟩ => ?_) (.inr hy))
    have hCa : C ≠ a := by
      rcases ha with ha | ha
      · rw [ha]; exact c1
      · exact (c4 _ _ ha).symm
    exact ⟨m, hm.sameBut sb hCa, fun h' hs' => ⟨_, H', I''.turned (t' := s''.toks) (fun b o hb e => hs'.extBut b o hb e) c0 c1 c3 c4 c5, q'⟩⟩
  rw [exec_Assign_Name_used _ _ _ _ hsw]
  refine wpAny_bind (wpAny_standAt (wpAny_bind ?_))
  show wpAny _ _ (do let _ ← comprehension (.ListComp elt [⟨.Name x px, iter, ifs, 0⟩] scope pos) scope X.env (firstIterPos [⟨.Name x px, iter, ifs, 0⟩] pos) (newList []) false (eval iter X.env) (some (assign (.Name y py) X.env))) _ _ s
  exact wpAny_bind (wpAny_mono key (fun _ s' hq => wpAny_pure (wpAny_pure hq)) fun _ _ e => e)
/-- [elt for x in iter] -/
theorem pe_comp (N M : List Str) (sc : Scope) (O : CompOk N M sc x scope) (hi : PI X (.Name x px) iter wi) (hel : ∀ (C : Addr) (s₀ : Shared) (H₀ : Hp) (fp : List Addr), PE (blk X x scope M C s₀ H₀ fp) elt te)
    (hcalm : X.calm = true := by rfl) (hX : X.N = N := by rfl) (hsc : X.env.scope = sc := by rfl) (hs : ∀ x, foldedSetIterable iter X.env x = pure x := by intro _; rfl) :
    PE X (.ListComp elt [⟨.Name x px, iter, [], 0⟩] scope pos) (tComp wi tYes te) :=
  pe_compG hcalm hX hsc O hi (fun C s₀ H₀ fp pins s σ H Q I h => wpAny_tests_nil ⟨H, I, h⟩) hel hs
/-- y = [elt for x in iter] -/
theorem ps_setc {i : Nat} (N M : List Str) (sc : Scope) (O : CompOk N M sc x scope) (hi : PI X (.Name x px) iter wi) (hel : ∀ (C : Addr) (s₀ : Shared) (H₀ : Hp) (fp : List Addr), PE (blk X x scope M C s₀ H₀ fp) elt te)
    (hNd : X.N.Nodup) (hiy : X.N[i]? = some y := by rfl) (hy : X.env.scope.names.lookup y = some .local := by rfl)
    (hsw : swapsWith (.ListComp elt [⟨.Name x px, iter, [], 0⟩] scope pos) (some (.Name y py)) spos.line X.env = pure true := by rfl)
    (hcalm : X.calm = true := by rfl) (hX : X.N = N := by rfl) (hsc : X.env.scope = sc := by rfl) (hs : ∀ x, foldedSetIterable iter X.env x = pure x := by intro _; rfl) :
    PS X (.Assign [.Name y py] (.ListComp elt [⟨.Name x px, iter, [], 0⟩] scope pos) spos) (tAsg (tComp wi tYes te) (gName i)) :=
  ps_setcG hcalm hX hsc O hi (fun C s₀ H₀ fp pins s σ H Q I h => wpAny_tests_nil ⟨H, I, h⟩) hel hNd hiy hy hsw hs
end

/-! ### the walk of a comprehension by its items -/
/-! ### texts as lists of codes -/
abbrev S (l : List Nat) : Str := ⟨l.toArray⟩
theorem S_of (z : Str) : z = S z.cps.toList := by cases z; simp [S]
theorem S_inj {a b : List Nat} (h : S a = S b) : a = b := by
  have h' : a.toArray = b.toArray := congrArg Str.cps h
  simpa using congrArg Array.toList h'
theorem S_len (l : List Nat) : (S l).length = l.length := by show l.toArray.size = l.length; simp
theorem S_app (a b : List Nat) : S a ++ S b = S (a ++ b) := by
  show (⟨a.toArray ++ b.toArray⟩ : Str) = ⟨(a ++ b).toArray⟩
  simp
def cutL (l : List Nat) (lo hi : Option Int) : List Nat := (l.drop (HT.sIx l.length 0 lo)).take (HT.sIx l.length l.length hi - HT.sIx l.length 0 lo)
theorem cutL_le (l : List Nat) (lo hi : Option Int) : (cutL l lo hi).length ≤ l.length := by
  unfold cutL
  rw [List.length_take, List.length_drop]
  omega
def clipI (d : Int) (n : Nat) : Option Int → Int
  | none => d
  | some i => max 0 (min (if i < 0 then i + (n : Int) else i) (n : Int))
theorem clipI_eq (d n : Nat) (o : Option Int) : clipI (d : Int) n o = ((HT.sIx n d o : Nat) : Int) := by
  cases o with
  | none => rfl
  | some i =>
    simp only [HT.sIx, clipI]
    by_cases h : i < 0
    · simp only [h, if_true] <;> omega
    · simp only [h, if_false] <;> omega
theorem sliceIdx_eq (lo hi : Option Int) (n : Nat) : Builtin.Str.strSliceIndices lo hi 1 n = (List.range (HT.sIx n n hi - HT.sIx n 0 lo)).map (HT.sIx n 0 lo + ·) := by
  have key : Builtin.Str.strSliceIndices lo hi 1 n = sliceRange (clipI ((0 : Nat) : Int) n lo) (clipI (n : Int) n hi) 1 := by
    unfold Builtin.Str.strSliceIndices
    cases lo <;> cases hi <;> simp [clipI]
  rw [key, clipI_eq, clipI_eq, sliceRange_one]
section
variable {X : Cx}
def rSlS : V → Option Int → Option Int → Hp → VK → Prop := fun x lo hi H Q => ∃ l, x = .str (S l) ∧ l.length ≤ sizeLine ∧ Q (.str (S (cutL l lo hi))) H
theorem part_of {v : Value} {o : Option Int} (p : IsPart v o) : ∃ l : Option (Int × Tok), v = partValue l ∧ l.map (·.1) = o := by
  cases p with
  | none => exact ⟨none, rfl, rfl⟩
  | int i t => exact ⟨some (i, t), rfl, rfl⟩
theorem sl_str : SlR X rSlS := by
  intro pins s σ H x v vl vu lo hi sl Q I rx hs pl pu h
  obtain ⟨l, rfl, hz, q⟩ := h
  obtain ⟨t, rfl⟩ := rx
  obtain ⟨a, rfl, rfl⟩ := part_of pl
  obtain ⟨b, rfl, rfl⟩ := part_of pu
  refine ⟨"str", _, F.slot_str_getitem.lookup, typeIs_str _ _ _, ?_⟩
  refine wpAny_getItem_str_slice (l := a) (u := b) (st := none) hs rfl ?_
  have ep : slicePicked (S l) a b none = (List.range (HT.sIx l.length l.length (b.map (·.1)) - HT.sIx l.length 0 (a.map (·.1)))).map (HT.sIx l.length 0 (a.map (·.1)) + ·) := by
    have e := sliceIdx_eq (a.map (·.1)) (b.map (·.1)) (S l).length
    rw [S_len] at e
    unfold slicePicked
    rw [S_len]
    exact e
  have ec : (slicePicked (S l) a b none).filterMap ((S l).cps[·]?) = cutL l (a.map (·.1)) (b.map (·.1)) := by
    rw [ep, pick_run]
    simp only [cutL]
  unfold sliceMade
  split
  · rename_i hc
    have hlen : (slicePicked (S l) a b none).length = l.length := by
      rw [Bool.and_eq_true] at hc
      have := hc.2
      rw [beq_iff_eq, S_len] at this
      exact this
    have e : cutL l (a.map (·.1)) (b.map (·.1)) = l := by
      rw [ep, List.length_map, List.length_range] at hlen
      have h1 := HT.sIx_le l.length l.length (Nat.le_refl _) (b.map (·.1))
      unfold cutL
      have h2 : HT.sIx l.length 0 (a.map (·.1)) = 0 := by
        by_cases hl : l.length = 0
        · have := HT.sIx_le l.length 0 (Nat.zero_le _) (a.map (·.1))
          omega
        · omega
      rw [hlen, h2, List.drop_zero, List.take_length]
    rw [e] at q
    exact ⟨.str (S l), H, I, ⟨t, rfl⟩, q⟩
  · refine ⟨?_, .str (S ((slicePicked (S l) a b none).filterMap ((S l).cps[·]?))), H, I.tok _, ⟨_, rfl⟩, ?_⟩
    · rw [ec]
      show (cutL l _ _).toArray.size ≤ sizeLine
      rw [List.size_toArray]
      exact Nat.le_trans (cutL_le _ _ _) hz
    · rw [ec]
      exact q
end

/-! ### the signs of a text, walked -/
def Its (z : Str) : It := ⟨fun i _ => i < z.cps.size, fun i H x H' => H' = H ∧ ∃ c, z.cps[i]? = some c ∧ x = .str ⟨#[c]⟩, fun i _ => z.cps.size ≤ i⟩
theorem walks_str {P : Program} {w : World} {A : Around} (hA : A.handled = none) (it : Addr) (z : Str) (t : Tok) : Walks P w A it [it] [it] z.cps.size (SignAt z) (fun i h => h.IsStrIter it (strIterType z) z t i) := by
  unfold strIterType
  split
  · exact Walks.strAscii hA it z t
  · exact Walks.strWide hA it z t
theorem strIter_plain (z : Str) : ["enumerate", "zip", "dict_itemiterator", "dict_reverseitemiterator", "odict_iterator", "itertools.zip_longest", "itertools.pairwise"].contains (strIterType z) = false := by
  unfold strIterType
  split <;> decide
theorem turn_str {P : Program} {w : World} {K : PySem.W.Frag} {tg : Expr} (it : Addr) (z : Str) (t : Tok) : Turn P w K tg (Its z) [it] it (fun i h => h.IsStrIter it (strIterType z) z t i) where
  mem := by simp
  obj := fun i h st b hb => by
    have e : b = it := by simpa using hb
    subst e
    obtain ⟨o, e, c, d⟩ := st
    exact ⟨o, e, fun v z => by rw [d] at z; cases z⟩
  keep := fun i h h' st k => let ⟨o, e, r⟩ := st; ⟨o, k it (by simp) o e, r⟩
  item := by
    intro X hP hw hK hc i pins s σ H E I hf st hg
    subst hP hw hK
    obtain ⟨f0, f1, f2, f3, f4, f5⟩ := hf it (by simp)
    refine (walks_str (I.ok.hd hc) it z t).item i s _ _ hg st fun v h' tk hv st' kk => ?_
    obtain ⟨c, u, hcz, rfl⟩ := hv
    have I1 : Inv X pins σ H { s with heap := h', toks := tk } := I.turned (fun b o hb e => kk b o (by simpa using hb) e) f0 f1 f3 f4 f5
    obtain ⟨o, e, ec, d⟩ := id st'
    exact ⟨_, rfl, go_of (s := { s with heap := h', toks := tk }) e ec d (strIter_plain z) ⟨.str ⟨#[c]⟩, H, I1, ⟨u, rfl⟩, ⟨rfl, c, hcz, rfl⟩, st', fun b hb => (hf b hb).1⟩⟩
  done := by
    intro X hP hw hK hc i pins s σ H E I hf st hg
    subst hP hw hK
    obtain ⟨f0, f1, f2, f3, f4, f5⟩ := hf it (by simp)
    have hg' : z.cps.size ≤ i := hg
    by_cases ha : z.cps.all (· < 128) = true
    · have st' : s.heap.IsStrIter it "str_ascii_iterator" z t i := by
        have e : strIterType z = "str_ascii_iterator" := by unfold strIterType; rw [if_pos ha]
        rw [← e]; exact st
      exact wpAny_pyNext_ascii_end (I.ok.hd hc) st' (by simpa using hg') fun h' eb => ⟨rfl, I.turned (t' := s.toks) (fun b o hb e => eb b o hb e) f0 f1 f3 f4 f5⟩
    · have st' : s.heap.IsStrIter it "str_iterator" z t i := by
        have e : strIterType z = "str_iterator" := by unfold strIterType; rw [if_neg ha]
        rw [← e]; exact st
      exact wpAny_pyNext_wide_end (I.ok.hd hc) st' (by simpa using hg') fun h' eb => ⟨rfl, I.turned (t' := s.toks) (fun b o hb e => eb b o hb e) f0 f1 f3 f4 f5⟩
  self := fun A i s Q E st h => by
    by_cases ha : z.cps.all (· < 128) = true
    · have e : strIterType z = "str_ascii_iterator" := by unfold strIterType; rw [if_pos ha]
      exact wpAny_pyIter_striter_ascii (by rw [← e]; exact st) h
    · have e : strIterType z = "str_iterator" := by unfold strIterType; rw [if_neg ha]
      exact wpAny_pyIter_striter_wide (by rw [← e]; exact st) h
section
variable {X : Cx} {tg : Expr}
def iStr (tl : TE) : TI := fun σ H R => tl σ H fun x H1 => ∃ z, x = .str z ∧ R (Its z) H1
end
theorem for_str {z : Str} {g : TG} {tb : TS} {D : Ends} {σ : St} {H : Hp} (Pv : Nat → St → Hp → Prop) (h0 : Pv 0 σ H)
    (hs : ∀ i c σ H, z.cps[i]? = some c → Pv i σ H → g (.str ⟨#[c]⟩) σ H fun σ2 H2 => tb { D with nx := Pv (i + 1), ct := Pv (i + 1), bk := D.nx } σ2 H2) (hd : ∀ σ H, Pv z.cps.size σ H → D.nx σ H) :
    ∃ W : Nat → Nat → St → Hp → Prop, (∃ m, W 0 m σ H) ∧ ∀ i m σ H, W i m σ H →
      ((Its z).stop i H ∧ D.nx σ H) ∨ ((Its z).go i H ∧ ∃ N : St → Hp → Prop, (∀ σ' H', N σ' H' → ∃ m', m' < m ∧ W (i + 1) m' σ' H') ∧ ∀ x H', (Its z).yld i H x H' → g x σ H' fun σ2 H2 => tb { D with nx := N, ct := N, bk := D.nx } σ2 H2) := by
  refine ⟨fun i m σ H => m = z.cps.size - i ∧ i ≤ z.cps.size ∧ Pv i σ H, ⟨z.cps.size, rfl, Nat.zero_le _, h0⟩, ?_⟩
  rintro i m σ H ⟨rfl, hi, p⟩
  by_cases hlt : i < z.cps.size
  · refine .inr ⟨hlt, Pv (i + 1), fun σ' H' p' => ⟨z.cps.size - (i + 1), by omega, rfl, hlt, p'⟩, fun x H' y => ?_⟩
    obtain ⟨e, c, hc, rfl⟩ := y
    subst e
    exact hs i c σ _ hc p
  · have e : i = z.cps.size := by omega
    subst e
    exact .inl ⟨Nat.le_refl _, hd σ H p⟩
end L2

set_option Elab.async false
set_option linter.all false
set_option maxRecDepth 100000
set_option maxHeartbeats 4000000
namespace L2
open PySem PySem.Spec PyProof.Rows

theorem hU {k : Nat} {A : Around} (hr : Room k A) : A.units + 64 < cLine := hr.units
theorem hU1 {k : Nat} {A : Around} (hr : Room k A) : A.units + 1 < cLine := hu_of hr

/-! ### module constants -/
def GConst (mg : Str → Option Value) (x : Str) (v : V) : Prop := ∃ u, mg x = some u ∧ RelV v u
theorem pe_const {X : Cx} {x : Str} {v : V} {pos : Pos} (c : GConst X.mg x v) (hg : Gl X x := by rfl) (hd : (x == ("__debug__" : Str)) = false := by decide) : PE X (.Name x pos) (tC v) := by
  obtain ⟨u, h1, h2⟩ := c
  exact pe_glob hg h1 h2 hd

/-! ### data: what a value is worth, down to its leaves -/
mutual
inductive Den (K : PySem.W.Frag) (H : Hp) : V → PyData → Prop
  | non : Den K H .non .none
  | bl (b : Bool) : Den K H (.bl b) (.bool b)
  | int (i : Int) : Den K H (.int i) (.int i)
  | str (x : Str) : Den K H (.str x) (.str x)
  | lst {a : Addr} {xs : List V} {ds : List PyData} : SqL K H a xs → DenAll K H xs ds → Den K H (.ref a) (.list ds)
  | tup {a : Addr} {xs : List V} {ds : List PyData} : SqT K H a xs → DenAll K H xs ds → Den K H (.ref a) (.tuple ds)
inductive DenAll (K : PySem.W.Frag) (H : Hp) : List V → List PyData → Prop
  | nil : DenAll K H [] []
  | cons {v : V} {d : PyData} {vs : List V} {ds : List PyData} : Den K H v d → DenAll K H vs ds → DenAll K H (v :: vs) (d :: ds)
end
mutual
theorem Den.reads {X : Cx} {pins : List (Addr × Obj)} {σ : St} {H : Hp} {s : Shared} (I : Inv X pins σ H s) : ∀ {v : V} {d : PyData} {u : Value}, Den X.K H v d → RelV v u → ∃ as, Reads s.heap u d as
  | _, _, _, .non, r => by cases (show _ = Value.none from r); exact ⟨_, .none⟩
  | _, _, _, .bl b, r => by cases (show _ = Value.bool b from r); exact ⟨_, .bool b⟩
  | _, _, _, .int i, r => by obtain ⟨t, rfl⟩ := r; exact ⟨_, .int i t⟩
  | _, _, _, .str x, r => by obtain ⟨t, rfl⟩ := r; exact ⟨_, .str x t⟩
  | _, _, _, .lst h hd, r => by
    cases (show _ = Value.ref _ from r)
    obtain ⟨its, rv, p, hz⟩ := I.list h
    obtain ⟨o, ho, hc, n, hdt⟩ := p.isList
    obtain ⟨as, ra⟩ := DenAll.reads I hd rv
    exact ⟨_, .list ho hc hdt (by simpa using ra)⟩
  | _, _, _, .tup h hd, r => by
    cases (show _ = Value.ref _ from r)
    obtain ⟨its, rv, p, hz⟩ := I.tuple h
    obtain ⟨o, ho, hc, n, hdt⟩ := p
    obtain ⟨as, ra⟩ := DenAll.reads I hd rv
    exact ⟨_, .tuple ho hc hdt (by simpa using ra)⟩
theorem DenAll.reads {X : Cx} {pins : List (Addr × Obj)} {σ : St} {H : Hp} {s : Shared} (I : Inv X pins σ H s) : ∀ {vs : List V} {ds : List PyData} {us : List Value}, DenAll X.K H vs ds → Vals vs us → ∃ as, ReadsAll s.heap us ds as
  | _, _, _, .nil, .nil => ⟨_, .nil⟩
  | _, _, _, .cons h t, .cons r rr => by
    obtain ⟨a, ha⟩ := Den.reads I h r
    obtain ⟨b, hb⟩ := DenAll.reads I t rr
    exact ⟨_, .cons ha hb⟩
end
def isRef : V → Bool
  | .ref _ => true
  | _ => false
def rEqD (K : PySem.W.Frag) (neg : Bool) : R2 := fun x y H Q => (isRef x || isRef y) = true ∧ ∃ d e, Den K H x d ∧ Den K H y e ∧ SeqAt.shaped d = true ∧ SeqAt.shaped e = true ∧ Q (.bl (if neg then !PyData.eqv d e else PyData.eqv d e)) H
section
variable {X : Cx}
theorem op_eqD (hu : X.A.units + 64 < cLine) : OpR X (compareOp .Eq) (rEqD X.K false) := by
  intro pins s σ H x y v u Q I rx ry h
  obtain ⟨_, d, e, hd, he, sd, se, q⟩ := h
  obtain ⟨as, ra⟩ := hd.reads I rx
  obtain ⟨bs, rb⟩ := he.reads I ry
  exact eq_dataH ra rb sd se hu ⟨.bl (PyData.eqv d e), H, I, rfl, q⟩
theorem op_neD (hu : X.A.units + 64 < cLine) : OpR X (compareOp .NotEq) (rEqD X.K true) := by
  intro pins s σ H x y v u Q I rx ry h
  obtain ⟨_, d, e, hd, he, sd, se, q⟩ := h
  obtain ⟨as, ra⟩ := hd.reads I rx
  obtain ⟨bs, rb⟩ := he.reads I ry
  exact ne_dataH ra rb sd se hu ⟨.bl (!PyData.eqv d e), H, I, rfl, q⟩
theorem op_eqA (hu : X.A.units + 64 < cLine) : OpR X (compareOp .Eq) (fun x y H Q => rEq x y H Q ∨ rEqD X.K false x y H Q) := op_eq.or (op_eqD hu)
theorem op_neA (hu : X.A.units + 64 < cLine) : OpR X (compareOp .NotEq) (fun x y H Q => rNe x y H Q ∨ rEqD X.K true x y H Q) := op_ne.or (op_neD hu)

/-! ### < <= > >= of ints and of texts -/
def rStrs (p : List Nat → List Nat → Bool) : R2 := fun x y H Q => ∃ i j, x = .str i ∧ y = .str j ∧ Q (.bl (p i.cps.toList j.cps.toList)) H
theorem op_ltS : OpR X (compareOp .Lt) (rStrs fun a b => decide (a < b)) := by
  intro pins s σ H x y v u Q I rx ry h
  obtain ⟨i, j, rfl, rfl, q⟩ := h
  obtain ⟨t, rfl⟩ := rx
  obtain ⟨t', rfl⟩ := ry
  exact PySem.P.lt_str ⟨.bl (decide (i.cps.toList < j.cps.toList)), H, I, rfl, q⟩
theorem op_ltA : OpR X (compareOp .Lt) (fun x y H Q => rI0 (fun i j => .bl (decide (i < j))) x y H Q ∨ rStrs (fun a b => decide (a < b)) x y H Q) := op_lt.or op_ltS
theorem op_gtA : OpR X (compareOp .Gt) (rI0 fun i j => .bl (decide (j < i))) := op_gt
/-! ### + -/
def rCatS (K : PySem.W.Frag) : R2 := fun x y H Q => ∃ l b xs zs, x = .ref l ∧ y = .ref b ∧ SqL K H l xs ∧ SqL K H b zs ∧ xs.length + zs.length ≤ sizeLine ∧ ∀ p, H p = none → Q (.ref p) (upd H p (.lst (xs ++ zs)))
theorem op_catS : OpR X (binaryOp .Add) (rCatS X.K) := by
  intro pins s σ H x y v u Q I rx ry h
  obtain ⟨l, b, xs, zs, rfl, rfl, hH, hB, hz, q⟩ := h
  cases rx
  cases ry
  obtain ⟨its, r, p, z1⟩ := I.list hH
  obtain ⟨its2, r2, p2, z2⟩ := I.list hB
  have h1 := r.length
  have h2 := r2.length
  obtain ⟨⟨cl, dc, dt, sl⟩, ho, hc, n, hd⟩ := p.isList
  obtain ⟨⟨cl2, dc2, dt2, sl2⟩, ho2, hc2, n2, hd2⟩ := p2.isList
  simp only at hc hd hc2 hd2
  subst hc hd hc2 hd2
  refine concat_meets ⟨_, ho, rfl⟩ ⟨_, ho2, rfl⟩ PySem.noFill_list_add PySem.seq_list_add F.slot_list_add F.entry_list_add (F.args_list_add_2 _ _) (list_addW l b its.toArray its2.toArray n n2 dc dc2 sl sl2 (by rw [List.size_toArray, List.size_toArray]; omega)) ⟨ho, ho2, ?_⟩
  have ea : its.toArray ++ its2.toArray = (its ++ its2).toArray := by simp
  rw [ea]
  exact ⟨.ref _, _, I.lnew (t' := s.toks) (r.append r2) (by rw [List.length_append]; omega), rfl, q _ I.fresh⟩
def rCatT2 : R2 := fun x y H Q => ∃ i j, x = .str (S i) ∧ y = .str (S j) ∧ i.length + j.length ≤ sizeLine ∧ Q (.str (S (i ++ j))) H
theorem op_catT2 : OpR X (binaryOp .Add) rCatT2 := by
  intro pins s σ H x y v u Q I rx ry h
  obtain ⟨i, j, rfl, rfl, hz, q⟩ := h
  refine op_add_str pins s σ H _ _ v u Q I rx ry ⟨S i, S j, rfl, rfl, ?_, ?_⟩
  · rw [S_len, S_len]; exact hz
  · rw [S_app]; exact q
theorem op_plus : OpR X (binaryOp .Add) (fun x y H Q => rI0 (fun i j => .int (i + j)) x y H Q ∨ (rCatT2 x y H Q ∨ rCatS X.K x y H Q)) := op_add.or (op_catT2.or op_catS)
/-! ### len, isinstance -/
theorem call_lenT : CallR X (.builtin "len") (fun xs H Q => ∃ l, xs = [.str (S l)] ∧ l.length ≤ sizeLine ∧ Q (.int l.length) H) := by
  intro pins s σ H xs us Q I r h
  obtain ⟨l, rfl, hz, q⟩ := h
  refine call_len_str pins s σ H _ us Q I r ⟨S l, rfl, ?_, ?_⟩
  · rw [S_len]; exact hz
  · rw [S_len]; exact q
theorem call_lenA : CallR X (.builtin "len") (fun xs H Q => (∃ p ys, xs = [.ref p] ∧ (SqL X.K H p ys ∨ SqT X.K H p ys) ∧ Q (.int ys.length) H) ∨ ((∃ l, xs = [.str (S l)] ∧ l.length ≤ sizeLine ∧ Q (.int l.length) H) ∨ (∃ a kvs, xs = [V.ref a] ∧ H a = some (.dK kvs) ∧ Q (.int kvs.length) H))) :=
  call_len_seq.or (call_lenT.or call_lenD)
def rIsi (K : PySem.W.Frag) : List V → Hp → VK → Prop := fun xs H Q => (∃ x t n b, xs = [x, .ty n] ∧ TyOf K H x t ∧ PySem.W.kitOne K t (.type n) = some b ∧ Q (.bl b) H) ∨ (∃ x t C b, xs = [x, .ref C] ∧ TyOf K H x t ∧ PySem.W.kitOne K t (.ref C) = some b ∧ Q (.bl b) H)
theorem call_isinstanceA : CallR X (.builtin "isinstance") (rIsi X.K) := by
  intro pins s σ H xs us Q I r h
  rcases h with ⟨x, t, n, b, rfl, ty, e, q⟩ | ⟨x, t, n, b, rfl, ty, e, q⟩
  · obtain ⟨u, w, rfl, rx, rw'⟩ := vals2 r
    cases rw'
    exact isinst_ok I rx ty e fun tk => ⟨.bl b, H, I.tok tk, rfl, q⟩
  · obtain ⟨u, w, rfl, rx, rw'⟩ := vals2 r
    cases rw'
    exact isinst_ok I rx ty e fun tk => ⟨.bl b, H, I.tok tk, rfl, q⟩
theorem call_ordA : CallR X (.builtin "ord") (fun xs H Q => ∃ c, xs = [.str (S [c])] ∧ Q (.int (c : Nat)) H) := by
  intro pins s σ H xs us Q I r h
  obtain ⟨c, rfl, q⟩ := h
  exact call_ord pins s σ H _ us Q I r ⟨S [c], rfl, rfl, q⟩

/-! ### o[i] -/
theorem ix_dict (hu : X.A.units + 1 < cLine) : IxR X (fun x y H Q => ∃ a v, x = .ref a ∧ DGet H a y (some v) ∧ Q v H) := by
  intro value slice pins s σ H x y v u Q I rx ry h hs
  obtain ⟨a, z, rfl, g, q⟩ := h
  cases (show v = Value.ref a from rx)
  exact tail_any (dict_typeIs I g) PySem.F.slot_dict_getitem.lookup (d_getItem hu I g ry fun w' s3 I3 rw' => ⟨z, H, I3, rw', q⟩) hs
def rIxS2 : R2 := fun x y H Q => ∃ l i c, x = .str (S l) ∧ y = .int i ∧ l.length ≤ sizeLine ∧ atI l i = some c ∧ Q (.str (S [c])) H
theorem ix_str2 : IxR X rIxS2 := by
  intro value slice pins s σ H x y v u Q I rx ry h hs
  obtain ⟨l, i, c, rfl, rfl, hz, he, q⟩ := h
  exact ix_str value slice pins s σ H _ _ v u Q I rx ry ⟨S l, i, c, rfl, rfl, (by rw [S_len]; exact hz), (by simpa using he), q⟩ hs
def rIxA (K : PySem.W.Frag) : R2 := fun x y H Q => rIxL K x y H Q ∨ (rIxT K x y H Q ∨ (rIxS2 x y H Q ∨ (∃ a v, x = .ref a ∧ DGet H a y (some v) ∧ Q v H)))
theorem ix_any (hu : X.A.units + 1 < cLine) : IxR X (rIxA X.K) := ix_list.or (ix_tup.or (ix_str2.or (ix_dict hu)))
def rSlA (K : PySem.W.Frag) : V → Option Int → Option Int → Hp → VK → Prop := fun x lo hi H Q => rSlL K x lo hi H Q ∨ rSlS x lo hi H Q
theorem sl_any : SlR X (rSlA X.K) := sl_list.or sl_str
def rSetA : V → V → V → Hp → (Hp → Prop) → Prop := fun o i v H Q => rSetL o i v H Q ∨ ∃ a H', o = .ref a ∧ DPut H a i v H' ∧ Q H'
theorem set_any (hu : X.A.units + 1 < cLine) : PSet X rSetA := by
  intro pins s σ H o i v ov iv u Q I ro ri rv h
  rcases h with h | ⟨a, H', rfl, g, q⟩
  · exact set_list pins s σ H o i v ov iv u Q I ro ri rv h
  · cases (show ov = Value.ref a from ro)
    exact d_setItem hu I g ri rv fun s4 I4 => ⟨H', I4, q⟩

/-! ### in -/
def occB (j i : Str) : Bool := !(Builtin.Str.occurrences j i 0 j.length 1).isEmpty
/-! ### sep.join(xs) -/
def joinL (sep : List Nat) : List (List Nat) → List Nat
  | [] => []
  | [x] => x
  | x :: rest => x ++ sep ++ joinL sep rest
theorem join_S (sep : List Nat) : ∀ ls : List (List Nat), Str.join (S sep) (ls.map S) = S (joinL sep ls)
  | [] => rfl
  | [x] => rfl
  | x :: y :: r => by
    have ih := join_S sep (y :: r)
    show S x ++ S sep ++ Str.join (S sep) ((y :: r).map S) = S (x ++ sep ++ joinL sep (y :: r))
    rw [ih, S_app, S_app]
theorem strsAre_of {ls : List (List Nat)} : ∀ {us : List Value}, Vals (ls.map fun l => V.str (S l)) us → StrsAre us (ls.map S) := by
  induction ls with
  | nil => intro us r; cases r; exact .nil
  | cons a r ih =>
    intro us h
    cases h with
    | cons h1 h2 =>
      obtain ⟨t, rfl⟩ := h1
      exact .cons _ t (ih h2)
def rJoin (K : PySem.W.Frag) : V → List V → Hp → VK → Prop := fun x vs H Q => ∃ sep p ls, x = .str (S sep) ∧ vs = [.ref p] ∧ SqL K H p (ls.map fun l => V.str (S l)) ∧ (ls.map List.length).sum + ls.length * sep.length ≤ 16777216 ∧ Q (.str (S (joinL sep ls))) H
theorem mt_join : MtR X "str.join" (rJoin X.K) := by
  intro pins s σ H x vs v us Q I rx rv h
  obtain ⟨sep, p, ls, rfl, rfl, hq, hz, q⟩ := h
  obtain ⟨t, rfl⟩ := rx
  obtain ⟨u, rfl, ru⟩ := vals1 rv
  cases ru
  obtain ⟨its, r, pl, _⟩ := I.list hq
  refine join_list pl.isList (ys := ls.map S) (by simpa using strsAre_of r) ?_ fun t' k => ?_
  · rw [List.map_map, List.length_map]
    have e : (Str.length ∘ S) = List.length := by funext l; exact S_len l
    rw [e, S_len]
    exact hz
  · have e : Txt.join (S sep) (ls.map S) = S (joinL sep ls) := (StrLaws.glued_eq_join _ _).trans (join_S sep ls)
    rw [e]
    exact ⟨.str (S (joinL sep ls)), H, I.tok k, ⟨t', rfl⟩, q⟩

/-! ### for x in (a list, a tuple, a text) -/
def iAny (K : PySem.W.Frag) (tl : TE) : TI := fun σ H R => tl σ H fun x H1 => (∃ a, x = .ref a ∧ (∃ xs, SqL K H1 a xs) ∧ R (Itl K a) H1) ∨ ((∃ a, x = .ref a ∧ (∃ xs, SqT K H1 a xs) ∧ R (Itt K a) H1) ∨ (∃ z, x = .str z ∧ R (Its z) H1))
theorem pi_any {tg l : Expr} {tl : TE} (hl : PE X l tl) : PI X tg l (iAny X.K tl) := by
  intro pins s σ H R I h
  refine thn (hl pins s σ H _ I h) fun v s1 ⟨x, H1, I1, r1, q1⟩ => ?_
  have aux : ∀ {e : Value} {t : TE} {R' : It → Hp → Prop}, True := fun {_ _ _} => trivial
  have fp : ∀ b, b ∈ [s1.heap.objs.size] → FpOk X pins H1 b := fun b hb => by
    have e : b = s1.heap.objs.size := by simpa using hb
    subst e
    exact I1.fpOk (Nat.le_refl _) (I1.hok.fresh (Nat.le_refl _))
  rcases q1 with ⟨a, e, ⟨xs, hq⟩, q⟩ | ⟨a, e, ⟨xs, hq⟩, q⟩ | ⟨z, e, q⟩
  · subst e
    cases r1
    obtain ⟨its, rv, p, hz⟩ := I1.list hq
    refine wpAny_pyIter_list p.isList ?_
    exact ⟨s1.heap.objs.size, [s1.heap.objs.size], _, _, H1, rfl, I1.kept (t' := s1.toks) fun b o e => Heap.get?_push_of_some _ e, turn_list a _, ⟨_, Heap.get?_push_size _ rfl, rfl, rfl⟩, fp, q⟩
  · subst e
    cases r1
    obtain ⟨its, rv, p, hz⟩ := I1.tuple hq
    refine wpAny_pyIter_tuple (show s1.heap.IsTuple a its.toArray from p) ?_
    exact ⟨s1.heap.objs.size, [s1.heap.objs.size], _, _, H1, rfl, I1.kept (t' := s1.toks) fun b o e => Heap.get?_push_of_some _ e, turn_tuple a _, ⟨_, Heap.get?_push_size _ rfl, rfl, rfl⟩, fp, q⟩
  · subst e
    obtain ⟨t, rfl⟩ := r1
    refine wpAny_pyIter_strU ?_
    exact ⟨s1.heap.objs.size, [s1.heap.objs.size], _, _, H1, rfl, I1.kept (t' := s1.toks) fun b o e => Heap.get?_push_of_some _ e, turn_str _ z t, ⟨_, Heap.get?_push_size _ rfl, rfl, rfl⟩, fp, q⟩
end
end L2

set_option Elab.async false
set_option linter.all false
set_option maxRecDepth 100000
set_option maxHeartbeats 4000000
namespace L2
open PySem PySem.Spec PyProof.Rows

/-! ### a comprehension whose test and element leave all that was there as it was -/
theorem comp_mapf {J : It} {tt : TT} {te : TE} {σ : St} {H : Hp} {D : Addr} {Q : Hp → Prop} (n : Nat) (hn : n ≤ sizeLine) (hD : H D = none) (item f : Nat → V) (p : Nat → Bool)
    (hstop : ∀ H', Same H H' → J.stop n H') (hgo : ∀ i H', Same H H' → i < n → J.go i H') (hy : ∀ i H' x H'', Same H H' → i < n → J.yld i H' x H'' → H'' = H' ∧ x = item i)
    (ht : ∀ i H', i < n → Same H H' → ∀ Qt : Bool → Hp → Prop, (∀ H'', Same H' H'' → Qt (p i) H'') → tt (some (item i) :: σ) H' Qt)
    (he : ∀ i H', i < n → p i = true → Same H H' → ∀ Qe : VK, (∀ H'', Same H' H'' → Qe (f i) H'') → te (some (item i) :: σ) H' Qe)
    (hd : ∀ H', Same H H' → H' D = some (.lst (((List.range n).filter p).map f)) → Q H') :
    ∃ W : Nat → Nat → List V → Hp → Prop, (∃ m, W 0 m [] (upd H D (.lst []))) ∧ ∀ i m ys H2, W i m ys H2 →
      (J.stop i H2 ∧ H2 D = some (.lst ys) ∧ Q H2) ∨ (J.go i H2 ∧ ys.length < sizeLine ∧ ∀ x H3, J.yld i H2 x H3 → tt (some x :: σ) H3 fun b H4 =>
        if b = true then te (some x :: σ) H4 fun y H5 => H5 D = some (.lst ys) ∧ ∃ m', m' < m ∧ W (i + 1) m' (ys ++ [y]) (upd H5 D (.lst (ys ++ [y]))) else ∃ m', m' < m ∧ W (i + 1) m' ys H4) := by
  have same0 : ∀ {H' : Hp} {ys : List V}, Same H H' → Same H (upd H' D (.lst ys)) := fun {H' ys} h b o e => by
    rw [upd_ne (ne_of_none e hD)]
    exact h b o e
  refine ⟨fun i m ys H2 => m = n - i ∧ i ≤ n ∧ ys = ((List.range i).filter p).map f ∧ H2 D = some (.lst ys) ∧ Same H H2, ⟨n, rfl, Nat.zero_le _, rfl, upd_same, same0 (Same.refl _)⟩, ?_⟩
  rintro i m ys H2 ⟨rfl, hi, e, hH, hs⟩
  have hlen : ys.length ≤ i := by
    rw [e, List.length_map]
    exact Nat.le_trans (List.length_filter_le _ _) (by rw [List.length_range]; exact Nat.le_refl _)
  by_cases hlt : i < n
  · refine .inr ⟨hgo i H2 hs hlt, by omega, fun x H3 y => ?_⟩
    obtain ⟨rfl, rfl⟩ := hy i H2 x H3 hs hlt y
    have grow : ((List.range (i + 1)).filter p).map f = if p i = true then ys ++ [f i] else ys := by
      rw [List.range_succ, List.filter_append, List.map_append, ← e]
      by_cases hp : p i = true
      · rw [if_pos hp]; simp [hp]
      · have hp' : p i = false := by simpa using hp
        rw [if_neg hp]; simp [hp']
    refine ht i _ hlt hs _ fun H4 s4 => ?_
    by_cases hp : p i = true
    · rw [hp, if_pos rfl]
      rw [if_pos hp] at grow
      refine he i H4 hlt hp (hs.trans s4) _ fun H5 s5 => ⟨s5 _ _ (s4 _ _ hH), n - (i + 1), by omega, rfl, hlt, grow.symm, upd_same, same0 ((hs.trans s4).trans s5)⟩
    · have hp' : p i = false := by simpa using hp
      rw [hp', if_neg Bool.false_ne_true]
      rw [if_neg hp] at grow
      exact ⟨n - (i + 1), by omega, rfl, hlt, grow.symm, s4 _ _ hH, hs.trans s4⟩
  · have ei : i = n := by omega
    subst ei
    rw [e] at hH
    exact .inl ⟨hstop _ hs, by rw [e]; exact hH, hd _ hs hH⟩
theorem filter_true {α : Type} (l : List α) : l.filter (fun _ => true) = l := by induction l <;> simp_all
/-- [f i for i in range(..)] -/
theorem comp_range {te : TE} {σ : St} {H : Hp} {D : Addr} {Q : Hp → Prop} (lo : Int) (n : Nat) (hn : n ≤ sizeLine) (hD : H D = none) (f : Nat → V)
    (he : ∀ i H', i < n → Same H H' → ∀ Qe : VK, (∀ H'', Same H' H'' → Qe (f i) H'') → te (some (.int (lo + i)) :: σ) H' Qe)
    (hd : ∀ H', Same H H' → H' D = some (.lst ((List.range n).map f)) → Q H') :
    ∃ W : Nat → Nat → List V → Hp → Prop, (∃ m, W 0 m [] (upd H D (.lst []))) ∧ ∀ i m ys H2, W i m ys H2 →
      ((Itr lo n).stop i H2 ∧ H2 D = some (.lst ys) ∧ Q H2) ∨ ((Itr lo n).go i H2 ∧ ys.length < sizeLine ∧ ∀ x H3, (Itr lo n).yld i H2 x H3 → tYes (some x :: σ) H3 fun b H4 =>
        if b = true then te (some x :: σ) H4 fun y H5 => H5 D = some (.lst ys) ∧ ∃ m', m' < m ∧ W (i + 1) m' (ys ++ [y]) (upd H5 D (.lst (ys ++ [y]))) else ∃ m', m' < m ∧ W (i + 1) m' ys H4) :=
  comp_mapf (J := Itr lo n) n hn hD (fun i => .int (lo + i)) f (fun _ => true) (fun _ _ => Nat.le_refl _) (fun i _ _ h => h) (fun i H' x H'' _ _ y => y) (fun i H' _ _ Qt q => q H' (Same.refl _)) (fun i H' h _ s Qe q => he i H' h s Qe q)
    (fun H' s h => hd H' s (by rw [filter_true] at h; exact h))
theorem Same.upd {H : Hp} {D : Addr} {o : HO} (hD : H D = none) : Same H (upd H D o) := fun b u e => by
  rw [upd_ne (ne_of_none e hD)]
  exact e
/-- a list's place, in bounds -/
theorem atI_get? {α : Type} {xs : List α} {i : Int} {v : α} (h0 : 0 ≤ i) (h : xs[i.toNat]? = some v) : atI xs i = some v := by
  have := atI_nat (xs := xs) (j := i.toNat) h
  rwa [show ((i.toNat : Nat) : Int) = i by omega] at this
theorem Same.tup {K : PySem.W.Frag} {H H' : Hp} {a : Addr} {xs : List V} (e : Same H H') (h : SqT K H a xs) : SqT K H' a xs := by
  rcases h with (h | ⟨o, h⟩) | h
  · exact .inl (.inl (e _ _ h))
  · exact .inl (.inr ⟨o, e _ _ h⟩)
  · exact .inr h
mutual
theorem Den.same {K : PySem.W.Frag} {H H' : Hp} (s : Same H H') : ∀ {v : V} {d : PyData}, Den K H v d → Den K H' v d
  | _, _, .non => .non
  | _, _, .bl b => .bl b
  | _, _, .int i => .int i
  | _, _, .str x => .str x
  | _, _, .lst h t => .lst (s.seq h) (DenAll.same s t)
  | _, _, .tup h t => .tup (s.tup h) (DenAll.same s t)
theorem DenAll.same {K : PySem.W.Frag} {H H' : Hp} (s : Same H H') : ∀ {v : List V} {d : List PyData}, DenAll K H v d → DenAll K H' v d
  | _, _, .nil => .nil
  | _, _, .cons h t => .cons (Den.same s h) (DenAll.same s t)
end
/-- what isinstance tells of the plain values -/
theorem rIsi_iff {K : PySem.W.Frag} {H : Hp} {Q : VK} {x : V} {n T : String} {b : Bool} (hT : ∀ t, TyOf K H x t ↔ t = .type T) (hk : PySem.W.kitOne K (.type T) (.type n) = some b) : rIsi K [x, .ty n] H Q ↔ Q (.bl b) H := by
  constructor
  · rintro (⟨x', t, n', b', e, ty, k, q⟩ | ⟨x', t, C, b', e, ty, k, q⟩)
    · simp only [List.cons.injEq, V.ty.injEq, and_true] at e
      obtain ⟨rfl, rfl⟩ := e
      rw [(hT t).mp ty, hk] at k
      cases k
      exact q
    · simp at e
  · intro q
    exact .inl ⟨x, _, n, b, rfl, (hT _).mpr rfl, hk, q⟩
theorem tyOf_non {K : PySem.W.Frag} {H : Hp} (t : Value) : TyOf K H .non t ↔ t = .type "NoneType" := ⟨fun h => by cases h; rfl, fun h => h ▸ .non⟩
theorem tyOf_bl {K : PySem.W.Frag} {H : Hp} (b : Bool) (t : Value) : TyOf K H (.bl b) t ↔ t = .type "bool" := ⟨fun h => by cases h; rfl, fun h => h ▸ .bl b⟩
theorem tyOf_int {K : PySem.W.Frag} {H : Hp} (b : Int) (t : Value) : TyOf K H (.int b) t ↔ t = .type "int" := ⟨fun h => by cases h; rfl, fun h => h ▸ .int b⟩
theorem tyOf_str {K : PySem.W.Frag} {H : Hp} (b : Str) (t : Value) : TyOf K H (.str b) t ↔ t = .type "str" := ⟨fun h => by cases h; rfl, fun h => h ▸ .str b⟩
theorem tyOf_lst {K : PySem.W.Frag} {H : Hp} {a : Addr} {xs : List V} (e : H a = some (.lst xs)) (t : Value) : TyOf K H (.ref a) t ↔ t = .type "list" := by
  constructor
  · intro h
    cases h <;> first | rfl | (rename_i e'; rw [e] at e'; cases e') | (rename_i e' _ _ _ _ _; rw [e] at e'; cases e')
  · intro h
    exact h ▸ .lst e
theorem tyOf_tup {K : PySem.W.Frag} {H : Hp} {a : Addr} {xs : List V} (e : H a = some (.tup xs)) (t : Value) : TyOf K H (.ref a) t ↔ t = .type "tuple" := by
  constructor
  · intro h
    cases h <;> first | rfl | (rename_i e'; rw [e] at e'; cases e') | (rename_i e' _ _ _ _ _; rw [e] at e'; cases e')
  · intro h
    exact h ▸ .tup e
theorem isi_non_int {K : PySem.W.Frag} {H : Hp} {Q : VK} : rIsi K [.non, .ty "int"] H Q ↔ Q (.bl false) H := rIsi_iff (tyOf_non) (by rfl)
theorem isi_non_bool {K : PySem.W.Frag} {H : Hp} {Q : VK} : rIsi K [.non, .ty "bool"] H Q ↔ Q (.bl false) H := rIsi_iff (tyOf_non) (by rfl)
theorem isi_non_str {K : PySem.W.Frag} {H : Hp} {Q : VK} : rIsi K [.non, .ty "str"] H Q ↔ Q (.bl false) H := rIsi_iff (tyOf_non) (by rfl)
theorem isi_non_list {K : PySem.W.Frag} {H : Hp} {Q : VK} : rIsi K [.non, .ty "list"] H Q ↔ Q (.bl false) H := rIsi_iff (tyOf_non) (by rfl)
theorem isi_non_tuple {K : PySem.W.Frag} {H : Hp} {Q : VK} : rIsi K [.non, .ty "tuple"] H Q ↔ Q (.bl false) H := rIsi_iff (tyOf_non) (by rfl)
theorem isi_non_dict {K : PySem.W.Frag} {H : Hp} {Q : VK} : rIsi K [.non, .ty "dict"] H Q ↔ Q (.bl false) H := rIsi_iff (tyOf_non) (by rfl)
theorem isi_bl_int {K : PySem.W.Frag} {H : Hp} {Q : VK} {b : Bool} : rIsi K [(.bl b), .ty "int"] H Q ↔ Q (.bl true) H := rIsi_iff (tyOf_bl _) (by rfl)
theorem isi_bl_bool {K : PySem.W.Frag} {H : Hp} {Q : VK} {b : Bool} : rIsi K [(.bl b), .ty "bool"] H Q ↔ Q (.bl true) H := rIsi_iff (tyOf_bl _) (by rfl)
theorem isi_bl_str {K : PySem.W.Frag} {H : Hp} {Q : VK} {b : Bool} : rIsi K [(.bl b), .ty "str"] H Q ↔ Q (.bl false) H := rIsi_iff (tyOf_bl _) (by rfl)
theorem isi_bl_list {K : PySem.W.Frag} {H : Hp} {Q : VK} {b : Bool} : rIsi K [(.bl b), .ty "list"] H Q ↔ Q (.bl false) H := rIsi_iff (tyOf_bl _) (by rfl)
theorem isi_bl_tuple {K : PySem.W.Frag} {H : Hp} {Q : VK} {b : Bool} : rIsi K [(.bl b), .ty "tuple"] H Q ↔ Q (.bl false) H := rIsi_iff (tyOf_bl _) (by rfl)
theorem isi_bl_dict {K : PySem.W.Frag} {H : Hp} {Q : VK} {b : Bool} : rIsi K [(.bl b), .ty "dict"] H Q ↔ Q (.bl false) H := rIsi_iff (tyOf_bl _) (by rfl)
theorem isi_int_int {K : PySem.W.Frag} {H : Hp} {Q : VK} {b : Int} : rIsi K [(.int b), .ty "int"] H Q ↔ Q (.bl true) H := rIsi_iff (tyOf_int _) (by rfl)
theorem isi_int_bool {K : PySem.W.Frag} {H : Hp} {Q : VK} {b : Int} : rIsi K [(.int b), .ty "bool"] H Q ↔ Q (.bl false) H := rIsi_iff (tyOf_int _) (by rfl)
theorem isi_int_str {K : PySem.W.Frag} {H : Hp} {Q : VK} {b : Int} : rIsi K [(.int b), .ty "str"] H Q ↔ Q (.bl false) H := rIsi_iff (tyOf_int _) (by rfl)
theorem isi_int_list {K : PySem.W.Frag} {H : Hp} {Q : VK} {b : Int} : rIsi K [(.int b), .ty "list"] H Q ↔ Q (.bl false) H := rIsi_iff (tyOf_int _) (by rfl)
theorem isi_int_tuple {K : PySem.W.Frag} {H : Hp} {Q : VK} {b : Int} : rIsi K [(.int b), .ty "tuple"] H Q ↔ Q (.bl false) H := rIsi_iff (tyOf_int _) (by rfl)
theorem isi_int_dict {K : PySem.W.Frag} {H : Hp} {Q : VK} {b : Int} : rIsi K [(.int b), .ty "dict"] H Q ↔ Q (.bl false) H := rIsi_iff (tyOf_int _) (by rfl)
theorem isi_str_int {K : PySem.W.Frag} {H : Hp} {Q : VK} {b : Str} : rIsi K [(.str b), .ty "int"] H Q ↔ Q (.bl false) H := rIsi_iff (tyOf_str _) (by rfl)
theorem isi_str_bool {K : PySem.W.Frag} {H : Hp} {Q : VK} {b : Str} : rIsi K [(.str b), .ty "bool"] H Q ↔ Q (.bl false) H := rIsi_iff (tyOf_str _) (by rfl)
theorem isi_str_str {K : PySem.W.Frag} {H : Hp} {Q : VK} {b : Str} : rIsi K [(.str b), .ty "str"] H Q ↔ Q (.bl true) H := rIsi_iff (tyOf_str _) (by rfl)
theorem isi_str_list {K : PySem.W.Frag} {H : Hp} {Q : VK} {b : Str} : rIsi K [(.str b), .ty "list"] H Q ↔ Q (.bl false) H := rIsi_iff (tyOf_str _) (by rfl)
theorem isi_str_tuple {K : PySem.W.Frag} {H : Hp} {Q : VK} {b : Str} : rIsi K [(.str b), .ty "tuple"] H Q ↔ Q (.bl false) H := rIsi_iff (tyOf_str _) (by rfl)
theorem isi_str_dict {K : PySem.W.Frag} {H : Hp} {Q : VK} {b : Str} : rIsi K [(.str b), .ty "dict"] H Q ↔ Q (.bl false) H := rIsi_iff (tyOf_str _) (by rfl)
theorem isi_lst_list {K : PySem.W.Frag} {H : Hp} {Q : VK} {a : Addr} {xs : List V} (e : H a = some (.lst xs)) : rIsi K [.ref a, .ty "list"] H Q ↔ Q (.bl true) H := rIsi_iff (tyOf_lst e) (by rfl)
theorem isi_tup_tuple {K : PySem.W.Frag} {H : Hp} {Q : VK} {a : Addr} {xs : List V} (e : H a = some (.tup xs)) : rIsi K [.ref a, .ty "tuple"] H Q ↔ Q (.bl true) H := rIsi_iff (tyOf_tup e) (by rfl)
/-! ### loops, kept folded while a body is read -/
def forW (J : It) (g : TG) (tb : TS) (D : Ends) (σ : St) (H1 : Hp) : Prop := ∃ W : Nat → Nat → St → Hp → Prop, (∃ m, W 0 m σ H1) ∧ ∀ i m σ H, W i m σ H →
  (J.stop i H ∧ D.nx σ H) ∨ (J.go i H ∧ ∃ N : St → Hp → Prop, (∀ σ' H', N σ' H' → ∃ m', m' < m ∧ W (i + 1) m' σ' H') ∧ ∀ x H', J.yld i H x H' → g x σ H' fun σ2 H2 => tb { D with nx := N, ct := N, bk := D.nx } σ2 H2)
theorem tFor_eq (wi : TI) (g : TG) (tb : TS) (D : Ends) (σ : St) (H : Hp) : tFor wi g tb D σ H = wi σ H fun J H1 => forW J g tb D σ H1 := rfl
def compW (J : It) (tt : TT) (te : TE) (σ : St) (H1 : Hp) (Q : VK) : Prop := ∀ D, H1 D = none → ∃ W : Nat → Nat → List V → Hp → Prop, (∃ m, W 0 m [] (upd H1 D (.lst []))) ∧ ∀ i m ys H2, W i m ys H2 →
  (J.stop i H2 ∧ H2 D = some (.lst ys) ∧ Q (.ref D) H2) ∨ (J.go i H2 ∧ ys.length < sizeLine ∧ ∀ x H3, J.yld i H2 x H3 → tt (some x :: σ) H3 fun b H4 =>
    if b = true then te (some x :: σ) H4 fun y H5 => H5 D = some (.lst ys) ∧ ∃ m', m' < m ∧ W (i + 1) m' (ys ++ [y]) (upd H5 D (.lst (ys ++ [y]))) else ∃ m', m' < m ∧ W (i + 1) m' ys H4)
theorem tComp_eq (wi : TI) (tt : TT) (te : TE) (σ : St) (H : Hp) (Q : VK) : tComp wi tt te σ H Q = wi σ H fun J H1 => compW J tt te σ H1 Q := rfl
theorem forW_str {z : Str} {g : TG} {tb : TS} {D : Ends} {σ : St} {H : Hp} (Pv : Nat → St → Hp → Prop) (h0 : Pv 0 σ H)
    (hs : ∀ i c σ H, z.cps[i]? = some c → Pv i σ H → g (.str (S [c])) σ H fun σ2 H2 => tb { D with nx := Pv (i + 1), ct := Pv (i + 1), bk := D.nx } σ2 H2) (hd : ∀ σ H, Pv z.cps.size σ H → D.nx σ H) : forW (Its z) g tb D σ H :=
  for_str Pv h0 hs hd
theorem forW_list {K : PySem.W.Frag} {a : Addr} {xs : List V} {g : TG} {tb : TS} {D : Ends} {σ : St} {H : Hp} (Pv : Nat → St → Hp → Prop) (h0 : Pv 0 σ H) (hl : ∀ i σ H, i ≤ xs.length → Pv i σ H → SqL K H a xs)
    (hs : ∀ i x σ H, xs[i]? = some x → Pv i σ H → g x σ H fun σ2 H2 => tb { D with nx := Pv (i + 1), ct := Pv (i + 1), bk := D.nx } σ2 H2) (hd : ∀ σ H, Pv xs.length σ H → D.nx σ H) : forW (Itl K a) g tb D σ H :=
  for_list Pv h0 hl hs hd
theorem forW_range {lo : Int} {n : Nat} {g : TG} {tb : TS} {D : Ends} {σ : St} {H : Hp} (Pv : Nat → St → Hp → Prop) (h0 : Pv 0 σ H)
    (hs : ∀ i σ H, i < n → Pv i σ H → g (.int (lo + i)) σ H fun σ2 H2 => tb { D with nx := Pv (i + 1), ct := Pv (i + 1), bk := D.nx } σ2 H2) (hd : ∀ σ H, Pv n σ H → D.nx σ H) : forW (Itr lo n) g tb D σ H :=
  for_range Pv h0 hs hd
theorem compW_range {te : TE} {σ : St} {H : Hp} {Q : VK} {lo : Int} {n : Nat} (hn : n ≤ sizeLine) (f : Nat → V)
    (he : ∀ i H', i < n → Same H H' → ∀ Qe : VK, (∀ H'', Same H' H'' → Qe (f i) H'') → te (some (.int (lo + i)) :: σ) H' Qe)
    (hd : ∀ D H', H D = none → Same H H' → H' D = some (.lst ((List.range n).map f)) → Q (.ref D) H') : compW (Itr lo n) tYes te σ H Q :=
  fun D hD => comp_range lo n hn hD f he fun H' s h => hd D H' hD s h
theorem cx_K {CX : CXT} {P : Program} {w : World} {K : PySem.W.Frag} {mg : Str → Option Value} {base : Heap} {N : List Str} {qual : Str} {scope : Scope} {f : Addr} {cd : Value} {A : Around} {outer : List Env} {s : Shared} {H : Hp} {E : XK} :
    (cxOf CX P w K mg base N qual scope f cd A outer s H E).K = K := rfl
theorem S_iff (a b : List Nat) : (S a = S b) = (a = b) := propext ⟨S_inj, fun h => by rw [h]⟩
end L2

set_option Elab.async false
set_option linter.all false
set_option maxRecDepth 100000
set_option maxHeartbeats 4000000
namespace L2
open PySem PySem.Spec PyProof.Rows
/-! ### the joined rules by name -/
def rPlus (K : PySem.W.Frag) : R2 := fun x y H Q => rI0 (fun i j => .int (i + j)) x y H Q ∨ (rCatT2 x y H Q ∨ rCatS K x y H Q)
def rEqq (K : PySem.W.Frag) : R2 := fun x y H Q => rEq x y H Q ∨ rEqD K false x y H Q
def rNeq (K : PySem.W.Frag) : R2 := fun x y H Q => rNe x y H Q ∨ rEqD K true x y H Q
def rLt : R2 := fun x y H Q => rI0 (fun i j => .bl (decide (i < j))) x y H Q ∨ rStrs (fun a b => decide (a < b)) x y H Q
def rLe : R2 := fun x y H Q => rI0 (fun i j => .bl (decide (i ≤ j))) x y H Q ∨ rStrs (fun a b => !decide (b < a)) x y H Q
def rLen (K : PySem.W.Frag) : List V → Hp → VK → Prop := fun xs H Q => (∃ p ys, xs = [.ref p] ∧ (SqL K H p ys ∨ SqT K H p ys) ∧ Q (.int ys.length) H) ∨ ((∃ l, xs = [.str (S l)] ∧ l.length ≤ sizeLine ∧ Q (.int l.length) H) ∨ (∃ a kvs, xs = [V.ref a] ∧ H a = some (.dK kvs) ∧ Q (.int kvs.length) H))
def rInn (K : PySem.W.Frag) : R2 := fun x y H Q => rIn K false x y H Q ∨ ((∃ i j, x = .str i ∧ y = .str j ∧ Q (.bl (occB j i)) H) ∨ (∃ a o, y = .ref a ∧ DGet H a x o ∧ Q (.bl o.isSome) H))
def rNin (K : PySem.W.Frag) : R2 := fun x y H Q => rIn K true x y H Q ∨ ((∃ i j, x = .str i ∧ y = .str j ∧ Q (.bl (!occB j i)) H) ∨ (∃ a o, y = .ref a ∧ DGet H a x o ∧ Q (.bl (!o.isSome)) H))
def rListOf (K : PySem.W.Frag) : List V → Hp → VK → Prop := fun xs H Q => ∃ p ys, xs = [.ref p] ∧ (SqL K H p ys ∨ SqT K H p ys) ∧ ∀ l, H l = none → Q (.ref l) (upd H l (.lst ys))
def rOrd : List V → Hp → VK → Prop := fun xs H Q => ∃ c, xs = [.str (S [c])] ∧ Q (.int (c : Nat)) H
def rAny (K : PySem.W.Frag) (x : V) (H1 : Hp) (R : It → Hp → Prop) : Prop := (∃ a, x = .ref a ∧ (∃ xs, SqL K H1 a xs) ∧ R (Itl K a) H1) ∨ ((∃ a, x = .ref a ∧ (∃ xs, SqT K H1 a xs) ∧ R (Itt K a) H1) ∨ (∃ z, x = .str z ∧ R (Its z) H1))
theorem iAny_eq (K : PySem.W.Frag) (tl : TE) (σ : St) (H : Hp) (R : It → Hp → Prop) : iAny K tl σ H R = tl σ H fun x H1 => rAny K x H1 R := rfl
def tTru (K : PySem.W.Frag) (ta : TE) : TT := fun σ H Q => ta σ H fun x H' => ∃ k, TruV K x H' k ∧ Q k H'
/-! ### the joined rules, read: by equations where no object is met, by lemmas where one is -/
section
variable {K : PySem.W.Frag} {H : Hp} {Q : VK} {R : It → Hp → Prop} {x y : V} {a b p : Addr} {xs zs ys : List V}
theorem rPlus_ii (i j : Int) : rPlus K (.int i) (.int j) H Q = Q (.int (i + j)) H := by simp [rPlus, rI0, rCatT2, rCatS]
theorem rPlus_ss (i j : Str) : rPlus K (.str i) (.str j) H Q = ∃ l m, i = S l ∧ j = S m ∧ l.length + m.length ≤ sizeLine ∧ Q (.str (S (l ++ m))) H := by simp [rPlus, rI0, rCatT2, rCatS]
theorem rPlus_l (h1 : SqL K H a xs) (h2 : SqL K H b zs) (hz : xs.length + zs.length ≤ sizeLine) (q : ∀ p, H p = none → Q (.ref p) (upd H p (.lst (xs ++ zs)))) : rPlus K (.ref a) (.ref b) H Q := .inr (.inr ⟨a, b, xs, zs, rfl, rfl, h1, h2, hz, q⟩)
theorem rEqq_ii (i j : Int) : rEqq K (.int i) (.int j) H Q = Q (.bl (decide (i = j))) H := by simp [rEqq, rEq, rEqD, scal, isRef]
theorem rNeq_ii (i j : Int) : rNeq K (.int i) (.int j) H Q = Q (.bl (!(decide (i = j)))) H := by simp [rNeq, rNe, rEqD, scal, isRef]
theorem rEqq_ss (i j : Str) : rEqq K (.str i) (.str j) H Q = Q (.bl (decide (i = j))) H := by simp [rEqq, rEq, rEqD, scal, isRef]
theorem rNeq_ss (i j : Str) : rNeq K (.str i) (.str j) H Q = Q (.bl (!(decide (i = j)))) H := by simp [rNeq, rNe, rEqD, scal, isRef]
theorem rEqq_bb (i j : Bool) : rEqq K (.bl i) (.bl j) H Q = Q (.bl (decide (i = j))) H := by simp [rEqq, rEq, rEqD, scal, isRef]
theorem rNeq_bb (i j : Bool) : rNeq K (.bl i) (.bl j) H Q = Q (.bl (!(decide (i = j)))) H := by simp [rNeq, rNe, rEqD, scal, isRef]
theorem rEqq_nn  : rEqq K .non .non H Q = Q (.bl (true)) H := by simp [rEqq, rEq, rEqD, scal, isRef]
theorem rNeq_nn  : rNeq K .non .non H Q = Q (.bl (!(true))) H := by simp [rNeq, rNe, rEqD, scal, isRef]
theorem rEqq_ni (j : Int) : rEqq K .non (.int j) H Q = Q (.bl (false)) H := by simp [rEqq, rEq, rEqD, scal, isRef]
theorem rNeq_ni (j : Int) : rNeq K .non (.int j) H Q = Q (.bl (!(false))) H := by simp [rNeq, rNe, rEqD, scal, isRef]
theorem rEqq_in (j : Int) : rEqq K (.int j) .non H Q = Q (.bl (false)) H := by simp [rEqq, rEq, rEqD, scal, isRef]
theorem rNeq_in (j : Int) : rNeq K (.int j) .non H Q = Q (.bl (!(false))) H := by simp [rNeq, rNe, rEqD, scal, isRef]
theorem rEqq_ns (j : Str) : rEqq K .non (.str j) H Q = Q (.bl (false)) H := by simp [rEqq, rEq, rEqD, scal, isRef]
theorem rNeq_ns (j : Str) : rNeq K .non (.str j) H Q = Q (.bl (!(false))) H := by simp [rNeq, rNe, rEqD, scal, isRef]
theorem rEqq_sn (j : Str) : rEqq K (.str j) .non H Q = Q (.bl (false)) H := by simp [rEqq, rEq, rEqD, scal, isRef]
theorem rNeq_sn (j : Str) : rNeq K (.str j) .non H Q = Q (.bl (!(false))) H := by simp [rNeq, rNe, rEqD, scal, isRef]
theorem rEqq_nb (j : Bool) : rEqq K .non (.bl j) H Q = Q (.bl (false)) H := by simp [rEqq, rEq, rEqD, scal, isRef]
theorem rNeq_nb (j : Bool) : rNeq K .non (.bl j) H Q = Q (.bl (!(false))) H := by simp [rNeq, rNe, rEqD, scal, isRef]
theorem rEqq_bn (j : Bool) : rEqq K (.bl j) .non H Q = Q (.bl (false)) H := by simp [rEqq, rEq, rEqD, scal, isRef]
theorem rNeq_bn (j : Bool) : rNeq K (.bl j) .non H Q = Q (.bl (!(false))) H := by simp [rNeq, rNe, rEqD, scal, isRef]
theorem rEqq_is (i : Int) (j : Str) : rEqq K (.int i) (.str j) H Q = Q (.bl (false)) H := by simp [rEqq, rEq, rEqD, scal, isRef]
theorem rNeq_is (i : Int) (j : Str) : rNeq K (.int i) (.str j) H Q = Q (.bl (!(false))) H := by simp [rNeq, rNe, rEqD, scal, isRef]
theorem rEqq_si (i : Int) (j : Str) : rEqq K (.str j) (.int i) H Q = Q (.bl (false)) H := by simp [rEqq, rEq, rEqD, scal, isRef]
theorem rNeq_si (i : Int) (j : Str) : rNeq K (.str j) (.int i) H Q = Q (.bl (!(false))) H := by simp [rNeq, rNe, rEqD, scal, isRef]
theorem rEqq_d {d e : PyData} (hr : (isRef x || isRef y) = true) (h1 : Den K H x d) (h2 : Den K H y e) (s1 : SeqAt.shaped d = true) (s2 : SeqAt.shaped e = true) (q : Q (.bl (PyData.eqv d e)) H) : rEqq K x y H Q := .inr ⟨hr, d, e, h1, h2, s1, s2, q⟩
theorem rNeq_d {d e : PyData} (hr : (isRef x || isRef y) = true) (h1 : Den K H x d) (h2 : Den K H y e) (s1 : SeqAt.shaped d = true) (s2 : SeqAt.shaped e = true) (q : Q (.bl (!PyData.eqv d e)) H) : rNeq K x y H Q := .inr ⟨hr, d, e, h1, h2, s1, s2, q⟩
theorem rLt_ii (i j : Int) : rLt (.int i) (.int j) H Q = Q (.bl (decide (i < j))) H := by simp [rLt, rI0, rStrs]
theorem rLt_ss (i j : Str) : rLt (.str i) (.str j) H Q = Q (.bl (decide (i.cps.toList < j.cps.toList))) H := by simp [rLt, rI0, rStrs]
theorem rLe_ii (i j : Int) : rLe (.int i) (.int j) H Q = Q (.bl (decide (i ≤ j))) H := by simp [rLe, rI0, rStrs]
theorem rLe_ss (i j : Str) : rLe (.str i) (.str j) H Q = Q (.bl (!decide (j.cps.toList < i.cps.toList))) H := by simp [rLe, rI0, rStrs]
theorem rLen_s (i : Str) : rLen K [.str i] H Q = ∃ l, i = S l ∧ l.length ≤ sizeLine ∧ Q (.int l.length) H := by simp [rLen]
theorem rLen_l (h : SqL K H p ys) (q : Q (.int ys.length) H) : rLen K [.ref p] H Q := .inl ⟨p, ys, rfl, .inl h, q⟩
theorem rLen_t (h : SqT K H p ys) (q : Q (.int ys.length) H) : rLen K [.ref p] H Q := .inl ⟨p, ys, rfl, .inr h, q⟩
theorem rInn_s (i j : Str) : rInn K (.str i) (.str j) H Q = Q (.bl (occB j i)) H := by simp [rInn, rIn]
theorem rNin_s (i j : Str) : rNin K (.str i) (.str j) H Q = Q (.bl (!occB j i)) H := by simp [rNin, rIn]
theorem rListOf_l (h : SqL K H p ys ∨ SqT K H p ys) (q : ∀ l, H l = none → Q (.ref l) (upd H l (.lst ys))) : rListOf K [.ref p] H Q := ⟨p, ys, rfl, h, q⟩
theorem rIxA_s (i : Str) : rIxA K (.str i) y H Q = rIxS2 (.str i) y H Q := by simp [rIxA, rIxL, rIxT]
theorem rIxA_l {i : Int} {v : V} (h : SqL K H p xs) (e : atI xs i = some v) (q : Q v H) : rIxA K (.ref p) (.int i) H Q := .inl ⟨p, xs, i, v, rfl, rfl, h, e, q⟩
theorem rIxA_t {i : Int} {v : V} (h : SqT K H p xs) (e : atI xs i = some v) (q : Q v H) : rIxA K (.ref p) (.int i) H Q := .inr (.inl ⟨p, xs, i, v, rfl, rfl, h, e, q⟩)
theorem rSlA_s (i : Str) (lo hi : Option Int) : rSlA K (.str i) lo hi H Q = rSlS (.str i) lo hi H Q := by simp [rSlA, rSlL]
theorem rSlA_l {lo hi : Option Int} (h : SqL K H a xs) (q : ∀ p, H p = none → Q (.ref p) (upd H p (.lst (cutV xs lo hi)))) : rSlA K (.ref a) lo hi H Q := .inl ⟨a, xs, rfl, h, q⟩
theorem rAny_s (z : Str) : rAny K (.str z) H R = R (Its z) H := by simp [rAny]
theorem rAny_l (h : SqL K H a xs) (q : R (Itl K a) H) : rAny K (.ref a) H R := .inl ⟨a, rfl, ⟨xs, h⟩, q⟩
theorem rSetA_l {v : V} {k : Int} {j : Nat} {Qh : Hp → Prop} (h : H p = some (.lst xs)) (e : ixN xs.length k = some j) (q : Qh (upd H p (.lst (xs.set j v)))) : rSetA (.ref p) (.int k) v H Qh := .inl ⟨p, xs, k, j, rfl, rfl, h, e, q⟩
theorem TruV_b (b k : Bool) : TruV K (.bl b) H k = (k = b) := rfl
theorem TruV_n (k : Bool) : TruV K .non H k = (k = false) := rfl
theorem TruV_i (i : Int) (k : Bool) : TruV K (.int i) H k = (k = (i != 0)) := rfl
end
/-! ### the same rules, the written part named (so that a block's rule does not hang on the block) -/
section
variable {X : Cx} {K : PySem.W.Frag} {a b c e o l tg : Expr} {es : List Expr} {ta tb to te tl : TE} {t : TA} {pos apos cpos p2 : Pos} {f name : Str} {lo hi : Option Expr} {tlo thi : TO}
theorem op_plusK (hK : X.K = K := by rfl) : OpR X (binaryOp .Add) (rPlus K) := hK ▸ op_plus
theorem op_eqK (hu : X.A.units + 64 < cLine) (hK : X.K = K := by rfl) : OpR X (compareOp .Eq) (rEqq K) := hK ▸ op_eqA hu
theorem op_neK (hu : X.A.units + 64 < cLine) (hK : X.K = K := by rfl) : OpR X (compareOp .NotEq) (rNeq K) := hK ▸ op_neA hu
theorem call_lenK (hK : X.K = K := by rfl) : CallR X (.builtin "len") (rLen K) := hK ▸ call_lenA
theorem call_ordK : CallR X (.builtin "ord") rOrd := call_ordA
theorem op_ltK : OpR X (compareOp .Lt) rLt := op_ltA
theorem call_isinstanceK (hK : X.K = K := by rfl) : CallR X (.builtin "isinstance") (rIsi K) := hK ▸ call_isinstanceA
theorem call_listK (hK : X.K = K := by rfl) : CallR X (.type "list") (rListOf K) := hK ▸ call_list_of
theorem ix_anyK (hu : X.A.units + 1 < cLine) (hK : X.K = K := by rfl) : IxR X (rIxA K) := hK ▸ ix_any hu
theorem sl_anyK (hK : X.K = K := by rfl) : SlR X (rSlA K) := hK ▸ sl_any
theorem mt_joinK (hK : X.K = K := by rfl) : MtR X "str.join" (rJoin K) := hK ▸ mt_join
theorem pi_anyK (hl : PE X l tl) (hK : X.K = K := by rfl) : PI X tg l (iAny K tl) := hK ▸ pi_any hl
theorem pe_fldK (he : PE X e ta) (hb : attributeBase e f X.env (eval e X.env) = eval e X.env) (hK : X.K = K := by rfl) : PE X (.Attribute e f pos) (tFld K ta f) := hK ▸ pe_fld he hb
theorem pt_truthK (ha : PE X a ta) (he : ∀ whole, isTrue a X.env whole = (do let v ← whole; standAt a.pos; holding [v] (truthy v))) (hK : X.K = K := by rfl) :
    PT X a (tTru K ta) := hK ▸ pt_truth ha he
theorem pe_bmK {T id : String} {r : V → List V → Hp → VK → Prop} (pa : PlainAttrs T) (slot : Slot T name id) (hty : typeOf (.builtin id) = pure (.type "method_descriptor")) (hm : MtR X id r) (ho : PE X o to) (ha : PA X (e :: es) t)
    (hbase : attributeBase o name X.env (eval o X.env) = eval o X.env := by rfl)
    (hfew : ((backTo cpos (starEach (e :: es) X.env)).all (fun x => !x.1) && (backToKw cpos (keywordEach [] X.env)).all (fun x => x.1.isSome)
      && decide ((e :: es).length + ([] : List Keyword).length + (if ([] : List Keyword).isEmpty then 0 else 1) < 30)) = true := by rfl)
    (hline : (apos.endLine == cpos.line) = true := by rfl) (hs : starEach (e :: es) X.env = (false, eval e X.env) :: starEach es X.env := by rfl) (hplain : (backTo cpos (starEach es X.env)).any (·.1) = false := by rfl) (hK : X.K = K := by rfl) :
    PE X (.Call (.Attribute o name apos) (e :: es) [] cpos) (tBM K T r to t) := hK ▸ pe_bm pa slot hty hm ho ha hbase hfew hline hs hplain
theorem pg_tupK {es : List Expr} {k : Nat} {t : TGs} {n : Nat} (hc : X.calm = true) (h : PGs X es t)
    (hn : (assignEach es X.env).length = n := by rfl) (hst : (assignEach es X.env).findIdx? (·.1) = none := by rfl) (hK : X.K = K := by rfl) : PG X (.Tuple es k pos) (gTup K n t) := hK ▸ pg_tup hc h hn hst
end
end L2

set_option Elab.async false
set_option linter.all false
set_option maxRecDepth 100000
set_option maxHeartbeats 4000000
namespace L2
open PySem PySem.Spec PyProof.Rows

/-! ### x in range(a, b) -/
section
variable {X : Cx}
def tInRng (neg : Bool) (ta : TE) (tr : TA) : TE := fun σ H Q => ta σ H fun x H1 => tr σ H1 fun vs H2 => ∃ i a b : Int, x = .int i ∧ vs = [.int a, .int b] ∧ Q (.bl (if neg then !(decide (a ≤ i) && decide (i < b)) else (decide (a ≤ i) && decide (i < b)))) H2
def tInRng1 (neg : Bool) (ta : TE) (tr : TA) : TE := fun σ H Q => ta σ H fun x H1 => tr σ H1 fun vs H2 => ∃ i b : Int, x = .int i ∧ vs = [.int b] ∧ Q (.bl (if neg then !(decide (0 ≤ i) && decide (i < b)) else (decide (0 ≤ i) && decide (i < b)))) H2
/-! ### all, any, sum of a list -/
def rAll (K : PySem.W.Frag) : List V → Hp → VK → Prop := fun xs H Q => ∃ (p : Addr) (bs : List Bool), xs = [.ref p] ∧ SqL K H p (bs.map V.bl) ∧ Q (.bl (bs.all id)) H
def rAnyB (K : PySem.W.Frag) : List V → Hp → VK → Prop := fun xs H Q => ∃ (p : Addr) (bs : List Bool), xs = [.ref p] ∧ SqL K H p (bs.map V.bl) ∧ Q (.bl (bs.any id)) H
def rSum (K : PySem.W.Frag) : List V → Hp → VK → Prop := fun xs H Q => ∃ (p : Addr) (ns : List Int), xs = [.ref p] ∧ SqL K H p (ns.map V.int) ∧ Q (.int ns.sum) H
/-! ### min, max, int, str -/
def rMax : List V → Hp → VK → Prop := fun xs H Q => ∃ i j, xs = [.int i, .int j] ∧ Q (.int (max i j)) H
def rMin : List V → Hp → VK → Prop := fun xs H Q => ∃ i j, xs = [.int i, .int j] ∧ Q (.int (min i j)) H
def rInt : List V → Hp → VK → Prop := fun xs H Q => (∃ i, xs = [.int i] ∧ Q (.int i) H) ∨ ∃ k, xs = [.bl k] ∧ Q (.int (if k = true then 1 else 0)) H
theorem call_intK {K : PySem.W.Frag} : CallR X (.type "int") rInt := fun pins s σ H xs us Q I r h => call_int1 pins s σ H xs us Q I r h
theorem rInt_i {H : Hp} {Q : VK} (i : Int) : rInt [.int i] H Q = Q (.int i) H := by simp [rInt]
theorem rInt_b {H : Hp} {Q : VK} (k : Bool) : rInt [.bl k] H Q = Q (.int (if k = true then 1 else 0)) H := by simp [rInt]
/-- the figures of a whole number -/
def strI (i : Int) : List Nat := (toString i : Str).cps.toList
def rStrI : List V → Hp → VK → Prop := fun xs H Q => ∃ i, xs = [.int i] ∧ i.natAbs.log2 < 1920 ∧ Q (.str (S (strI i))) H
theorem call_strK {K : PySem.W.Frag} : CallR X (.type "str") rStrI := by
  intro pins s σ H xs us Q I r h
  obtain ⟨i, rfl, hz, q⟩ := h
  refine call_str_int pins s σ H _ us Q I r ⟨i, rfl, hz, ?_⟩
  have e : (toString i : Str) = S (strI i) := S_of _
  rw [e]
  exact q
end
end L2

set_option Elab.async false
set_option linter.all false
set_option maxRecDepth 100000
set_option maxHeartbeats 4000000
namespace L2
open PySem PySem.Spec PyProof.Rows

/-! ### a def with defaults -/
structure FunD (K : PySem.W.Frag) (x qual : Str) (st : Stmt) (f : Addr) (fd : FuncData) (items : List Value) : Prop where
  ex : ∃ (oc : Value) (od : Option Addr) (kV doc pm : Value) (an : Option Addr) (cdv ct : Value) (osl : Array (Option Value)) (tD : Addr) (o : Obj) (n : Nat),
    fd = PySem.W.fnOf x qual (defArgs st) (defBody st) (defScope st) (.ref tD) kV doc pm an cdv ct ∧ K.lookup f = some ⟨oc, od, .func fd, osl⟩ ∧ PySem.W.codeIn K cdv qual = true ∧ K.lookup tD = some o ∧ o.data = .seq items.toArray n
  kp : PySem.W.keepIn K (.ref f) = true
section
variable {P : Program} {w : World} {K : PySem.W.Frag} {mg : Str → Option Value} {base : Heap}
theorem FunD.ok {x qual : Str} {st : Stmt} {f : Addr} {fd : FuncData} {items : List Value} {N ps : List Str} {k : Nat} {sp : Sp} (F : FunD K x qual st f fd items) (S : FnScope N ps (defScope st)) (len : ∀ vs H Q E, sp vs H Q E → vs.length = ps.length)
    (hbody : ∀ (cdv : Value) (A : Around) (outer : List Env) (s : Shared) (H : Hp) (vs : List V) (Q : VK) (E : XK), Room k (A.deeper (envOfC qual (defScope st) s.heap.objs.size f cdv)) → sp vs H Q E →
      ∃ t, PSs (cxOf CX0 P w K mg base N qual (defScope st) f cdv A outer s H E).nox (defBody st) t ∧ t { nx := fun _ H' => Q .non H', rt := Q } (start N vs) H) : FnOk P w K mg base CX0 (k + 1) f fd ps sp := by
  obtain ⟨oc, od, kV, doc, pm, an, cdv, ct, osl, tD, o, n, rfl, lk, hcd, _⟩ := F.ex
  refine fn_of lk hcd S len fun A outer s H vs Q E hr hsp => ?_
  obtain ⟨t, h, q⟩ := hbody cdv A outer s H vs Q E hr hsp
  exact ⟨t, h.nox, q⟩
/-- how its arguments bind, ds the defaults that fill up -/
theorem FunD.binds {x qual : Str} {st : Stmt} {f : Addr} {fd : FuncData} {items : List Value} {ps : List Str} (ds : List Value) (m : Nat) (hm : m + ds.length = ps.length) (F : FunD K x qual st f fd items)
    (h : ∀ (tD : Addr) (kV doc pm : Value) (an : Option Addr) (cdv ct : Value) (us : List Value), us.length = m →
      ∃ kk, bindArgs (PySem.W.fnOf x qual (defArgs st) (defBody st) (defScope st) (.ref tD) kV doc pm an cdv ct) ⟨us, []⟩ = seqItems? (.ref tD) >>= kk ∧ kk (some items.toArray) = pure (ps.zip (us ++ ds))) : Binds K fd ps ds := by
  obtain ⟨oc, od, kV, doc, pm, an, cdv, ct, osl, tD, o, n, rfl, lk, hcd, ho, hs⟩ := F.ex
  intro s us X hl
  rw [List.length_append] at hl
  obtain ⟨kk, h1, h2⟩ := h tD kV doc pm an cdv ct us (by omega)
  exact BindsTo.of_defaults rfl (X _ _ ho) hs h1 h2
end

/-! ### what a step may change -/
/-- of what stood only the objects at A may have changed, tuples never -/
structure Chg (A : List Addr) (H H' : Hp) : Prop where
  keep : ∀ b o, H b = some o → b ∉ A → H' b = some o
  tup : ∀ b xs, H b = some (.tup xs) → H' b = some (.tup xs)
theorem Chg.refl {A : List Addr} (H : Hp) : Chg A H H := ⟨fun _ _ h _ => h, fun _ _ h => h⟩
theorem Chg.of_same {A : List Addr} {H H' : Hp} (s : Same H H') : Chg A H H' := ⟨fun b o h _ => s b o h, fun b xs h => s b _ h⟩
theorem Chg.same {H H' : Hp} (s : Chg [] H H') : Same H H' := fun b o h => s.keep b o h (by simp)
theorem Chg.trans {A : List Addr} {H H1 H2 : Hp} (x : Chg A H H1) (y : Chg A H1 H2) : Chg A H H2 := ⟨fun b o h n => y.keep b o (x.keep b o h n) n, fun b xs h => y.tup b xs (x.tup b xs h)⟩
theorem Chg.mono {A B : List Addr} {H H' : Hp} (x : Chg A H H') (h : ∀ b, b ∈ A → b ∈ B) : Chg B H H' := ⟨fun b o e n => x.keep b o e fun z => n (h b z), x.tup⟩
theorem Chg.upd {A : List Addr} {H : Hp} {a : Addr} {o : HO} (ha : a ∈ A) (hm : ∀ xs, H a ≠ some (.tup xs)) : Chg A H (L2.upd H a o) := by
  refine ⟨fun b u e n => ?_, fun b xs e => ?_⟩
  · have hb : b ≠ a := fun z => by subst z; exact n ha
    rw [upd_ne hb]; exact e
  · have hb : b ≠ a := fun z => by subst z; exact hm xs e
    rw [upd_ne hb]; exact e
theorem Chg.new {A : List Addr} {H : Hp} {a : Addr} {o : HO} (ha : H a = none) : Chg A H (L2.upd H a o) := .of_same (Same.upd ha)
/-- an address that was free stays out of what was there -/
theorem Chg.free {H H' : Hp} {l b : Addr} {A : List Addr} {o : HO} (x : Chg A H H') (h : H' l = none) (e : H b = some o) (n : b ∉ A) : l ≠ b := fun z => by
  have := x.keep b o e n
  rw [← z, h] at this
  cases this
theorem mut_lst {H : Hp} {a : Addr} {kvs : List V} (h : H a = some (.lst kvs)) : ∀ xs, H a ≠ some (.tup xs) := fun xs z => by rw [h] at z; cases z
theorem mut_ins {H : Hp} {a C dx : Addr} {fs : List (Str × V)} (h : H a = some (.ins C dx fs)) : ∀ xs, H a ≠ some (.tup xs) := fun xs z => by rw [h] at z; cases z
/-! ### comprehensions with a test, over a range; over a list -/
/-- a comprehension over a list that stays: the items by a function -/
theorem compW_listIf {K : PySem.W.Frag} {tt : TT} {te : TE} {σ : St} {H : Hp} {Q : VK} {a : Addr} {xs : List V} (hl : SqL K H a xs) (hn : xs.length ≤ sizeLine) (p : V → Bool) (f : V → V)
    (ht : ∀ x H', x ∈ xs → Same H H' → ∀ Qt : Bool → Hp → Prop, (∀ H'', Same H' H'' → Qt (p x) H'') → tt (some x :: σ) H' Qt)
    (he : ∀ x H', x ∈ xs → p x = true → Same H H' → ∀ Qe : VK, (∀ H'', Same H' H'' → Qe (f x) H'') → te (some x :: σ) H' Qe)
    (hd : ∀ D H', H D = none → Same H H' → H' D = some (.lst ((xs.filter p).map f)) → Q (.ref D) H') : compW (Itl K a) tt te σ H Q := fun D hD =>
  comp_mapf (J := Itl K a) xs.length hn hD (fun i => xs.getD i .non) (fun i => f (xs.getD i .non)) (fun i => p (xs.getD i .non)) (fun H' s => ⟨xs, s.seq hl, Nat.le_refl _⟩)
    (fun i H' s h => ⟨xs, xs[i], s.seq hl, by simp⟩)
    (fun i H' x H'' s hi y => by
      obtain ⟨rfl, z⟩ := y
      have hz := z xs (s.seq hl)
      refine ⟨rfl, ?_⟩
      rw [List.getD_eq_getElem?_getD, hz]
      rfl)
    (fun i H' h s Qt q => ht _ H' (by rw [List.getD_eq_getElem?_getD, List.getElem?_eq_getElem h]; exact List.getElem_mem h) s Qt q)
    (fun i H' h hp s Qe q => he _ H' (by rw [List.getD_eq_getElem?_getD, List.getElem?_eq_getElem h]; exact List.getElem_mem h) hp s Qe q)
    (fun H' s h => hd D H' hD s (by
      rw [h]
      congr 2
      have e : (List.range xs.length).map (fun i => xs.getD i .non) = xs := by
        refine List.ext_getElem (by simp) fun i h1 h2 => ?_
        simp at h1 h2 ⊢
        rw [List.getElem?_eq_getElem h2]
        rfl
      conv => rhs; rw [← e]
      rw [List.filter_map, List.map_map]
      rfl))
theorem compW_list {K : PySem.W.Frag} {te : TE} {σ : St} {H : Hp} {Q : VK} {a : Addr} {xs : List V} (hl : SqL K H a xs) (hn : xs.length ≤ sizeLine) (f : V → V)
    (he : ∀ x H', x ∈ xs → Same H H' → ∀ Qe : VK, (∀ H'', Same H' H'' → Qe (f x) H'') → te (some x :: σ) H' Qe)
    (hd : ∀ D H', H D = none → Same H H' → H' D = some (.lst (xs.map f)) → Q (.ref D) H') : compW (Itl K a) tYes te σ H Q :=
  compW_listIf hl hn (fun _ => true) f (fun x H' _ s Qt q => q H' (Same.refl _)) (fun x H' h _ s Qe q => he x H' h s Qe q) (fun D H' h s e => hd D H' h s (by rw [filter_true] at e; exact e))
/-! ### addresses apart -/
/-- all there -/
def Pres (H : Hp) (l : List Addr) : Prop := ∀ a ∈ l, H a ≠ none
theorem Pres.nil (H : Hp) : Pres H [] := fun a h => by cases h
theorem Pres.same {H H' : Hp} {l : List Addr} (p : Pres H l) (s : Same H H') : Pres H' l := fun a h z => by
  cases e : H a with
  | none => exact p a h e
  | some o => rw [s a o e] at z; cases z
theorem Pres.cons {H : Hp} {l : List Addr} {a : Addr} {o : HO} (p : Pres H l) (h : H a = some o) : Pres H (a :: l) := fun b hb => by
  rcases List.mem_cons.mp hb with rfl | hb
  · rw [h]; intro z; cases z
  · exact p b hb
theorem Pres.new {H : Hp} {l : List Addr} {a : Addr} (p : Pres H l) (nd : l.Nodup) (h : H a = none) : (a :: l).Nodup := List.nodup_cons.mpr ⟨fun hm => p a hm h, nd⟩
end L2

set_option Elab.async false
set_option linter.all false
set_option maxRecDepth 100000
set_option maxHeartbeats 4000000
namespace L2
open PySem PySem.Spec PyProof.Rows
section
variable {X : Cx} {pins : List (Addr × Obj)} {σ : St} {H : Hp} {s : Shared} {h' : Heap}
/-- untracked records of ours have turned -/
theorem Inv.turnedL {t' : Nat} {l : List Addr} (I : Inv X pins σ H s) (k : ∀ b o, b ∉ l → s.heap.get? b = some o → h'.get? b = some o) (hf : ∀ b ∈ l, FpOk X pins H b) : Inv X pins σ H { s with heap := h', toks := t' } := by
  have nit : ∀ b u, H b = some u → b ∉ l := fun b u e z => by rw [(hf b z).1] at e; cases e
  refine I.step (g' := s.gens) (d' := s.drawn) (ch := l) (fun b hb => ?_) (fun b o _ _ hc e _ => k b o hc e) (fun b o _ _ hc e _ => ⟨o.slots, k b o hc e⟩) (fun _ _ _ _ n => n)
    (fun b o hc e => ⟨o, k b o hc e⟩) (fun _ _ e => e) (fun _ _ _ e => e) (fun b ps e => ⟨#[], by rw [e]; simp⟩) (fun m hm => ?_) (fun b u e => ?_) I.bare
  · obtain ⟨f0, f1, f2, f3, f4, f5⟩ := hf b hb
    exact ⟨f3, f1, f4, f5⟩
  · obtain ⟨o, es, ep, ho, r⟩ := hm
    exact ⟨o, es, ep, k _ o (fun z => (hf _ z).2.1 rfl) ho, r⟩
  · refine (I.hok b u e).stay (fun c v hc q => k c v ?_ q) (fun _ q => q) fun _ _ q => q
    rcases hc with z | z
    · rw [z]; exact nit b u e
    · exact nit c _ z
/-- an untracked record of ours is tracked from now on -/
theorem Inv.track {t' : Nat} {T : Addr} {o : HO} (I : Inv X pins σ H s) (f : FpOk X pins H T) (new : ObjOk X.prog X.w (upd H T o) s.heap T o) (ht : ∀ xs, o = .tup xs → True) : Inv X pins σ (upd H T o) { s with toks := t' } := by
  obtain ⟨f0, f1, f2, f3, f4, f5⟩ := f
  refine I.step (h' := s.heap) (g' := s.gens) (d' := s.drawn) (ch := [T]) (fun b hb => ?_) (fun b ob _ _ hc e _ => e) (fun b ob _ _ hc e _ => ⟨ob.slots, e⟩) (fun b ob hc e n => ?_)
    (fun b ob hc e => ⟨ob, e⟩) (fun b xs e => ?_) (fun b ob u e => ?_) (fun b ps e => ⟨#[], ?_⟩) (fun m hm => hm) (fun b u e => ?_) I.bare
  · have e : b = T := by simpa using hb
    subst e
    exact ⟨f3, f1, f4, f5⟩
  · rw [upd_ne (fun z => hc (by simp [z]))]; exact n
  · rw [upd_ne (ne_of_none e f0)]; exact e
  · rw [upd_ne (ne_of_none e f0)]; exact e
  · rw [upd_ne (ne_of_none e f0), e]; simp
  · by_cases hb : b = T
    · subst hb
      rw [upd_same] at e
      cases e
      exact new
    · rw [upd_ne hb] at e
      refine (I.hok b u e).stay (fun c v _ q => q) (fun c q => ?_) fun c xs q => ?_
      · rw [upd_ne (ne_of_none q f0)]; exact q
      · rw [upd_ne (ne_of_none q f0)]; exact q
end

/-! ### zip of two lists -/
def Itz (K : PySem.W.Frag) (a b : Addr) : It :=
  ⟨fun i H => ∃ xs ys x y, SqL K H a xs ∧ SqL K H b ys ∧ xs[i]? = some x ∧ ys[i]? = some y,
   fun i H v H' => ∃ T x y, v = .ref T ∧ H T = none ∧ H' = upd H T (.tup [x, y]) ∧ (∀ xs, SqL K H a xs → xs[i]? = some x) ∧ ∀ ys, SqL K H b ys → ys[i]? = some y,
   fun i H => ∃ xs ys, SqL K H a xs ∧ SqL K H b ys ∧ (xs.length ≤ i ∨ ys.length ≤ i)⟩
section
variable {X : Cx}
def iZip (K : PySem.W.Frag) (ta : TA) : TI := fun σ H R => ta σ H fun vs H1 => ∃ a b xs ys, vs = [.ref a, .ref b] ∧ SqL K H1 a xs ∧ SqL K H1 b ys ∧ R (Itz K a b) H1
/-! ### enumerate of a list -/
end
def Ite (K : PySem.W.Frag) (a : Addr) : It :=
  ⟨fun i H => ∃ xs x, SqL K H a xs ∧ xs[i]? = some x,
   fun i H v H' => ∃ T x, v = .ref T ∧ H T = none ∧ H' = upd H T (.tup [.int (i : Nat), x]) ∧ ∀ xs, SqL K H a xs → xs[i]? = some x,
   fun i H => ∃ xs, SqL K H a xs ∧ xs.length ≤ i⟩
theorem turn_enum {P : Program} {w : World} {K : PySem.W.Frag} {elts : List Expr} {k0 : Nat} {pos : Pos} (a e it : Addr) (hei : e ≠ it) :
    Turn P w K (.Tuple elts k0 pos) (Ite K a) [e, it] e (fun i h => (∃ old, IsEnum h e it ((i : Nat) : Int) old) ∧ h.IsListIter it a i) where
  mem := by simp
  obj := fun i h st c hc => by
    obtain ⟨⟨old, he⟩, ⟨o1, e1, c1, d1⟩⟩ := st
    simp only [List.mem_cons, List.not_mem_nil, or_false] at hc
    rcases hc with rfl | rfl
    · exact ⟨_, he, fun v q => by cases q⟩
    · exact ⟨_, e1, fun v q => by rw [d1] at q; cases q⟩
  keep := fun i h h' st k => by
    obtain ⟨⟨old, he⟩, h1⟩ := st
    exact ⟨⟨old, k _ (by simp) _ he⟩, h1.at fun o e => k _ (by simp) o e⟩
  item := by
    intro X hP hw hK hc i pins s σ H E I hf st hg
    subst hP hw hK
    obtain ⟨⟨old, he⟩, h1⟩ := st
    obtain ⟨xs, x, hx, ex⟩ := hg
    obtain ⟨its, rv, p, _⟩ := I.list hx
    obtain ⟨u, hu, ru⟩ := rv.get ex
    refine wpAny_pyNext_enum_item he h1 p.isList (x := u) (by simpa using hu) hei fun h' a1 a2 a3 a4 hk => ?_
    refine ⟨_, rfl, wpAny_letOwnedTupleGo_enum a1 fun h'' he'' sb => ?_⟩
    have fT : FpOk X pins H s.heap.objs.size := I.fpOk (Nat.le_refl _) I.fresh
    have I1 : Inv X pins σ H { s with heap := h'', toks := s.toks + 1 } := I.turnedL (t' := s.toks + 1) (l := [e, it]) (fun c o hc q => sb.extBut _ _ (fun z => hc (by simp [z])) (hk c o (fun z => hc (by simp [z])) (fun z => hc (by simp [z])) q)) hf
    have hTe : s.heap.objs.size ≠ e := Nat.ne_of_gt (Heap.lt_size he)
    have hT'' : h''.get? s.heap.objs.size = some { cls := .type "tuple", data := .seq #[.int i s.toks, u] } := sb.extBut _ _ hTe a3
    have I2 : Inv X pins σ (upd H s.heap.objs.size (.tup [.int (i : Nat), x])) { s with heap := h'', toks := s.toks + 1 } := I1.track (t' := s.toks + 1) fT ⟨(by show 2 ≤ sizeLine; decide), [.int i s.toks, u], .cons ⟨_, rfl⟩ (.cons ru .nil), _, hT'', rfl, _, rfl⟩ (fun _ _ => trivial)
    refine ⟨.ref s.heap.objs.size, _, I2, rfl, ⟨_, x, rfl, I.fresh, rfl, fun zs hq => by rw [I.list_inj hq hx]; exact ex⟩, ?_, fun c hc => ?_⟩
    · exact ⟨⟨u, by rw [show (((i + 1 : Nat)) : Int) = (i : Int) + 1 by omega]; exact he''⟩, a2.extBut sb.extBut (Ne.symm hei)⟩
    · have hcl : c < s.heap.objs.size := by
        obtain ⟨o1, e1, _⟩ := h1
        simp only [List.mem_cons, List.not_mem_nil, or_false] at hc
        rcases hc with rfl | rfl
        · exact Heap.lt_size he
        · exact Heap.lt_size e1
      rw [upd_ne (Nat.ne_of_lt hcl)]
      exact (hf c hc).1
  done := by
    intro X hP hw hK hc i pins s σ H E I hf st hg
    subst hP hw hK
    obtain ⟨⟨old, he⟩, h1⟩ := st
    obtain ⟨xs, hx, hend⟩ := hg
    obtain ⟨its, rv, p, _⟩ := I.list hx
    have l1 := rv.length
    refine wpAny_pyNext_enum_end (I.ok.hd hc) he h1 p.isList (by simp; omega) fun h' hk => ⟨rfl, ?_⟩
    exact I.turnedL (t' := s.toks) (l := [e, it]) (fun c o hc q => hk c o (fun z => hc (by simp [z])) q) hf
  self := fun _ _ _ _ _ st h => by
    obtain ⟨⟨old, he⟩, _⟩ := st
    exact wpAny_pyIter_enum he h
section
variable {X : Cx}
def iEnum (K : PySem.W.Frag) (ta : TA) : TI := fun σ H R => ta σ H fun vs H1 => ∃ a xs, vs = [.ref a] ∧ SqL K H1 a xs ∧ R (Ite K a) H1
theorem pi_enumH {elts : List Expr} {k0 : Nat} {tpos : Pos} {a : Expr} {ta : TA} {p pos : Pos} (hg : Gl X "enumerate") (hm : X.mg "enumerate" = none) (ha : PA X [a] ta) (hs : starEach [a] X.env = [(false, eval a X.env)] := by rfl) :
    PI X (.Tuple elts k0 tpos) (.Call (.Name "enumerate" p) [a] [] pos) (iEnum X.K ta) := by
  intro pins s σ H R I h
  refine Call_ (ld_blt I hg hm boot_enumerate (PyProof.Rows.callWith_type1 (thn (ha pos pins s σ H _ I h) fun us s1 ⟨vs, H1, I1, r1, q1⟩ => ?_) hs rfl))
  obtain ⟨l1, xs, rfl, hx, q⟩ := q1
  obtain ⟨u, rfl, ru⟩ := vals1 r1
  cases ru
  obtain ⟨its, rx, px, _⟩ := I1.list hx
  refine call_enumerate_list px.isList fun h' z1 z2 z3 hk => ?_
  have I2 : Inv X pins σ H1 { s1 with heap := h' } := I1.kept (t' := s1.toks) hk
  refine wpAny_pyIter_enum z1 ⟨_, _, _, _, H1, rfl, I2, turn_enum l1 _ _ (Nat.ne_of_gt (Nat.lt_succ_self _)), ⟨⟨_, z1⟩, z2⟩, fun c hc => ?_, q⟩
  have hcl : s1.heap.objs.size ≤ c := by
    simp only [List.mem_cons, List.not_mem_nil, or_false] at hc
    rcases hc with rfl | rfl <;> omega
  exact I1.fpOk hcl (I1.hok.fresh hcl)
theorem pi_enumerate {K : PySem.W.Frag} {elts : List Expr} {k0 : Nat} {tpos : Pos} {a : Expr} {ta : TA} {p pos : Pos} (hg : Gl X "enumerate") (hm : X.mg "enumerate" = none) (ha : PA X [a] ta) (hs : starEach [a] X.env = [(false, eval a X.env)] := by rfl)
    (hK : X.K = K := by rfl) : PI X (.Tuple elts k0 tpos) (.Call (.Name "enumerate" p) [a] [] pos) (iEnum K ta) := hK ▸ pi_enumH hg hm ha hs
end
/-! ### loops over these -/
theorem forW_enum {K : PySem.W.Frag} {a : Addr} {xs : List V} {g : TG} {tb : TS} {D : Ends} {σ : St} {H : Hp} (Pv : Nat → St → Hp → Prop) (h0 : Pv 0 σ H) (hl : ∀ i σ H, i ≤ xs.length → Pv i σ H → SqL K H a xs)
    (hs : ∀ i x T σ H, xs[i]? = some x → H T = none → Pv i σ H → g (.ref T) σ (upd H T (.tup [.int (i : Nat), x])) fun σ2 H2 => tb { D with nx := Pv (i + 1), ct := Pv (i + 1), bk := D.nx } σ2 H2)
    (hd : ∀ σ H, Pv xs.length σ H → D.nx σ H) : forW (Ite K a) g tb D σ H := by
  refine ⟨fun i m σ H => m = xs.length - i ∧ i ≤ xs.length ∧ Pv i σ H, ⟨_, rfl, Nat.zero_le _, h0⟩, ?_⟩
  rintro i m σ H ⟨rfl, hi, p⟩
  have lx := hl i σ H hi p
  by_cases hlt : i < xs.length
  · refine .inr ⟨⟨xs, xs[i], lx, by simp⟩, Pv (i + 1), fun σ' H' p' => ⟨xs.length - (i + 1), by omega, rfl, hlt, p'⟩, fun v H' y => ?_⟩
    obtain ⟨T, x, rfl, hT, rfl, h1⟩ := y
    exact hs i x T σ _ (h1 xs lx) hT p
  · have e : i = xs.length := by omega
    subst e
    exact .inl ⟨⟨xs, lx, by omega⟩, hd σ H p⟩
end L2

set_option Elab.async false
set_option linter.all false
set_option maxRecDepth 100000
set_option maxHeartbeats 4000000
namespace L2
open PySem PySem.Spec PyProof.Rows
/-! ### what the laws' own small defs are worth -/
def mixN (c k : Int) : Int := ((c % 2147483647 * 48271 + 7919 * k + 1) % 2147483647) * ((c % 2147483647 * 48271 + 7919 * k + 1) % 2147483647) % 2147483647
def sp_mixed : Sp := fun vs H Q _ => ∃ c k, vs = [.int c, .int k] ∧ Q (.int (mixN c k)) H
def sp_cell_at (K : PySem.W.Frag) : Sp := fun vs H Q _ => ∃ (p : Addr) (ns : List Int) (k : Int), vs = [.ref p, .int k] ∧ SqL K H p (ns.map V.int) ∧ 0 ≤ k ∧ Q (.int (ns.getD k.toNat 0)) H
def T62 : List Nat := [48, 49, 50, 51, 52, 53, 54, 55, 56, 57, 97, 98, 99, 100, 101, 102, 103, 104, 105, 106, 107, 108, 109, 110, 111, 112, 113, 114, 115, 116, 117, 118, 119, 120, 121, 122, 65, 66, 67, 68, 69, 70, 71, 72, 73, 74, 75, 76, 77, 78, 79, 80, 81, 82, 83, 84, 85, 86, 87, 88, 89, 90]
def T34 : List Nat := [32, 33, 34, 35, 36, 38, 39, 40, 41, 42, 43, 44, 45, 46, 47, 58, 59, 60, 61, 62, 63, 64, 91, 92, 93, 94, 95, 96, 123, 124, 125, 126, 10, 9]
def T96 : List Nat := T62 ++ T34
def sgn (n m : Int) : Nat := T96.getD (n % m).toNat 0
def sp_sign : Sp := fun vs H Q _ => ∃ n m : Int, vs = [.int n, .int m] ∧ 0 < m ∧ m ≤ 96 ∧ Q (.str (S [sgn n m])) H
/-- texts of the blank to ~ but the per cent sign -/
def okSign (c : Nat) : Bool := decide (32 ≤ c) && decide (c ≤ 126) && decide (c ≠ 37)
def sp_law (K : PySem.W.Frag) : Sp := fun vs H Q _ => ∃ (p : Addr) (ns : List Int), vs = [.ref p] ∧ SqL K H p (ns.map V.int) ∧ ns.length ≤ 63 ∧ ∀ H', Q (.bl true) H'
theorem ixN_of {n : Nat} {i : Int} (h0 : 0 ≤ i) (h1 : i.toNat < n) : ixN n i = some i.toNat := by
  unfold ixN
  rw [if_pos h0, if_pos (by omega)]
end L2

set_option Elab.async false
set_option linter.all false
set_option maxRecDepth 100000
set_option maxHeartbeats 4000000
namespace L2
open PySem PySem.Spec PyProof.Rows
/-! ### equal data -/
def okS (l : List Nat) : Prop := ∀ c ∈ l, c < 1114112
theorem log_small {i : Int} (h0 : -(2 ^ 64) < i) (h1 : i < 2 ^ 64) : i.natAbs.log2 < 1920 := by
  by_cases hz : i.natAbs = 0
  · rw [hz]; decide
  · exact Nat.lt_of_lt_of_le ((Nat.log2_lt hz).mpr (show i.natAbs < 2 ^ 64 by omega)) (by decide)
def wd (n : Nat) (d : PyData) : Prop := d.canLay0 = true ∧ d.depth ≤ n
theorem wd_bl (n : Nat) (b : Bool) : wd n (.bool b) := ⟨rfl, Nat.zero_le _⟩
theorem wd_str (n : Nat) {l : List Nat} (h : okS l) : wd n (.str (S l)) := by
  refine ⟨?_, Nat.zero_le _⟩
  show (S l).cps.all (· < 0x110000) = true
  simp
  exact h
theorem wd_all {n : Nat} : ∀ {ds : List PyData}, (∀ d ∈ ds, wd n d) → PyData.canLayAll0 ds = true ∧ PyData.depthAll ds ≤ n
  | [], _ => ⟨rfl, Nat.zero_le _⟩
  | d :: r, h => by
    obtain ⟨h1, h2⟩ := h d List.mem_cons_self
    obtain ⟨h3, h4⟩ := wd_all (n := n) (ds := r) fun x hx => h x (List.mem_cons_of_mem _ hx)
    refine ⟨?_, ?_⟩
    · rw [PyData.canLayAll0, h1, h3]; rfl
    · rw [PyData.depthAll]; exact Nat.max_le.mpr ⟨h2, h4⟩
theorem wd_list {n : Nat} {ds : List PyData} (h : ∀ d ∈ ds, wd n d) : wd (n + 1) (.list ds) := by
  obtain ⟨h1, h2⟩ := wd_all h
  exact ⟨by rw [PyData.canLay0]; exact h1, by rw [PyData.depth]; omega⟩
theorem wd_tuple {n : Nat} {ds : List PyData} (h : ∀ d ∈ ds, wd n d) : wd (n + 1) (.tuple ds) := by
  obtain ⟨h1, h2⟩ := wd_all h
  exact ⟨by rw [PyData.canLay0]; exact h1, by rw [PyData.depth]; omega⟩
theorem wd.shaped {n : Nat} {d : PyData} (h : wd n d) (hn : n ≤ 64 := by decide) : SeqAt.shaped d = true := by
  unfold SeqAt.shaped
  rw [h.1, decide_eq_true (Nat.le_trans h.2 hn)]
  rfl
theorem rNeq_same {K : PySem.W.Frag} {H : Hp} {Q : VK} {x y : V} {n : Nat} {d : PyData} (h1 : Den K H x d) (h2 : Den K H y d) (hw : wd n d) (hr : (isRef x || isRef y) = true) (q : Q (.bl false) H) (hn : n ≤ 64 := by decide) : rNeq K x y H Q :=
  rNeq_d hr h1 h2 (hw.shaped hn) (hw.shaped hn) (by rw [SeqAt.eqv_refl d hw.1]; exact q)
theorem rEqq_same {K : PySem.W.Frag} {H : Hp} {Q : VK} {x y : V} {n : Nat} {d : PyData} (h1 : Den K H x d) (h2 : Den K H y d) (hw : wd n d) (hr : (isRef x || isRef y) = true) (q : Q (.bl true) H) (hn : n ≤ 64 := by decide) : rEqq K x y H Q :=
  rEqq_d hr h1 h2 (hw.shaped hn) (hw.shaped hn) (by rw [SeqAt.eqv_refl d hw.1]; exact q)
/-! ### a list that stays, whatever is done to the objects at A -/
def Scr (K : PySem.W.Frag) (H : Hp) (A : List Addr) (p : Addr) (xs : List V) : Prop := (SqL K H p xs ∧ p ∉ A) ∨ ∀ H', SqL K H' p xs
theorem Scr.chg {K : PySem.W.Frag} {H H' : Hp} {A : List Addr} {p : Addr} {xs : List V} (h : Scr K H A p xs) (c : Chg A H H') : Scr K H' A p xs := by
  rcases h with ⟨h, hp⟩ | h
  · refine .inl ⟨?_, hp⟩
    rcases h with (h | ⟨o, h⟩) | h
    · exact .inl (.inl (c.keep _ _ h hp))
    · exact .inl (.inr ⟨o, c.keep _ _ h hp⟩)
    · exact .inr h
  · exact .inr h
theorem Scr.mono {K : PySem.W.Frag} {H : Hp} {A B : List Addr} {p : Addr} {xs : List V} (h : Scr K H A p xs) (s : ∀ b ∈ B, b ∈ A) : Scr K H B p xs := h.elim (fun h => .inl ⟨h.1, fun z => h.2 (s _ z)⟩) .inr
theorem Scr.of {K : PySem.W.Frag} {H : Hp} {A : List Addr} {p : Addr} {xs : List V} (h : SqL K H p xs) (f : ∀ b ∈ A, H b = none) : Scr K H A p xs := by
  rcases h with (h' | ⟨o, h'⟩) | h'
  · exact .inl ⟨.inl (.inl h'), fun z => by rw [f p z] at h'; cases h'⟩
  · exact .inl ⟨.inl (.inr ⟨o, h'⟩), fun z => by rw [f p z] at h'; cases h'⟩
  · exact .inr fun _ => .inr h'
/-! ### lists of tuples of plain values -/
def scalD : V → PyData
  | .bl b => .bool b
  | .int i => .int i
  | .str x => .str x
  | _ => .none
theorem den_scal {K : PySem.W.Frag} {H : Hp} {v : V} (f : flatV v = true) : Den K H v (scalD v) := by
  cases v with
  | non => exact .non
  | bl b => exact .bl b
  | int i => exact .int i
  | str x => exact .str x
  | _ => exact absurd (show false = true from f) Bool.false_ne_true
theorem denAll_scal {K : PySem.W.Frag} {H : Hp} : ∀ {vs : List V}, vs.all flatV = true → DenAll K H vs (vs.map scalD)
  | [], _ => .nil
  | v :: r, h => by
    rw [List.all_cons, Bool.and_eq_true] at h
    exact .cons (den_scal h.1) (denAll_scal h.2)
def okV : V → Prop
  | .str x => okS x.cps.toList
  | _ => True
/-- the tuples at these addresses -/
def TupsAt (H : Hp) : List Addr → List (List V) → Prop := Paired fun t xs => H t = some (.tup xs)
def LTups (H : Hp) (D : Addr) (rows : List (List V)) : Prop := ∃ ts, H D = some (.lst (ts.map V.ref)) ∧ TupsAt H ts rows
theorem TupsAt.chg {A : List Addr} {H H' : Hp} {ts : List Addr} {rows : List (List V)} (h : TupsAt H ts rows) (c : Chg A H H') : TupsAt H' ts rows := Paired.mapP h fun _ _ e => c.tup _ _ e
theorem LTups.chg {A : List Addr} {H H' : Hp} {D : Addr} {rows : List (List V)} (h : LTups H D rows) (c : Chg A H H') (hD : D ∉ A) : LTups H' D rows := by
  obtain ⟨ts, e, t⟩ := h
  exact ⟨ts, c.keep _ _ e hD, t.chg c⟩
theorem LTups.same {H H' : Hp} {D : Addr} {rows : List (List V)} (h : LTups H D rows) (s : Same H H') : LTups H' D rows := h.chg (A := []) (Chg.of_same s) (by simp)
theorem TupsAt.den {K : PySem.W.Frag} {H : Hp} {ts : List Addr} {rows : List (List V)} (h : TupsAt H ts rows) : (∀ r ∈ rows, r.all flatV = true) → DenAll K H (ts.map V.ref) (rows.map fun r => .tuple (r.map scalD)) := by
  intro f
  unfold TupsAt at h
  induction h with
  | nil => exact .nil
  | @cons t xs ts rows e r ih =>
    exact .cons (.tup (.inl (.inl e)) (denAll_scal (f xs List.mem_cons_self))) (ih fun z hz => f z (List.mem_cons_of_mem _ hz))
theorem LTups.den {K : PySem.W.Frag} {H : Hp} {D : Addr} {rows : List (List V)} (h : LTups H D rows) (f : ∀ r ∈ rows, r.all flatV = true) : Den K H (.ref D) (.list (rows.map fun r => .tuple (r.map scalD))) := by
  obtain ⟨ts, e, t⟩ := h
  exact .lst (.inl (.inl e)) (t.den f)
theorem TupsAt.get {H : Hp} {ts : List Addr} {rows : List (List V)} (h : TupsAt H ts rows) : ∀ {i : Nat} {t : Addr}, ts[i]? = some t → ∃ xs, rows[i]? = some xs ∧ H t = some (.tup xs) := by
  unfold TupsAt at h
  induction h with
  | nil => intro i t e; simp at e
  | @cons a b as bs e r ih =>
    intro i t q
    cases i with
    | zero => simp at q; subst q; exact ⟨b, rfl, e⟩
    | succ i => simpa using ih (by simpa using q)
theorem TupsAt.length {H : Hp} {ts : List Addr} {rows : List (List V)} (h : TupsAt H ts rows) : ts.length = rows.length := Paired.length h
theorem TupsAt.snoc {H : Hp} {ts : List Addr} {rows : List (List V)} {t : Addr} {xs : List V} (h : TupsAt H ts rows) (e : H t = some (.tup xs)) : TupsAt H (ts ++ [t]) (rows ++ [xs]) := by
  unfold TupsAt at h ⊢
  induction h with
  | nil => exact .cons e .nil
  | cons e' r ih => exact .cons e' ih
theorem TupsAt.filter {H : Hp} {ts : List Addr} {rows : List (List V)} (h : TupsAt H ts rows) (p : Addr → Bool) (q : List V → Bool) (hpq : ∀ t xs, H t = some (.tup xs) → t ∈ ts → p t = q xs) : TupsAt H (ts.filter p) (rows.filter q) := by
  unfold TupsAt at h ⊢
  induction h with
  | nil => exact .nil
  | @cons t xs ts rows e r ih =>
    have ih' := ih fun t' xs' e' m' => hpq t' xs' e' (List.mem_cons_of_mem _ m')
    have hp := hpq t xs e List.mem_cons_self
    by_cases hq : q xs = true
    · rw [List.filter_cons_of_pos hq, List.filter_cons_of_pos (hp.trans hq)]
      exact .cons e ih'
    · rw [List.filter_cons_of_neg hq, List.filter_cons_of_neg (by rw [hp]; exact hq)]
      exact ih'
theorem TupsAt.take {H : Hp} {ts : List Addr} {rows : List (List V)} (h : TupsAt H ts rows) (n : Nat) : TupsAt H (ts.take n) (rows.take n) := by
  unfold TupsAt at h ⊢
  induction h generalizing n with
  | nil => simp; exact .nil
  | cons e r ih =>
    cases n with
    | zero => exact .nil
    | succ n => exact .cons e (ih n)
end L2

set_option Elab.async false
set_option linter.all false
set_option maxRecDepth 100000
set_option maxHeartbeats 4000000
namespace L2
open PySem PySem.Spec PyProof.Rows
/-! ### a row, as it stands -/
abbrev Ltr := List Nat × Option (List Nat) × Int
def wV : Option (List Nat) → V
  | none => .non
  | some l => .str (S l)
def letV (x : Ltr) : List V := [.str (S x.1), wV x.2.1, .int x.2.2]
structure RowM where
  first : Int
  last : Int
  drawn : Int
  L : Int → Option Ltr
def row0 : RowM := ⟨0, 0, 0, fun _ => none⟩
def rowF (M : RowM) (d : Addr) : List (Str × V) := [("first", .int M.first), ("end", .int M.last), ("drawn", .int M.drawn), ("letters", .ref d)]
/-- what a value says of a place: nothing, or the letter's tuple -/
def LetVal (H : Hp) : Option Ltr → V → Prop
  | none, v => v = .non
  | some x, v => ∃ t, v = .ref t ∧ H t = some (.tup (letV x))
def LetsAt (H : Hp) (kvs : List (Key × V)) (L : Int → Option Ltr) : Prop := ∀ p : Int, LetVal H (L p) ((valV kvs (.inl p)).getD .non) ∧ ((valV kvs (.inl p)).isSome = (L p).isSome)
theorem LetVal.chg {A : List Addr} {H H' : Hp} {o : Option Ltr} {v : V} (c : Chg A H H') (h : LetVal H o v) : LetVal H' o v := by
  cases o with
  | none => exact h
  | some x => obtain ⟨t, e, ht⟩ := h; exact ⟨t, e, c.tup _ _ ht⟩
theorem LetsAt.chg {A : List Addr} {H H' : Hp} {kvs : List (Key × V)} {L : Int → Option Ltr} (c : Chg A H H') (h : LetsAt H kvs L) : LetsAt H' kvs L := fun p => ⟨(h p).1.chg c, (h p).2⟩
theorem LetsAt.none {H : Hp} {kvs : List (Key × V)} {L : Int → Option Ltr} (h : LetsAt H kvs L) {p : Int} (e : L p = Option.none) : valV kvs (.inl p) = Option.none := by
  have := (h p).2
  rw [e] at this
  simpa using this
theorem LetsAt.some {H : Hp} {kvs : List (Key × V)} {L : Int → Option Ltr} (h : LetsAt H kvs L) {p : Int} {x : Ltr} (e : L p = Option.some x) : ∃ t, valV kvs (.inl p) = Option.some (.ref t) ∧ H t = Option.some (.tup (letV x)) := by
  obtain ⟨h1, h2⟩ := h p
  rw [e] at h1 h2
  obtain ⟨v, hv⟩ := Option.isSome_iff_exists.mp (h2.trans rfl)
  rw [hv] at h1
  obtain ⟨t, et, ht⟩ := h1
  refine ⟨t, ?_, ht⟩
  rw [hv]
  exact congrArg Option.some et
theorem LetsAt.put {H : Hp} {kvs : List (Key × V)} {L : Int → Option Ltr} (h : LetsAt H kvs L) {p : Int} {x : Ltr} {t : Addr} (ht : H t = Option.some (.tup (letV x))) : LetsAt H (putK kvs (.inl p) (.ref t)) (fun q => if q = p then Option.some x else L q) := by
  intro q
  rw [valV_put]
  by_cases e : q = p
  · subst e
    rw [if_pos rfl]
    dsimp only
    rw [if_pos rfl]
    exact ⟨⟨t, rfl, ht⟩, rfl⟩
  · have e' : ¬ (Sum.inl q : Key) = Sum.inl p := fun z => e (Sum.inl.inj z)
    rw [if_neg e']
    dsimp only
    rw [if_neg e]
    exact h q
theorem valV_drop {κ : Type} [DecidableEq κ] (kvs : List (κ × V)) (k j : κ) : valV (dropK kvs k) j = if j = k then Option.none else valV kvs j := by
  induction kvs with
  | nil => rw [show dropK ([] : List (κ × V)) k = [] from rfl, valV_nil]; split <;> rfl
  | cons p r ih =>
    by_cases e : p.1 = k
    · rw [dropK_pos e, ih]
      by_cases ej : j = k
      · rw [if_pos ej, if_pos ej]
      · rw [if_neg ej, if_neg ej, valV_neg (fun z => ej (z.symm.trans e))]
    · rw [dropK_neg e]
      by_cases ep : p.1 = j
      · rw [valV_pos ep, valV_pos ep, if_neg (fun z => e (ep.trans z))]
      · rw [valV_neg ep, valV_neg ep, ih]
theorem LetsAt.drop {H : Hp} {kvs : List (Key × V)} {L : Int → Option Ltr} (h : LetsAt H kvs L) (p : Int) : LetsAt H (dropK kvs (.inl p)) (fun q => if q = p then Option.none else L q) := by
  intro q
  rw [valV_drop]
  by_cases e : q = p
  · subst e
    rw [if_pos rfl]
    dsimp only
    rw [if_pos rfl]
    exact ⟨rfl, rfl⟩
  · have e' : ¬ (Sum.inl q : Key) = Sum.inl p := fun z => e (Sum.inl.inj z)
    rw [if_neg e']
    dsimp only
    rw [if_neg e]
    exact h q
structure RowAt (C : Addr) (H : Hp) (r d : Addr) (M : RowM) : Prop where
  obj : ∃ dx, H r = some (.ins C dx (rowF M d))
  dict : ∃ kvs, H d = some (.dK kvs) ∧ (kvs.length : Int) ≤ M.last ∧ LetsAt H kvs M.L
  f0 : 0 ≤ M.first
  fl : M.first ≤ M.last
  dr : 0 ≤ M.drawn
  within : ∀ p, (M.L p).isSome = true → M.first ≤ p ∧ p < M.last
theorem RowAt.chg {A : List Addr} {C : Addr} {H H' : Hp} {r d : Addr} {M : RowM} (h : RowAt C H r d M) (c : Chg A H H') (hr : r ∉ A) (hd : d ∉ A) : RowAt C H' r d M := by
  obtain ⟨dx, e⟩ := h.obj
  obtain ⟨kvs, e2, l, t⟩ := h.dict
  exact ⟨⟨dx, c.keep _ _ e hr⟩, ⟨kvs, c.keep _ _ e2 hd, l, t.chg c⟩, h.f0, h.fl, h.dr, h.within⟩
theorem RowAt.ne {C : Addr} {H : Hp} {r d : Addr} {M : RowM} (h : RowAt C H r d M) : r ≠ d := by
  obtain ⟨dx, e⟩ := h.obj
  obtain ⟨kvs, e2, _⟩ := h.dict
  exact ne_of e e2 (by intro z; cases z)
def RowM.add (M : RowM) (x : Ltr) : RowM := { M with last := M.last + 1, L := fun q => if q = M.last then some x else M.L q }
def RowM.out (M : RowM) (p : Int) : RowM := { M with L := fun q => if q = p then none else M.L q }
def RowM.upto (M : RowM) (p : Int) : Int := min p M.last
def RowM.cut (M : RowM) (p : Int) : RowM := { M with first := max M.first (M.upto p), L := fun q => if q < M.upto p then none else M.L q }
def RowM.raised (M : RowM) (p : Int) : RowM := { M with drawn := max M.drawn p }
/-- the places from lo on, n of them, where a letter stands -/
def RowM.standing (M : RowM) (lo : Int) (n : Nat) : List Int := ((List.range n).map fun (i : Nat) => lo + (i : Int)).filter fun q => (M.L q).isSome
def okL (x : Ltr) : Prop := okS x.1 ∧ ∀ w, x.2.1 = some w → okS w
def wordD : Option (List Nat) → PyData
  | none => .none
  | some l => .str (S l)
def letD (x : Ltr) : PyData := .tuple [.str (S x.1), wordD x.2.1, .int x.2.2]
/-- what is told of a place -/
def RowM.rowV (M : RowM) (p : Int) : List V := match M.L p with
  | some x => [.int p, .str (S x.1), wV x.2.1]
  | none => []
def RowM.seenP (M : RowM) (start limit most : Int) : List Int := (M.standing (max start M.first) (min limit M.last - max start M.first).toNat).take most.toNat
def sp_row_seen (C : Addr) : Sp := fun vs H Q _ => ∃ (r d : Addr) (M : RowM) (st li mo : Int), vs = [.ref r, .int st, .int li, .int mo] ∧ RowAt C H r d M ∧ M.last ≤ 100000 ∧ 0 ≤ st ∧ st ≤ 10 ^ 12 ∧ 0 ≤ li ∧ 0 ≤ mo ∧
  ∀ D H', H D = none → Same H H' → LTups H' D ((M.seenP st li mo).map M.rowV) → Q (.ref D) H'
def sp_row_init (C : Addr) : Sp := fun vs H Q _ => ∃ x dx, vs = [.ref x] ∧ H x = some (.ins C dx []) ∧ ∀ d H', H d = none → d ≠ x → Chg [x] H H' → RowAt C H' x d row0 → Q .non H'
def sp_row_add (C : Addr) : Sp := fun vs H Q _ => ∃ (r d : Addr) (M : RowM) (x : Ltr), vs = [.ref r, .str (S x.1), wV x.2.1, .int x.2.2] ∧ RowAt C H r d M ∧ M.last ≤ 100000 ∧ ∀ H', Chg [r, d] H H' → RowAt C H' r d (M.add x) → Q (.int M.last) H'
def sp_row_at (C : Addr) : Sp := fun vs H Q _ => ∃ (r d : Addr) (M : RowM) (p : Int), vs = [.ref r, .int p] ∧ RowAt C H r d M ∧ ∀ v, LetVal H (M.L p) v → Q v H
def sp_row_out (C : Addr) : Sp := fun vs H Q _ => ∃ (r d : Addr) (M : RowM) (p : Int), vs = [.ref r, .int p] ∧ RowAt C H r d M ∧ ∀ H', Chg [d] H H' → RowAt C H' r d (M.out p) → Q (.bl (M.L p).isSome) H'
def sp_row_cut (C : Addr) : Sp := fun vs H Q _ => ∃ (r d : Addr) (M : RowM) (p : Int), vs = [.ref r, .int p] ∧ RowAt C H r d M ∧ M.last ≤ 100000 ∧ -100000000000 ≤ p ∧
  ∀ D H', H D = none → Chg [r, d] H H' → RowAt C H' r d (M.cut p) → H' D = some (.lst ((M.standing M.first (M.upto p - M.first).toNat).map V.int)) → Q (.ref D) H'
def sp_row_raise (C : Addr) : Sp := fun vs H Q _ => ∃ (r d : Addr) (M : RowM) (p : Int), vs = [.ref r, .int p] ∧ RowAt C H r d M ∧ ∀ H', Chg [r] H H' → RowAt C H' r d (M.raised p) → Q .non H'
end L2

set_option Elab.async false
set_option linter.all false
set_option maxRecDepth 100000
set_option maxHeartbeats 4000000
namespace L2
open PySem PySem.Spec PyProof.Rows

/-! ### list(range(..)) -/
section
variable {X : Cx}
def rngV (lo : Int) (n : Nat) : List V := (List.range n).map fun (i : Nat) => V.int (lo + (i : Int))
def rngI (lo : Int) (n : Nat) : List Int := (List.range n).map fun (i : Nat) => lo + (i : Int)
def tLR1 (ta : TA) : TE := fun σ H Q => ta σ H fun vs H1 => ∃ j : Int, vs = [.int j] ∧ -(2 ^ 62) ≤ j ∧ j ≤ sizeLine ∧ ∀ l, H1 l = none → Q (.ref l) (upd H1 l (.lst (rngV 0 j.toNat)))
def tLR2 (ta : TA) : TE := fun σ H Q => ta σ H fun vs H1 => ∃ i j : Int, vs = [.int i, .int j] ∧ (-(2 ^ 62) ≤ i ∧ i < 2 ^ 62 ∧ -(2 ^ 62) ≤ j ∧ j < 2 ^ 62) ∧ j - i ≤ sizeLine ∧ ∀ l, H1 l = none → Q (.ref l) (upd H1 l (.lst (rngV i (j - i).toNat)))
/-! ### sorted(list of ints) -/
def rSortI (K : PySem.W.Frag) : List V → Hp → VK → Prop := fun xs H Q => ∃ (p : Addr) (ns : List Int), xs = [.ref p] ∧ SqL K H p (ns.map V.int) ∧ ns.length < 64 ∧
  ∀ l (ms : List Int), H l = none → ms.Perm ns → ms.Pairwise (· ≤ ·) → Q (.ref l) (upd H l (.lst (ms.map V.int)))
end

/-! ### len(set(list of texts)) -/
def addS (l : List Str) (x : Str) : List Str := if l.any (· == x) then l else l ++ [x]
def onceS (l : List Str) : List Str := l.foldl addS []
section
variable {prog : Program} {w : World} {A : Around} {s : Shared}
end
section
variable {prog : Program} {w : World} {A : Around} {E : Value → Shared → Prop} {s : Shared}
def emptySet (led : Bool) : Obj := { cls := .type "set", dict := none, data := .set #[] 0 (.fresh 0 0 led) }
/-- what the init of a set leaves -/
def SetDone (prog : Program) (w : World) (s : Shared) (ls : List Str) (s₂ : Shared) : Prop := ∃ h' tk, s₂ = { s with heap := h', toks := tk } ∧ h'.SetOf (strKind prog w) s.heap.objs.size (fun x => (onceS ls).any (· == x)) (onceS ls).length ∧
  ∀ b o, s.heap.get? b = some o → h'.get? b = some o
end
section
variable {X : Cx}
def tLenSet (K : PySem.W.Frag) (te : TE) : TE := fun σ H Q => te σ H fun x H1 => ∃ (p : Addr) (ls : List Str), x = .ref p ∧ SqL K H1 p (ls.map V.str) ∧ ls.length ≤ 4000 ∧ Q (.int (onceS ls).length) H1
/-- a tuple of the module -/
def TConst (K : PySem.W.Frag) (mg : Str → Option Value) (x : Str) (xs : List V) : Prop := ∃ p, mg x = some (.ref p) ∧ ∀ H, SqT K H p xs
def tCT (K : PySem.W.Frag) (xs : List V) : TE := fun _ H Q => ∀ p, (∀ H', SqT K H' p xs) → Q (.ref p) H
end
end L2

set_option Elab.async false
set_option linter.all false
set_option maxRecDepth 100000
set_option maxHeartbeats 4000000
namespace L2
open PySem PySem.Spec PyProof.Rows
/-! ### a comprehension whose target is a tuple of names -/
def hideT (xs : List Str) (y : Str) : Str := if y ∈ xs then Str.empty else y
abbrev blkT (X : Cx) (xs : List Str) (scope : Scope) (M : List Str) (C : Addr) (s₀ : Shared) (H₀ : Hp) (fp : List Addr) : Cx :=
  { X with N := xs ++ M, s₀ := s₀, H₀ := H₀, env := compEnvC scope (closOf X.env.cells scope.names []) C X.env, outer := X.stack, stack := X.stack, ex := fp, fn := fun _ => false, pn := [], xe := fun _ _ => False }
structure CompOkT (N M : List Str) (sc : Scope) (xs : List Str) (scope : Scope) : Prop where
  kind : scope.kind = .function
  cell : ∀ y ∈ scope.names, y.2 ≠ .cell
  names : ∀ y ∈ scope.names, y.2 = .local → scope.names.lookup y.1 = some .local
  free : ∀ y ∈ scope.names, y.2 = .free → sc.names.lookup y.1 = some .cell ∨ sc.names.lookup y.1 = some .free
  hid : N.map (hideT xs) = M
  others : ∀ y ∈ M, scope.names.lookup y ≠ some .local
  void : scope.names.lookup Str.empty = none
def tCompT (n : Nat) (wi : TI) (g : TG) (tt : TT) (te : TE) : TE := fun σ H Q => wi σ H fun J H1 => ∀ D, H1 D = none → ∃ W : Nat → Nat → List V → Hp → Prop, (∃ m, W 0 m [] (upd H1 D (.lst []))) ∧ ∀ i m ys H2, W i m ys H2 →
  (J.stop i H2 ∧ H2 D = some (.lst ys) ∧ Q (.ref D) H2) ∨ (J.go i H2 ∧ ys.length < sizeLine ∧ ∀ x H3, J.yld i H2 x H3 → ∀ o : St, o.length = n → g x (o ++ σ) H3 fun σ' H3' => (∃ o' : St, o'.length = n ∧ σ' = o' ++ σ) ∧ tt σ' H3' fun b H4 =>
    if b = true then te σ' H4 fun y H5 => H5 D = some (.lst ys) ∧ ∃ m', m' < m ∧ W (i + 1) m' (ys ++ [y]) (upd H5 D (.lst (ys ++ [y]))) else ∃ m', m' < m ∧ W (i + 1) m' ys H4)
section
variable {X : Cx} {pins : List (Addr × Obj)} {σ : St} {H2 : Hp} {s2 : Shared} {E : Value → Shared → Prop}
variable {elt iter tg : Expr} {ifs : List Expr} {xs : List Str} {pos : Pos} {g : TG} {N M : List Str} {sc scope : Scope} {tt : TT} {te : TE} {it : Addr} {fp : List Addr} {tn : Nat → Heap → Prop} {J : It}
end
section
variable {X : Cx} {elt iter c tg : Expr} {ifs : List Expr} {xs : List Str} {y : Str} {py pos spos : Pos} {scope sc : Scope} {N M : List Str} {wi : TI} {tt : TT} {te : TE} {g : TG}
end
end L2

set_option Elab.async false
set_option linter.all false
set_option maxRecDepth 100000
set_option maxHeartbeats 4000000
namespace L2
open PySem PySem.Spec PyProof.Rows
/-! ### a dict is walked: frozen while the loop runs, thawed behind it -/
section
variable {X : Cx} {pins : List (Addr × Obj)} {σ : St} {H : Hp} {s : Shared} {d : Addr} {kvs : List (Key × V)} {od : Obj}
/-- a dict that is not frozen at the entry: it may be frozen and thawed here -/
structure Cold (X : Cx) (d : Addr) : Prop where
  tup : ∀ xs, X.H₀ d ≠ some (.tup xs)
  frz : ∀ o u, X.H₀ d ≠ some (.frz o u)
  tbl : ∀ ps, X.H₀ d ≠ some (.tbl ps)
end
/-- the pairs of the dict at d -/
def Iti (d : Addr) (od : Obj) (kvs : List (Key × V)) : It :=
  ⟨fun i H => H d = some (.frz od (.dK kvs)) ∧ i < kvs.length, fun i H v H' => ∃ T k x, v = .ref T ∧ H T = none ∧ H' = upd H T (.tup [kV k, x]) ∧ kvs[i]? = some (k, x) ∧ valV kvs k = some x, fun i H => H d = some (.frz od (.dK kvs)) ∧ kvs.length ≤ i⟩
/-- its keys -/
def Itk (d : Addr) (od : Obj) (kvs : List (Key × V)) : It :=
  ⟨fun i H => H d = some (.frz od (.dK kvs)) ∧ i < kvs.length, fun i H v H' => H' = H ∧ ∃ k x, v = kV k ∧ kvs[i]? = some (k, x) ∧ valV kvs k = some x, fun i H => H d = some (.frz od (.dK kvs)) ∧ kvs.length ≤ i⟩
/-- its values -/
def Itv (d : Addr) (od : Obj) (kvs : List (Key × V)) : It :=
  ⟨fun i H => H d = some (.frz od (.dK kvs)) ∧ i < kvs.length, fun i H v H' => H' = H ∧ ∃ k, kvs[i]? = some (k, v), fun i H => H d = some (.frz od (.dK kvs)) ∧ kvs.length ≤ i⟩
/-- what the object od says -/
def Says (P : Program) (w : World) (d : Addr) (od : Obj) (kvs : List (Key × V)) (vs : List (Key × Value)) (ep : Nat) : Prop := KV kvs vs ∧ ∀ h : Heap, h.get? d = some od → h.DictAt (mixKind P w) d vs ep
/-! the judgement: an iterator over a frozen dict has come -/
abbrev TIF := St → Hp → (Addr → Obj → List (Key × V) → It → Hp → Prop) → Prop
def PIEF (X : Cx) (pins : List (Addr × Obj)) (σ : St) (tg : Expr) (R : Addr → Obj → List (Key × V) → It → Hp → Prop) (itv : Value) (s2 : Shared) : Prop :=
  ∃ (it : Addr) (fp : List Addr) (tn : Nat → Heap → Prop) (J : It) (H' : Hp) (d : Addr) (od : Obj) (kvs : List (Key × V)), itv = .ref it ∧ Inv X pins σ H' s2 ∧ Turn X.prog X.w X.K tg J fp it tn ∧ tn 0 s2.heap ∧ (∀ b ∈ fp, FpOk X pins H' b) ∧ Cold X d ∧ R d od kvs J H'
def PIF (X : Cx) (tg iter : Expr) (wi : TIF) : Prop :=
  ∀ (pins : List (Addr × Obj)) (s : Shared) (σ : St) (H : Hp) (R : Addr → Obj → List (Key × V) → It → Hp → Prop), Inv X pins σ H s → wi σ H R →
    wpAny (model X.prog X.w) X.A (eval iter X.env) (fun v s1 => wpAny (model X.prog X.w) X.A (pyIter v) (PIEF X pins σ tg R) X.xe s1) X.xe s
def iItems (td : TE) : TIF := fun σ H R => td σ H fun x H1 => ∃ d kvs, x = .ref d ∧ H1 d = some (.dK kvs) ∧ ∀ od, R d od kvs (Iti d od kvs) (upd H1 d (.frz od (.dK kvs)))
def iKeys (td : TE) : TIF := fun σ H R => td σ H fun x H1 => ∃ d kvs, x = .ref d ∧ H1 d = some (.dK kvs) ∧ ∀ od, R d od kvs (Itk d od kvs) (upd H1 d (.frz od (.dK kvs)))
def iVals (td : TE) : TIF := fun σ H R => td σ H fun x H1 => ∃ d kvs, x = .ref d ∧ H1 d = some (.dK kvs) ∧ ∀ od, R d od kvs (Itv d od kvs) (upd H1 d (.frz od (.dK kvs)))
section
variable {X : Cx} {o : Expr} {apos cpos : Pos} {td : TE}
end
/-! ### for -/
def thawE (d : Addr) (od : Obj) (kvs : List (Key × V)) (D : Ends) : Ends :=
  { D with nx := fun σ H => H d = some (.frz od (.dK kvs)) ∧ D.nx σ (upd H d (.dK kvs)), rt := fun v H => H d = some (.frz od (.dK kvs)) ∧ D.rt v (upd H d (.dK kvs)) }
def tForD (wi : TIF) (g : TG) (tb : TS) : TS := fun D σ H => wi σ H fun d od kvs J H1 => forW J g tb (thawE d od kvs D) σ H1
section
variable {X : Cx} {tg : Expr}
end
theorem tForD_eq (wi : TIF) (g : TG) (tb : TS) (D : Ends) (σ : St) (H : Hp) : tForD wi g tb D σ H = wi σ H fun d od kvs J H1 => forW J g tb (thawE d od kvs D) σ H1 := rfl
/-! ### a comprehension over a dict -/
def tCompD (n : Nat) (wi : TIF) (g : TG) (tt : TT) (te : TE) : TE := fun σ H Q => wi σ H fun d od kvs J H1 => ∀ D, H1 D = none → ∃ W : Nat → Nat → List V → Hp → Prop, (∃ m, W 0 m [] (upd H1 D (.lst []))) ∧ ∀ i m ys H2, W i m ys H2 →
  (J.stop i H2 ∧ H2 D = some (.lst ys) ∧ H2 d = some (.frz od (.dK kvs)) ∧ Q (.ref D) (upd H2 d (.dK kvs))) ∨ (J.go i H2 ∧ ys.length < sizeLine ∧ ∀ x H3, J.yld i H2 x H3 → ∀ o : St, o.length = n → g x (o ++ σ) H3 fun σ' H3' => (∃ o' : St, o'.length = n ∧ σ' = o' ++ σ) ∧ tt σ' H3' fun b H4 =>
    if b = true then te σ' H4 fun y H5 => H5 D = some (.lst ys) ∧ ∃ m', m' < m ∧ W (i + 1) m' (ys ++ [y]) (upd H5 D (.lst (ys ++ [y]))) else ∃ m', m' < m ∧ W (i + 1) m' ys H4)
section
variable {X : Cx} {elt iter c tg : Expr} {ifs : List Expr} {xs : List Str} {y : Str} {py pos spos : Pos} {scope sc : Scope} {N M : List Str} {wi : TIF} {tt : TT} {te : TE} {g : TG}
end
end L2

set_option Elab.async false
set_option linter.all false
set_option maxRecDepth 100000
set_option maxHeartbeats 4000000
namespace L2
open PySem PySem.Spec PyProof.Rows
/-! ### text * int -/
def repL (n : Nat) (l : List Nat) : List Nat := (List.replicate n l).flatten
theorem foldl_app_toList (xs : List (Array Nat)) : ∀ a : Array Nat, (xs.foldl (· ++ ·) a).toList = a.toList ++ (xs.map Array.toList).flatten := by
  induction xs with
  | nil => intro a; simp
  | cons x r ih => intro a; rw [List.foldl_cons, ih]; simp
theorem mul_S (l : List Nat) (n : Int) : Txt.mul (S l) n = S (repL n.toNat l) := by
  unfold Txt.mul repL
  by_cases h1 : n < 1
  · rw [if_pos h1]
    have : n.toNat = 0 := by omega
    rw [this]
    rfl
  · rw [if_neg h1]
    by_cases h2 : (n == 1 || (S l).length == 0) = true
    · rw [if_pos h2]
      rw [Bool.or_eq_true] at h2
      rcases h2 with h2 | h2
      · have : n = 1 := by simpa using h2
        subst this
        simp
      · have : l = [] := by
          have : (S l).length = 0 := by simpa using h2
          rw [S_len] at this
          exact List.length_eq_zero_iff.mp this
        subst this
        congr 1
        simp
    · rw [if_neg h2]
      show (⟨_⟩ : Str) = ⟨_⟩
      congr 1
      apply Array.toList_inj.mp
      rw [foldl_app_toList]
      simp
def rRepT : R2 := fun x y H Q => ∃ l n, x = .str (S l) ∧ y = .int n ∧ -(2 ^ 62) ≤ n ∧ n ≤ 65536 ∧ l.length ≤ 200 ∧ Q (.str (S (repL n.toNat l))) H
section
variable {X : Cx}
theorem op_repT : OpR X (binaryOp .Mult) rRepT := by
  intro pins s σ H x y v u Q I rx ry h
  obtain ⟨l, n, rfl, rfl, h0, h1, hl, q⟩ := h
  obtain ⟨t, rfl⟩ := rx
  obtain ⟨t', rfl⟩ := ry
  refine SB.mul ⟨?_, fun h2 _ => ?_, fun h2 _ => ?_⟩ fun t'' k => ⟨.str (S (repL n.toNat l)), H, I.tok k, ⟨t'', by rw [mul_S]⟩, q⟩
  · rw [decide_eq_false (by omega), decide_eq_false (by omega)]; rfl
  · rw [S_len]
    intro h3
    have h4 : (2 ^ 63 - 1 : Int) / n ≥ (2 ^ 63 - 1) / 65536 := by
      refine Int.le_ediv_of_mul_le (by omega) ?_
      have : (2 ^ 63 - 1 : Int) / 65536 * n ≤ (2 ^ 63 - 1 : Int) / 65536 * 65536 := Int.mul_le_mul_of_nonneg_left h1 (by decide)
      have : (2 ^ 63 - 1 : Int) / 65536 * 65536 ≤ 2 ^ 63 - 1 := by decide
      omega
    have h5 : (2 ^ 63 - 1 : Int) / 65536 > 200 := by decide
    omega
  · rw [S_len]
    have h3 : l.length * n.toNat ≤ 200 * 65536 := Nat.mul_le_mul hl (by omega)
    have e : Builtin.Str.tooLong (l.length * n.toNat) = decide (l.length * n.toNat > sizeLine) := rfl
    rw [e, decide_eq_false]
    rw [sizeLine_eq]
    omega
def rMulA : R2 := fun x y H Q => rI CMul (fun i j => .int (i * j)) x y H Q ∨ rRepT x y H Q
theorem op_mulA : OpR X (binaryOp .Mult) rMulA := op_mul.or op_repT
theorem rMul_ii {H : Hp} {Q : VK} (i j : Int) : rMulA (.int i) (.int j) H Q = (CMul i j ∧ Q (.int (i * j)) H) := by
  simp [rMulA, rI, rRepT]
theorem rMul_si {H : Hp} {Q : VK} (z : Str) (n : Int) : rMulA (.str z) (.int n) H Q = ∃ l, z = S l ∧ -(2 ^ 62) ≤ n ∧ n ≤ 65536 ∧ l.length ≤ 200 ∧ Q (.str (S (repL n.toNat l))) H := by
  simp [rMulA, rI, rRepT]
/-! ### isinstance(x, (A, B)) -/
def rIsiT (K : PySem.W.Frag) : List V → Hp → VK → Prop := fun xs H Q => ∃ (x : V) (t : Value) (p : Addr) (ns : List String) (b : Bool), xs = [x, .ref p] ∧ H p = some (.tup (ns.map V.ty)) ∧ TyOf K H x t ∧ PySem.W.kitAny K t (ns.map Value.type) = some b ∧ Q (.bl b) H
/-! ### d.clear() -/
def rDClear : V → List V → Hp → VK → Prop := fun x vs H Q => ∃ a kvs, x = .ref a ∧ vs = [] ∧ H a = some (.dK kvs) ∧ Q .non (upd H a (.dK []))
def tDClear (td : TE) : TE := fun σ H Q => td σ H fun x H1 => ∃ a kvs, x = .ref a ∧ H1 a = some (.dK kvs) ∧ Q .non (upd H1 a (.dK []))
end
/-! ### reversed(list) -/
def Itv' (K : PySem.W.Frag) (a : Addr) (n : Nat) : It :=
  ⟨fun i H => i < n ∧ ∃ xs, SqL K H a xs ∧ xs.length = n, fun i H x H' => H' = H ∧ ∀ xs, SqL K H a xs → xs[n - 1 - i]? = some x, fun i H => n ≤ i⟩
section
variable {X : Cx}
def iRev (K : PySem.W.Frag) (ta : TA) : TI := fun σ H R => ta σ H fun vs H1 => ∃ a xs, vs = [.ref a] ∧ SqL K H1 a xs ∧ R (Itv' K a xs.length) H1
end
end L2

set_option Elab.async false
set_option linter.all false
set_option maxRecDepth 100000
set_option maxHeartbeats 4000000
namespace L2
open PySem PySem.Spec PyProof.Rows
/-! ### a lending, as it stands -/
abbrev Loan := Int × List Nat × Int
def loanV (x : Loan) : List V := [.int x.1, .str (S x.2.1), .int x.2.2]
structure LendM where
  row : Int
  start : Int
  turns : Int
  tries : Int
  width : Int
  lent : Int
  F : Int → Option Str
  T : Int → Int
  L : Int → Option Loan
  sz : Nat
def lend0 (r s t n w : Int) : LendM := ⟨r, s, t, n, w, 0, fun _ => none, fun _ => 0, fun _ => none, 0⟩
def lendF (M : LendM) (f t l : Addr) : List (Str × V) := [("row", .int M.row), ("start", .int M.start), ("turns", .int M.turns), ("tries", .int M.tries), ("width", .int M.width), ("lent", .int M.lent), ("fates", .ref f), ("tried", .ref t), ("loans", .ref l)]
/-- what a dict's answer says of a loan -/
def LoanO (H : Hp) : Option Loan → Option V → Prop
  | none, v => v = none
  | some x, v => ∃ t, v = some (.ref t) ∧ H t = some (.tup (loanV x))
/-- what a value says of a loan -/
def LoanVal (H : Hp) : Option Loan → V → Prop
  | none, v => v = .non
  | some x, v => ∃ t, v = .ref t ∧ H t = some (.tup (loanV x))
theorem LoanO.val {H : Hp} {o : Option Loan} {v : Option V} (h : LoanO H o v) : LoanVal H o (v.getD .non) := by
  cases o with
  | none => rw [show v = none from h]; rfl
  | some x => obtain ⟨t, e, ht⟩ := h; exact ⟨t, by rw [e]; rfl, ht⟩
theorem LoanO.chg {A : List Addr} {H H' : Hp} {o : Option Loan} {v : Option V} (c : Chg A H H') (h : LoanO H o v) : LoanO H' o v := by
  cases o with
  | none => exact h
  | some x => obtain ⟨t, e, ht⟩ := h; exact ⟨t, e, c.tup _ _ ht⟩
def fateV : Option Str → V
  | none => .non
  | some z => .str z
structure LendAt (C : Addr) (H : Hp) (r f t l : Addr) (M : LendM) : Prop where
  obj : ∃ dx, H r = some (.ins C dx (lendF M f t l))
  fat : ∃ kvs, H f = some (.dK kvs) ∧ kvs.length ≤ M.sz ∧ (∀ p : Int, valV kvs (.inl p) = (M.F p).map V.str) ∧ ∀ z, valV kvs (.inr z) = none
  tri : ∃ kvs, H t = some (.dK kvs) ∧ kvs.length ≤ M.sz ∧ ∀ p : Int, (valV kvs (.inl p)).getD (.int 0) = .int (M.T p)
  loa : ∃ kvs, H l = some (.dK kvs) ∧ kvs.length ≤ M.sz ∧ (∀ p : Int, LoanO H (M.L p) (valV kvs (.inl p))) ∧ ∀ z, valV kvs (.inr z) = none
  rf : r ≠ f
  rt : r ≠ t
  rl : r ≠ l
  ft : f ≠ t
  fl : f ≠ l
  tl : t ≠ l
theorem LendAt.chg {A : List Addr} {C : Addr} {H H' : Hp} {r f t l : Addr} {M : LendM} (h : LendAt C H r f t l M) (c : Chg A H H') (hr : r ∉ A) (hf : f ∉ A) (ht : t ∉ A) (hl : l ∉ A) : LendAt C H' r f t l M := by
  obtain ⟨dx, e⟩ := h.obj
  obtain ⟨k1, e1, l1, v1, w1⟩ := h.fat
  obtain ⟨k2, e2, l2, v2⟩ := h.tri
  obtain ⟨k3, e3, l3, v3, w3⟩ := h.loa
  exact ⟨⟨dx, c.keep _ _ e hr⟩, ⟨k1, c.keep _ _ e1 hf, l1, v1, w1⟩, ⟨k2, c.keep _ _ e2 ht, l2, v2⟩, ⟨k3, c.keep _ _ e3 hl, l3, fun p => (v3 p).chg c, w3⟩, h.rf, h.rt, h.rl, h.ft, h.fl, h.tl⟩
def LendM.lend (M : LendM) (p : Int) (tk : List Nat) (turn : Int) : LendM :=
  { M with lent := M.lent + 1, L := fun q => if q = p then some (M.lent + 1, tk, turn + M.turns) else M.L q, T := fun q => if q = p then M.T p + 1 else M.T q, sz := M.sz + 1 }
def LendM.back (M : LendM) (p : Int) : LendM := { M with L := fun q => if q = p then none else M.L q }
def LendM.fate (M : LendM) (p : Int) (z : Str) : LendM := { M with L := fun q => if q = p then none else M.L q, F := fun q => if q = p then some z else M.F q, sz := M.sz + 1 }
def LendM.isLent (M : LendM) (p turn : Int) : Bool := match M.L p with
  | some x => decide (turn < x.2.2)
  | none => false
def sp_l_init (C : Addr) : Sp := fun vs H Q _ => ∃ (x dx : Addr) (r s t n w : Int), vs = [.ref x, .int r, .int s, .int t, .int n, .int w] ∧ H x = some (.ins C dx []) ∧
  ∀ f u l H', H f = none → H u = none → H l = none → Chg [x] H H' → LendAt C H' x f u l (lend0 r s t n w) → Q .non H'
def sp_l_lend (C : Addr) : Sp := fun vs H Q _ => ∃ (r f t l : Addr) (M : LendM) (p : Int) (tk : List Nat) (turn : Int), vs = [.ref r, .int p, .str (S tk), .int turn] ∧ LendAt C H r f t l M ∧ M.sz ≤ 100000 ∧
  ∀ H', Chg [r, t, l] H H' → LendAt C H' r f t l (M.lend p tk turn) → Q (.int (M.lent + 1)) H'
def sp_l_next (C : Addr) : Sp := fun vs H Q _ => ∃ (r f t l : Addr) (M : LendM), vs = [.ref r] ∧ LendAt C H r f t l M ∧ Q (.int (M.lent + 1)) H
def sp_l_loan_at (C : Addr) : Sp := fun vs H Q _ => ∃ (r f t l : Addr) (M : LendM) (p : Int), vs = [.ref r, .int p] ∧ LendAt C H r f t l M ∧ ∀ v, LoanVal H (M.L p) v → Q v H
def sp_l_tried_at (C : Addr) : Sp := fun vs H Q _ => ∃ (r f t l : Addr) (M : LendM) (p : Int), vs = [.ref r, .int p] ∧ LendAt C H r f t l M ∧ Q (.int (M.T p)) H
def sp_l_fate_at (C : Addr) : Sp := fun vs H Q _ => ∃ (r f t l : Addr) (M : LendM) (p : Int), vs = [.ref r, .int p] ∧ LendAt C H r f t l M ∧ Q (fateV (M.F p)) H
def sp_l_back (C : Addr) : Sp := fun vs H Q _ => ∃ (r f t l : Addr) (M : LendM) (p : Int), vs = [.ref r, .int p] ∧ LendAt C H r f t l M ∧ ∀ H', Chg [l] H H' → LendAt C H' r f t l (M.back p) → Q .non H'
def sp_l_fate (C : Addr) (z : Str) : Sp := fun vs H Q _ => ∃ (r f t l : Addr) (M : LendM) (p : Int), vs = [.ref r, .int p] ∧ LendAt C H r f t l M ∧ M.sz ≤ 100000 ∧ ∀ H', Chg [f, l] H H' → LendAt C H' r f t l (M.fate p z) → Q .non H'
def sp_l_place_of (C : Addr) : Sp := fun vs H Q _ => ∃ (r f t l : Addr) (M : LendM) (p turn : Int) (x : Loan), vs = [.ref r, .int x.1, .int turn] ∧ LendAt C H r f t l M ∧ M.L p = some x ∧ 1 ≤ x.1 ∧ turn < x.2.2 ∧
  (∀ q y, M.L q = some y → y.1 = x.1 → q = p) ∧ ∀ H', Same H H' → Q (.int p) H'
def sp_l_is_lent (C : Addr) : Sp := fun vs H Q _ => ∃ (r f t l : Addr) (M : LendM) (p turn : Int), vs = [.ref r, .int p, .int turn] ∧ LendAt C H r f t l M ∧ Q (.bl (M.isLent p turn)) H
end L2

set_option Elab.async false
set_option linter.all false
set_option maxRecDepth 100000
set_option maxHeartbeats 4000000
namespace L2
open PySem PySem.Spec PyProof.Rows
/-! ### tables of letters -/
/-- place, key, word -/
abbrev L3 := Int × List Nat × Option (List Nat)
def l3V (x : L3) : List V := [.int x.1, .str (S x.2.1), wV x.2.2]
def lastW : List L3 → List Nat → Option (Option (List Nat))
  | [], _ => none
  | x :: r, k => match lastW r k with
    | some y => some y
    | none => if x.2.1 = k then some x.2.2 else none
theorem lastW_app (a b : List L3) (k : List Nat) : lastW (a ++ b) k = match lastW b k with
    | some y => some y
    | none => lastW a k := by
  induction a with
  | nil => rw [List.nil_append]; cases lastW b k <;> rfl
  | cons x r ih =>
    rw [List.cons_append, lastW, ih]
    cases hb : lastW b k with
    | some y => rfl
    | none => rw [lastW]
theorem lastW_snoc (a : List L3) (x : L3) (k : List Nat) : lastW (a ++ [x]) k = if x.2.1 = k then some x.2.2 else lastW a k := by
  rw [lastW_app]
  by_cases h : x.2.1 = k
  · rw [if_pos h]; simp [lastW, h]
  · rw [if_neg h]; simp [lastW, h]
/-- the word that a table of the letters has for a key -/
def wordAt (l : List L3) (k : List Nat) : Option (List Nat) := (lastW l k).join
def NdK (kvs : List (Key × V)) : Prop := (kvs.map (·.1)).Nodup
theorem nd_sub_len {α : Type} [DecidableEq α] : ∀ {l m : List α}, l.Nodup → (∀ x ∈ l, x ∈ m) → l.length ≤ m.length
  | [], m, _, _ => Nat.zero_le _
  | a :: r, m, h, s => by
    rw [List.nodup_cons] at h
    have ha : a ∈ m := s a List.mem_cons_self
    have ih := nd_sub_len (l := r) (m := m.erase a) h.2 fun x hx => (List.mem_erase_of_ne (fun (z : x = a) => h.1 (by rw [← z]; exact hx))).mpr (s x (List.mem_cons_of_mem _ hx))
    rw [List.length_erase_of_mem ha] at ih
    have : 0 < m.length := List.length_pos_of_mem ha
    rw [List.length_cons]
    omega
theorem NdK.nil : NdK [] := List.nodup_nil
theorem NdK.put {kvs : List (Key × V)} (h : NdK kvs) (k : Key) (v : V) : NdK (putK kvs k v) := by
  unfold putK
  by_cases a : (kvs.any fun kv => decide (kv.1 = k)) = true
  · rw [if_pos a]
    unfold NdK
    rw [List.map_map]
    have e : ((fun x : Key × V => x.1) ∘ fun kv : Key × V => if kv.1 = k then (kv.1, v) else kv) = fun x => x.1 := by
      funext x
      show (if x.1 = k then (x.1, v) else x).1 = x.1
      split <;> rfl
    rw [e]
    exact h
  · rw [if_neg a]
    unfold NdK
    rw [List.map_append, List.nodup_append]
    refine ⟨h, by simp, fun x hx y hy => ?_⟩
    have hy' : y = k := by simpa using hy
    subst hy'
    rintro rfl
    obtain ⟨p, hp, e⟩ := List.mem_map.mp hx
    exact a (List.any_eq_true.mpr ⟨p, hp, decide_eq_true e⟩)
theorem NdK.drop {kvs : List (Key × V)} (h : NdK kvs) (k : Key) : NdK (dropK kvs k) := by
  unfold NdK dropK
  exact List.Nodup.sublist (List.Sublist.map _ List.filter_sublist) h
/-- two tables with the same keys have one length -/
theorem NdK.len {a b : List (Key × V)} (ha : NdK a) (hb : NdK b) (h : ∀ k, (valV a k).isSome = (valV b k).isSome) : a.length = b.length := by
  have sub : ∀ {x y : List (Key × V)}, (∀ k, (valV x k).isSome = (valV y k).isSome) → ∀ k, k ∈ x.map (·.1) → k ∈ y.map (·.1) := by
    intro x y h k hk
    have h1 : (valV x k).isSome = true := by
      cases e : valV x k with
      | none => exact absurd hk (valV_not e)
      | some v => rfl
    rw [h k] at h1
    obtain ⟨v, hv⟩ := Option.isSome_iff_exists.mp h1
    exact valV_in hv
  have l1 : (a.map (·.1)).length ≤ (b.map (·.1)).length := nd_sub_len ha fun k hk => sub h k hk
  have l2 : (b.map (·.1)).length ≤ (a.map (·.1)).length := nd_sub_len hb fun k hk => sub (fun k => (h k).symm) k hk
  simp only [List.length_map] at l1 l2
  omega
/-- a dict that is the table of these letters -/
structure TabOf (H : Hp) (d : Addr) (f : List Nat → Option (List Nat)) (n : Nat) : Prop where
  dict : ∃ kvs, H d = some (.dK kvs) ∧ kvs.length ≤ n ∧ NdK kvs ∧ (∀ k : List Nat, valV kvs (.inr (S k)) = (f k).map fun z => V.str (S z)) ∧ ∀ i : Int, valV kvs (.inl i) = none
end L2

set_option Elab.async false
set_option linter.all false
set_option maxRecDepth 100000
set_option maxHeartbeats 4000000
namespace L2
open PySem PySem.Spec PyProof.Rows
/-! ### slices by places -/
theorem cutL_pre (l : List Nat) (k : Nat) : cutL l none (some (k : Int)) = l.take k := by
  unfold cutL
  rw [HT.sIx_nat, HT.sIx_none, List.drop_zero, Nat.sub_zero]
  by_cases h : k ≤ l.length
  · rw [Nat.min_eq_left h]
  · rw [Nat.min_eq_right (by omega), List.take_of_length_le (Nat.le_refl _), List.take_of_length_le (by omega)]
theorem cutL_suf (l : List Nat) (k : Nat) : cutL l (some (k : Int)) none = l.drop k := by
  unfold cutL
  rw [HT.sIx_nat, HT.sIx_none]
  by_cases h : k ≤ l.length
  · rw [Nat.min_eq_left h, List.take_of_length_le (by rw [List.length_drop]; omega)]
  · rw [Nat.min_eq_right (by omega), List.drop_of_length_le (Nat.le_refl _), List.drop_of_length_le (by omega), List.take_nil]
theorem cutV_pre (l : List V) (k : Nat) : cutV l none (some (k : Int)) = l.take k := by
  unfold cutV
  rw [HT.sIx_nat, HT.sIx_none, List.drop_zero, Nat.sub_zero]
  by_cases h : k ≤ l.length
  · rw [Nat.min_eq_left h]
  · rw [Nat.min_eq_right (by omega), List.take_of_length_le (Nat.le_refl _), List.take_of_length_le (by omega)]
theorem cutV_suf (l : List V) (k : Nat) : cutV l (some (k : Int)) none = l.drop k := by
  unfold cutV
  rw [HT.sIx_nat, HT.sIx_none]
  by_cases h : k ≤ l.length
  · rw [Nat.min_eq_left h, List.take_of_length_le (by rw [List.length_drop]; omega)]
  · rw [Nat.min_eq_right (by omega), List.drop_of_length_le (Nat.le_refl _), List.drop_of_length_le (by omega), List.take_nil]
theorem cutV_mid (l : List V) (k j : Nat) : cutV l (some (k : Int)) (some ((k + j : Nat) : Int)) = (l.drop k).take j := by
  unfold cutV
  rw [HT.sIx_nat, HT.sIx_nat]
  by_cases h : k ≤ l.length
  · rw [Nat.min_eq_left h]
    by_cases h2 : k + j ≤ l.length
    · rw [Nat.min_eq_left h2]; congr 1; omega
    · rw [Nat.min_eq_right (by omega), List.take_of_length_le (by rw [List.length_drop]; omega), List.take_of_length_le (by rw [List.length_drop]; omega)]
  · rw [show min k l.length = l.length by omega, List.drop_of_length_le (Nat.le_refl _), List.drop_of_length_le (show l.length ≤ k by omega), List.take_nil, List.take_nil]
/-- a one-sign text at a place parts a text -/
theorem part_at {l : List Nat} {k a : Nat} (h : l[k]? = some a) : l = l.take k ++ [a] ++ l.drop (k + 1) := by
  obtain ⟨hk, e⟩ := List.getElem?_eq_some_iff.mp h
  rw [List.append_assoc]
  have h2 : l.drop k = a :: l.drop (k + 1) := by rw [List.drop_eq_getElem_cons hk, e]
  rw [List.singleton_append, ← h2, List.take_append_drop]
end L2

set_option Elab.async false
set_option linter.all false
set_option maxRecDepth 100000
set_option maxHeartbeats 4000000
namespace L2
open PySem PySem.Spec PyProof.Rows
/-! ### comprehensions over lists of tuples -/
def tupV (H : Hp) : V → List V
  | .ref t => match H t with
    | some (.tup xs) => xs
    | _ => []
  | _ => []
theorem TupsAt.mem {H : Hp} {ts : List Addr} {rows : List (List V)} (h : TupsAt H ts rows) {x : V} (hx : x ∈ ts.map V.ref) : ∃ t xs, x = .ref t ∧ xs ∈ rows ∧ H t = some (.tup xs) := by
  obtain ⟨t, ht, rfl⟩ := List.mem_map.mp hx
  obtain ⟨i, hi⟩ := List.getElem?_of_mem ht
  obtain ⟨xs, h1, h2⟩ := h.get hi
  exact ⟨t, xs, rfl, List.mem_of_getElem? h1, h2⟩
/-! ### things, texts, names -/
inductive Thg (H : Hp) : V → Prop
  | non : Thg H .non
  | bl (b : Bool) : Thg H (.bl b)
  | int (i : Int) : Thg H (.int i)
  | str (l : List Nat) (h : l.length ≤ 1000) : Thg H (.str (S l))
  | lst {p : Addr} {xs : List V} (h : H p = some (.lst xs)) : Thg H (.ref p)
  | tup {p : Addr} {xs : List V} (h : H p = some (.tup xs)) : Thg H (.ref p)
def textV (x : V) (lo hi : Int) : Bool := match x with
  | .str z => decide (lo ≤ z.length) && decide ((z.length : Int) ≤ hi)
  | _ => false
def formV (x : V) (lo hi : Int) (p : Nat → Bool) : Bool := match x with
  | .str z => decide (lo ≤ z.length) && (decide ((z.length : Int) ≤ hi) && z.cps.toList.all p)
  | _ => false
def wholeV (x : V) (lo hi : Int) : Bool := match x with
  | .int i => decide (lo ≤ i) && decide (i ≤ hi)
  | _ => false
def T36 : List Nat := [97, 98, 99, 100, 101, 102, 103, 104, 105, 106, 107, 108, 109, 110, 111, 112, 113, 114, 115, 116, 117, 118, 119, 120, 121, 122, 48, 49, 50, 51, 52, 53, 54, 55, 56, 57]
def inN (c : Nat) : Bool := decide (c ∈ T36)
def sp_is_text : Sp := fun vs H Q _ => ∃ (x : V) (lo hi : Int), vs = [x, .int lo, .int hi] ∧ Thg H x ∧ Q (.bl (textV x lo hi)) H
def sp_is_name : Sp := fun vs H Q _ => ∃ x : V, vs = [x] ∧ Thg H x ∧ ∀ H', Same H H' → Q (.bl (formV x 1 12 inN)) H'
def sp_is_whole : Sp := fun vs H Q _ => ∃ (x : V) (lo hi : Int), vs = [x, .int lo, .int hi] ∧ Thg H x ∧ Q (.bl (wholeV x lo hi)) H
/-! ### the spread of a key -/
def foldK (l : List Nat) : Int := l.foldl (fun (h : Int) (c : Nat) => Builtin.bitAnd (h * 37 + (c : Int)) 65535) 1
def sprN (l : List Nat) : Int := Builtin.bitXor (foldK l) (foldK l / 2 ^ (8 : Int).toNat)
/-! ### shelves -/
structure Shf where
  name : List Nat
  rows : Nat
  kind : Str
def Shf.v (x : Shf) : List V := [.str (S x.name), .int x.rows, .str x.kind]
def okShf (x : Shf) : Prop := (1 ≤ x.name.length ∧ x.name.length ≤ 12 ∧ x.name.all inN = true) ∧ (1 ≤ x.rows ∧ x.rows ≤ 9) ∧ (x.kind = Str.ofString "table" ∨ x.kind = Str.ofString "stream")
structure OkShfs (xs : List Shf) : Prop where
  lo : 1 ≤ xs.length
  hi : xs.length ≤ 6
  each : ∀ x ∈ xs, okShf x
  nd : (xs.map Shf.name).Nodup
structure ShAt (C : Addr) (H : Hp) (s l : Addr) (xs : List Shf) : Prop where
  obj : ∃ dx, H s = some (.ins C dx [("shelves", .ref l)])
  lst : LTups H l (xs.map Shf.v)
theorem ShAt.chg {A : List Addr} {C : Addr} {H H' : Hp} {s l : Addr} {xs : List Shf} (h : ShAt C H s l xs) (c : Chg A H H') (hs : s ∉ A) (hl : l ∉ A) : ShAt C H' s l xs := by
  obtain ⟨dx, e⟩ := h.obj
  exact ⟨⟨dx, c.keep _ _ e hs⟩, h.lst.chg c hl⟩
def startOf (xs : List Shf) (k : Nat) : Nat := ((xs.take k).map Shf.rows).sum
def sp_is_kind : Sp := fun vs H Q _ => ∃ z : Str, vs = [.str z] ∧ (z = Str.ofString "table" ∨ z = Str.ofString "stream") ∧ Q (.bl true) H
def sp_is_shelf : Sp := fun vs H Q _ => ∃ (t : Addr) (x : Shf), vs = [.ref t] ∧ H t = some (.tup x.v) ∧ okShf x ∧ ∀ H', Same H H' → Q (.bl true) H'
def sp_are_shelves : Sp := fun vs H Q _ => ∃ (p : Addr) (xs : List Shf), vs = [.ref p] ∧ LTups H p (xs.map Shf.v) ∧ OkShfs xs ∧ ∀ H', Same H H' → Q (.bl true) H'
def sp_sh_init (C : Addr) : Sp := fun vs H Q _ => ∃ (x dx p : Addr) (xs : List Shf), vs = [.ref x, .ref p] ∧ H x = some (.ins C dx []) ∧ LTups H p (xs.map Shf.v) ∧ OkShfs xs ∧ ∀ l H', H l = none → Chg [x] H H' → ShAt C H' x l xs → Q .non H'
def sp_sh_many (C : Addr) : Sp := fun vs H Q _ => ∃ (s l : Addr) (xs : List Shf), vs = [.ref s] ∧ ShAt C H s l xs ∧ xs.length ≤ 1000 ∧ ∀ H', Same H H' → Q (.int (startOf xs xs.length)) H'
def sp_sh_rows_of (C : Addr) : Sp := fun vs H Q _ => ∃ (s l : Addr) (xs : List Shf) (k : Nat) (x : Shf), vs = [.ref s, .str (S x.name)] ∧ ShAt C H s l xs ∧ OkShfs xs ∧ xs[k]? = some x ∧ ∀ D H', H D = none → Same H H' → H' D = some (.lst (rngV (startOf xs k) x.rows)) → Q (.ref D) H'
def rowNo (xs : List Shf) (k : Nat) (x : Shf) (key : List Nat) : Nat := startOf xs k + (sprN key % (x.rows : Int)).toNat
def sp_sh_row_for (C : Addr) : Sp := fun vs H Q _ => ∃ (s l : Addr) (xs : List Shf) (k : Nat) (x : Shf) (key : List Nat), vs = [.ref s, .str (S x.name), .str (S key)] ∧ ShAt C H s l xs ∧ OkShfs xs ∧ xs[k]? = some x ∧ ∀ H', Same H H' → Q (.int (rowNo xs k x key)) H'
def sp_spread : Sp := fun vs H Q _ => ∃ l : List Nat, vs = [.str (S l)] ∧ Q (.int (sprN l)) H
def sp_row_in : Sp := fun vs H Q _ => ∃ (l : List Nat) (m : Int), vs = [.str (S l), .int m] ∧ 0 < m ∧ Q (.int (sprN l % m)) H

/-! ### rows told by a list of letters put there in turn -/
abbrev KW := List Nat × List Nat
def rowOf (c : List KW) : RowM := ⟨0, c.length, 0, fun p => if 0 ≤ p then (c[p.toNat]?).map fun x => (x.1, some x.2, 0) else none⟩
def seenV (c : List KW) (k : Nat) : List (List V) := (c.zipIdx k).map fun y => [.int (y.2 : Nat), .str (S y.1.1), .str (S y.1.2)]
def it (i : Nat) (xs : List V) : V := xs.getD i .non
def kwV (x : KW) : List V := [.str (S x.1), .str (S x.2)]
structure RowsAt (C : Addr) (H : Hp) (R : Addr) (rs : List (Addr × Addr)) (f : Nat → List KW) : Prop where
  lst : H R = some (.lst (rs.map fun y => V.ref y.1))
  row : ∀ (i : Nat) r d, rs[i]? = some (r, d) → RowAt C H r d (rowOf (f i))
theorem RowsAt.same {C : Addr} {H H' : Hp} {R : Addr} {rs : List (Addr × Addr)} {f : Nat → List KW} (h : RowsAt C H R rs f) (s : Same H H') : RowsAt C H' R rs f :=
  ⟨s _ _ h.lst, fun i r d e => (h.row i r d e).chg (A := []) (Chg.of_same s) (by simp) (by simp)⟩
def ofKey (P : List KW) (key : List Nat) : List V := (P.filter fun x => decide (x.1 = key)).map fun x => .str (S x.2)
def sp_of_key : Sp := fun vs H Q _ => ∃ (p : Addr) (P : List KW) (key : List Nat), vs = [.ref p, .str (S key)] ∧ LTups H p (P.map kwV) ∧ P.length ≤ 1000 ∧ ∀ D H', H D = none → Same H H' → H' D = some (.lst (ofKey P key)) → Q (.ref D) H'
/-- the letters of a shelf stand in its own rows by their keys -/
structure Parted (P : List KW) (f : Nat → List KW) (lo n : Nat) : Prop where
  pos : 0 < n
  each : ∀ i, lo ≤ i → i < lo + n → f i = P.filter fun x => decide (lo + (sprN x.1 % (n : Int)).toNat = i)
  few : P.length ≤ 63
  ok : ∀ x ∈ P, okS x.1 ∧ okS x.2
def sp_shelf_holds (C : Addr) : Sp := fun vs H Q _ => ∃ (R N p kl : Addr) (rs : List (Addr × Addr)) (f : Nat → List KW) (P : List KW) (lo n : Nat) (keys : List (List Nat)), vs = [.ref R, .ref N, .ref p, .ref kl] ∧ RowsAt C H R rs f ∧ H N = some (.lst (rngV lo n)) ∧
  LTups H p (P.map kwV) ∧ H kl = some (.lst (keys.map fun l => .str (S l))) ∧ keys.length ≤ 100 ∧ lo + n ≤ rs.length ∧ n ≤ 9 ∧ Parted P f lo n ∧ ∀ H', Same H H' → Q (.bl true) H'
def ltr36 (n : Int) : Nat := T36.getD (n % 36).toNat 0
def sp_wholeI : Sp := fun vs H Q _ => ∃ x y : Int, vs = [.int x, .int y] ∧ Q (.bl (decide (x = y))) H
def sp_letter : Sp := fun vs H Q _ => ∃ n : Int, vs = [.int n] ∧ Q (.str (S [ltr36 n])) H
def sp_names : Sp := fun vs H Q _ => ∃ (c m : Int), vs = [.int c, .int m] ∧ 1 ≤ m ∧ m ≤ 36 ∧ ∀ D H' (ns : List (List Nat)), H D = none → Same H H' → H' D = some (.lst (ns.map fun l => .str (S l))) → ns.length = m.toNat →
  (∀ l ∈ ns, 1 ≤ l.length ∧ l.length ≤ 12 ∧ l.all inN = true) → ns.Nodup → Q (.ref D) H'
def sp_keys : Sp := fun vs H Q _ => ∃ c : Int, vs = [.int c] ∧ ∀ D H' (ks : List (List Nat)), H D = none → Same H H' → H' D = some (.lst (ks.map fun l => .str (S l))) → ks.length = 12 → (∀ l ∈ ks, okS l ∧ l.length ≤ 24) → Q (.ref D) H'
/-! ### comprehensions whose items are made anew -/
theorem compW_listI {K : PySem.W.Frag} {te : TE} {σ : St} {H : Hp} {Q : VK} {a : Addr} {xs : List V} (hn : xs.length ≤ sizeLine) (Pv : Addr → Nat → List V → Hp → Prop) (h0 : ∀ D, H D = none → Pv D 0 [] (upd H D (.lst [])))
    (hl : ∀ D i ys H', i ≤ xs.length → Pv D i ys H' → H' D = some (.lst ys) ∧ ys.length ≤ i ∧ SqL K H' a xs)
    (hs : ∀ D i ys H' x, H D = none → xs[i]? = some x → Pv D i ys H' → ∀ Qe : VK, (∀ y H5, H5 D = some (.lst ys) → Pv D (i + 1) (ys ++ [y]) (upd H5 D (.lst (ys ++ [y]))) → Qe y H5) → te (some x :: σ) H' Qe)
    (hd : ∀ D ys H', H D = none → Pv D xs.length ys H' → Q (.ref D) H') : compW (Itl K a) tYes te σ H Q := by
  intro D hD
  refine ⟨fun i m ys H => m = xs.length - i ∧ i ≤ xs.length ∧ Pv D i ys H, ⟨xs.length, rfl, Nat.zero_le _, h0 D hD⟩, ?_⟩
  rintro i m ys H2 ⟨rfl, hi, p⟩
  obtain ⟨h1, h2, h3⟩ := hl D i ys H2 hi p
  by_cases hlt : i < xs.length
  · refine .inr ⟨⟨xs, xs[i], h3, by simp⟩, by omega, fun x H3 y => ?_⟩
    obtain ⟨rfl, z⟩ := y
    simp only [tYes, if_true]
    exact hs D i ys _ x hD (z xs h3) p _ fun y H5 z1 z2 => ⟨z1, xs.length - (i + 1), by omega, rfl, hlt, z2⟩
  · have e : i = xs.length := by omega
    subst e
    exact .inl ⟨⟨xs, h3, Nat.le_refl _⟩, h1, hd D ys H2 hD p⟩
def addrs (rs : List (Addr × Addr)) : List Addr := rs.flatMap fun y => [y.1, y.2]
/-- a letter more: it comes into the row of its key, and the other shelves' rows stay -/
theorem Parted.put {P : List KW} {f : Nat → List KW} {lo n : Nat} (h : Parted P f lo n) (x : KW) (hf : P.length < 63) (ok : okS x.1 ∧ okS x.2) :
    Parted (P ++ [x]) (fun i => if i = lo + (sprN x.1 % (n : Int)).toNat then f i ++ [x] else f i) lo n := by
  refine ⟨h.pos, fun i h1 h2 => ?_, by simp; omega, fun y hy => ?_⟩
  · show (if i = lo + (sprN x.1 % (n : Int)).toNat then f i ++ [x] else f i) = _
    rw [List.filter_append, ← h.each i h1 h2]
    by_cases e : i = lo + (sprN x.1 % (n : Int)).toNat
    · rw [if_pos e]
      simp [e]
    · rw [if_neg e]
      have e' : ¬ lo + (sprN x.1 % (n : Int)).toNat = i := fun z => e z.symm
      simp [e']
  · rcases List.mem_append.mp hy with z | z
    · exact h.ok y z
    · rw [List.mem_singleton.mp z]; exact ok
theorem Parted.other {P : List KW} {f g : Nat → List KW} {lo n : Nat} (h : Parted P f lo n) (e : ∀ i, lo ≤ i → i < lo + n → g i = f i) : Parted P g lo n :=
  ⟨h.pos, fun i h1 h2 => (e i h1 h2).trans (h.each i h1 h2), h.few, h.ok⟩
def shf (c : Int) (i : Nat) (n : List Nat) : Shf := ⟨n, (1 + mixN c (6 + (i : Int)) % 9).toNat, if i % 2 = 0 then Str.ofString "table" else Str.ofString "stream"⟩
def mkS (c : Int) (ns : List (List Nat)) : List Shf := ns.mapIdx fun i n => shf c i n
end L2

set_option Elab.async false
set_option linter.all false
set_option maxRecDepth 100000
set_option maxHeartbeats 4000000
namespace L2
open PySem PySem.Spec PyProof.Rows
/-! ### what the laws of the lending share -/
/-- the mixed cell at a place -/
def cellN (ns : List Int) (k : Int) : Int := mixN (if k < (ns.length : Int) then ns.getD k.toNat 0 else 104729 * k + 7) k
def sp_cellN (K : PySem.W.Frag) : Sp := fun vs H Q _ => ∃ (p : Addr) (ns : List Int) (k : Int), vs = [.ref p, .int k] ∧ SqL K H p (ns.map V.int) ∧ 0 ≤ k ∧ Q (.int (cellN ns k)) H
def manyN (ns : List Int) (f m : Int) : Int := min m (max (cellN ns (f - 1) / 7 % (m + 1)) ((ns.length : Int) - f))
def sp_many (K : PySem.W.Frag) : Sp := fun vs H Q _ => ∃ (p : Addr) (ns : List Int) (f m : Int), vs = [.ref p, .int f, .int m] ∧ SqL K H p (ns.map V.int) ∧ 1 ≤ f ∧ 0 ≤ m ∧ Q (.int (manyN ns f m)) H
def sp_namesL : Sp := fun vs H Q _ => ∃ (c o m : Int), vs = [.int c, .int o, .int m] ∧ 0 ≤ c ∧ 0 ≤ o ∧ 0 ≤ m ∧ m ≤ 36 ∧ ∀ D H' (ns : List (List Nat)), H D = none → Same H H' → (ns.length : Int) = m → H' D = some (.lst (ns.map fun l => V.str (S l))) → Q (.ref D) H'
def sp_loan_eq : Sp := fun vs H Q _ => ∃ (v u : V) (o : Option Loan), vs = [v, u] ∧ LoanVal H o v ∧ LoanVal H o u ∧ Q (.bl true) H
end L2

set_option Elab.async false
set_option linter.all false
set_option maxRecDepth 100000
set_option maxHeartbeats 4000000
namespace L2
open PySem PySem.Spec PyProof.Rows
/-! ### tables, by their pairs -/
structure TabK (kvs : List (Key × V)) (f : List Nat → Option (List Nat)) (n : Nat) : Prop where
  len : kvs.length ≤ n
  nd : NdK kvs
  val : ∀ k : List Nat, valV kvs (.inr (S k)) = (f k).map fun z => V.str (S z)
  int : ∀ i : Int, valV kvs (.inl i) = none
theorem TabK.nil : TabK [] (fun _ => none) 0 := ⟨Nat.le_refl _, NdK.nil, fun _ => rfl, fun _ => rfl⟩
theorem inr_S {q k : List Nat} : (Sum.inr (S q) : Key) = Sum.inr (S k) ↔ q = k := ⟨fun h => S_inj (Sum.inr.inj h), fun h => by rw [h]⟩
theorem TabK.put {kvs : List (Key × V)} {f : List Nat → Option (List Nat)} {n : Nat} (h : TabK kvs f n) (k w : List Nat) : TabK (putK kvs (.inr (S k)) (.str (S w))) (fun q => if q = k then some w else f q) (n + 1) := by
  refine ⟨?_, h.nd.put _ _, fun q => ?_, fun i => ?_⟩
  · have := length_putK kvs (.inr (S k) : Key) (.str (S w)); have := h.len; omega
  · rw [valV_put]
    by_cases e : q = k
    · rw [if_pos (inr_S.mpr e), if_pos e]; rfl
    · rw [if_neg (fun z => e (inr_S.mp z)), if_neg e]; exact h.val q
  · rw [valV_put, if_neg (by intro z; cases z)]; exact h.int i
theorem TabK.drop {kvs : List (Key × V)} {f : List Nat → Option (List Nat)} {n : Nat} (h : TabK kvs f n) (k : List Nat) : TabK (dropK kvs (.inr (S k))) (fun q => if q = k then none else f q) n := by
  refine ⟨Nat.le_trans (dropK_le _ _) h.len, h.nd.drop _, fun q => ?_, fun i => ?_⟩
  · rw [valV_drop]
    by_cases e : q = k
    · rw [if_pos (inr_S.mpr e), if_pos e]; rfl
    · rw [if_neg (fun z => e (inr_S.mp z)), if_neg e]; exact h.val q
  · rw [valV_drop, if_neg (by intro z; cases z)]; exact h.int i
theorem TabK.mono {kvs : List (Key × V)} {f g : List Nat → Option (List Nat)} {n m : Nat} (h : TabK kvs f n) (e : ∀ q, f q = g q) (hn : n ≤ m) : TabK kvs g m := ⟨Nat.le_trans h.len hn, h.nd, fun k => by rw [← e k]; exact h.val k, h.int⟩
/-- a dict that is such a table -/
def Tab (H : Hp) (d : Addr) (f : List Nat → Option (List Nat)) (n : Nat) : Prop := ∃ kvs, H d = some (.dK kvs) ∧ TabK kvs f n
theorem Tab.same {H H' : Hp} {d : Addr} {f : List Nat → Option (List Nat)} {n : Nat} (h : Tab H d f n) (s : Same H H') : Tab H' d f n := let ⟨kvs, e, t⟩ := h; ⟨kvs, s _ _ e, t⟩
theorem Tab.chg {A : List Addr} {H H' : Hp} {d : Addr} {f : List Nat → Option (List Nat)} {n : Nat} (h : Tab H d f n) (c : Chg A H H') (hd : d ∉ A) : Tab H' d f n := let ⟨kvs, e, t⟩ := h; ⟨kvs, c.keep _ _ e hd, t⟩
theorem Tab.ne {H : Hp} {d e : Addr} {f : List Nat → Option (List Nat)} {n : Nat} (h : Tab H d f n) (he : H e = none) : d ≠ e := fun z => by
  obtain ⟨kvs, hk, _⟩ := h
  rw [z, he] at hk
  cases hk
theorem TupsAt.drop {H : Hp} {ts : List Addr} {rows : List (List V)} (h : TupsAt H ts rows) (n : Nat) : TupsAt H (ts.drop n) (rows.drop n) := by
  unfold TupsAt at h ⊢
  induction h generalizing n with
  | nil => simp; exact .nil
  | cons r t ih =>
    cases n with
    | zero => exact .cons r t
    | succ n => exact ih n
def sp_table (K : PySem.W.Frag) : Sp := fun vs H Q _ => ∃ (p : Addr) (ls : List L3), vs = [.ref p] ∧ LTups H p (ls.map l3V) ∧ ls.length ≤ 100 ∧ ∀ D H', H D = none → Same H H' → Tab H' D (wordAt ls) ls.length → Q (.ref D) H'
def sp_is_table : Sp := fun vs H Q _ => ∃ (d e : Addr) (f : List Nat → Option (List Nat)) (n m : Nat), vs = [.ref d, .ref e] ∧ Tab H d f n ∧ Tab H e f m ∧ d ≠ e ∧ ∀ H', Same H H' → Q (.bl true) H'
def sp_sign94 : Sp := fun vs H Q _ => ∃ n : Int, vs = [.int n] ∧ Q (.str (S [sgn n 94])) H
def sp_keysT : Sp := fun vs H Q _ => ∃ (c m : Int), vs = [.int c, .int m] ∧ 0 ≤ m ∧ m ≤ 36 ∧ ∀ D H' (ks : List (List Nat)), H D = none → Same H H' → (ks.length : Int) = m → (∀ k ∈ ks, okS k) → H' D = some (.lst (ks.map fun l => V.str (S l))) → Q (.ref D) H'
def sp_word : Sp := fun vs H Q _ => ∃ c : Int, vs = [.int c] ∧ ∀ w : List Nat, okS w → Q (.str (S w)) H
theorem LTups.at {K : PySem.W.Frag} {H : Hp} {p : Addr} {rows : List (List V)} (h : LTups H p rows) : ∃ ts : List Addr, SqL K H p (ts.map V.ref) ∧ ts.length = rows.length ∧ ∀ (i : Nat) (x : V), (ts.map V.ref)[i]? = some x → ∃ t r, x = .ref t ∧ rows[i]? = some r ∧ H t = some (.tup r) := by
  obtain ⟨ts, h1, h2⟩ := h
  refine ⟨ts, .inl (.inl h1), h2.length, fun i x hx => ?_⟩
  rw [List.getElem?_map] at hx
  cases e : ts[i]? with
  | none => rw [e] at hx; cases hx
  | some t =>
    rw [e] at hx
    obtain ⟨r, hr, ht⟩ := h2.get e
    exact ⟨t, r, (Option.some.inj hx).symm, hr, ht⟩
theorem same_back {H H' : Hp} {b : Addr} (s : Same H H') (h : H' b = none) : H b = none := by
  cases e : H b with
  | none => rfl
  | some o => rw [s _ _ e] at h; cases h
theorem Same.wr {H H' : Hp} {b : Addr} {o : HO} (s : Same H H') (h : H b = none) : Same H (L2.upd H' b o) := fun c u hc => (upd_ne (ne_of_none hc h)).trans (s c u hc)
def okL3 (x : L3) : Prop := okS x.2.1 ∧ ∀ w, x.2.2 = some w → okS w
end L2

set_option Elab.async false
set_option linter.all false
set_option maxRecDepth 100000
set_option maxHeartbeats 4000000
namespace L2
open PySem PySem.Spec PyProof.Rows
/-! ### plain things: None, texts, ints, lists and tuples of these -/
def Pl (H : Hp) : Nat → V → Prop
  | _, .non => True
  | _, .int _ => True
  | _, .str _ => True
  | n + 1, .ref a => ∃ xs, (H a = some (.lst xs) ∨ H a = some (.tup xs)) ∧ ∀ x ∈ xs, Pl H n x
  | _, _ => False
theorem Pl.same {H H' : Hp} (s : Same H H') : ∀ {n : Nat} {v : V}, Pl H n v → Pl H' n v := by
  intro n
  induction n with
  | zero =>
    intro v h
    cases v with
    | non => trivial
    | int i => trivial
    | str x => trivial
    | _ => exact (show False from h).elim
  | succ n ih =>
    intro v h
    cases v with
    | non => trivial
    | int i => trivial
    | str x => trivial
    | ref a =>
      obtain ⟨xs, h, hx⟩ := (show ∃ xs, (H a = some (.lst xs) ∨ H a = some (.tup xs)) ∧ ∀ x ∈ xs, Pl H n x from h)
      exact ⟨xs, h.elim (fun h => .inl (s _ _ h)) fun h => .inr (s _ _ h), fun x m => ih (hx x m)⟩
    | _ => exact (show False from h).elim
def sp_plainN : Nat → Sp
  | 0 => fun _ _ _ _ => False
  | n + 1 => fun vs H Q _ => ∃ v, vs = [v] ∧ Pl H n v ∧ ∀ H', Same H H' → Q (.bl true) H'
def sp_same (K : PySem.W.Frag) : Sp := fun vs H Q _ => ∃ (x y : V) (d : PyData), vs = [x, y] ∧ Pl H 2 x ∧ Den K H x d ∧ Den K H y d ∧ wd 3 d ∧ ∀ H', Same H H' → Q (.bl true) H'
end L2

set_option Elab.async false
set_option linter.all false
set_option maxRecDepth 100000
set_option maxHeartbeats 4000000
namespace L2
open PySem PySem.Spec PyProof.Rows
/-! ### what stands in a row, and what of it is drawn away -/
def RowM.rowL (M : RowM) (p : Int) : L3 := match M.L p with
  | some x => (p, x.1, x.2.1)
  | none => (p, [], none)
/-- all letters that stand -/
def RowM.stand (M : RowM) : List L3 := (M.standing 0 M.last.toNat).map M.rowL
/-! the last of each key -/
def lastP : List L3 → List Nat → Option Int
  | [], _ => none
  | x :: r, k => match lastP r k with
    | some y => some y
    | none => if x.2.1 = k then some x.1 else none
theorem lastP_snoc (a : List L3) (x : L3) (k : List Nat) : lastP (a ++ [x]) k = if x.2.1 = k then some x.1 else lastP a k := by
  induction a with
  | nil => rw [List.nil_append]; simp [lastP]
  | cons y r ih =>
    rw [List.cons_append, lastP, ih]
    by_cases h : x.2.1 = k
    · rw [if_pos h, if_pos h]
    · rw [if_neg h, if_neg h, lastP]
def laterB (ls : List L3) (k : Nat) : Bool := (ls.drop (k + 1)).any fun y => decide (y.2.1 = (ls.getD k (0, [], none)).2.1)
def awayL (ls : List L3) (passed : Int) : List Int := (ls.filter fun x => !(lastP ls x.2.1 == some x.1) || (x.2.2.isNone && decide (x.1 < passed))).map (·.1)
def at3 (ls : List L3) (k : Nat) : L3 := ls.getD k (0, [], none)
open Classical in
noncomputable def tupP (H : Hp) (P : L3 → Bool) (x : V) : Bool := decide (∃ t y, x = .ref t ∧ H t = some (.tup (l3V y)) ∧ P y = true)
open Classical in
theorem Chg.wr {A : List Addr} {H H' : Hp} {b : Addr} {o : HO} (c : Chg A H H') (h : H b = none) : Chg A H (L2.upd H' b o) :=
  ⟨fun e u he n => (upd_ne (ne_of_none he h)).trans (c.keep e u he n), fun e xs he => (upd_ne (ne_of_none he h)).trans (c.tup e xs he)⟩
theorem wd.mono {n m : Nat} {d : PyData} (h : wd n d) (hn : n ≤ m) : wd m d := ⟨h.1, Nat.le_trans h.2 hn⟩
theorem Pl.ints {H : Hp} {p : Addr} {ns : List Int} (h : H p = some (.lst (ns.map V.int))) : Pl H 2 (.ref p) := ⟨_, .inl h, fun x hx => by
  obtain ⟨n, _, rfl⟩ := List.mem_map.mp hx
  trivial⟩
theorem Pl.l3 {H : Hp} {p : Addr} {ls : List L3} (h : LTups H p (ls.map l3V)) : Pl H 2 (.ref p) := by
  obtain ⟨ts, hts, htl, hat⟩ := h.at (K := [])
  obtain ⟨ts', h1, h2⟩ := h
  refine ⟨_, .inl h1, fun x hx => ?_⟩
  obtain ⟨t, ht, rfl⟩ := List.mem_map.mp hx
  obtain ⟨i, hi, e⟩ := List.getElem_of_mem ht
  obtain ⟨r, hr, htr⟩ := h2.get (i := i) (t := t) (by rw [List.getElem?_eq_getElem hi, e])
  rw [List.getElem?_map] at hr
  cases e2 : ls[i]? with
  | none => rw [e2] at hr; cases hr
  | some y =>
    rw [e2] at hr
    cases hr
    refine ⟨_, .inr htr, fun v hv => ?_⟩
    obtain ⟨p0, k, w⟩ := y
    simp only [l3V, List.mem_cons, List.not_mem_nil, or_false] at hv
    rcases hv with rfl | rfl | rfl
    · trivial
    · trivial
    · cases w <;> trivial
def sp_drawn (C : Addr) : Sp := fun vs H Q _ => ∃ (r d : Addr) (M : RowM) (fl pa : Int), vs = [.ref r, .int fl, .int pa] ∧ RowAt C H r d M ∧ M.last ≤ 1000 ∧ 0 ≤ fl ∧ ∀ D H', H D = none → Same H H' → H' D = some (.lst ((awayL (M.stand.filter fun x => decide (x.1 < fl)) pa).map V.int)) → Q (.ref D) H'
def sp_later (K : PySem.W.Frag) : Sp := fun vs H Q _ => ∃ (p : Addr) (ls : List L3) (k : Nat), vs = [.ref p, .int k] ∧ LTups H p (ls.map l3V) ∧ k < ls.length ∧ ∀ H', Same H H' → Q (.bl (laterB ls k)) H'
def dueL (ls : List L3) (v : Int) : List Int := ((List.range (ls.filter fun x => decide (x.1 < v)).length).filter fun k => laterB (ls.filter fun x => decide (x.1 < v)) k).map fun k => (at3 (ls.filter fun x => decide (x.1 < v)) k).1
end L2

set_option Elab.async false
set_option linter.all false
set_option maxRecDepth 100000
set_option maxHeartbeats 4000000
namespace L2
open PySem PySem.Spec PyProof.Rows
/-! ### x is True -/
def rIsB : R2 := fun x y H Q => ∃ b c, x = .bl b ∧ y = .bl c ∧ Q (.bl (decide (b = c))) H
def rNotB : R2 := fun x y H Q => ∃ b c, x = .bl b ∧ y = .bl c ∧ Q (.bl (!decide (b = c))) H
section
variable {X : Cx}
theorem rIsB_bb {H : Hp} {Q : VK} (b c : Bool) : rIsB (.bl b) (.bl c) H Q = Q (.bl (decide (b = c))) H := by simp [rIsB]
theorem rNotB_bb {H : Hp} {Q : VK} (b c : Bool) : rNotB (.bl b) (.bl c) H Q = Q (.bl (!decide (b = c))) H := by simp [rNotB]
end
/-! ### what is left once it is drawn -/
/-- goes when drawn -/
def goes (ls : List L3) (pa : Int) (x : L3) : Bool := !(lastP ls x.2.1 == some x.1) || (x.2.2.isNone && decide (x.1 < pa))
end L2

set_option Elab.async false
set_option linter.all false
set_option maxRecDepth 100000
set_option maxHeartbeats 4000000
namespace L2
open PySem PySem.Spec PyProof.Rows
def RowM.outs (M : RowM) (l : List Int) : RowM := { M with L := fun q => if q ∈ l then none else M.L q }
end L2

set_option Elab.async false
set_option linter.all false
set_option maxRecDepth 100000
set_option maxHeartbeats 4000000
namespace L2
open PySem PySem.Spec PyProof.Rows
/-! ### max(list of ints), max(list of ints, default=d) -/
section
variable {prog : Program} {w : World} {A : Around} {R : Result → Shared → Prop} {I : Addr} {fp wr : List Addr} {n : Nat} {P : Nat → Value → Prop} {St : Nat → Heap → Prop} {kw : List (Str × Value)}
end
section
variable {prog : Program} {w : World} {A : Around} {E : Value → Shared → Prop} {s : Shared}
end
section
variable {X : Cx}
def rMaxL (K : PySem.W.Frag) : List V → Hp → VK → Prop := fun xs H Q => ∃ (p : Addr) (ns : List Int), xs = [.ref p] ∧ SqL K H p (ns.map V.int) ∧ ns ≠ [] ∧ ∀ m ∈ ns, (∀ a ∈ ns, a ≤ m) → Q (.int m) H
def tMaxD (K : PySem.W.Frag) (te td : TE) : TE := fun σ H Q => te σ H fun x H1 => td σ H1 fun y H2 => ∃ (p : Addr) (ns : List Int) (d : Int), x = .ref p ∧ y = .int d ∧ SqL K H2 p (ns.map V.int) ∧ ∀ m, (ns = [] → m = d) → (ns ≠ [] → m ∈ ns ∧ ∀ a ∈ ns, a ≤ m) → Q (.int m) H2
end
end L2

set_option Elab.async false
set_option linter.all false
set_option maxRecDepth 100000
set_option maxHeartbeats 4000000
namespace L2
open PySem PySem.Spec PyProof.Rows
theorem TupsAt.append {H : Hp} {ts us : List Addr} {rows more : List (List V)} (h : TupsAt H ts rows) (h2 : TupsAt H us more) : TupsAt H (ts ++ us) (rows ++ more) := by
  unfold TupsAt at h h2 ⊢
  induction h with
  | nil => exact h2
  | cons r t ih => exact .cons r ih
/-! ### a table that takes letters -/
def tblF (pl : Int) (w l : Addr) : List (Str × V) := [("place", .int pl), ("words", .ref w), ("lasts", .ref l)]
structure WrdK (kvs : List (Key × V)) (tk : List L3) : Prop where
  len : kvs.length ≤ tk.length
  nd : NdK kvs
  val : ∀ k : List Nat, valV kvs (.inr (S k)) = (lastW tk k).map wV
  int : ∀ i : Int, valV kvs (.inl i) = none
structure LstK (kvs : List (Key × V)) (tk : List L3) : Prop where
  len : kvs.length ≤ tk.length
  val : ∀ k : List Nat, valV kvs (.inr (S k)) = (lastP tk k).map V.int
theorem WrdK.nil : WrdK [] [] := ⟨Nat.le_refl _, NdK.nil, fun _ => rfl, fun _ => rfl⟩
theorem LstK.nil : LstK [] [] := ⟨Nat.le_refl _, fun _ => rfl⟩
theorem WrdK.put {kvs : List (Key × V)} {tk : List L3} (h : WrdK kvs tk) (x : L3) : WrdK (putK kvs (.inr (S x.2.1)) (wV x.2.2)) (tk ++ [x]) := by
  refine ⟨?_, h.nd.put _ _, fun q => ?_, fun i => ?_⟩
  · have := length_putK kvs (.inr (S x.2.1) : Key) (wV x.2.2); have := h.len; rw [List.length_append, List.length_singleton]; omega
  · rw [valV_put, lastW_snoc]
    by_cases e : q = x.2.1
    · rw [if_pos (inr_S.mpr e), if_pos e.symm]; rfl
    · rw [if_neg (fun z => e (inr_S.mp z)), if_neg (Ne.symm e)]; exact h.val q
  · rw [valV_put, if_neg (by intro z; cases z)]; exact h.int i
theorem LstK.put {kvs : List (Key × V)} {tk : List L3} (h : LstK kvs tk) (x : L3) : LstK (putK kvs (.inr (S x.2.1)) (.int x.1)) (tk ++ [x]) := by
  refine ⟨?_, fun q => ?_⟩
  · have := length_putK kvs (.inr (S x.2.1) : Key) (.int x.1); have := h.len; rw [List.length_append, List.length_singleton]; omega
  · rw [valV_put, lastP_snoc]
    by_cases e : q = x.2.1
    · rw [if_pos (inr_S.mpr e), if_pos e.symm]; rfl
    · rw [if_neg (fun z => e (inr_S.mp z)), if_neg (Ne.symm e)]; exact h.val q
structure TblAt (C : Addr) (H : Hp) (t w l : Addr) (tk : List L3) (pl : Int) : Prop where
  obj : ∃ dx, H t = some (.ins C dx (tblF pl w l))
  words : ∃ kvs, H w = some (.dK kvs) ∧ WrdK kvs tk
  lasts : ∃ kvs, H l = some (.dK kvs) ∧ LstK kvs tk
  nwl : w ≠ l
theorem TblAt.chg {A : List Addr} {C : Addr} {H H' : Hp} {t w l : Addr} {tk : List L3} {pl : Int} (h : TblAt C H t w l tk pl) (c : Chg A H H') (ht : t ∉ A) (hw : w ∉ A) (hl : l ∉ A) : TblAt C H' t w l tk pl := by
  obtain ⟨dx, e⟩ := h.obj
  obtain ⟨k1, e1, a1⟩ := h.words
  obtain ⟨k2, e2, a2⟩ := h.lasts
  exact ⟨⟨dx, c.keep _ _ e ht⟩, ⟨k1, c.keep _ _ e1 hw, a1⟩, ⟨k2, c.keep _ _ e2 hl, a2⟩, h.nwl⟩
theorem TblAt.same {C : Addr} {H H' : Hp} {t w l : Addr} {tk : List L3} {pl : Int} (h : TblAt C H t w l tk pl) (s : Same H H') : TblAt C H' t w l tk pl := h.chg (A := []) (Chg.of_same s) (by simp) (by simp) (by simp)
/-- what is another thing than a table's parts -/
theorem TblAt.apart {C : Addr} {H : Hp} {t w l b : Addr} {tk : List L3} {pl : Int} (h : TblAt C H t w l tk pl) (hb : ∀ o, H b = some o → (∀ dx, o ≠ .ins C dx (tblF pl w l)) ∧ ∀ kvs, o ≠ .dK kvs) : b ∉ [t, w, l] := by
  obtain ⟨dx, e⟩ := h.obj
  obtain ⟨k1, e1, a1⟩ := h.words
  obtain ⟨k2, e2, a2⟩ := h.lasts
  intro m
  simp only [List.mem_cons, List.not_mem_nil, or_false] at m
  rcases m with rfl | rfl | rfl
  · exact (hb _ e).1 _ rfl
  · exact (hb _ e1).2 _ rfl
  · exact (hb _ e2).2 _ rfl
def sp_tbl_init (C : Addr) : Sp := fun vs H Q _ => ∃ x dx, vs = [.ref x] ∧ H x = some (.ins C dx []) ∧ ∀ w l H', H w = none → H l = none → Chg [x] H H' → TblAt C H' x w l [] 0 → Q .non H'
def sp_tbl_take (C : Addr) : Sp := fun vs H Q _ => ∃ (t w l : Addr) (tk : List L3) (pl : Int) (p : Addr) (ls : List L3) (up : Int), vs = [.ref t, .ref p, .int up] ∧ TblAt C H t w l tk pl ∧ LTups H p (ls.map l3V) ∧ tk.length + ls.length ≤ 1000 ∧
  ∀ H', Chg [t, w, l] H H' → TblAt C H' t w l (tk ++ ls.filter fun x => decide (pl ≤ x.1)) (max pl up) → Q .non H'
def sp_tbl_shown (C : Addr) : Sp := fun vs H Q _ => ∃ (t w l : Addr) (tk : List L3) (pl : Int), vs = [.ref t] ∧ TblAt C H t w l tk pl ∧ tk.length ≤ 1000 ∧ ∀ D H', H D = none → Same H H' → Tab H' D (wordAt tk) tk.length → Q (.ref D) H'
def sp_tbl_last (C : Addr) : Sp := fun vs H Q _ => ∃ (t w l : Addr) (tk : List L3) (pl : Int) (k : List Nat), vs = [.ref t, .str (S k)] ∧ TblAt C H t w l tk pl ∧ Q (.int ((lastP tk k).getD (-1))) H
def sp_last : Sp := fun vs H Q _ => ∃ (p : Addr) (ls : List L3) (k : List Nat), vs = [.ref p, .str (S k)] ∧ LTups H p (ls.map l3V) ∧ ls.length ≤ 100 ∧ (ls.Pairwise fun x y => x.1 < y.1) ∧ ∀ H', Same H H' → Q (.int ((lastP ls k).getD (-1))) H'
def sp_stands (K : PySem.W.Frag) (C : Addr) : Sp := fun vs H Q _ => ∃ (t w l : Addr) (tk : List L3) (pl : Int) (kp p : Addr) (ks : List (List Nat)), vs = [.ref t, .ref kp, .ref p, .int pl] ∧ TblAt C H t w l tk pl ∧ H kp = some (.lst (ks.map fun z => V.str (S z))) ∧ LTups H p (tk.map l3V) ∧ tk.length ≤ 100 ∧ (tk.Pairwise fun x y => x.1 < y.1) ∧
  ∀ H', Same H H' → Q (.bl true) H'
def sp_letters (K : PySem.W.Frag) : Sp := fun vs H Q _ => ∃ (p kp : Addr) (ns : List Int) (ks : List (List Nat)), vs = [.ref p, .ref kp] ∧ SqL K H p (ns.map V.int) ∧ H kp = some (.lst (ks.map fun z => V.str (S z))) ∧ 5 ≤ ks.length ∧ (∀ k ∈ ks, okS k) ∧
  ∀ D H' (ls : List L3), H D = none → Same H H' → ls.length = 30 → (ls.Pairwise fun x y => x.1 < y.1) → (∀ x ∈ ls, okL3 x ∧ 0 ≤ x.1) → LTups H' D (ls.map l3V) → Q (.ref D) H'
end L2

set_option Elab.async false
set_option linter.all false
set_option maxRecDepth 100000
set_option maxHeartbeats 4000000
namespace L2
open PySem PySem.Spec PyProof.Rows
/-! ### lendings: reads while the loans are walked, what is due -/
def LoanAt (C : Addr) (H : Hp) (r l : Addr) (M : LendM) : Prop := (∃ dx f t, H r = some (.ins C dx (lendF M f t l))) ∧ ∃ kvs, Rd H l (.dK kvs) ∧ ∀ p : Int, LoanO H (M.L p) (valV kvs (.inl p))
theorem LendAt.loan {C : Addr} {H : Hp} {r f t l : Addr} {M : LendM} (h : LendAt C H r f t l M) : LoanAt C H r l M := by
  obtain ⟨dx, e⟩ := h.obj
  obtain ⟨kvs, e2, _, v, _⟩ := h.loa
  exact ⟨⟨dx, f, t, e⟩, kvs, .inl e2, v⟩
theorem LendAt.same {C : Addr} {H H' : Hp} {r f t l : Addr} {M : LendM} (h : LendAt C H r f t l M) (s : Same H H') : LendAt C H' r f t l M := h.chg (A := []) (Chg.of_same s) (by simp) (by simp) (by simp) (by simp)
theorem RowAt.same {C : Addr} {H H' : Hp} {r d : Addr} {M : RowM} (h : RowAt C H r d M) (s : Same H H') : RowAt C H' r d M := h.chg (A := []) (Chg.of_same s) (by simp) (by simp)
def LSz (H : Hp) (l : Addr) (c : Nat) : Prop := ∃ kvs, H l = some (.dK kvs) ∧ kvs.length ≤ c
theorem LSz.same {H H' : Hp} {l : Addr} {c : Nat} (h : LSz H l c) (s : Same H H') : LSz H' l c := let ⟨k, e, b⟩ := h; ⟨k, s _ _ e, b⟩
theorem LSz.chg {A : List Addr} {H H' : Hp} {l : Addr} {c : Nat} (h : LSz H l c) (s : Chg A H H') (n : l ∉ A) : LSz H' l c := let ⟨k, e, b⟩ := h; ⟨k, s.keep _ _ e n, b⟩
theorem LSz.mono {H : Hp} {l : Addr} {c d : Nat} (h : LSz H l c) (s : c ≤ d) : LSz H l d := let ⟨k, e, b⟩ := h; ⟨k, e, Nat.le_trans b s⟩
def dueS (M : LendM) (turn : Int) (acc : List Int × Option Int) (p : Int) : List Int × Option Int := match acc.2 with
  | some _ => acc
  | none => if M.isLent p turn = true then acc else if M.T p < M.tries then (acc.1, some p) else (acc.1 ++ [p], none)
def dueG (M : LendM) (turn : Int) (l : List Int) : List Int × Option Int := l.foldl (dueS M turn) ([], none)
def oV : Option Int → V
  | none => .non
  | some p => .int p
def sp_r_loan_at (C : Addr) : Sp := fun vs H Q _ => ∃ (r l : Addr) (M : LendM) (p : Int), vs = [.ref r, .int p] ∧ LoanAt C H r l M ∧ ∀ v, LoanVal H (M.L p) v → Q v H
def sp_r_is_lent (C : Addr) : Sp := fun vs H Q _ => ∃ (r l : Addr) (M : LendM) (p turn : Int), vs = [.ref r, .int p, .int turn] ∧ LoanAt C H r l M ∧ Q (.bl (M.isLent p turn)) H
def sp_l_lend2 (C : Addr) : Sp := fun vs H Q _ => ∃ (r f t l : Addr) (M : LendM) (p : Int) (tk : List Nat) (turn : Int) (c : Nat), vs = [.ref r, .int p, .str (S tk), .int turn] ∧ LendAt C H r f t l M ∧ LSz H l c ∧ M.sz ≤ 100000 ∧
  ∀ H', Chg [r, t, l] H H' → LendAt C H' r f t l (M.lend p tk turn) → LSz H' l (if (M.L p).isSome = true then c else c + 1) → Q (.int (M.lent + 1)) H'
def pwf (M : LendM) (R : RowM) (fr : Int) : List Int := (R.seenP M.start fr R.last).filter fun p => (M.F p).isNone
def sp_pwf (C CR : Addr) : Sp := fun vs H Q _ => ∃ (r f t l : Addr) (M : LendM) (row d : Addr) (R : RowM) (fr : Int), vs = [.ref r, .ref row, .int fr] ∧ LendAt C H r f t l M ∧ RowAt CR H row d R ∧ R.last ≤ 1000 ∧ 0 ≤ M.start ∧ M.start ≤ 1000 ∧ 0 ≤ fr ∧
  ∀ D H', H D = none → Same H H' → H' D = some (.lst ((pwf M R fr).map V.int)) → Q (.ref D) H'
def sp_due_in (C CR : Addr) : Sp := fun vs H Q _ => ∃ (r f t l : Addr) (M : LendM) (row d : Addr) (R : RowM) (fr turn : Int) (c : Nat), vs = [.ref r, .ref row, .int fr, .int turn] ∧ LendAt C H r f t l M ∧ RowAt CR H row d R ∧ R.last ≤ 1000 ∧ 0 ≤ M.start ∧ M.start ≤ 1000 ∧ 0 ≤ fr ∧ LSz H l c ∧ (c : Int) < M.width ∧ c ≤ 1000 ∧
  ∀ A u H', H A = none → H u = none → Same H H' → H' A = some (.lst ((dueG M turn (pwf M R fr)).1.map V.int)) → H' u = some (.tup [.ref A, oV (dueG M turn (pwf M R fr)).2]) → Q (.ref u) H'
def sp_is_due (K : PySem.W.Frag) : Sp := fun vs H Q _ => ∃ (u A B : Addr) (xs : List Int) (o : Option Int), vs = [.ref u, .ref B, oV o] ∧ H u = some (.tup [.ref A, oV o]) ∧ H A = some (.lst (xs.map V.int)) ∧ H B = some (.lst (xs.map V.int)) ∧ xs.length ≤ 1000 ∧ ∀ H', Same H H' → Q (.bl true) H'
end L2

set_option Elab.async false
set_option linter.all false
set_option maxRecDepth 100000
set_option maxHeartbeats 4000000
namespace L2
open PySem PySem.Spec PyProof.Rows
/-! ### list.remove of an int -/
section
variable {X : Cx}
def rRemove : V → List V → Hp → VK → Prop := fun x vs H Q => ∃ (l : Addr) (ns : List Int) (k : Int) (j : Nat), x = .ref l ∧ vs = [.int k] ∧ H l = some (.lst (ns.map V.int)) ∧ ns[j]? = some k ∧ (∀ m, m < j → ns[m]? ≠ some k) ∧ Q .non (upd H l (.lst ((ns.eraseIdx j).map V.int)))
def isIntV (k : Int) : Value → Bool
  | .int n _ => n == k
  | _ => false
end
end L2

set_option Elab.async false
set_option linter.all false
set_option maxRecDepth 100000
set_option maxHeartbeats 4000000
namespace L2
open PySem
/-! ### an exception on its way, its own dict with it -/
/-- the exception at e: its class, its dict, its context, and where the newest entry of its tale stands -/
def TrD (h B : Heap) (e : Addr) (cls : Value) (dc : Option Addr) (a0 fl : Value) : Prop :=
  ∃ oe vs T oT ts, h.get? e = some oe ∧ oe.cls = cls ∧ oe.dict = dc ∧ oe.data = .fields vs ∧ vs[2]? = some a0 ∧ vs[1]? = some (.ref T) ∧ B.get? T = none ∧ T ≠ e ∧ h.get? T = some oT ∧ oT.data = .fields ts ∧ ts[3]? = some fl
/-- it flies through the frames l -/
structure Fly (B : Heap) (l : List Env) (e : Addr) (cls : Value) (dc : Option Addr) (a0 fl : Value) (h : Heap) : Prop where
  stay : B.StaysIn h
  new : B.get? e = none
  fun' : h.FunFrames B l
  tale : TrD h B e cls dc a0 fl
section
variable {M : Model} {A : Around} {E : Value → Shared → Prop} {s : Shared}
theorem mapF_dict (g : Array Value → Array Value) (o : Obj) : (o.mapFields g).dict = o.dict := by
  obtain ⟨c, d, t, sl⟩ := o
  cases t <;> rfl
/-- the newest entry is written -/
theorem entry_new {B : Heap} {env : Env} {out : List Env} {L e : Addr} {oe : Obj} {vs : Array Value} {top a0 : Value} {nx : Bool} {Q : Unit → Shared → Prop}
    (fr : A.frames = some (env :: out)) (ff : s.heap.FunFrames B (env :: out)) (ef : env.frame = some L) (ge : s.heap.get? e = some oe) (kb : B.StaysIn s.heap) (nb : B.get? e = none) (dt : oe.data = .fields vs) (sz : 1 < vs.size) (z0 : vs[2]? = some a0)
    (k : ∀ h', Fly B (env :: out) e oe.cls oe.dict a0 (rawInt L) h' → s.heap.UpToSlots h' → Q () { s with heap := h' }) :
    wpAny M A (do
      let fo ← frameOf env
      let pl ← entryPlaceOf L nx
      let en ← EntryCells.newEntry top fo .none (rawInt L) .none pl
      setField (.ref e) 1 en) Q E s := by
  have apart : e ∉ (env :: out).filterMap (·.frame) := by
    intro m
    obtain ⟨_, o, g, nf⟩ := ff.mem m
    rw [ge] at g
    cases g
    exact nf vs dt
  refine wpAny_bind (wpAny_frameOf_fun fr ff ef fun g1 so => wpAny_bind (wpAny_entryPlaceOf fun pl ip => ?_))
  unfold EntryCells.newEntry newFields
  refine wpAny_bind (wpAny_newObj_type ?_ (ip.sizeOk5 _ _ _ _ _))
  generalize hen : ([top, Value.ref L, Value.none, rawInt L, Value.none] ++ (if pl.isEmpty then List.replicate 6 Value.none else pl)).toArray = ts
  have e3 : ts[3]? = some (rawInt L) := by rw [← hen]; simp
  generalize ho : ({ cls := .type "traceback", dict := none, data := .fields ts } : Obj) = on
  have ge1 : g1.get? e = some oe := (so.2.1 e apart).trans ge
  have kb1 : B.StaysIn g1 := fun b o q => by
    refine (so.2.1 b fun m => ?_).trans (kb b o q)
    rw [(ff.mem m).1] at q
    cases q
  have ge2 : (g1.push on).get? e = some oe := Heap.get?_push_of_some _ ge1
  have norec : ∀ b o, s.heap.get? b = some o → (∀ ws, o.data ≠ .fields ws) → b ≠ e := fun b o q nf z => by
    subst z
    rw [ge] at q
    cases q
    exact nf vs dt
  refine wpAny_setField ge2 dt sz (k _ ?_ ?_)
  all_goals have nTe : g1.objs.size ≠ e := Nat.ne_of_gt (Heap.lt_size ge1)
  all_goals have dt3 := Obj.data_mapFields dt (·.setIfInBounds 1 (Value.ref g1.objs.size))
  all_goals have ge3 := Heap.get?_update_self (Obj.mapFields (·.setIfInBounds 1 (Value.ref g1.objs.size))) ge2 (Obj.isFreed_of_fields dt3)
  all_goals have gT : ((g1.push on).update e (Obj.mapFields (·.setIfInBounds 1 (Value.ref g1.objs.size)))).get? g1.objs.size = some on := (Heap.get?_update_other _ _ (Ne.symm nTe)).trans (Heap.get?_push_size g1 (by rw [← ho]; rfl))
  all_goals have keep : ∀ b o, b ≠ e → g1.get? b = some o → ((g1.push on).update e (Obj.mapFields (·.setIfInBounds 1 (Value.ref g1.objs.size)))).get? b = some o := fun b o nbe q => (Heap.get?_update_other _ _ (Ne.symm nbe)).trans (Heap.get?_push_of_some _ q)
  · refine ⟨fun b o q => keep b o (fun z => by rw [z, nb] at q; cases q) (kb1 b o q), nb, ff.of_keeps fun b o q nf => ?_, ?_⟩
    · obtain ⟨sl, q'⟩ := so.2.2 b o q
      exact ⟨_, keep b _ (norec b o q nf) q', rfl⟩
    · refine ⟨_, _, g1.objs.size, on, ts, ge3, Obj.cls_mapFields _ _, mapF_dict _ _, dt3, ?_, by simp [sz], kb1.fresh, nTe, gT, by rw [← ho], e3⟩
      rw [Array.getElem?_setIfInBounds_ne (by decide)]
      exact z0
  · intro b o q nf
    obtain ⟨sl, q'⟩ := so.2.2 b o q
    exact ⟨sl, keep b _ (norec b o q nf) q'⟩
/-- the first frame is noted -/
theorem note_first {B : Heap} {env : Env} {out : List Env} {L e : Addr} {oe : Obj} {vs : Array Value} {a0 : Value} {Q : Unit → Shared → Prop}
    (fr : A.frames = some (env :: out)) (ff : s.heap.FunFrames B (env :: out)) (ef : env.frame = some L) (ge : s.heap.get? e = some oe) (kb : B.StaysIn s.heap) (nb : B.get? e = none) (dt : oe.data = .fields vs) (z1 : vs[1]? = some .none) (z0 : vs[2]? = some a0)
    (k : ∀ h', Fly B (env :: out) e oe.cls oe.dict a0 (rawInt L) h' → s.heap.UpToSlots h' → Q () { s with heap := h' }) : wpAny M A (noteFrame (.ref e) env) Q E s := by
  unfold noteFrame
  simp only [ef]
  refine wpAny_bind (wpAny_field ge dt z1 ?_)
  rw [if_neg (by decide)]
  exact entry_new fr ff ef ge kb nb dt (Array.getElem?_eq_some_iff.mp z1).1 z0 k
/-- a next frame is noted -/
theorem note_next {B : Heap} {env : Env} {out : List Env} {L e : Addr} {cls : Value} {dc : Option Addr} {a0 : Value} {Q : Unit → Shared → Prop}
    (fr : A.frames = some (env :: out)) (ef : env.frame = some L) (fl : Fly B (env :: out) e cls dc a0 .none s.heap)
    (k : ∀ h', Fly B (env :: out) e cls dc a0 (rawInt L) h' → s.heap.UpToSlots h' → Q () { s with heap := h' }) : wpAny M A (noteFrame (.ref e) env) Q E s := by
  obtain ⟨kb, nb, ff, oe, vs, T, oT, ts, ge, hc, hdc, dt, z0, z1, nT, nTe, gT, dT, z3⟩ := fl
  subst hc hdc
  unfold noteFrame
  simp only [ef]
  refine wpAny_bind (wpAny_field ge dt z1 ?_)
  rw [if_pos (by simp)]
  refine wpAny_bind (wpAny_field gT dT z3 ?_)
  rw [if_neg (by simp [rawInt])]
  refine wpAny_bind (wpAny_setField gT dT (Array.getElem?_eq_some_iff.mp z3).1 ?_)
  have oth : ∀ b, b ≠ T → (s.heap.update T (Obj.mapFields (·.setIfInBounds 3 Value.none))).get? b = s.heap.get? b := fun b q => Heap.get?_update_other _ _ (Ne.symm q)
  have norec : ∀ b o, s.heap.get? b = some o → (∀ ws, o.data ≠ .fields ws) → b ≠ T := fun b o q nf z => by
    subst z
    rw [gT] at q
    cases q
    exact nf ts dT
  refine entry_new fr (ff.of_keeps fun b o q nf => ⟨o, (oth b (norec b o q nf)).trans q, rfl⟩) ef ((oth e (Ne.symm nTe)).trans ge) (fun b o q => (oth b fun z => by rw [z, nT] at q; cases q).trans (kb b o q)) nb dt (Array.getElem?_eq_some_iff.mp z1).1 z0 fun h' f' u' => k h' f' fun b o q nf => u' b o ((oth b (norec b o q nf)).trans q) nf
/-- it is on its way again -/
theorem flight_none {B : Heap} {l : List Env} {e : Addr} {cls : Value} {dc : Option Addr} {a0 fl : Value} {Q : Unit → Shared → Prop} (f : Fly B l e cls dc a0 fl s.heap)
    (k : ∀ h', Fly B l e cls dc a0 .none h' → s.heap.UpToSlots h' → Q () { s with heap := h' }) : wpAny M A (setFlight (.ref e) none) Q E s := by
  obtain ⟨kb, nb, ff, oe, vs, T, oT, ts, ge, hc, hdc, dt, z0, z1, nT, nTe, gT, dT, z3⟩ := f
  have z3' : 3 < ts.size := (Array.getElem?_eq_some_iff.mp z3).1
  have oth : ∀ b, b ≠ T → (s.heap.update T (Obj.mapFields (·.setIfInBounds 3 ((none : Option Addr).elim Value.none fun f => rawInt f)))).get? b = s.heap.get? b := fun b q => Heap.get?_update_other _ _ (Ne.symm q)
  have norec : ∀ b o, s.heap.get? b = some o → (∀ ws, o.data ≠ .fields ws) → b ≠ T := fun b o q nf z => by
    subst z
    rw [gT] at q
    cases q
    exact nf ts dT
  unfold setFlight
  refine wpAny_bind (wpAny_field ge dt z1 ?_)
  rw [if_pos (by simp)]
  refine wpAny_setField gT dT z3' (k _ ⟨fun b o q => (oth b fun z => by rw [z, nT] at q; cases q).trans (kb b o q), nb, ff.of_keeps fun b o q nf => ⟨o, (oth b (norec b o q nf)).trans q, rfl⟩, ?_⟩ fun b o q nf => ⟨o.slots, (oth b (norec b o q nf)).trans q⟩)
  exact ⟨oe, vs, T, _, _, (oth e (Ne.symm nTe)).trans ge, hc, hdc, dt, z0, z1, nT, nTe, Heap.get?_update_self _ gT (Obj.isFreed_of_fields (Obj.data_mapFields dT _)), Obj.data_mapFields dT _, by simp [z3']⟩
/-- noted already -/
theorem note_again {B : Heap} {env : Env} {l : List Env} {L e : Addr} {cls : Value} {dc : Option Addr} {a0 : Value} {Q : Unit → Shared → Prop} (ef : env.frame = some L) (f : Fly B l e cls dc a0 (rawInt L) s.heap) (k : Q () s) : wpAny M A (noteFrame (.ref e) env) Q E s := by
  obtain ⟨kb, nb, ff, oe, vs, T, oT, ts, ge, hc, hdc, dt, z0, z1, nT, nTe, gT, dT, z3⟩ := f
  unfold noteFrame
  simp only [ef]
  refine wpAny_bind (wpAny_field ge dt z1 ?_)
  rw [if_pos (by simp)]
  refine wpAny_bind (wpAny_field gT dT z3 ?_)
  rw [if_pos (by simp)]
  exact wpAny_pure k
theorem Fly.pop {B : Heap} {env : Env} {out : List Env} {e : Addr} {cls : Value} {dc : Option Addr} {a0 fl : Value} {h : Heap} (f : Fly B (env :: out) e cls dc a0 fl h) : Fly B out e cls dc a0 fl h :=
  ⟨f.stay, f.new, let ⟨_, _, z⟩ := f.fun'; z, f.tale⟩
/-- it leaves a frame: the first one -/
theorem leave_first {B : Heap} {env : Env} {out : List Env} {L e : Addr} {oe : Obj} {vs : Array Value} {a0 : Value} {Q : Unit → Shared → Prop}
    (fr : A.frames = some (env :: out)) (ff : s.heap.FunFrames B (env :: out)) (ef : env.frame = some L) (ge : s.heap.get? e = some oe) (kb : B.StaysIn s.heap) (nb : B.get? e = none) (dt : oe.data = .fields vs) (z1 : vs[1]? = some .none) (z0 : vs[2]? = some a0)
    (k : ∀ h', Fly B out e oe.cls oe.dict a0 .none h' → s.heap.UpToSlots h' → Q () { s with heap := h' }) : wpAny M A (leaving env (.ref e)) Q E s := by
  unfold leaving
  exact wpAny_bind (note_first fr ff ef ge kb nb dt z1 z0 fun h1 f1 u1 => flight_none f1 fun h2 f2 u2 => k h2 f2.pop (u1.trans u2))
/-- .. any other one -/
theorem leave_next {B : Heap} {env : Env} {out : List Env} {L e : Addr} {cls : Value} {dc : Option Addr} {a0 : Value} {Q : Unit → Shared → Prop}
    (fr : A.frames = some (env :: out)) (ef : env.frame = some L) (fl : Fly B (env :: out) e cls dc a0 .none s.heap)
    (k : ∀ h', Fly B out e cls dc a0 .none h' → s.heap.UpToSlots h' → Q () { s with heap := h' }) : wpAny M A (leaving env (.ref e)) Q E s := by
  unfold leaving
  exact wpAny_bind (note_next fr ef fl fun h1 f1 u1 => flight_none f1 fun h2 f2 u2 => k h2 f2.pop (u1.trans u2))
end
end L2

set_option Elab.async false
set_option linter.all false
set_option maxRecDepth 100000
set_option maxHeartbeats 4000000
namespace L2
open PySem PySem.Spec PyProof.Rows
/-! ### an exception leaves a def -/
/-- what B (the heap at the throw, without the frames and the exception) keeps of h -/
structure Bas (l : List Env) (H H' : Hp) (h B : Heap) : Prop where
  keep : ∀ b o, h.get? b = some o → H b = none → b ∉ frs l → B.get? b = some o
  free : ∀ b o, h.get? b = some o → H b = none → H' b = none
  there : ∀ b o, h.get? b = some o → b ∉ frs l → ∃ o', B.get? b = some o'
  tups : ∀ b xs, H b = some (.tup xs) → H' b = some (.tup xs)
  frzs : ∀ b o u, H b = some (.frz o u) → H' b = some (.frz o u)
  tbls : ∀ b ps, H b = some (.tbl ps) → ∃ more, H' b = some (.tbl (ps ++ more))
/-- of the frames only the slots changed -/
def Slo (l : List Env) (h h' : Heap) : Prop := ∀ b o, b ∈ frs l → h.get? b = some o → ∃ sl, h'.get? b = some { o with slots := sl }
structure Thr (P : Program) (w : World) (l : List Env) (H : Hp) (s : Shared) (ea C : Addr) (dx : Option Addr) (fl : Value) (B : Heap) (H' : Hp) (s' : Shared) : Prop where
  os : s'.os = s.os
  bare : AllBare s'.gens
  fly : ∃ a0, Fly B l ea (.ref C) dx a0 fl s'.heap
  hok : HOk P w H' B
  bas : Bas l H H' s.heap B
  slo : Slo l s.heap s'.heap
def CXv (P : Program) (w : World) : CXT := fun l H s E e s' => ∃ ea C dx B H', e = .ref ea ∧ Thr P w l H s ea C dx .none B H' s' ∧ E (.ref C) dx H'
section
variable {P : Program} {w : World} {l : List Env} {H H' : Hp} {s s' : Shared} {ea C : Addr} {dx : Option Addr} {fl : Value} {B : Heap}
theorem Thr.stay (t : Thr P w l H s ea C dx fl B H' s') : B.StaysIn s'.heap := let ⟨_, f⟩ := t.fly; f.stay
theorem Thr.held (t : Thr P w l H s ea C dx fl B H' s') : HOk P w H' s'.heap := t.hok.kept t.stay
theorem Thr.un (t : Thr P w l H s ea C dx fl B H' s') : Un (frs l) [] H H' s.heap s'.heap where
  keep := fun b o e n hb _ => t.stay b o (t.bas.keep b o e n hb)
  slot := fun b o e _ hb _ => t.slo b o hb e
  free := fun b o e n _ => t.bas.free b o e n
  there := fun b o e _ => by
    by_cases hb : b ∈ frs l
    · obtain ⟨sl, q⟩ := t.slo b o hb e; exact ⟨_, q⟩
    · obtain ⟨o', q⟩ := t.bas.there b o e hb; exact ⟨o', t.stay b o' q⟩
  tups := t.bas.tups
  frzs := t.bas.frzs
  tbls := t.bas.tbls
/-- none leaves -/
theorem passv0 {X : Cx} : Passes (CXv P w) X E0 := fun _ _ _ _ _ _ _ ⟨_, _, _, _, _, _, _, h⟩ => h.elim
end
section
variable {X : Cx} {pins : List (Addr × Obj)} {σ : St} {H H' : Hp} {s s' : Shared} {ea C : Addr} {dx : Option Addr} {fl : Value} {B : Heap}
theorem Inv.low (I : Inv X pins σ H s) {b : Addr} {o : Obj} (e : X.s₀.heap.get? b = some o) (hb : b ∉ frs X.outer) : b ∉ frs X.stack := fun z => by
  rcases List.mem_cons.mp (I.stkSub b z) with r | r
  · exact absurd (Heap.lt_size e) (by rw [r]; exact Nat.not_lt.mpr I.ok.above)
  · exact hb r
/-- from a body to its caller -/
theorem Bas.out (I : Inv X pins σ H s) (hex : X.ex = []) (t : Bas X.stack H H' s.heap B) : Bas X.outer X.H₀ H' X.s₀.heap B where
  keep := fun b o e n hb => t.keep b o (I.base.keep b o e n hb (by rw [hex]; simp)) (I.base.free b o e n (by rw [hex]; simp)) (I.low e hb)
  free := fun b o e n => by
    obtain ⟨o', q⟩ := I.base.there b o e (by rw [hex]; simp)
    exact t.free b o' q (I.base.free b o e n (by rw [hex]; simp))
  there := fun b o e hb => by
    obtain ⟨o', q⟩ := I.base.there b o e (by rw [hex]; simp)
    exact t.there b o' q (I.low e hb)
  tups := fun b xs q => t.tups b xs (I.base.tups b xs q)
  frzs := fun b o u q => t.frzs b o u (I.base.frzs b o u q)
  tbls := fun b ps q => by
    obtain ⟨m1, e1⟩ := I.base.tbls b ps q
    obtain ⟨m2, e2⟩ := t.tbls b _ e1
    exact ⟨m1 ++ m2, by rw [e2, Array.append_assoc]⟩
theorem Inv.inner (I : Inv X pins σ H s) {b : Addr} (hb : b ∈ frs X.outer) : b ∈ frs X.stack := by
  rcases I.ok.stk with e | ⟨e, hf⟩
  · rw [e]; exact hb
  · rw [e]
    unfold frs
    rw [List.filterMap_cons, hf]
    exact List.mem_cons_of_mem _ hb
theorem Slo.out {h' : Heap} (I : Inv X pins σ H s) (hex : X.ex = []) (t : Slo X.stack s.heap s'.heap) (u : s'.heap.UpToSlots h') : Slo X.outer X.s₀.heap h' := fun b o hb e => by
  obtain ⟨_, o1, ho1, nf⟩ := I.ok.funs.mem hb
  rw [e] at ho1
  cases ho1
  obtain ⟨sl, e1⟩ := I.base.slot b o e (I.ok.frf b hb) hb (by rw [hex]; simp)
  obtain ⟨sl2, e2⟩ := t b _ (I.inner hb) e1
  obtain ⟨sl3, e3⟩ := u b _ e2 nf
  exact ⟨sl3, e3⟩
end
section
variable {P : Program} {w : World} {K : PySem.W.Frag} {mg : Str → Option Value} {base : Heap} {N : List Str} {qual : Str} {scope : Scope} {f : Addr} {cd : Value} {A : Around} {outer : List Env} {s : Shared} {H : Hp} {E : XK}
/-- a callee's exception leaves this def too -/
theorem passX : Passes (CXv P w) (cxOf (CXv P w) P w K mg base N qual scope f cd A outer s H E) E := by
  rintro pins σ H1 s1 e s' I ⟨ea, C, dx, B, H', rfl, T, q⟩
  obtain ⟨a0, fl⟩ := T.fly
  show wpAny _ _ (leaving _ _) _ _ _
  refine leave_next I.ok.frames rfl fl fun h2 f2 u2 => ⟨ea, C, dx, B, H', rfl, ⟨T.os.trans I.os, T.bare, ⟨a0, f2⟩, T.hok, T.bas.out I rfl, T.slo.out I rfl u2⟩, q⟩
end
/-! ### an exception's object -/
abbrev XObj (C t : Addr) (dx : Option Addr) : Obj := { cls := .ref C, dict := dx, data := .fields #[.ref t, .none, .none, .none, .bool false, .none] }
def xo (ea C t : Addr) (dx : Option Addr) : HO := .ext fun h => h.get? ea = some (XObj C t dx)
theorem xo_ok {P : Program} {w : World} {H : Hp} {h : Heap} {ea C t : Addr} {dx : Option Addr} (e : h.get? ea = some (XObj C t dx)) : ObjOk P w H h ea (xo ea C t dx) :=
  ⟨e, ⟨_, e⟩, fun _ _ q k => k _ q⟩
theorem xo_get {P : Program} {w : World} {H : Hp} {h : Heap} {ea C t : Addr} {dx : Option Addr} (x : HOk P w H h) (e : H ea = some (xo ea C t dx)) : h.get? ea = some (XObj C t dx) :=
  (show ObjOk P w H h ea (xo ea C t dx) from x _ _ e).1
def del (H : Hp) (a : Addr) : Hp := fun b => if b = a then none else H b
theorem del_ne {H : Hp} {a b : Addr} (h : b ≠ a) : del H a b = H b := by unfold del; rw [if_neg h]
theorem del_self {H : Hp} {a : Addr} : del H a a = none := by unfold del; rw [if_pos rfl]
/-- where a fresh exception goes -/
def RaiseTo (X : Cx) (E : XK) : Prop := ∀ (pins : List (Addr × Obj)) (σ : St) (H : Hp) (s : Shared) (ea C t : Addr) (dx : Option Addr), Inv X pins σ H s → H ea = some (xo ea C t dx) → X.s₀.heap.objs.size ≤ ea → E (.ref C) dx (del H ea) → X.xe (.ref ea) s
section
variable {X : Cx} {pins : List (Addr × Obj)} {σ : St} {H : Hp} {s : Shared} {ea C t : Addr} {dx : Option Addr}
/-- the heap at the throw -/
def atThrow (X : Cx) (s : Shared) (ea : Addr) : Heap := PySem.W.hideAll s.heap (ea :: frs X.stack)
theorem at_hok (I : Inv X pins σ H s) (he : H ea = some (xo ea C t dx)) : HOk X.prog X.w (del H ea) (atThrow X s ea) := fun b u q => by
  have nb : b ≠ ea := fun z => by rw [z, del_self] at q; cases q
  rw [del_ne nb] at q
  have nown : ∀ c y, H c = some (.own y) → c ≠ ea := fun c y r z => by rw [z, he] at r; cases r
  have ntup : ∀ c xs, H c = some (.tup xs) → c ≠ ea := fun c xs r z => by rw [z, he] at r; cases r
  have nfr : ∀ c u, H c = some u → c ∉ frs X.stack := fun c u r z => by rw [I.stkFree c z] at r; cases r
  refine (I.hok b u q).stay (fun c v hc r => PySem.W.hideAll_get _ r fun m => ?_) (fun c r => by rw [del_ne (nown c b r)]; exact r) fun c xs r => by rw [del_ne (ntup c xs r)]; exact r
  rcases List.mem_cons.mp m with z | z
  · rcases hc with r' | r'
    · exact nb (r'.symm.trans z)
    · exact nown c b r' z
  · rcases hc with r' | r'
    · rw [r'] at z; exact nfr b u q z
    · exact nfr c _ r' z
theorem at_bas (I : Inv X pins σ H s) (hex : X.ex = []) (he : H ea = some (xo ea C t dx)) (hn : X.s₀.heap.objs.size ≤ ea) : Bas X.outer X.H₀ (del H ea) X.s₀.heap (atThrow X s ea) where
  keep := fun b o e n hb => PySem.W.hideAll_get _ (I.base.keep b o e n hb (by rw [hex]; simp)) fun m => by
    rcases List.mem_cons.mp m with z | z
    · exact absurd (Heap.lt_size e) (by rw [z]; exact Nat.not_lt.mpr hn)
    · exact I.low e hb z
  free := fun b o e n => by
    rw [del_ne fun z => absurd (Heap.lt_size e) (by rw [z]; exact Nat.not_lt.mpr hn)]
    exact I.base.free b o e n (by rw [hex]; simp)
  there := fun b o e hb => by
    obtain ⟨o', q⟩ := I.base.there b o e (by rw [hex]; simp)
    refine ⟨o', PySem.W.hideAll_get _ q fun m => ?_⟩
    rcases List.mem_cons.mp m with z | z
    · exact absurd (Heap.lt_size e) (by rw [z]; exact Nat.not_lt.mpr hn)
    · exact I.low e hb z
  tups := fun b xs q => by
    have r := I.base.tups b xs q
    rw [del_ne fun z => by rw [z, he] at r; cases r]
    exact r
  frzs := fun b o u q => by
    have r := I.base.frzs b o u q
    rw [del_ne fun z => by rw [z, he] at r; cases r]
    exact r
  tbls := fun b ps q => by
    obtain ⟨m, r⟩ := I.base.tbls b ps q
    exact ⟨m, by rw [del_ne fun z => by rw [z, he] at r; cases r]; exact r⟩
theorem at_funs (I : Inv X pins σ H s) : s.heap.FunFrames (atThrow X s ea) X.stack := by
  refine PySem.W.funFrames_hide I.stack fun env hm a e => List.mem_cons_of_mem _ ?_
  exact List.mem_filterMap.mpr ⟨env, hm, e⟩
end
section
variable {P : Program} {w : World} {K : PySem.W.Frag} {mg : Str → Option Value} {base : Heap} {N : List Str} {qual : Str} {scope : Scope} {f : Addr} {cd : Value} {A : Around} {outer : List Env} {s : Shared} {H : Hp} {E : XK}
end
section
variable {P : Program} {w : World} {K : PySem.W.Frag} {mg : Str → Option Value} {base : Heap}
/-- the rule for a def that may raise -/
theorem Fun.okX {x qual : Str} {st : Stmt} {f : Addr} {fd : FuncData} {N ps : List Str} {k : Nat} {sp : Sp} (F : Fun K x qual st f fd) (S : FnScope N ps (defScope st)) (len : ∀ vs H Q E, sp vs H Q E → vs.length = ps.length)
    (hbody : ∀ (cdv : Value) (A : Around) (outer : List Env) (s : Shared) (H : Hp) (vs : List V) (Q : VK) (E : XK), Room k (A.deeper (envOfC qual (defScope st) s.heap.objs.size f cdv)) → sp vs H Q E →
      ∃ t, PSs (cxOf (CXv P w) P w K mg base N qual (defScope st) f cdv A outer s H E) (defBody st) t ∧ t { nx := fun _ H' => Q .non H', rt := Q } (start N vs) H) : FnOk P w K mg base (CXv P w) (k + 1) f fd ps sp := by
  obtain ⟨oc, od, kV, doc, pm, an, cdv, ct, osl, rfl, lk, hcd⟩ := F.ex
  exact fn_of lk hcd S len fun A outer s H vs Q E hr hsp => hbody cdv A outer s H vs Q E hr hsp
end
end L2

set_option Elab.async false
set_option linter.all false
set_option maxRecDepth 100000
set_option maxHeartbeats 4000000
namespace L2
open PySem PySem.Spec PyProof.Rows Builtin Builtin.ObjectAttr
/-! ### an own exception's class, by the text -/
def valTail : List Value := [.type "ValueError", .type "Exception", .type "BaseException", .type "object"]
def xOver : List Value → Bool
  | .ref _ :: r => xOver r
  | l => l == valTail
theorem xOver_shape : ∀ {l : List Value}, xOver l = true → ∃ rs : List Addr, l = rs.map Value.ref ++ valTail
  | [], h => by cases h
  | v :: r, h => by
    cases v with
    | ref a =>
      obtain ⟨rs, e⟩ := xOver_shape (l := r) h
      exact ⟨a :: rs, by rw [e]; rfl⟩
    | _ => exact ⟨[], beq_iff_eq.mp h⟩
theorem tail_has {X : String} {b : Bool} (e : valTail.contains (.type X) = b) : ∀ rs : List Addr, (rs.map Value.ref ++ valTail).contains (.type X) = b
  | [] => e
  | a :: r => by
    rw [List.map_cons, List.cons_append, List.contains_cons, tail_has e r]
    rfl
theorem xOver_has {l : List Value} (h : xOver l = true) {X : String} {b : Bool} (e : valTail.contains (.type X) = b) : l.contains (.type X) = b := by
  obtain ⟨rs, rfl⟩ := xOver_shape h
  exact tail_has e rs
theorem xOver_pass (self : Value) {l : List Value} (h : xOver l = true) : refuseLoop self "__setattr__" l = pure () := by
  obtain ⟨rs, rfl⟩ := xOver_shape h
  clear h
  induction rs with
  | nil => exact PySem.F.store_ValueError.passes self
  | cons a r ih => rw [List.map_cons, List.cons_append, refuseLoop_ref]; exact ih
def xIn (K : PySem.W.Frag) (C : Addr) : Bool := match K.lookup C with
  | some ⟨.type "type", _, .cls cd, sl⟩ => (match cd.mro, sl.toList with
    | .ref C' :: bm, [_, _, _, _, some (.builtin n), _] => C' == C && (!cd.hasDel && (cd.hasDict && (xOver bm && n == "ValueError.__new__")))
    | _, _ => false)
  | _ => false
theorem xIn_cls {K : PySem.W.Frag} {C : Addr} (q : xIn K C = true) : ∃ nm qn N bs bm sn sub ab col dd k0 k1 k2 k3 k5,
    K.lookup C = some (excClassObj nm qn C N bs bm true sn sub ab col dd k0 k1 k2 k3 k5 "ValueError.__new__") ∧ xOver bm = true := by
  unfold xIn at q
  split at q
  · rename_i dd cd sl ho
    split at q
    · rename_i C' bm k0 k1 k2 k3 n k5 hm hs
      simp only [Bool.and_eq_true, beq_iff_eq, Bool.not_eq_true'] at q
      obtain ⟨rfl, q1, q2, q3, rfl⟩ := q
      obtain ⟨nm, bs, mro, ns, qn, hd, sn, sub, ab, col, de⟩ := cd
      dsimp only at hm q1 q2
      subst hm q1 q2
      obtain ⟨sl⟩ := sl
      dsimp only at hs
      subst hs
      exact ⟨nm, qn, ns, bs, bm, sn, sub, ab, col, dd, k0, k1, k2, k3, k5, ho, q3⟩
    · cases q
  · cases q
structure XCls (K : PySem.W.Frag) (C : Addr) : Prop where
  x : xIn K C = true
  kp : PySem.W.keepIn K (.ref C) = true
  sa : PySem.W.findIn K (.ref C) "__setattr__" = some (some (.builtin "object.__setattr__"))
  ga : PySem.W.findIn K (.ref C) "__getattribute__" = some (some (.builtin "BaseException.__getattribute__"))
  gn : PySem.W.findIn K (.ref C) "__getattr__" = some none
  hd : PySem.W.hasDictIn K C = true
section
variable {M : Model} {A : Around} {E : Value → Shared → Prop} {h : Heap} {g : Array GenState} {d : Drawn} {t : Nat} {os : OsState}
variable {nm qn : Str} {C N : Addr} {bs bm : List Value} {hdct : Bool} {sn : List Str} {sub : List Value} {ab : Bool} {col : Option Bool} {dd : Option Addr} {k0 k1 k2 k3 k5 : Option Value}
theorem x_check {us : List Value} {Q : Unit → Shared → Prop} (hC : h.get? C = some (excClassObj nm qn C N bs bm hdct sn sub ab col dd k0 k1 k2 k3 k5 "ValueError.__new__")) (ho : xOver bm = true)
    (q : Q () ⟨h, g, d, t, os⟩) : wpAny M A (checkBuiltinCall "ValueError.__new__" ⟨.ref C :: us, []⟩) Q E ⟨h, g, d, t, os⟩ := by
  have F := PySem.F.excBase_ValueError
  have c1 : (Value.ref C :: bm).contains (.type "ValueError") = true := by rw [List.contains_cons, xOver_has ho (b := true) (by decide), Bool.or_true]
  have st := F.noStar
  simp only [checkBuiltinCall, F.newKind, F.newSplit, F.newRow]
  repeat (first | (refine wpAny_loadPart_at hC ?_) | (refine wpAny_isSubtype_exc hC ?_; rw [c1]) | (refine wpAny_staticBase_exc hC ?_) | (refine wpAny_madeBy_exc hC ?_) | (simp only [bne_self_eq_false, Bool.false_eq_true, if_false]) | wp_step)
  exact q
end
section
variable {prog : Program} {w : World} {A : Around} {R : Result → Shared → Prop} {h : Heap} {g : Array GenState} {d : Drawn} {t : Nat} {os : OsState}
variable {nm qn : Str} {C N : Addr} {bs bm : List Value} {hdct : Bool} {sn : List Str} {sub : List Value} {ab : Bool} {col : Option Bool} {dd : Option Addr} {k0 k1 k2 k3 k5 : Option Value}
abbrev xTup (us : List Value) : Obj := { cls := .type "tuple", data := .seq us.toArray }
theorem x_new {us : List Value} (hC : h.get? C = some (excClassObj nm qn C N bs bm hdct sn sub ab col dd k0 k1 k2 k3 k5 "ValueError.__new__")) (ho : xOver bm = true)
    (q : R (.ok (.ret (.ref (h.objs.size + 1)))) ⟨(h.push (xTup us)).push (XObj C h.objs.size none), g, d, t, os⟩) (hl : us.length ≤ sizeLine) :
    codeAny (model prog w) A (.builtin "ValueError.__new__" ⟨.ref C :: us, []⟩) R ⟨h, g, d, t, os⟩ := by
  have F := PySem.F.excBase_ValueError
  have en := F.ends
  have c1 : (Value.ref C :: bm).contains (.type "ValueError") = true := by rw [List.contains_cons, xOver_has ho (b := true) (by decide), Bool.or_true]
  have c2 : (Value.ref C :: bm).contains (.type "AttributeError") = false := by rw [List.contains_cons, xOver_has ho (b := false) (by decide)]; rfl
  have c3 : (Value.ref C :: bm).contains (.type "NameError") = false := by rw [List.contains_cons, xOver_has ho (b := false) (by decide)]; rfl
  refine codeAny_builtinAt F.entry ?_
  unfold Builtin.«BaseException.__new__»
  refine PySem.wpAt_bind ?_
  show PySem.wpAt _ _ _ (stack >>= _) _ _ _
  refine PySem.wpAt_bind (PySem.wpAt_stack fun _ _ => PySem.wpAt_of_wpAny ?_)
  wp_walk
  refine PySem.wpAt_of_wpAny ?_
  rw [F.owner]
  repeat (first | (with_reducible refine wpAny_madeHere_exc F.canon hC ?_) | (with_reducible refine wpAny_loadPart_at hC ?_) | (with_reducible refine wpAny_isSubtype_exc hC ?_; first | rw [c1] | rw [c2] | rw [c3]) | wp_step)
  show R _ _
  rw [Heap.size_push]
  exact q
theorem x_tcall {K : PySem.W.Frag} {f : Addr} {hh : Heap} {us : List Value} {Q : Fin → Shared → Prop} {E : Value → Shared → Prop} (X : K.In hh) (c : XCls K C) (hi : PySem.W.findIn K (.ref C) "__init__" = some (some (.ref f))) (hf : PySem.W.isFn K (.ref f) = true) (hl : us.length ≤ sizeLine)
    (hq : wpAny (model prog w) A (call (.ref f) (.ref (hh.objs.size + 1) :: us)) (fun r s' => r = .none ∧ Q (.done (.ret (.ref (hh.objs.size + 1)))) s') E ⟨(hh.push (xTup us)).push (XObj C hh.objs.size none), g, d, t, os⟩) :
    wpAny (model prog w) A (Builtin.«type.__call__» ⟨.ref C :: us, []⟩) Q E ⟨hh, g, d, t, os⟩ := by
  obtain ⟨nm, qn, N, bs, bm, sn, sub, ab, col, dd, k0, k1, k2, k3, k5, hK, ho⟩ := xIn_cls c.x
  have hC := X _ _ hK
  have F := PySem.F.excBase_ValueError
  have k : ∀ b o, hh.get? b = some o → ((hh.push (xTup us)).push (XObj C hh.objs.size none)).get? b = some o := fun b o e => Heap.get?_push_of_some _ (Heap.get?_push_of_some _ e)
  repeat (first | (with_reducible refine wpAny_loadPart_at hC ?_) | (with_reducible refine wpAny_madeBy_exc hC ?_) | wp_step)
  refine codeAny_call_builtin_code (Code.quiet_builtin _ F.quiet) (x_check hC ho ?_)
  refine x_new hC ho ?_ hl
  show wpAny _ _ _ _ _ _
  have hC1 := k _ _ hC
  have hx : ((hh.push (xTup us)).push (XObj C hh.objs.size none)).get? (hh.objs.size + 1) = some ({ cls := .ref C, dict := none, data := .fields #[.ref hh.objs.size, .none, .none, .none, .bool false, .none] } : Obj) := by heap_get
  have c4 : (Value.ref C :: bm).contains (.ref C) = true := by simp
  unfold isInstance
  repeat (first | (with_reducible refine wpAny_loadPart_at hx ?_) | (with_reducible refine wpAny_isSubtype_exc hC1 ?_; rw [c4]) | wp_step)
  show wpAny _ _ (typeLookup (.ref C) _) _ _ _
  refine ((PySem.W.looks_findIn X hi).keeps k).at ?_
  refine wpAny_holding (wpAny_bind (((PySem.W.bind_fn X (.ref (hh.objs.size + 1)) (beq_iff_eq.mp hf)).keeps k).at ?_))
  refine wpAny_bind (wpAny_mono hq (fun r s' z => ?_) fun _ _ z => z)
  obtain ⟨rfl, z⟩ := z
  wp_walk
  exact z
/-- C(..): the object, then its __init__ -/
theorem x_call {K : PySem.W.Frag} {f : Addr} {s : Shared} {us : List Value} {Q : Value → Shared → Prop} {E : Value → Shared → Prop} (X : K.In s.heap) (c : XCls K C) (hi : PySem.W.findIn K (.ref C) "__init__" = some (some (.ref f))) (hf : PySem.W.isFn K (.ref f) = true) (hl : us.length ≤ sizeLine)
    (hq : wpAny (model prog w) (A.under (.builtin "type.__call__" ⟨.ref C :: us, []⟩)) (call (.ref f) (.ref (s.heap.objs.size + 1) :: us)) (fun r s' => r = .none ∧ Q (.ref (s.heap.objs.size + 1)) s') E
      { s with heap := (s.heap.push (xTup us)).push (XObj C s.heap.objs.size none) }) : wpAny (model prog w) A (call (.ref C) us) Q E s := by
  obtain ⟨hh, g, d, t, os⟩ := s
  obtain ⟨nm, qn, N, bs, bm, sn, sub, ab, col, dd, k0, k1, k2, k3, k5, hK, ho⟩ := xIn_cls c.x
  have hC := X _ _ hK
  dsimp only at hC
  have f1 := tc_lookup
  have f2 := tc_bind (.ref C)
  have hT : (⟨hh, g, d, t, os⟩ : Shared).TypeIs (.ref C) "type" := ⟨_, hC, rfl⟩
  refine wpAny_call (codeAny_of_tree ?_)
  show wpAny _ _ (callAny (.ref C) _) _ _ _
  repeat (any_goals (first | assumption | (with_reducible refine wpAny_loadPart_at hC ?_) | wp_step))
  refine ⟨rfl, ?_⟩
  exact codeAny_call_builtin_at (Code.quiet_builtin _ (by decide +kernel)) entry_typeCall (wpAny_check_type_call_sub hC (x_tcall X c hi hf hl hq))
end
section
variable {prog : Program} {w : World} {A : Around} {E : Value → Shared → Prop} {s : Shared} {K : PySem.W.Frag} {x C : Addr} {name : Str} {v : Value}
theorem get_x {ox : Obj} {od : Option Obj} {expr : Bool} {Q : Value → Shared → Prop} (X : K.In s.heap) (I : PySem.W.InstAt s.heap x ox C od) (c : xIn K C = true) (hga : PySem.W.findIn K (.ref C) "__getattribute__" = some (some (.builtin "BaseException.__getattribute__"))) (hgn : PySem.W.findIn K (.ref C) "__getattr__" = some none)
    (hf : PySem.W.findObj K C od name = some (.value v)) (hh : PySem.W.handedIn v = true) (h : Q v { s with toks := s.toks + 1 }) : wpAny (model prog w) A (getAttr (.ref x) name expr) Q E s := by
  obtain ⟨h0, g, d, t, os⟩ := s
  obtain ⟨nm, qn, N, bs, bm, sn, sub, ab, col, dd, k0, k1, k2, k3, k5, hK, ho⟩ := xIn_cls c
  have L0 := I.type (M := model prog w)
  have L1 := PySem.W.looks_findIn (M := model prog w) X hga
  have L2 := PySem.W.looks_findIn (M := model prog w) X hgn
  have L3 := PySem.W.looks_find (M := model prog w) X I hf
  unfold getAttr getAttrBy
  refine wpAny_bind (wpAny_mkText (wpAny_holding (wpAny_bind (L0.at (wpAny_bind (L1.at ?_))))))
  show wpAny _ _ (getAttrByItsOwn _ _ _ _ _ _) _ _ _
  unfold getAttrByItsOwn
  have G := PySem.F.excAttr_ValueError.ga
  have e1 : callGetattribute (.ref x) (.str name t) (.builtin "BaseException.__getattribute__") expr = boundAndCalled (.builtin "BaseException.__getattribute__") (.ref x) (.str name t) := by
    unfold callGetattribute
    cases expr <;> rfl
  have LB : PySem.W.Looks (model prog w) h0 (isInstance (.ref x) (.type "BaseException")) true := L0.andThen (PySem.W.looks_mroIn X (by
    obtain ⟨cd, hc, hcm⟩ : ∃ cd, PySem.W.clsIn K C = some cd ∧ cd.mro = .ref C :: bm := ⟨_, by unfold PySem.W.clsIn; rw [hK], rfl⟩
    unfold PySem.W.mroIn
    rw [hc, Option.bind_some, hcm, if_neg (by simp), List.contains_cons, xOver_has ho (b := true) (by decide), Bool.or_true]))
  refine wpAny_bind (show wpAny _ _ (typeLookup (.ref C) "__getattr__") _ _ _ from L2.at ?_)
  refine wpAny_bind (wpAny_attempt (wpAny_holding ?_))
  rw [e1]
  unfold boundAndCalled
  rw [G.bind]
  refine wpAny_bind (wpAny_pure (wpAny_call (codeAny_call_builtin G.plain PySem.F.entry_bexc_ga (@PySem.W.check_slot (model prog w) _ _ ⟨h0, g, d, t + 1, os⟩ "BaseException.__getattribute__" "BaseException" "__getattribute__" (.ref x) [.str name t] [] _ (by decide +kernel) (by decide +kernel) LB (PySem.F.args_bexc_ga _ _) ?_))))
  refine wpAny_bind (wpAny_pure (wpAny_bind (wpAny_pure (wpAny_bind (L0.at (wpAny_bind (L3.at ?_)))))))
  refine wpAny_pure ?_
  show wpAny _ _ (handedOut v) _ _ _
  rw [PySem.W.handedOut_of hh]
  exact wpAny_pure h
end
end L2

set_option Elab.async false
set_option linter.all false
set_option maxRecDepth 100000
set_option maxHeartbeats 4000000
namespace L2
open PySem PySem.Spec PyProof.Rows Builtin Builtin.ObjectAttr
/-! ### an exception's own dict -/
def xdo (d : Addr) (fs : List (Str × V)) : HO := .ext fun h => ∃ mA, h.Ns1 d mA ∧ ∀ f, RelO (fs.lookup f) (mA f)
theorem xdo_ok {P : Program} {w : World} {H : Hp} {h : Heap} {d : Addr} {fs : List (Str × V)} {mA : Str → Option Value} (e : h.Ns1 d mA) (r : ∀ f, RelO (fs.lookup f) (mA f)) : ObjOk P w H h d (xdo d fs) := by
  refine ⟨⟨mA, e, r⟩, ?_, fun h1 h2 ⟨m, e1, r1⟩ k => ⟨m, ?_, r1⟩⟩
  · obtain ⟨o, _, _, e1, _⟩ := e
    exact ⟨o, e1⟩
  · exact e1.at k
theorem xdo_get {P : Program} {w : World} {H : Hp} {h : Heap} {d : Addr} {fs : List (Str × V)} (x : HOk P w H h) (e : H d = some (xdo d fs)) : ∃ mA, h.Ns1 d mA ∧ ∀ f, RelO (fs.lookup f) (mA f) :=
  (show ObjOk P w H h d (xdo d fs) from x _ _ e).1
theorem within_of {fs : List (Str × V)} {mA : Str → Option Value} (r : ∀ f, RelO (fs.lookup f) (mA f)) : PySem.Within mA (fs.map (·.1)) := fun y hy => by
  cases e : fs.lookup y with
  | none =>
    have := r y
    rw [e] at this
    exact absurd (RelO.none_of this) hy
  | some v => exact List.mem_map.mpr ⟨(y, v), PySem.mem_of_lookup e, rfl⟩
section
variable {prog : Program} {w : World} {A : Around} {E : Value → Shared → Prop} {s : Shared} {K : PySem.W.Frag} {x C t dx : Addr} {name : Str} {v : Value}
theorem osa_x {ox : Obj} {od : Option Obj} {tk : Tok} {R : Result → Shared → Prop} (X : K.In s.heap) (I : PySem.W.InstAt s.heap x ox C od) (c : XCls K C) (ht : PySem.W.takerIn K C name = some none)
    (h : ∀ b, wpAny (model prog w) A.in1 (storeInOwnDict (.ref x) (.ref C) (.str name tk) name v b)
      (fun fin s' => match fin with | .done f => R (.ok f) s' | .again c' => c'.quiet = true ∧ codeAny (model prog w) A c' R s') (fun e s' => R (.error e) s') s) :
    codeAny (model prog w) A (.call (.builtin "object.__setattr__") ⟨[.ref x, .str name tk, v], []⟩) R s := by
  have SF := PySem.F.store_object
  obtain ⟨nm, qn, N, bs, bm, sn, sub, ab, col, dd, k0, k1, k2, k3, k5, hK, ho⟩ := xIn_cls c.x
  obtain ⟨cd, hc, hcm⟩ : ∃ cd, PySem.W.clsIn K C = some cd ∧ cd.mro = .ref C :: bm := ⟨_, by unfold PySem.W.clsIn; rw [hK], rfl⟩
  have hsub : PySem.W.Looks (model prog w) s.heap (isInstance (.ref x) (.type "object")) true := I.type.andThen (PySem.W.looks_mroIn X (by
    unfold PySem.W.mroIn
    rw [hc, Option.bind_some, hcm, if_neg (by simp)]
    rw [List.contains_cons, xOver_has ho (b := true) (by decide), Bool.or_true]))
  refine codeAny_call_builtin SF.slot.plain SF.entry (@PySem.W.check_slot (model prog w) _ _ s "object.__setattr__" "object" "__setattr__" (.ref x) [.str name tk, v] [] _ SF.kind SF.split hsub (SF.args (.ref x) (.str name tk) v) ?_)
  obtain ⟨attr, ha, hr⟩ := Option.bind_eq_some_iff.mp ht
  have hm : PySem.W.Looks (model prog w) s.heap (mroOf (.ref C)) (.ref C :: bm) := hcm ▸ (PySem.W.looks_clsIn X hc).andThen .now
  have L3 : PySem.W.Looks (model prog w) s.heap (storeTaker? attr) none := by
    cases attr with
    | none => cases hr; exact .now
    | some a =>
      obtain ⟨b, hb, e⟩ := Option.map_eq_some_iff.mp hr
      cases b with
      | true => cases e
      | false => exact (PySem.W.looks_takesIn X hb).andThen .now
  rw [PySem.W.osa_eq, refuse_eq]
  refine wpAny_bind (wpAny_bind (I.type.here (wpAny_bind (hm.here ?_))))
  rw [refuseLoop_ref, xOver_pass _ ho]
  refine wpAny_pure (wpAny_bind (I.type.here (wpAny_bind ((PySem.W.looks_findIn X ha).here (wpAny_bind (L3.here ?_))))))
  exact h _
theorem set_x0 {Q : Unit → Shared → Prop} (X : K.In s.heap) (hx : s.heap.get? x = some (XObj C t none)) (c : XCls K C) (ht : PySem.W.takerIn K C name = some none)
    (h : ∀ h' tk, h'.Ns1 s.heap.objs.size (fun y => if y = name then some v else none) → h'.get? x = some (XObj C t (some s.heap.objs.size)) → (∀ b o, b ≠ x → s.heap.get? b = some o → h'.get? b = some o) → Q () { s with heap := h', toks := tk }) :
    wpAny (model prog w) A (setAttr (.ref x) name v) Q E s := by
  have J : PySem.W.InstAt s.heap x (XObj C t none) C none := ⟨hx, rfl, rfl, trivial⟩
  refine PySem.W.set_plain X J c.sa (osa_x (s := { s with toks := s.toks + 1 }) X J c ht fun b => ?_)
  obtain ⟨cd, hc, hd⟩ := PySem.W.any_some c.hd
  obtain ⟨hh, g, dr, tk, os⟩ := s
  dsimp only at hx X h ⊢
  refine wpAny_bind (wpAny_pure (wpAny_bind (wpAny_bind (wpAny_loadPart hx (wpAny_bind (PySem.W.Looks.here (s := ⟨hh, g, dr, tk + 1, os⟩) (PySem.W.looks_clsIn X hc) ?_))))))
  rw [hd]
  have hx1 : (hh.push PySem.W.emptyDict).get? x = some (XObj C t none) := Heap.get?_push_of_some _ hx
  have nx : x ≠ hh.objs.size := Nat.ne_of_lt (Heap.lt_size hx)
  refine wpAny_bind (wpAny_alloc' (wpAny_bind (wpAny_update' hx1 (wpAny_pure (wpAny_bind (wpAny_pure (wpAny_bind ?_)))))))
  have gd : ((hh.push PySem.W.emptyDict).update x fun o => { o with dict := some hh.objs.size }).get? hh.objs.size = some PySem.W.emptyDict :=
    (Heap.get?_update_ne _ _ _ _ (Ne.symm nx)).trans (Heap.get?_push_at rfl rfl)
  have nd : ((hh.push PySem.W.emptyDict).update x fun o => { o with dict := some hh.objs.size }).Ns hh.objs.size (fun _ => none) := ⟨_, #[], _, gd, rfl, fun e he => absurd he (by simp), fun _ => rfl⟩
  refine wpAny_nsSet1 (Heap.Ns1.of_empty nd) fun h' n' sb => ?_
  obtain ⟨oD, esD, epD, hoD, hdD, hcD⟩ := n'.count (Within.cons name v Within.nil)
  refine wpAny_bind (wpAny_lookBehind hoD (by rw [hdD]; exact pastItsLine_dict (Nat.le_trans hcD (by rw [List.length_cons, List.length_nil, sizeLine_eq]; omega))) ?_)
  refine wpAny_pure (h h' _ n' ?_ fun b o hb e => ?_)
  · refine (sb.2 x nx).trans ?_
    exact Heap.get?_update_self _ hx1 rfl
  · exact (sb.2 b (Nat.ne_of_lt (Heap.lt_size e))).trans ((Heap.get?_update_ne _ _ _ _ hb).trans (Heap.get?_push_of_some _ e))
theorem set_x1 {mA : Str → Option Value} {ns : List Str} {Q : Unit → Shared → Prop} (X : K.In s.heap) (hx : s.heap.get? x = some (XObj C t (some dx))) (hn : s.heap.Ns1 dx mA) (ne : dx ≠ x) (c : XCls K C) (ht : PySem.W.takerIn K C name = some none)
    (hw : PySem.Within mA ns) (hz : ns.length ≤ 1000) (h : ∀ h' tk, h'.Ns1 dx (fun y => if y = name then some v else mA y) → Heap.SameBut dx s.heap h' → Q () { s with heap := h', toks := tk }) :
    wpAny (model prog w) A (setAttr (.ref x) name v) Q E s := by
  obtain ⟨od, ho, _⟩ := lookIn_ns hn
  have J : PySem.W.InstAt s.heap x (XObj C t (some dx)) C (some od) := ⟨hx, rfl, rfl, ho⟩
  refine PySem.W.set_plain X J c.sa (osa_x (s := { s with toks := s.toks + 1 }) X J c ht fun b => ?_)
  obtain ⟨cd, hc, hd⟩ := PySem.W.any_some c.hd
  refine wpAny_bind (wpAny_pure (wpAny_bind (wpAny_bind (wpAny_loadPart hx (wpAny_bind (PySem.W.Looks.here (s := { s with toks := s.toks + 1 }) (PySem.W.looks_clsIn X hc) ?_))))))
  rw [hd]
  refine wpAny_pure (a := some dx) (wpAny_bind (wpAny_pure (wpAny_bind ?_)))
  refine wpAny_nsSet1 (s := { s with toks := s.toks + 1 }) hn fun h' n' sb => ?_
  obtain ⟨oD, esD, epD, hoD, hdD, hcD⟩ := n'.count (Within.cons name v hw)
  refine wpAny_bind (wpAny_lookBehind hoD (by rw [hdD]; exact pastItsLine_dict (Nat.le_trans hcD (by rw [List.length_cons, sizeLine_eq]; omega))) ?_)
  exact wpAny_pure (h h' _ n' sb)
end
/-- self.f = v in an exception's __init__ -/
def sXs (K : PySem.W.Frag) (ta tv : TE) (f : Str) : TS := fun D σ H => tv σ H fun y H1 => ta σ H1 fun x H2 => ∃ ea C t, x = .ref ea ∧ XCls K C ∧ NoAttr K C f ∧
  ((H2 ea = some (xo ea C t none) ∧ ∀ d, H2 d = none → d ≠ ea → D.nx σ (upd (upd H2 d (xdo d [(f, y)])) ea (xo ea C t (some d)))) ∨
   ∃ d fs, d ≠ ea ∧ H2 ea = some (xo ea C t (some d)) ∧ H2 d = some (xdo d fs) ∧ fs.length ≤ 100 ∧ D.nx σ (upd H2 d (xdo d (putF f y fs))))
section
variable {X : Cx} {o value : Expr} {f : Str} {pos pos' : Pos} {ta tv : TE}
theorem ps_setx (ha : PE X o ta) (hv : PE X value tv) (hs : swapsWith value (some (.Attribute o f pos')) pos.line X.env = pure false) : PS X (.Assign [.Attribute o f pos'] value pos) (sXs X.K ta tv f) := by
  intro pins s σ H D I h
  refine plainObj_wpAny_Assign_Attribute (thn (hv pins s σ H _ I h) fun u s1 ⟨y, H1, I1, ry, q⟩ => thn (ha pins s1 σ H1 _ I1 q) fun ov s2 ⟨x, H2, I2, rx, ea, C, t, ex, c, n, q2⟩ => ?_) hs
  subst ex
  obtain rfl : ov = Value.ref ea := rx
  rcases q2 with ⟨he, q3⟩ | ⟨d, fs, nd, he, hd, hl, q3⟩
  · have ge := xo_get I2.hok he
    refine set_x0 I2.kIn ge c n.taker fun h' tk n' gx k => ?_
    have hfr : H2 s2.heap.objs.size = none := I2.hok.fresh (Nat.le_refl _)
    have nde : s2.heap.objs.size ≠ ea := Nat.ne_of_gt (Heap.lt_size ge)
    refine ⟨σ, _, I2.un (t' := tk) (h' := h') ?_ ?_, q3 _ hfr nde⟩
    · have ne1 : ∀ b, H2 b = none → b ≠ ea := fun b e z => by rw [z, he] at e; cases e
      have kp : ∀ b o, s2.heap.get? b = some o → H2 b = none → h'.get? b = some o := fun b o e n => k b o (ne1 b n) e
      refine ⟨fun b o e n _ _ => kp b o e n, fun b o e n _ _ => ⟨o.slots, kp b o e n⟩, fun b o e n _ => ?_, fun b o e _ => ?_, fun b xs e => ?_, fun b o u e => ?_, fun b ps e => ⟨#[], ?_⟩⟩
      · rw [upd_ne (ne1 b n), upd_ne (Nat.ne_of_lt (Heap.lt_size e))]; exact n
      · by_cases hb : b = ea
        · rw [hb]; exact ⟨_, gx⟩
        · exact ⟨o, k b o hb e⟩
      · rw [upd_ne (ne_of e he (by unfold xo; intro z; cases z)), upd_ne (ne_of_none e hfr)]; exact e
      · rw [upd_ne (ne_of e he (by unfold xo; intro z; cases z)), upd_ne (ne_of_none e hfr)]; exact e
      · rw [upd_ne (ne_of e he (by unfold xo; intro z; cases z)), upd_ne (ne_of_none e hfr), e]; simp
    · intro b u e
      by_cases hb : b = ea
      · subst hb; rw [upd_same] at e; cases e; exact xo_ok gx
      · rw [upd_ne hb] at e
        by_cases hb2 : b = s2.heap.objs.size
        · subst hb2; rw [upd_same] at e; cases e
          refine xdo_ok n' fun g => ?_
          show RelO (List.lookup g [(f, y)]) (if g = f then some u else none)
          by_cases z : g = f
          · subst z; rw [if_pos rfl]; simp only [List.lookup, beq_self_eq_true]; exact ry
          · have zb : (g == f) = false := beq_eq_false_iff_ne.mpr z
            rw [if_neg z]; simp only [List.lookup, zb]; trivial
        · rw [upd_ne hb2] at e
          have nc : ∀ c z, H2 c = some z → (∀ φ, z ≠ .ext φ) → c ≠ ea ∧ c ≠ s2.heap.objs.size := fun c z r hz => ⟨fun w' => by rw [w', he] at r; exact hz _ (Option.some.inj r).symm, ne_of_none r hfr⟩
          refine (I2.hok b u e).stay (fun c v hc r => k c v ?_ r) (fun c r => ?_) fun c xs r => ?_
          · rcases hc with z | z
            · rw [z]; exact hb
            · exact (nc c _ z (fun φ w' => by cases w')).1
          · rw [upd_ne (nc c _ r (fun φ w' => by cases w')).1, upd_ne (nc c _ r (fun φ w' => by cases w')).2]; exact r
          · rw [upd_ne (nc c _ r (fun φ w' => by cases w')).1, upd_ne (nc c _ r (fun φ w' => by cases w')).2]; exact r
  · have ge := xo_get I2.hok he
    obtain ⟨mA, hn, hr⟩ := xdo_get I2.hok hd
    refine set_x1 I2.kIn ge hn nd c n.taker (within_of hr) (by rw [List.length_map]; omega) fun h' tk n' sb => ?_
    refine ⟨σ, _, I2.write (x := d) (e := d) (t' := tk) (h' := h') (by rw [hd]; exact True.intro) (.inl rfl) (fun b o hb e => (sb.2 b hb).trans e) ?_ (xdo_ok n' fun g => ?_), q3⟩
    · obtain ⟨o, _, _, e, _⟩ := n'; exact ⟨o, e⟩
    · show RelO ((putF f y fs).lookup g) (if g = f then some u else mA g)
      rw [lookup_putF]
      by_cases z : g = f
      · rw [if_pos z, if_pos z]; exact ry
      · rw [if_neg z, if_neg z]; exact hr g
end
/-! ### raise C(..) -/
/-- what the __init__ of an own exception does: it keeps its arguments under the names -/
def sp_xs (C : Addr) (names : List Str) : Sp := fun vs H Q _ => ∃ (ea t : Addr) (ys : List V), vs = .ref ea :: ys ∧ ys.length = names.length ∧ H ea = some (xo ea C t none) ∧
  ∀ d H', H d = none → d ≠ ea → (∀ b, b ≠ d → b ≠ ea → H' b = H b) → H' ea = some (xo ea C t (some d)) → H' d = some (xdo d (names.zip ys)) → Q .non H'
def tRaise (C : Addr) (names : List Str) (E : XK) (t : TA) : TS := fun _ σ H => t σ H fun ys H1 => ys.length = names.length ∧ ∀ d H', H1 d = none → Same H1 H' → H' d = some (xdo d (names.zip ys)) → E (.ref C) (some d) H'
section
variable {X : Cx} {k : Nat} {f C : Addr} {fd : FuncData} {ps names : List Str} {E : XK} {x : Str} {np cpos pos : Pos} {e : Expr} {es : List Expr} {t : TA}
theorem ps_raise (c : XCls X.K C) (hi : PySem.W.findIn X.K (.ref C) "__init__" = some (some (.ref f))) (hf : PySem.W.isFn X.K (.ref f) = true) (F : FnOk X.prog X.w X.K X.mg X.base CX0 k f fd ps (sp_xs C names)) (hr : Room (k + 1) X.A)
    (hg : Gl X x) (hm : X.mg x = some (.ref C)) (hb : Binds X.K fd ps []) (hnl : names.length ≤ 100) (hx : RaiseTo X E) (ha : PA X (e :: es) t) (hdb : (x == ("__debug__" : Str)) = false := by decide)
    (hst : starEach (e :: es) X.env = (false, eval e X.env) :: starEach es X.env := by rfl) (hpl : (backTo cpos (starEach es X.env)).any (·.1) = false := by rfl) :
    PS X (.Raise (some (.Call (.Name x np) (e :: es) [] cpos)) none pos) (tRaise C names E t) := by
  intro pins s σ H D I h
  rw [arm_exec_Raise]
  show wpAny _ _ (do standAt pos; raiseStmt X.env (some (do let v ← eval (.Call (.Name x np) (e :: es) [] cpos) X.env; standAt pos; pure v)) none) _ _ s
  refine wpAny_bind (wpAny_standAt ?_)
  unfold raiseStmt
  refine wpAny_bind (wpAny_bind (thn (Q := fun u s1 => ∃ ea tt dx H2, u = Value.ref ea ∧ X.s₀.heap.objs.size ≤ ea ∧ Inv X pins σ H2 s1 ∧ H2 ea = some (xo ea C tt dx) ∧ E (.ref C) dx (del H2 ea)) ?_ ?_))
  · refine wpAny_Call_Name_kw (ld_glob I hg hm ?_ hdb)
    refine PySem.W.callWith_K (h₀ := X.base) I.ok.mod.kin c.kp (thn (ha cpos pins s σ H _ I h) fun us s1 ⟨ys, H1, I1, r, hlen, q⟩ => ⟨I1.kIn, ?_⟩) hst hpl
    have hul : us.length ≤ 100 := by rw [← r.length, hlen]; exact hnl
    refine x_call I1.kIn c hi hf (Nat.le_trans hul (by decide)) (wpAny_call ?_)
    have e2 : ((s1.heap.push (xTup us)).push (XObj C s1.heap.objs.size none)).get? (s1.heap.objs.size + 1) = some (XObj C s1.heap.objs.size none) := by
      have := Heap.get?_push_size (s1.heap.push (xTup us)) (o := XObj C s1.heap.objs.size none) rfl
      rwa [Heap.size_push] at this
    have I2 := (I1.kept (h' := s1.heap.push (xTup us)) (t' := s1.toks) (fun b u q => Heap.get?_push_of_some _ q)).laid (a := s1.heap.objs.size + 1) (o := xo (s1.heap.objs.size + 1) C s1.heap.objs.size none) (h' := (s1.heap.push (xTup us)).push (XObj C s1.heap.objs.size none)) (t' := s1.toks) (fun b u q => Heap.get?_push_of_some _ q) (Nat.le_of_eq (Heap.size_push _ _)) (xo_ok e2)
    have hfr : H1 (s1.heap.objs.size + 1) = none := I1.hok.fresh (Nat.le_succ _)
    have r2 : Vals (V.ref (s1.heap.objs.size + 1) :: ys) (Value.ref (s1.heap.objs.size + 1) :: us) := .cons rfl r
    have hsp : sp_xs C names (V.ref (s1.heap.objs.size + 1) :: ys) (upd H1 (s1.heap.objs.size + 1) (xo (s1.heap.objs.size + 1) C s1.heap.objs.size none))
        (fun v H2 => v = .non ∧ ∃ tt dx, H2 (s1.heap.objs.size + 1) = some (xo (s1.heap.objs.size + 1) C tt dx) ∧ E (.ref C) dx (del H2 (s1.heap.objs.size + 1))) E0 := by
      refine ⟨_, _, ys, rfl, hlen, upd_same, fun d H' hd nd ho hea hdd => ⟨rfl, _, _, hea, q d _ ?_ (fun b o hb => ?_) ?_⟩⟩
      · rw [upd_ne nd] at hd; exact hd
      · have n1 : b ≠ s1.heap.objs.size + 1 := ne_of_none hb hfr
        have n2 : b ≠ d := fun z => by rw [z, ← upd_ne (H := H1) nd, hd] at hb; cases hb
        rw [del_ne n1, ho b n2 n1, upd_ne n1]; exact hb
      · rw [del_ne nd]; exact hdd
    have hl : (Value.ref (s1.heap.objs.size + 1) :: us ++ []).length = ps.length := by
      have e := r2.length
      rw [F.len _ _ _ _ hsp] at e
      rw [List.append_nil]
      exact e.symm
    have hbd := hb _ (Value.ref (s1.heap.objs.size + 1) :: us) I2.kIn hl
    rw [List.append_nil] at hbd
    refine codeAny_mono (F.run _ X.stack _ _ ⟨Value.ref (s1.heap.objs.size + 1) :: us, []⟩ _ _ _ E0 (hr.make C us []) (I2.env0.make C us []) hbd r2 hsp) fun r s' hq' => ?_
    cases r with
    | error e => exact False.elim hq'
    | ok fl =>
      cases fl with
      | ret u =>
        obtain ⟨v, H', I3, rv, ev, tt, dx, g1, g2⟩ := I2.after hq'
        subst ev
        exact ⟨rv, _, tt, dx, H', rfl, Nat.le_trans I1.sz (Nat.le_succ _), I3, g1, g2⟩
      | next => exact False.elim hq'
      | brk => exact False.elim hq'
      | cont => exact False.elim hq'
  · rintro u s1 ⟨ea, tt, dx, H2, rfl, hn, I2, he2, q2⟩
    refine wpAny_bind (wpAny_standAt (wpAny_pure ?_))
    have ge := xo_get I2.hok he2
    have hE : X.xe (.ref ea) s1 := hx pins σ H2 s1 ea C tt dx I2 he2 hn q2
    obtain ⟨nm, qn, N, bs, bm, sn, sub, ab, col, dd, k0, k1, k2, k3, k5, hK, ho⟩ := xIn_cls c.x
    have hC := I2.kIn _ _ hK
    have cB : (Value.ref C :: bm).contains (.type "BaseException") = true := by rw [List.contains_cons, xOver_has ho (b := true) (by decide), Bool.or_true]
    obtain ⟨hp, g, d, tk, os⟩ := s1
    dsimp only at ge hC
    repeat (first | (with_reducible refine wpAny_loadPart_at ge ?_) | (with_reducible refine wpAny_loadPart_at hC ?_) | (with_reducible refine wpAny_isSubtype_exc hC ?_; rw [cB]) | wp_step)
    exact wpAny_raiseNew_none hr.hd hE
end
end L2

set_option Elab.async false
set_option linter.all false
set_option maxRecDepth 100000
set_option maxHeartbeats 4000000
namespace L2
open PySem PySem.Spec PyProof.Rows
theorem ObjOk.here {P : Program} {w : World} {H : Hp} {h : Heap} {a : Addr} {o : HO} (x : ObjOk P w H h a o) : ∃ u, h.get? a = some u := by
  cases o with
  | lst xs => obtain ⟨_, _, _, _, e⟩ := x; exact ⟨_, e⟩
  | tup xs => obtain ⟨_, _, _, ob, e, _⟩ := x; exact ⟨_, e⟩
  | dK kvs => obtain ⟨_, _, _, _, o, _, _, e, _⟩ := x; exact ⟨_, e⟩
  | dT kvs => obtain ⟨_, _, _, _, o, _, _, e, _⟩ := x; exact ⟨_, e⟩
  | set S n => obtain ⟨o, _, _, _, e, _⟩ := x; exact ⟨_, e⟩
  | ins C dx fs => obtain ⟨_, _, _, e, _⟩ := x; exact ⟨_, e⟩
  | own y => exact x
  | xd fs => obtain ⟨_, ⟨_, _, _, e, _⟩, _⟩ := x; exact ⟨_, e⟩
  | rng lo hi => obtain ⟨_, _, _, e⟩ := x; exact ⟨_, e⟩
  | frz ob u => obtain ⟨e, _⟩ := x; exact ⟨_, e⟩
  | tbl ps => exact ⟨_, (show h.get? a = some _ from x)⟩
  | met f y => exact ⟨_, (show h.get? a = some _ from x)⟩
  | ext φ => obtain ⟨_, e, _⟩ := x; exact e
/-! ### what surely raises -/
/-- an exception is on its way to this frame -/
def Lands (X : Cx) (pins : List (Addr × Obj)) (σ : St) (E : XK) (e : Value) (s' : Shared) : Prop :=
  ∃ (s : Shared) (H : Hp) (ea C : Addr) (dx : Option Addr) (B : Heap) (H' : Hp), e = .ref ea ∧ Inv X pins σ H s ∧ Thr X.prog X.w X.stack H s ea C dx .none B H' s' ∧ E (.ref C) dx H'
abbrev TX := XK → St → Hp → Prop
def PEx (X : Cx) (e : Expr) (t : TX) : Prop := ∀ (pins : List (Addr × Obj)) (s : Shared) (σ : St) (H : Hp) (E : XK), Inv X pins σ H s → t E σ H → wpAny (model X.prog X.w) X.A (eval e X.env) (fun _ _ => False) (Lands X pins σ E) s
def PSx (X : Cx) (st : Stmt) (t : TX) : Prop := ∀ (pins : List (Addr × Obj)) (s : Shared) (σ : St) (H : Hp) (E : XK), Inv X pins σ H s → t E σ H → wpAny (model X.prog X.w) X.A (exec st X.env) (fun _ _ => False) (Lands X pins σ E) s
def PSsx (X : Cx) (st : List Stmt) (t : TX) : Prop := ∀ (pins : List (Addr × Obj)) (s : Shared) (σ : St) (H : Hp) (E : XK), Inv X pins σ H s → t E σ H → wpAny (model X.prog X.w) X.A (execs st X.env) (fun _ _ => False) (Lands X pins σ E) s
def xCall (sp : Sp) (dvs : List V) (t : TA) : TX := fun E σ H => t σ H fun vs H1 => sp (vs ++ dvs) H1 (fun _ _ => False) E
def xMeth (C : Addr) (m : Str) (sp : Sp) (dvs : List V) (ta : TE) (t : TA) : TX := fun E σ H => ta σ H fun x H1 => ∃ a dx fs, x = .ref a ∧ H1 a = some (.ins C dx fs) ∧ fs.lookup m = none ∧ t σ H1 fun vs H2 => sp (x :: (vs ++ dvs)) H2 (fun _ _ => False) E
def xMake (C : Addr) (sp : Sp) (dvs : List V) (t : TA) : TX := fun E σ H => t σ H fun vs H1 => ∀ x dx, H1 x = none → H1 dx = none → dx ≠ x → sp (.ref x :: (vs ++ dvs)) (upd (upd H1 dx (.own x)) x (.ins C dx [])) (fun _ _ => False) E
/-- it is never so -/
def xNo : TX := fun _ _ _ => False
section
variable {X : Cx} {k : Nat} {f C : Addr} {fd : FuncData} {ps : List Str} {sp : Sp} {dvs : List V} {ds : List Value} {E : XK} {x m : Str} {p pos apos : Pos} {e o : Expr} {es : List Expr} {ta : TE} {t : TA} {pins : List (Addr × Obj)} {σ : St} {H : Hp} {s : Shared}
theorem thx {α : Type} {t : Sem α} {Q Q' : α → Shared → Prop} {M : Model} {A : Around} {E : Value → Shared → Prop} {s : Shared} (h : wpAny M A t Q (fun _ _ => False) s) (hQ : ∀ a s, Q a s → Q' a s) : wpAny M A t Q' E s := wpAny_mono h hQ fun _ _ z => z.elim
theorem run_x {us : List Value} {vs : List V} (F : FnOk X.prog X.w X.K X.mg X.base (CXv X.prog X.w) k f fd ps sp) (hr : Room k X.A) (hb : Binds X.K fd ps ds) (hd : Vals dvs ds)
    (I : Inv X pins σ H s) (r : Vals vs us) (h : sp (vs ++ dvs) H (fun _ _ => False) E) : wpAny (model X.prog X.w) X.A (call (.ref f) us) (fun _ _ => False) (Lands X pins σ E) s := by
  have r2 : Vals (vs ++ dvs) (us ++ ds) := r.append hd
  have hl : (us ++ ds).length = ps.length := by rw [← r2.length]; exact F.len _ _ _ _ h
  refine wpAny_call (codeAny_mono (F.run X.A X.stack s H ⟨us, []⟩ (us ++ ds) (vs ++ dvs) _ E hr I.env0 (hb s us I.kIn hl) r2 h) fun r s' hq => ?_)
  cases r with
  | error e =>
    obtain ⟨ea, C, dx, B, H', rfl, T, q⟩ := hq
    exact ⟨s, H, ea, C, dx, B, H', rfl, I, T, q⟩
  | ok fl =>
    cases fl with
    | ret u => obtain ⟨_, _, _, _, _, _, _, q⟩ := hq; exact q
    | next => exact False.elim hq
    | brk => exact False.elim hq
    | cont => exact False.elim hq
theorem px_call (F : FnOk X.prog X.w X.K X.mg X.base (CXv X.prog X.w) k f fd ps sp) (hr : Room k X.A) (hg : Gl X x) (hm : X.mg x = some (.ref f)) (hk : PySem.W.keepIn X.K (.ref f) = true) (hb : Binds X.K fd ps ds) (hd : Vals dvs ds)
    (ha : PA X.nox (e :: es) t) (hdb : (x == ("__debug__" : Str)) = false := by decide) (he : starEach (e :: es) X.env = (false, eval e X.env) :: starEach es X.env := by rfl) (hpl : (backTo pos (starEach es X.env)).any (·.1) = false := by rfl) :
    PEx X (.Call (.Name x p) (e :: es) [] pos) (xCall sp dvs t) := by
  intro pins s σ H E I h
  refine wpAny_Call_Name_kw (ld_glob I hg hm ?_ hdb)
  refine PySem.W.callWith_K (h₀ := X.base) I.ok.mod.kin hk (thx (ha pos pins s σ H _ (I.wish _) h) fun us s1 ⟨vs, H1, I1, r, q⟩ => ⟨I1.kIn, ?_⟩) he hpl
  exact run_x F hr hb hd I1.unwish r q
theorem px_expr {tx : TX} (he : PEx X e tx) (hs : swapsWith e none pos.line X.env = pure false := by rfl) : PSx X (.Expr e pos) tx := by
  intro pins s σ H E I h
  exact wpAny_Expr_any (thn (he pins s σ H E I h) fun _ _ z => z.elim) I.quiet hs
theorem px_if {c : Expr} {a b : List Stmt} {tc : TT} {t u : TX} (hc : PT X.nox c tc) (ha : PSsx X a t) (hb : PSsx X b u) : PSx X (.If c a b pos) (fun E σ H => tc σ H fun d H1 => if d = true then t E σ H1 else u E σ H1) := by
  intro pins s σ H E I h
  refine wpAny_If (thx (hc pins s σ H _ (I.wish _) h) fun d s1 ⟨H1, I1, q1⟩ => ?_)
  cases d with
  | true => exact ha pins s1 σ H1 E I1.unwish q1
  | false => exact hb pins s1 σ H1 E I1.unwish q1
theorem pxs_one {st : Stmt} {rest : List Stmt} {t : TX} (h1 : PSx X st t) : PSsx X (st :: rest) t := by
  intro pins s σ H E I h
  exact wpAny_execs_cons (thn (h1 pins s σ H E I h) fun _ _ z => z.elim)
end
/-! ### within a handler -/
/-- the exception as it lies while it is handled -/
def xh (ea C : Addr) (dx : Option Addr) : HO := .ext fun h => ∃ o vs, h.get? ea = some o ∧ o.cls = .ref C ∧ o.dict = dx ∧ o.data = .fields vs
theorem xh_ok {P : Program} {w : World} {H : Hp} {h : Heap} {ea C : Addr} {dx : Option Addr} {o : Obj} {vs : Array Value} (e : h.get? ea = some o) (e1 : o.cls = .ref C) (e2 : o.dict = dx) (e3 : o.data = .fields vs) : ObjOk P w H h ea (xh ea C dx) :=
  ⟨⟨o, vs, e, e1, e2, e3⟩, ⟨_, e⟩, fun _ _ ⟨o, vs, q, r⟩ k => ⟨o, vs, k _ q, r⟩⟩
theorem xh_get {P : Program} {w : World} {H : Hp} {h : Heap} {ea C : Addr} {dx : Option Addr} (x : HOk P w H h) (e : H ea = some (xh ea C dx)) : ∃ o vs, h.get? ea = some o ∧ o.cls = .ref C ∧ o.dict = dx ∧ o.data = .fields vs :=
  (show ObjOk P w H h ea (xh ea C dx) from x _ _ e).1
/-- e.f of it -/
def tXFld (K : PySem.W.Frag) (ta : TE) (f : Str) : TE := fun σ H Q => ta σ H fun x H1 => ∃ ea C d fs v, x = .ref ea ∧ H1 ea = some (xh ea C (some d)) ∧ H1 d = some (xdo d fs) ∧ XCls K C ∧ NoAttr K C f ∧ fs.lookup f = some v ∧ Q v H1
section
variable {X : Cx} {e : Expr} {f : Str} {pos : Pos} {ta : TE}
theorem pe_xfld (he : PE X e ta) (hb : attributeBase e f X.env (eval e X.env) = eval e X.env) : PE X (.Attribute e f pos) (tXFld X.K ta f) := by
  intro pins s σ H Q I h
  refine attr_of hb (thn (he pins s σ H _ I h) fun u s1 ⟨x, H1, I1, rx, ea, C, d, fs, v, ex, hea, hd, c, n, l, q⟩ => ?_)
  subst ex
  obtain rfl : u = Value.ref ea := rx
  obtain ⟨o, vs, ge, gc, gd, gf⟩ := xh_get I1.hok hea
  obtain ⟨mA, hn, hr⟩ := xdo_get I1.hok hd
  obtain ⟨od, ho, hl⟩ := lookIn_ns hn
  obtain ⟨u, hu, ru⟩ := RelO.some_of (v := v) (o := mA f) (by rw [← l]; exact hr f)
  have J : PySem.W.InstAt s1.heap ea o C (some od) := by
    obtain ⟨oc, odd, oda, osl⟩ := o
    dsimp only at gc gd gf
    subst gc gd gf
    exact ⟨ge, rfl, rfl, ho⟩
  exact get_x I1.kIn J c.x c.ga c.gn (PySem.W.findObj_own c.hd n rfl (by rw [hl, hu])) (handed_of ru) ⟨v, H1, I1.tok _, ru, q⟩
end
theorem pe_xfldK {X : Cx} {K : PySem.W.Frag} {e : Expr} {f : Str} {pos : Pos} {ta : TE} (he : PE X e ta) (hb : attributeBase e f X.env (eval e X.env) = eval e X.env) (hK : X.K = K := by rfl) : PE X (.Attribute e f pos) (tXFld K ta f) := hK ▸ pe_xfld he hb
/-- the context of a handler's suite -/
abbrev Cx.han (X : Cx) (ea : Addr) : Cx := { X with A := X.A.mark (some (.ref ea)), calm := false }
theorem Inv.han {X : Cx} {pins : List (Addr × Obj)} {σ : St} {H : Hp} {s : Shared} (I : Inv X pins σ H s) (ea : Addr) : Inv (X.han ea) pins σ H s :=
  ⟨⟨I.ok.mod, I.ok.kind, I.ok.glob, I.ok.blt, I.ok.above, I.ok.inj, I.ok.has, I.ok.cab, (fun z => nomatch z), I.ok.frames, I.ok.stk, I.ok.exf, I.ok.bs, I.ok.bsz, I.ok.noex, I.ok.exfs, I.ok.funs, I.ok.frf⟩, I.os, I.bare, I.base, I.loc, I.cell, I.free, I.freeC, I.pin, I.hok, I.len⟩
theorem Inv.unhan {X : Cx} {pins : List (Addr × Obj)} {σ : St} {H : Hp} {s : Shared} {ea : Addr} (ok : X.Ok) (I : Inv (X.han ea) pins σ H s) : Inv X pins σ H s :=
  ⟨ok, I.os, I.bare, I.base, I.loc, I.cell, I.free, I.freeC, I.pin, I.hok, I.len⟩
section
variable {X : Cx} {pins : List (Addr × Obj)} {σ : St} {H H' : Hp} {s s' : Shared} {ea C : Addr} {dx : Option Addr} {B : Heap} {fl : Value}
/-- nothing that stood ahead is the exception -/
theorem Thr.new (T : Thr X.prog X.w X.stack H s ea C dx fl B H' s') (I : Inv X pins σ H s) {b : Addr} {o : Obj} (e : s.heap.get? b = some o) : b ≠ ea := by
  rintro rfl
  obtain ⟨a0, f⟩ := T.fly
  by_cases hb : b ∈ frs X.stack
  · obtain ⟨sl, e1⟩ := T.slo b o hb e
    obtain ⟨oe, vs, _, _, _, ge, _, _, dt, _⟩ := f.tale
    obtain ⟨_, o1, ho1, nf⟩ := f.fun'.mem hb
    rw [ge] at ho1
    cases ho1
    exact nf _ dt
  · obtain ⟨o', e1⟩ := T.bas.there b o e hb
    rw [f.new] at e1
    cases e1
theorem Thr.none (T : Thr X.prog X.w X.stack H s ea C dx fl B H' s') : H' ea = none := by
  obtain ⟨a0, f⟩ := T.fly
  cases q : H' ea with
  | none => rfl
  | some u =>
    obtain ⟨o, e⟩ := (T.hok ea u q).here
    rw [f.new] at e
    cases e
/-- the state where it is handled -/
theorem Thr.inv (T : Thr X.prog X.w X.stack H s ea C dx fl B H' s') (I : Inv X pins σ H s) : Inv X pins σ H' s' := I.call' (ch := []) T.os T.un T.held T.bare (fun b z => nomatch z)
theorem Thr.seen (T : Thr X.prog X.w X.stack H s ea C dx fl B H' s') (I : Inv X pins σ H s) : Inv X pins σ (upd H' ea (xh ea C dx)) s' := by
  have hn := T.none
  obtain ⟨a0, f⟩ := T.fly
  obtain ⟨oe, vs, _, _, _, ge, gc, gd, dt, _⟩ := f.tale
  have un := T.un
  refine I.call' (ch := []) T.os ⟨un.keep, un.slot, fun b o e n hx => ?_, un.there, fun b xs e => ?_, fun b o u e => ?_, fun b ps e => ?_⟩ (fun b u e => ?_) T.bare (fun b z => nomatch z)
  · rw [upd_ne (T.new I e)]; exact un.free b o e n hx
  · have := un.tups b xs e; rw [upd_ne (ne_of_none this hn)]; exact this
  · have := un.frzs b o u e; rw [upd_ne (ne_of_none this hn)]; exact this
  · obtain ⟨m, this⟩ := un.tbls b ps e; exact ⟨m, by rw [upd_ne (ne_of_none this hn)]; exact this⟩
  · by_cases hb : b = ea
    · subst hb; rw [upd_same] at e; cases e; exact xh_ok ge gc gd dt
    · rw [upd_ne hb] at e
      exact (T.held b u e).stay (fun c v _ r => r) (fun c r => by rw [upd_ne (ne_of_none r hn)]; exact r) fun c xs r => by rw [upd_ne (ne_of_none r hn)]; exact r
/-- a next station -/
theorem Thr.on {fl' : Value} {h2 : Heap} {a0 : Value} (T : Thr X.prog X.w X.stack H s ea C dx fl B H' s') (f2 : Fly B X.stack ea (.ref C) dx a0 fl' h2) (u : s'.heap.UpToSlots h2) (I : Inv X pins σ H s) : Thr X.prog X.w X.stack H s ea C dx fl' B H' { s' with heap := h2 } :=
  ⟨T.os, T.bare, ⟨a0, f2⟩, T.hok, T.bas, fun b o hb e => by
    obtain ⟨sl, e1⟩ := T.slo b o hb e
    obtain ⟨_, o1, ho1, nf⟩ := I.stack.mem hb
    rw [e] at ho1
    cases ho1
    obtain ⟨sl2, e2⟩ := u b _ e1 nf
    exact ⟨sl2, e2⟩⟩
end
/-! ### handlers -/
section
variable {X : Cx} {pins : List (Addr × Obj)} {σ : St} {H : Hp} {s : Shared} {M : Model} {A : Around} {E : Value → Shared → Prop}
/-- the handler's name goes -/
theorem goes_ok {n : Str} {i : Nat} {pos : Pos} {Q : Unit → Shared → Prop} (I : Inv X pins σ H s) (hN : X.N.Nodup) (hi : X.N[i]? = some n) (hk : X.env.kindOf n = some .local) (h : ∀ s', Inv X pins (σ.set i none) H s' → Q () s') :
    wpAny M A (do bindName X.env n .none; unbindBehindTheSuite X.env n pos) Q E s := by
  obtain ⟨m, hn, hl⟩ := id I.loc
  have hcls : (X.env.scope.kind == .class || (X.env.scope.kind == .module && X.env.locals != X.env.globals)) = false := by rw [I.ok.kind]; rfl
  refine wpAny_nameGoes_keeps hk hn hcls fun h' v hn' hs => h _ ?_
  have low : ∀ b o, X.s₀.heap.get? b = some o → b ≠ X.env.locals := fun b o e => Nat.ne_of_lt (Nat.lt_of_lt_of_le (Heap.lt_size e) I.ok.above)
  refine ⟨I.ok, I.os, I.bare, ⟨fun b o e n hb hx => (hs.2 b (low b o e)).trans (I.base.keep b o e n hb hx), fun b o e n hb hx => ?_, I.base.free, fun b o e hx => ?_, I.base.tups, I.base.frzs, I.base.tbls⟩, ⟨_, hn', fun j y v' e1 e2 e3 => ?_⟩, fun y c e => ?_, I.free, I.freeC, fun p hp => ?_, fun b ob e => ?_, by simpa using I.len⟩
  · obtain ⟨sl, e1⟩ := I.base.slot b o e n hb hx
    exact ⟨sl, (hs.2 b (low b o e)).trans e1⟩
  · obtain ⟨o', e1⟩ := I.base.there b o e hx
    exact ⟨o', (hs.2 b (low b o e)).trans e1⟩
  · by_cases hj : j = i
    · subst hj
      rw [List.getElem?_set] at e2
      simp only [if_true] at e2
      split at e2 <;> cases e2
    · rw [List.getElem?_set_ne (Ne.symm hj)] at e2
      obtain ⟨u', r', q⟩ := hl j y v' e1 e2 e3
      refine ⟨u', r', ?_⟩
      rcases q with ⟨k, e⟩ | ⟨k, c, e, z⟩
      · refine .inl ⟨k, ?_⟩
        have : y ≠ n := fun e => hj (nodup_ix hN e1 (e ▸ hi))
        simp [this, e]
      · exact .inr ⟨k, c, e, z.sameBut hs (I.cne y c e)⟩
  · obtain ⟨v, z⟩ := I.cell y c e
    exact ⟨v, z.sameBut hs (I.cne y c e)⟩
  · obtain ⟨e, n1, ne, nf, d⟩ := I.pin p hp
    exact ⟨(hs.2 _ ne).trans e, n1, ne, nf, d⟩
  · refine (I.hok b ob e).stay (fun c w' hc q => (hs.2 c ?_).trans q) (fun _ q => q) fun _ _ q => q
    rintro rfl
    rcases hc with rfl | hc
    · rw [I.free] at e; cases e
    · rw [I.free] at hc; cases hc
end
abbrev THs := Addr → Addr → Option Addr → TS
def PH (X : Cx) (hs : List ExceptHandler) (th : THs) : Prop :=
  ∀ (pins : List (Addr × Obj)) (σ : St) (H H' : Hp) (D : Ends) (s s' : Shared) (ea C : Addr) (dx : Option Addr) (B : Heap), Inv X pins σ H s → Thr X.prog X.w X.stack H s ea C dx .none B H' s' → th C ea dx D σ H' →
    wpAny (model X.prog X.w) X.A (handleBy (.ref ea) X.env hs) (SP X pins D) X.xe s'
def Ends.less (D : Ends) (i : Nat) : Ends := { nx := fun σ H => D.nx (σ.set i none) H, rt := D.rt, bk := fun σ H => D.bk (σ.set i none) H, ct := fun σ H => D.ct (σ.set i none) H }
def tAs (K : PySem.W.Frag) (Ck : Addr) (i : Nat) (ts : TS) (rest : THs) : THs := fun C ea dx D σ H =>
  (PySem.W.exmOne K (.ref C) (.ref Ck) = some true ∧ ts (D.less i) (σ.set i (some (.ref ea))) (upd H ea (xh ea C dx))) ∨ (PySem.W.exmOne K (.ref C) (.ref Ck) = some false ∧ rest C ea dx D σ H)
def tBare (K : PySem.W.Frag) (Ck : Addr) (ts : TS) (rest : THs) : THs := fun C ea dx D σ H =>
  (PySem.W.exmOne K (.ref C) (.ref Ck) = some true ∧ ts D σ (upd H ea (xh ea C dx))) ∨ (PySem.W.exmOne K (.ref C) (.ref Ck) = some false ∧ rest C ea dx D σ H)
def tNoH : THs := fun _ _ _ _ _ _ => False
def tTry (tb : TS) (tx : TX) (th : THs) : TS := fun D σ H => tb D σ H ∨ ∃ E, tx E σ H ∧ ∀ C dx H' ea, E (.ref C) dx H' → H' ea = none → th C ea dx D σ H'
section
variable {X : Cx} {x n : Str} {np hpos pos : Pos} {b₀ : Stmt} {suite body : List Stmt} {h₀ : ExceptHandler} {rest : List ExceptHandler} {Ck : Addr} {i : Nat} {ts tb : TS} {tx : TX} {tr : THs}
theorem ph_nil : PH X [] tNoH := fun _ _ _ _ _ _ _ _ _ _ _ _ _ h => h.elim
theorem Thr.looks {M : Model} {P : Program} {w : World} {l : List Env} {H H' : Hp} {s s' : Shared} {ea C : Addr} {dx : Option Addr} {fl : Value} {B : Heap} (T : Thr P w l H s ea C dx fl B H' s') : PySem.W.Looks M s'.heap (typeOf (.ref ea)) (.ref C) := by
  obtain ⟨a0, f⟩ := T.fly
  obtain ⟨oe, vs, _, _, _, ge, gc, _⟩ := f.tale
  exact gc ▸ (PySem.W.Looks.ld ge).andThen .now
theorem ph_as (hg : Gl X x) (hm : X.mg x = some (.ref Ck)) (hN : X.N.Nodup) (hi : X.N[i]? = some n) (hk : X.env.kindOf n = some .local) (hs : ∀ ea, PSs (X.han ea).nox (b₀ :: suite) ts) (hr : PH X rest tr) (hdb : (x == ("__debug__" : Str)) = false := by decide) :
    PH X (.ExceptHandler (some (.Name x np)) (some n) (b₀ :: suite) hpos :: rest) (tAs X.K Ck i ts tr) := by
  intro pins σ H H' D s s' ea C dx B I T h
  have I1 := T.inv I
  refine wpAny_handleBy_cons (codeAny_handlers_test (ld_glob (X := X.han ea) (I1.han ea) hg hm ?_ hdb)) (by intro q; cases q)
  rcases h with ⟨hx, h⟩ | ⟨hx, h⟩
  · refine PySem.W.Looks.here (PySem.W.exm_one I1.kIn T.looks hx) ?_
    refine codeAny_handlers_suite_as ?_
    obtain ⟨a0, f⟩ := T.fly
    refine flight_none f fun h2 f2 u2 => ?_
    have I2 := ((T.on f2 u2 I).seen I).han ea
    refine store_ok (X := X.han ea) (i := i) (v := .ref ea) I2 hN hi (.inl hk) rfl (fun s3 I3 => ?_) (.inr hk)
    refine wpAny_mono (hs ea pins s3 _ _ _ (I3.wish _) h) (fun fl s4 q => ?_) (fun _ _ z => z.elim)
    cases fl with
    | next => obtain ⟨σ4, H4, I4, q⟩ := q; exact goes_ok (X := X) (I4.unwish.unhan I.ok) hN hi hk fun s5 I5 => ⟨_, _, I5, q⟩
    | brk => obtain ⟨σ4, H4, I4, q⟩ := q; exact goes_ok (X := X) (I4.unwish.unhan I.ok) hN hi hk fun s5 I5 => ⟨_, _, I5, q⟩
    | cont => obtain ⟨σ4, H4, I4, q⟩ := q; exact goes_ok (X := X) (I4.unwish.unhan I.ok) hN hi hk fun s5 I5 => ⟨_, _, I5, q⟩
    | ret u => obtain ⟨v, σ4, H4, I4, r, q⟩ := q; exact goes_ok (X := X) (I4.unwish.unhan I.ok) hN hi hk fun s5 I5 => ⟨v, _, _, I5, r, q⟩
  · refine PySem.W.Looks.here (PySem.W.exm_one I1.kIn T.looks hx) ?_
    exact hr pins σ H H' D s s' ea C dx B I T h
theorem ps_try (hb : PSs X.nox body tb) (hx : PSsx X body tx) (hh : PH X (h₀ :: rest) tr) (hk : X.stack = X.env :: X.outer := by rfl) (hf : X.env.frame = some X.env.locals := by rfl) : PS X (.Try body (h₀ :: rest) [] [] pos) (tTry tb tx tr) := by
  intro pins s σ H D I h
  refine wpAny_Try_except ?_
  rcases h with h | ⟨E, h, q⟩
  · refine wpAny_mono (hb pins s σ H D (I.wish _) h) (fun f s1 z => ?_) (fun _ _ z => z.elim)
    cases f with
    | next => exact wpAny_execs_nil z.unwish
    | brk => exact z.unwish
    | cont => exact z.unwish
    | ret u => exact z.unwish
  · refine wpAny_mono (hx pins s σ H E I h) (fun _ _ z => z.elim) ?_
    rintro e s1 ⟨s0, H0, ea, C, dx, B, H', rfl, I0, T, qE⟩
    obtain ⟨a0, f⟩ := T.fly
    rw [hk] at f
    refine note_next (by rw [I0.ok.frames, hk]) hf f fun h1 f1 u1 => ?_
    rw [← hk] at f1
    have T1 := T.on f1 u1 I0
    refine flight_none f1 fun h2 f2 u2 => ?_
    have T2 := T1.on f2 u2 I0
    exact hh pins σ H0 H' D s0 _ ea C dx B I0 T2 (q C dx H' ea qE T2.none)
end
/-- a statement that never raises, in a def that may -/
theorem PS.nox {X : Cx} {st : Stmt} {t : TS} (h : PS X.nox st t) : PS X st t := fun pins s σ H D I hw =>
  wpAny_mono (h pins s σ H D (I.wish _) hw) (fun _ _ q => q.unwish) fun _ _ z => False.elim z
/-- an exception of class C that bears these fields -/
def Bears (E : XK) (H : Hp) (C : Addr) (fs : List (Str × V)) : Prop := ∀ d H', H d = none → Same H H' → H' d = some (xdo d fs) → E (.ref C) (some d) H'
/-- .. and that it is what came -/
def Got (H : Hp) (C : Addr) (fs : List (Str × V)) : XK := fun c dx H' => c = .ref C ∧ ∃ d, dx = some d ∧ H d = none ∧ Same H H' ∧ H' d = some (xdo d fs)
theorem Got.at {H H' : Hp} {C D ea : Addr} {fs : List (Str × V)} {dx : Option Addr} (g : Got H C fs (.ref D) dx H') (he : H' ea = none) : D = C ∧ ∃ d, dx = some d ∧ Same H (upd H' ea (xh ea C (some d))) ∧ upd H' ea (xh ea C (some d)) ea = some (xh ea C (some d)) ∧ upd H' ea (xh ea C (some d)) d = some (xdo d fs) := by
  obtain ⟨e, d, rfl, hd, sm, hdd⟩ := g
  cases e
  have ned : d ≠ ea := fun z => by rw [z, he] at hdd; cases hdd
  exact ⟨rfl, d, rfl, fun b o hb => (upd_ne (ne_of_none (sm _ _ hb) he)).trans (sm _ _ hb), upd_same, (upd_ne ned).trans hdd⟩
end L2

set_option Elab.async false
set_option linter.all false
set_option maxRecDepth 100000
set_option maxHeartbeats 4000000
namespace L2
open PySem PySem.Spec PyProof.Rows
/-! ### min(list of ints) -/
section
variable {X : Cx}
def rMinL (K : PySem.W.Frag) : List V → Hp → VK → Prop := fun xs H Q => ∃ (p : Addr) (ns : List Int), xs = [.ref p] ∧ SqL K H p (ns.map V.int) ∧ ns ≠ [] ∧ ∀ m ∈ ns, (∀ a ∈ ns, m ≤ a) → Q (.int m) H
end
/-! ### for x in d.values() -/
section
variable {X : Cx} {o : Expr} {apos cpos : Pos} {td : TE}
end
end L2

set_option Elab.async false
namespace L2
theorem xor_step (a b : Nat) : a ^^^ b = 2 * ((a / 2) ^^^ (b / 2)) + (if a % 2 ≠ b % 2 then 1 else 0) := by
  have h1 : (a ^^^ b) / 2 = (a / 2) ^^^ (b / 2) := Nat.xor_div_two
  have h2 : (a ^^^ b) % 2 = (if a % 2 ≠ b % 2 then 1 else 0) := by
    have := @Nat.xor_mod_two_eq_one a b
    by_cases h : a % 2 ≠ b % 2
    · rw [if_pos h]; rw [this]; omega
    · rw [if_neg h]
      have h3 : ¬ ((a ^^^ b) % 2 = 1) := by rw [this]; omega
      omega
  omega
theorem and_step (a b : Nat) : a &&& b = 2 * ((a / 2) &&& (b / 2)) + (if a % 2 = 1 ∧ b % 2 = 1 then 1 else 0) := by
  have h1 : (a &&& b) / 2 = (a / 2) &&& (b / 2) := Nat.and_div_two
  have h2 : (a &&& b) % 2 = (if a % 2 = 1 ∧ b % 2 = 1 then 1 else 0) := by
    have := @Nat.and_mod_two_eq_one a b
    by_cases h : a % 2 = 1 ∧ b % 2 = 1
    · rw [if_pos h]; exact this.mpr h
    · rw [if_neg h]
      have h3 : ¬ ((a &&& b) % 2 = 1) := fun z => h (this.mp z)
      omega
  omega
theorem xor_and (a : Nat) : ∀ b : Nat, (a ^^^ b) + 2 * (a &&& b) = a + b := by
  induction a using Nat.strongRecOn with
  | ind a ih =>
    intro b
    by_cases h : a = 0
    · subst h; simp
    · have q := ih (a / 2) (by omega) (b / 2)
      rw [xor_step a b, and_step a b]
      by_cases h1 : a % 2 = 1 <;> by_cases h2 : b % 2 = 1
      · rw [if_neg (by omega), if_pos ⟨h1, h2⟩]; omega
      · rw [if_pos (by omega), if_neg (by omega)]; omega
      · rw [if_pos (by omega), if_neg (by omega)]; omega
      · rw [if_neg (by omega), if_neg (by omega)]; omega
theorem bitAnd_nat (a b : Nat) : PySem.Builtin.bitAnd (a : Int) (b : Int) = ((a &&& b : Nat) : Int) := by
  unfold PySem.Builtin.bitAnd
  have h1 : decide (0 ≤ (a : Int)) = true := by simp
  have h2 : decide (0 ≤ (b : Int)) = true := by simp
  rw [h1, h2]
  rfl
theorem bitXor_nat (a b : Nat) : PySem.Builtin.bitXor (a : Int) (b : Int) = ((a ^^^ b : Nat) : Int) := by
  have q := xor_and a b
  rw [PyProof.Rows.bitXor_and, bitAnd_nat]
  omega
/-- turned by one bit, of sixteen -/
def rot (n : Nat) : Nat := 2 * (n % 32768) + n / 32768
theorem rot_lt {n : Nat} (h : n < 65536) : rot n < 65536 := by unfold rot; omega
theorem rot_part {y u x z : Nat} (hx : x < 2) (hz : z < 2) (h : 2 * y + x = 2 * u + z) : y = u ∧ x = z := by omega
theorem hi_lt {n : Nat} (h : n < 65536) : n / 32768 < 2 := by omega
theorem rot_inj {n m : Nat} (hn : n < 65536) (hm : m < 65536) (h : rot n = rot m) : n = m := by
  obtain ⟨h1, h2⟩ := rot_part (hi_lt hn) (hi_lt hm) h
  rw [← Nat.div_add_mod n 32768, ← Nat.div_add_mod m 32768, h1, h2]
theorem xor_lt16 {a b : Nat} (ha : a < 65536) (hb : b < 65536) : a ^^^ b < 65536 := Nat.xor_lt_two_pow (n := 16) ha hb
def sumF (h : Nat) (cs : List Nat) : Nat := cs.foldl (fun h c => rot h ^^^ c) h
theorem sumF_lt {cs : List Nat} (hc : ∀ c ∈ cs, c < 65536) : ∀ {h : Nat}, h < 65536 → sumF h cs < 65536 := by
  induction cs with
  | nil => intro h hh; exact hh
  | cons c r ih => intro h hh; exact ih (fun x hx => hc x (List.mem_cons_of_mem _ hx)) (xor_lt16 (rot_lt hh) (hc c List.mem_cons_self))
theorem xor_left {a b c : Nat} (h : a ^^^ c = b ^^^ c) : a = b := by
  have z : (a ^^^ c) ^^^ c = (b ^^^ c) ^^^ c := by rw [h]
  rwa [Nat.xor_assoc, Nat.xor_self, Nat.xor_zero, Nat.xor_assoc, Nat.xor_self, Nat.xor_zero] at z
theorem xor_right {a b c : Nat} (h : c ^^^ a = c ^^^ b) : a = b := xor_left (c := c) (by rw [Nat.xor_comm a, Nat.xor_comm b]; exact h)
theorem sumF_inj {cs : List Nat} (hc : ∀ c ∈ cs, c < 65536) : ∀ {h g : Nat}, h < 65536 → g < 65536 → sumF h cs = sumF g cs → h = g := by
  induction cs with
  | nil => intro h g _ _ e; exact e
  | cons c r ih =>
    intro h g hh hg e
    have hc0 := hc c List.mem_cons_self
    exact rot_inj hh hg (xor_left (ih (fun x hx => hc x (List.mem_cons_of_mem _ hx)) (xor_lt16 (rot_lt hh) hc0) (xor_lt16 (rot_lt hg) hc0) e))
theorem sumF_app (h : Nat) (a b : List Nat) : sumF h (a ++ b) = sumF (sumF h a) b := by simp [sumF, List.foldl_append]
theorem sum_other {p r : List Nat} {a b : Nat} (hp : ∀ c ∈ p, c < 128) (hr : ∀ c ∈ r, c < 128) (ha : a < 128) (hb : b < 128) (hab : a ≠ b) : sumF 0 (p ++ [b] ++ r) ≠ sumF 0 (p ++ [a] ++ r) := by
  intro e
  have w : ∀ {l : List Nat}, (∀ c ∈ l, c < 128) → ∀ c ∈ l, c < 65536 := fun h c hc => Nat.lt_trans (h c hc) (by decide)
  rw [sumF_app, sumF_app, sumF_app, sumF_app] at e
  have hs : sumF 0 p < 65536 := sumF_lt (w hp) (by decide)
  have e2 := sumF_inj (w hr) (xor_lt16 (rot_lt hs) (show b < 65536 by omega)) (xor_lt16 (rot_lt hs) (show a < 65536 by omega)) e
  exact hab (xor_right e2).symm
/-- the program's step -/
theorem sum_step {n c : Nat} (hn : n < 65536) : PySem.Builtin.bitXor (PySem.Builtin.bitOr (PySem.Builtin.bitAnd ((n : Int) * 2) 65535) ((n : Int) / 32768)) (c : Int) = ((rot n ^^^ c : Nat) : Int) := by
  have e1 : (n : Int) * 2 % 65536 = ((2 * (n % 32768) : Nat) : Int) := by omega
  have e2 : (n : Int) / 32768 = ((n / 32768 : Nat) : Int) := by omega
  rw [PyProof.Rows.bitAnd_m16, e1, e2, PyProof.Rows.bitOr_and, bitAnd_nat, and_step]
  have h1 : n / 32768 / 2 = 0 := by omega
  rw [h1, Nat.and_zero, if_neg (by omega)]
  rw [← bitXor_nat]
  unfold rot
  congr 1
theorem lsum_step {n c : Nat} (hn : n < 65536) : PySem.Builtin.bitXor ((n : Int) * 2 % 65536 + (n : Int) / 32768) (c : Int) = ((rot n ^^^ c : Nat) : Int) := by
  have e1 : (n : Int) * 2 % 65536 + (n : Int) / 32768 = ((rot n : Nat) : Int) := by unfold rot; omega
  rw [e1, bitXor_nat]
theorem sumF_snoc {l : List Nat} {i c : Nat} (h : l[i]? = some c) : sumF 0 (l.take (i + 1)) = rot (sumF 0 (l.take i)) ^^^ c := by
  rw [List.take_add_one, h]
  simp [sumF, List.foldl_append]
end L2

set_option Elab.async false
set_option linter.all false
namespace L2
open PySem PySem.Spec PyProof.Rows
/-! ### a body walked piece by piece; lists by their length -/
theorem cut1 {t1 tR : TS} {D : Ends} {σ : L2.St} {H : Hp} (h : ∀ R, R = tR → tSeq t1 R D σ H) : tSeq t1 tR D σ H := h _ rfl
theorem cut2 {t1 t2 tR : TS} {D : Ends} {σ : L2.St} {H : Hp} (h : ∀ R, R = tR → tSeq t1 (tSeq t2 R) D σ H) : tSeq t1 (tSeq t2 tR) D σ H := h _ rfl
theorem cut5 {t1 t2 t3 t4 t5 tR : TS} {D : Ends} {σ : L2.St} {H : Hp} (h : ∀ R, R = tR → tSeq t1 (tSeq t2 (tSeq t3 (tSeq t4 (tSeq t5 R)))) D σ H) : tSeq t1 (tSeq t2 (tSeq t3 (tSeq t4 (tSeq t5 tR)))) D σ H := h _ rfl
theorem el1 {α : Type} {p : List α → Prop} (h : ∀ a, p [a]) : ∀ us : List α, us.length = 1 → p us
  | [a], _ => h a
theorem el2 {α : Type} {p : List α → Prop} (h : ∀ a b, p [a, b]) : ∀ us : List α, us.length = 2 → p us
  | [a, b], _ => h a b
theorem el3 {α : Type} {p : List α → Prop} (h : ∀ a b c, p [a, b, c]) : ∀ us : List α, us.length = 3 → p us
  | [a, b, c], _ => h a b c
theorem el4 {α : Type} {p : List α → Prop} (h : ∀ a b c d, p [a, b, c, d]) : ∀ us : List α, us.length = 4 → p us
  | [a, b, c, d], _ => h a b c d
end L2

set_option Elab.async false
set_option linter.all false
set_option maxRecDepth 100000
set_option maxHeartbeats 4000000
namespace L2
open PySem PySem.Spec PyProof.Rows
/-! ### texts parted by a sign -/
def splitL (c : Nat) : List Nat → List (List Nat)
  | [] => [[]]
  | x :: r => if x = c then [] :: splitL c r else match splitL c r with
    | [] => [[x]]
    | p :: ps => (x :: p) :: ps
section
variable {X : Cx}
/-! ### text.startswith(text) -/
def rSw : V → List V → Hp → VK → Prop := fun x vs H Q => ∃ a b, x = .str a ∧ vs = [.str b] ∧ Q (.bl (Txt.startswith a b)) H
theorem mt_startswith : MtR X "str.startswith" rSw := by
  intro pins s σ H x vs v us Q I rx rv h
  obtain ⟨a, b, rfl, rfl, q⟩ := h
  obtain ⟨t, rfl⟩ := rx
  obtain ⟨u, rfl, t', rfl⟩ := vals1 rv
  exact SC.startswith ⟨.bl _, H, I, rfl, q⟩
theorem startswith_S (c : Nat) (a : List Nat) : Txt.startswith (S a) (S [c]) = decide (a[0]? = some c) := by
  have h := StrLaws.subAt_one (S a) c 0
  have e : Txt.startswith (S a) (S [c]) = (decide (0 + (S [c]).length ≤ (S a).length) && Builtin.Str.subAt (S a) (S [c]) 0) := rfl
  rw [e, Bool.eq_iff_iff, Bool.and_eq_true, decide_eq_true_eq, decide_eq_true_eq]
  exact h
/-! ### text.split(sign) -/
def rSplit : V → List V → Hp → VK → Prop := fun x vs H Q => ∃ a c, x = .str (S a) ∧ vs = [.str (S [c])] ∧ a.length ≤ 1000000 ∧ ∀ l, H l = none → Q (.ref l) (upd H l (.lst ((splitL c a).map fun p => V.str (S p))))
open Builtin Builtin.Str in
end
end L2

set_option Elab.async false
set_option linter.all false
set_option maxRecDepth 100000
set_option maxHeartbeats 4000000
namespace L2
open PySem PySem.Spec PyProof.Rows
/-! ### the tokens' counter never falls -/
theorem runs_toks {M : Model} {Γ : PySem.Ctx} {p : Pos} {t : Sem PySem.Fin} {fs : List Frame} {s s' : Shared} {e : End} (h : Runs M Γ p t fs s e s') : s.toks ≤ s'.toks := by
  induction h <;> first
    | exact Nat.le_refl _
    | assumption
    | (rename_i ih; exact ih)
    | (rename_i ih1 ih2; exact Nat.le_trans ih1 ih2)
    | (rename_i ih; exact Nat.le_trans (Nat.le_succ _) ih)
theorem wakes_toks {M : Model} {Γ : PySem.Ctx} {p : Pos} {g : Nat} {r : Resume} {s s' : Shared} {res : GenResult} (h : Wakes M Γ p g r s res s') : s.toks ≤ s'.toks := by
  unfold Wakes at h
  split at h
  · exact h.elim
  · split at h
    · obtain ⟨e, s1, hr, _, _, rfl⟩ := h
      have := runs_toks hr
      exact this
    · rw [h.2]; exact Nat.le_refl _
    · rw [h.2]; exact Nat.le_refl _
  · obtain ⟨e, s1, hr, _, _, rfl⟩ := h
    have := runs_toks hr
    exact this
  · rw [h.2]; exact Nat.le_refl _
  · rw [h.2]; exact Nat.le_refl _
theorem wp_toks {α : Type} {M : Model} {Γ : PySem.Ctx} (t : Sem α) : ∀ (Q : α → Pos → Shared → Prop) (E : Value → Pos → Shared → Prop) (p : Pos) (s : Shared) (n : Nat), n ≤ s.toks → Sem.wp M Γ t Q E p s →
    Sem.wp M Γ t (fun a p' s' => Q a p' s' ∧ n ≤ s'.toks) (fun e p' s' => E e p' s' ∧ n ≤ s'.toks) p s := by
  induction t with
  | pure a => intro Q E p s n hn h; rw [Sem.wp] at h ⊢; exact ⟨h, hn⟩
  | raise a => intro Q E p s n hn h; rw [Sem.wp] at h ⊢; exact ⟨h, hn⟩
  | load a pt k ih => intro Q E p s n hn h; rw [Sem.wp] at h ⊢; obtain ⟨o, h1, h2⟩ := h; exact ⟨o, h1, ih _ _ _ _ _ _ hn h2⟩
  | update a pt f k ih => intro Q E p s n hn h; rw [Sem.wp] at h ⊢; exact ⟨h.1, ih _ _ _ _ _ _ hn h.2⟩
  | fresh k ih => intro Q E p s n hn h; rw [Sem.wp] at h ⊢; exact ih _ _ _ _ _ _ (Nat.le_trans hn (Nat.le_succ _)) h
  | choose src m k ih => intro Q E p s n hn h; rw [Sem.wp] at h ⊢; exact ⟨h.1, ih _ _ _ _ _ _ hn h.2⟩
  | call c hd g l k ih =>
    intro Q E p s n hn h
    rw [Sem.wp] at h ⊢
    obtain ⟨r, s', hr, h2⟩ := h
    exact ⟨r, s', hr, ih _ _ _ _ _ _ (Nat.le_trans hn (runs_toks hr)) h2⟩
  | genState g k ih => intro Q E p s n hn h; rw [Sem.wp] at h ⊢; obtain ⟨o, h1, h2⟩ := h; exact ⟨o, h1, ih _ _ _ _ _ _ hn h2⟩
  | resume g r l k ih =>
    intro Q E p s n hn h
    rw [Sem.wp] at h ⊢
    obtain ⟨r, s', hr, h2⟩ := h
    exact ⟨r, s', hr, ih _ _ _ _ _ _ (Nat.le_trans hn (wakes_toks hr)) h2⟩
  | _ =>
    intro Q E p s n hn h
    rw [Sem.wp] at h
    first
    | exact h.elim
    | (rw [Sem.wp]; rename_i ih; exact ih _ _ _ _ _ _ hn h)
theorem any_toks {α : Type} {M : Model} {A : Around} {t : Sem α} {Q : α → Shared → Prop} {E : Value → Shared → Prop} {s : Shared} (h : wpAny M A t Q E s) :
    wpAny M A t (fun a s' => Q a s' ∧ s.toks ≤ s'.toks) E s := fun Γ p hΓ =>
  Sem.wp_mono M Γ t (fun _ _ _ x => x) (fun _ _ _ x => x.1) p s (wp_toks t _ _ p s s.toks (Nat.le_refl _) (h Γ p hΓ))
/-! ### expressions where the counter is known not to be 0 -/
def PE1 (X : Cx) (e : Expr) (t : TE) : Prop :=
  ∀ (pins : List (Addr × Obj)) (s : Shared) (σ : St) (H : Hp) (Q : VK), 0 < s.toks → Inv X pins σ H s → t σ H Q → wpAny (model X.prog X.w) X.A (eval e X.env) (fun u s' => EP X pins σ Q u s' ∧ 0 < s'.toks) X.xe s
def PSs1 (X : Cx) (st : List Stmt) (t : TS) : Prop :=
  ∀ (pins : List (Addr × Obj)) (s : Shared) (σ : St) (H : Hp) (D : Ends), 0 < s.toks → Inv X pins σ H s → t D σ H → wpAny (model X.prog X.w) X.A (execs st X.env) (SP X pins D) X.xe s
section
variable {X : Cx} {e : Expr} {te : TE} {pos : Pos}
theorem PE.one (h : PE X e te) : PE1 X e te := fun pins s σ H Q h0 I q => thn (any_toks (h pins s σ H Q I q)) fun _ _ x => ⟨x.1, Nat.lt_of_lt_of_le h0 x.2⟩
theorem PSs.one {st : List Stmt} {t : TS} (h : PSs X st t) : PSs1 X st t := fun pins s σ H D _ I q => h pins s σ H D I q
/-- o.replace(c, z), one sign for a text, both written -/
def tRepl (K : PySem.W.Frag) (c : Nat) (z : List Nat) (to : TE) : TE := fun σ H Q => to σ H fun x H1 => ∃ a, x = .str (S a) ∧ a.length + (a.length + 1) * z.length ≤ 16777216 ∧ Q (.str (S (joinL z (splitL c a)))) H1
end
/-! ### a def of one parameter: at its entry the counter is not 0 -/
section
variable {P : Program} {w : World} {K : PySem.W.Frag} {mg : Str → Option Value} {base : Heap}
end
end L2

set_option Elab.async false
set_option linter.all false
set_option maxRecDepth 100000
set_option maxHeartbeats 4000000
namespace L2
open PySem PySem.Spec PyProof.Rows
/-! ### texts guarded and unguarded -/
def gd1 (c : Nat) : List Nat := if c = 126 then [126, 119] else if c = 59 then [126, 115] else [c]
def gd (a : List Nat) : List Nat := a.flatMap gd1
def un : List Nat → Option (List Nat)
  | [] => some []
  | c :: r => if c = 126 then (match r with
      | [] => none
      | d :: r' => if d = 119 then (un r').map (126 :: ·) else if d = 115 then (un r').map (59 :: ·) else none)
    else (un r).map (c :: ·)
def fixP : List Nat → Option (List Nat)
  | [] => none
  | d :: r => if d = 119 then some (126 :: r) else if d = 115 then some (59 :: r) else none
def unPs : List (List Nat) → Option (List (List Nat))
  | [] => some []
  | p :: ps => match fixP p with
    | none => none
    | some x => (unPs ps).map (x :: ·)
def unSp (l : List (List Nat)) : Option (List Nat) := match l with
  | [] => none
  | p :: ps => (unPs ps).map fun l => p ++ l.flatten
def fx (p : List Nat) : List Nat := (fixP p).getD []
theorem take_snoc1 {α : Type} {l : List α} {i : Nat} {x : α} (h : l[i]? = some x) : l.take (i + 1) = l.take i ++ [x] := by
  obtain ⟨hi, rfl⟩ := List.getElem?_eq_some_iff.mp h
  exact (List.take_append_getElem hi).symm
/-! ### what the text's own defs promise -/
def sp_guarded : Sp := fun vs H Q _ => ∃ a, vs = [.str (S a)] ∧ a.length ≤ 1000000 ∧ Q (.str (S (gd a))) H
/-- unguarded, of a good text -/
def sp_unguarded : Sp := fun vs H Q _ => ∃ b a, vs = [.str (S b)] ∧ b.length ≤ 1000000 ∧ un b = some a ∧ ∀ H', Same H H' → Q (.str (S a)) H'
def tx (l : List (List Nat)) : List V := l.map fun a => V.str (S a)
theorem denAll_tx {K : PySem.W.Frag} {H : Hp} : ∀ l : List (List Nat), DenAll K H (tx l) (l.map fun a => PyData.str (S a))
  | [] => .nil
  | a :: r => .cons (.str (S a)) (denAll_tx r)
theorem den_tx {K : PySem.W.Frag} {H : Hp} {p : Addr} {l : List (List Nat)} (h : SqL K H p (tx l)) : Den K H (.ref p) (.list (l.map fun a => PyData.str (S a))) := .lst h (denAll_tx l)
theorem wd_tx {l : List (List Nat)} (h : ∀ a ∈ l, okS a) : wd 1 (.list (l.map fun a => PyData.str (S a))) := wd_list fun d hd => by
  obtain ⟨a, ha, rfl⟩ := List.mem_map.mp hd
  exact wd_str 0 (h a ha)
theorem none_of_same {H H' : Hp} {a : Addr} (s : Same H H') (h : H' a = none) : H a = none := by
  cases e : H a with
  | none => rfl
  | some o => rw [s _ _ e] at h; cases h
def sp_joined (K : PySem.W.Frag) : Sp := fun vs H Q _ => ∃ p l, vs = [.ref p] ∧ SqL K H p (tx l) ∧ (l.map List.length).sum + l.length ≤ 1000000 ∧ ∀ H', Same H H' → Q (.str (S (joinL [59] (l.map gd)))) H'
def sp_parted : Sp := fun vs H Q _ => ∃ t l, vs = [.str (S t)] ∧ t.length ≤ 1000000 ∧ splitL 59 t = l.map gd ∧ ∀ p H', H p = none → Same H H' → H' p = some (.lst (tx l)) → Q (.ref p) H'
/-! ### the laws' signs -/
def sgB (n : Int) : Nat := if (n % 94).toNat < 5 then 32 + (n % 94).toNat else 33 + (n % 94).toNat
def TB1 : List Nat := [32, 33, 34, 35, 36, 38, 39, 40, 41, 42, 43, 44, 45, 46, 47, 48, 49, 50, 51, 52, 53, 54, 55, 56, 57, 58, 59, 60, 61, 62, 63, 64, 65, 66, 67, 68, 69, 70, 71, 72, 73, 74, 75, 76, 77, 78, 79, 80, 81, 82, 83, 84, 85, 86, 87, 88, 89, 90, 91, 92, 93, 94, 95, 96]
def TB2 : List Nat := [97, 98, 99, 100, 101, 102, 103, 104, 105, 106, 107, 108, 109, 110, 111, 112, 113, 114, 115, 116, 117, 118, 119, 120, 121, 122, 123, 124, 125, 126]
theorem sgB_tab : ∀ i : _root_.Fin 94, (TB1 ++ TB2)[i.val]? = some (if i.val < 5 then 32 + i.val else 33 + i.val) := by decide +kernel
theorem sgB_at (n : Int) : (TB1 ++ TB2)[(n % 94).toNat]? = some (sgB n) := by
  have h : (n % 94).toNat < 94 := by omega
  exact sgB_tab ⟨(n % 94).toNat, h⟩
theorem sgB_lt (n : Int) : sgB n < 128 := by
  unfold sgB
  have h : (n % 94).toNat < 94 := by omega
  split <;> omega
def sp_signB : Sp := fun vs H Q _ => ∃ n : Int, vs = [.int n] ∧ Q (.str (S [sgB n])) H
def tbS (c : Int) : Nat := (if mixN c 2 % 16 = 0 then mixN c 3 % 120 else mixN c 1 % 10).toNat
def tbG (c : Int) (k : Nat) : Nat := if mixN c 4 % 2 = 0 then sgB (mixN c (10 + k)) else [126, 59, 119, 115].getD (mixN c (10 + k) % 4).toNat 0
def tb11 (c : Int) : List Nat := (List.range (tbS c)).map (tbG c)
def sp_textb11 : Sp := fun vs H Q _ => ∃ c : Int, vs = [.int c] ∧ Q (.str (S (tb11 c))) H
def sp_written11 : Sp := fun vs H Q _ => ∃ a : List Nat, vs = [.str (S a)] ∧ a.length ≤ 1000 ∧ Q (.str (S (gd a))) H
end L2

set_option Elab.async false
set_option linter.all false
set_option maxRecDepth 100000
set_option maxHeartbeats 4000000
namespace L2
open PySem PySem.Spec PyProof.Rows
/-! ### numbers as figures -/
theorem strI_nat (m : Nat) : strI (m : Int) = (Nat.toDigits 10 m).map Char.toNat := PySem.W.KIN.signs_num m
theorem strI_le {m k : Nat} (hk : 1 ≤ k) (h : m < 10 ^ k) : (strI (m : Int)).length ≤ k := by
  rw [strI_nat, List.length_map]
  exact digits10_le hk h
theorem dig_toNat : ∀ d : Nat, d < 10 → (Nat.digitChar d).toNat = 48 + d := by decide
theorem strI_dig (m : Nat) : ∀ c ∈ strI (m : Int), 48 ≤ c ∧ c ≤ 57 := by
  rw [strI_nat]
  induction m using Nat.strongRecOn with
  | _ m ih =>
    by_cases h : m < 10
    · rw [Nat.toDigits_of_lt_base h]
      intro c hc
      simp at hc
      rw [hc, dig_toNat m h]; omega
    · have hm : m % 10 < 10 := Nat.mod_lt m (by decide)
      have t : Nat.toDigits 10 (m / 10) ++ Nat.toDigits 10 (m % 10) = Nat.toDigits 10 (10 * (m / 10) + m % 10) := Nat.toDigits_append_toDigits (by decide) (by omega) hm
      rw [Nat.div_add_mod] at t
      rw [← t, List.map_append, Nat.toDigits_of_lt_base hm]
      intro c hc
      rcases List.mem_append.mp hc with hc | hc
      · exact ih (m / 10) (by omega) c hc
      · simp at hc
        rw [hc, dig_toNat _ hm]; omega
theorem strI_pos (m : Nat) : 1 ≤ (strI (m : Int)).length := by
  rw [strI_nat, List.length_map]; exact tDigits_len_ge 10 m
def zf (w m : Nat) : List Nat := List.replicate (w - (strI (m : Int)).length) 48 ++ strI (m : Int)
theorem zf_len {w m : Nat} (hw : 1 ≤ w) (h : m < 10 ^ w) : (zf w m).length = w := by
  have := strI_le hw h
  unfold zf
  rw [List.length_append, List.length_replicate]; omega
theorem zf_dig (w m : Nat) : ∀ c ∈ zf w m, 48 ≤ c ∧ c ≤ 57 := fun c hc => by
  rcases List.mem_append.mp hc with hc | hc
  · rw [(List.mem_replicate.mp hc).2]; decide
  · exact strI_dig m c hc
theorem val_zeros (n : Nat) (l : List Nat) : NumText.digitsVal (List.replicate n 48 ++ l) = NumText.digitsVal l := by
  induction n with
  | zero => rfl
  | succ n ih => rw [List.replicate_succ, List.cons_append]; exact ih
theorem zf_val (w m : Nat) : NumText.digitsVal (zf w m) = m := by
  unfold zf
  rw [val_zeros, strI_nat]
  exact PySem.W.KIN.val_back m
theorem zf_inj {w m n : Nat} (h : zf w m = zf w n) : m = n := by
  rw [← zf_val w m, h, zf_val]
theorem zfill_S (m w : Nat) : Txt.zfill (S (strI (m : Int))) (w : Int) = S (zf w m) := by
  unfold Txt.zfill zf
  rw [S_len]
  by_cases h : (w : Int) ≤ ((strI (m : Int)).length : Int)
  · rw [if_pos h, show w - (strI (m : Int)).length = 0 by omega]; rfl
  · rw [if_neg h, show ((w : Int).toNat - (strI (m : Int)).length) = w - (strI (m : Int)).length by omega]
    have h0 := strI_pos m
    have hd := strI_dig m
    have hc : PySem.zfilled (S (strI (m : Int))) (w - (strI (m : Int)).length) = Builtin.Str.padded (S (strI (m : Int))) (w - (strI (m : Int)).length) 0 48 := by
      cases hl : strI (m : Int) with
      | nil => rw [hl] at h0; simp at h0
      | cons c r =>
        have hc := hd c (by rw [hl]; simp)
        unfold PySem.zfilled
        split
        · rename_i e; have e' : c = 43 := by simpa using e
          omega
        · rename_i e; have e' : c = 45 := by simpa using e
          omega
        · rfl
    rw [hc]
    unfold Builtin.Str.padded
    simp [S]
def rZf : V → List V → Hp → VK → Prop := fun x vs H Q => ∃ m w : Nat, x = .str (S (strI (m : Int))) ∧ vs = [.int (w : Int)] ∧ w ≤ 1000 ∧ Q (.str (S (zf w m))) H
section
variable {X : Cx}
open Builtin Builtin.Str in
theorem mt_zfill : MtR X "str.zfill" rZf := by
  intro pins s σ H x vs v us Q I rx rv h
  obtain ⟨m, w, rfl, rfl, hw, q⟩ := h
  obtain ⟨t, rfl⟩ := rx
  obtain ⟨u, rfl, t', rfl⟩ := vals1 rv
  refine SC.zfill ?_ fun t' k => ?_
  · unfold PadOk fitsSsize tooLong sizeLine
    rw [Bool.and_eq_true, Bool.not_eq_true', Bool.not_eq_true']
    refine ⟨?_, decide_eq_false (by omega)⟩
    rw [Bool.or_eq_false_iff]
    exact ⟨decide_eq_false (by omega), decide_eq_false (by omega)⟩
  · rw [zfill_S]
    exact ⟨.str _, H, I.tok k, ⟨t', rfl⟩, q⟩
end
theorem cutL_neg (l : List Nat) (w : Nat) (hw : 0 < w) : cutL l (some (-(w : Int))) none = l.drop (l.length - w) := by
  have e : HT.sIx l.length 0 (some (-(w : Int))) = l.length - w := by
    have h := HT.clip_eq (-(w : Int)) l.length 0
    rw [if_pos (by omega)] at h
    omega
  unfold cutL
  rw [e, HT.sIx_none, List.take_of_length_le (by rw [List.length_drop]; omega)]
theorem cutL_zf {w m : Nat} (hw : 0 < w) (h : m < 10 ^ w) : cutL (List.replicate w 48 ++ strI (m : Int)) (some (-(w : Int))) none = zf w m := by
  have hl := strI_le hw h
  rw [cutL_neg _ _ hw, List.length_append, List.length_replicate, List.drop_append_of_le_length (by rw [List.length_replicate]; omega), List.drop_replicate]
  unfold zf
  congr 2
  omega
/-! ### lines -/
def pfL (n : Nat) (b : List Nat) : List Nat := zf 6 n ++ [32] ++ zf 5 (sumF 0 b) ++ [32]
def hdL (n : Nat) (b : List Nat) : List Nat := pfL n b ++ (zf 4 b.length ++ [32])
def lineL (n : Nat) (b : List Nat) : List Nat := hdL n b ++ b
structure GoodB (n : Nat) (b : List Nat) : Prop where
  n : n < 1000000
  c : ∀ c ∈ b, c < 128
  l : b.length < 10000
theorem GoodB.sum {n : Nat} {b : List Nat} (g : GoodB n b) : sumF 0 b < 65536 := sumF_lt (fun c hc => Nat.lt_trans (g.c c hc) (by decide)) (by decide)
theorem GoodB.pf {n : Nat} {b : List Nat} (g : GoodB n b) : (pfL n b).length = 13 := by
  have := g.sum
  unfold pfL
  simp only [List.length_append, List.length_cons, List.length_nil]
  rw [zf_len (by decide) g.n, zf_len (by decide) (Nat.lt_trans this (by decide))]
theorem GoodB.hd {n : Nat} {b : List Nat} (g : GoodB n b) : (hdL n b).length = 18 := by
  unfold hdL
  rw [List.length_append, g.pf, List.length_append, zf_len (by decide) g.l]; rfl
theorem GoodB.len {n : Nat} {b : List Nat} (g : GoodB n b) : (lineL n b).length = 18 + b.length := by
  unfold lineL; rw [List.length_append, g.hd]
theorem GoodB.drop {n : Nat} {b : List Nat} (g : GoodB n b) : (lineL n b).drop 18 = b := by
  unfold lineL; rw [← g.hd, List.drop_left]
theorem GoodB.take {n : Nat} {b : List Nat} (g : GoodB n b) : (lineL n b).take 18 = hdL n b := by
  unfold lineL; rw [← g.hd, List.take_left]
theorem GoodB.t17 {n : Nat} {b : List Nat} (g : GoodB n b) : ((lineL n b).take 17).drop 13 = zf 4 b.length := by
  have e : lineL n b = (pfL n b ++ zf 4 b.length) ++ ([32] ++ b) := by unfold lineL hdL; simp
  have l : (pfL n b ++ zf 4 b.length).length = 17 := by rw [List.length_append, g.pf, zf_len (by decide) g.l]
  rw [e, ← l, List.take_left, ← g.pf, List.drop_left]
theorem GoodB.a16 {n : Nat} {b : List Nat} (g : GoodB n b) : ∃ c, (lineL n b)[16]? = some c ∧ 48 ≤ c := by
  have h := g.t17
  have z := zf_len (w := 4) (by decide) g.l
  have e : (zf 4 b.length)[3]? = (lineL n b)[16]? := by
    rw [← h, List.getElem?_drop, List.getElem?_take_of_lt (by decide)]
  rw [← e, List.getElem?_eq_getElem (by omega)]
  exact ⟨_, rfl, (zf_dig _ _ _ (List.getElem_mem _)).1⟩
theorem GoodB.a17 {n : Nat} {b : List Nat} (g : GoodB n b) : (lineL n b)[17]? = some 32 := by
  have e : lineL n b = (pfL n b ++ zf 4 b.length) ++ ([32] ++ b) := by unfold lineL hdL; simp
  have l : (pfL n b ++ zf 4 b.length).length = 17 := by rw [List.length_append, g.pf, zf_len (by decide) g.l]
  rw [e, List.getElem?_append_right (by omega), l]; rfl
/-- two lines of one head -/
theorem line_len {n : Nat} {b b' : List Nat} (g : GoodB n b) (g' : GoodB n b') (h : (lineL n b').take 17 = (lineL n b).take 17) : b'.length = b.length := by
  have := congrArg (List.drop 13) h
  rw [g.t17, g'.t17] at this
  exact zf_inj this
theorem line_sum {n : Nat} {b b' : List Nat} (g : GoodB n b) (g' : GoodB n b') (h : (lineL n b').take 18 = (lineL n b).take 18) : sumF 0 b' = sumF 0 b := by
  rw [g.take, g'.take] at h
  unfold hdL pfL at h
  have l1 := zf_len (w := 6) (by decide) g.n
  have l2 := zf_len (w := 5) (by decide) (Nat.lt_trans g.sum (show 65536 < 10 ^ 5 by decide))
  have l3 := zf_len (w := 5) (by decide) (Nat.lt_trans g'.sum (show 65536 < 10 ^ 5 by decide))
  have h2 := congrArg (fun l => (l.drop 7).take 5) h
  have e : ∀ b : List Nat, (zf 5 (sumF 0 b)).length = 5 → (((zf 6 n ++ [32] ++ zf 5 (sumF 0 b) ++ [32] ++ (zf 4 b.length ++ [32])).drop 7).take 5) = zf 5 (sumF 0 b) := fun b l => by
    have : zf 6 n ++ [32] ++ zf 5 (sumF 0 b) ++ [32] ++ (zf 4 b.length ++ [32]) = (zf 6 n ++ [32]) ++ (zf 5 (sumF 0 b) ++ ([32] ++ (zf 4 b.length ++ [32]))) := by simp
    rw [this, show 7 = (zf 6 n ++ [32]).length by rw [List.length_append, l1]; rfl, List.drop_left]
    exact List.take_left' l
  rw [e b' l3, e b l2] at h2
  exact zf_inj h2
theorem line_number {n m : Nat} {b b' : List Nat} (g : GoodB n b) (g' : GoodB m b') (h : lineL n b = lineL m b') : n = m := by
  have l1 := zf_len (w := 6) (by decide) g.n
  have l2 := zf_len (w := 6) (by decide) g'.n
  have h2 := congrArg (List.take 6) h
  have e : ∀ (k : Nat) (b : List Nat), (zf 6 k).length = 6 → (lineL k b).take 6 = zf 6 k := fun k b l => by
    unfold lineL hdL pfL
    simp only [List.append_assoc]
    exact List.take_left' l
  rw [e n b l1, e m b' l2] at h2
  exact zf_inj h2
/-! ### spoiled lines -/
section
variable {n : Nat} {b : List Nat} {i c : Nat}
theorem take_pre {L X : List Nat} {k : Nat} (hk : k ≤ i) (hi : i ≤ L.length) : (L.take i ++ X).take k = L.take k := by
  rw [List.take_append_of_le_length (by rw [List.length_take]; omega), List.take_take, Nat.min_eq_left hk]
theorem get_post {L X : List Nat} {k : Nat} (hk : i ≤ k) (hi : i ≤ L.length) : (L.take i ++ X)[k]? = X[k - i]? := by
  have : (L.take i).length = i := by rw [List.length_take]; omega
  rw [List.getElem?_append_right (by omega), this]
theorem drop_post {L X : List Nat} {k : Nat} (hk : i ≤ k) (hi : i ≤ L.length) : (L.take i ++ X).drop k = X.drop (k - i) := by
  have : (L.take i).length = i := by rw [List.length_take]; omega
  rw [List.drop_append, List.drop_eq_nil_of_le (by omega), this, List.nil_append]
theorem drop_pre {L X : List Nat} {k : Nat} (hk : k ≤ i) (hi : i ≤ L.length) : (L.take i ++ X).drop k = (L.drop k).take (i - k) ++ X := by
  have : (L.take i).length = i := by rw [List.length_take]; omega
  rw [List.drop_append_of_le_length (by omega), List.drop_take]
theorem spoil_cut (g : GoodB n b) (hi : i < (lineL n b).length) (g' : GoodB n (((lineL n b).take i).drop 18)) : (lineL n b).take i ≠ lineL n (((lineL n b).take i).drop 18) := fun e => by
  have hl := congrArg List.length e
  rw [g'.len, List.length_drop, List.length_take] at hl
  have hl2 := g.len
  have h17 : (lineL n (((lineL n b).take i).drop 18)).take 17 = (lineL n b).take 17 := by
    rw [← e, List.take_take, Nat.min_eq_left (by omega)]
  have := line_len g g' h17
  rw [List.length_drop, List.length_take] at this
  omega
theorem spoil_change (g : GoodB n b) (hi : i < (lineL n b).length) (hc : c < 128) (hne : (lineL n b)[i]? ≠ some c) (g' : GoodB n (((lineL n b).take i ++ [c] ++ (lineL n b).drop (i + 1)).drop 18)) :
    (lineL n b).take i ++ [c] ++ (lineL n b).drop (i + 1) ≠ lineL n (((lineL n b).take i ++ [c] ++ (lineL n b).drop (i + 1)).drop 18) := fun e => by
  rw [List.append_assoc] at e g'
  have hl2 := g.len
  by_cases h : 18 ≤ i
  · have h18 : (lineL n (((lineL n b).take i ++ ([c] ++ (lineL n b).drop (i + 1))).drop 18)).take 18 = (lineL n b).take 18 := by
      rw [← e]; exact take_pre h (by omega)
    have hs := line_sum g g' h18
    rw [drop_pre h (by omega), g.drop] at hs g'
    obtain ⟨a, ha⟩ : ∃ a, b[i - 18]? = some a := by
      rw [List.getElem?_eq_getElem (by omega)]; exact ⟨_, rfl⟩
    have hLa : (lineL n b)[i]? = some a := by
      rw [← ha]
      conv => rhs; rw [← g.drop]
      rw [List.getElem?_drop, show 18 + (i - 18) = i by omega]
    have hpart := part_at ha
    have hd : (lineL n b).drop (i + 1) = b.drop (i - 18 + 1) := by
      conv => rhs; rw [← g.drop]
      rw [List.drop_drop, show 18 + (i - 18 + 1) = i + 1 by omega]
    rw [hd] at hs
    have hab : a ≠ c := fun z => hne (by rw [hLa, z])
    have := sum_other (p := b.take (i - 18)) (r := b.drop (i - 18 + 1)) (fun x hx => g.c x (List.mem_of_mem_take hx)) (fun x hx => g.c x (List.mem_of_mem_drop hx)) (g.c a (List.mem_of_getElem? ha)) hc hab
    rw [← hpart] at this
    exact this (by rw [List.append_assoc]; exact hs)
  · have hb : ((lineL n b).take i ++ ([c] ++ (lineL n b).drop (i + 1))).drop 18 = b := by
      rw [drop_post (by omega) (by omega)]
      rw [show ([c] ++ (lineL n b).drop (i + 1)).drop (18 - i) = ((lineL n b).drop (i + 1)).drop (18 - i - 1) by
        obtain ⟨k, hk⟩ : ∃ k, 18 - i = k + 1 := ⟨18 - i - 1, by omega⟩
        rw [hk]; rfl]
      rw [List.drop_drop, show i + 1 + (18 - i - 1) = 18 by omega, g.drop]
    rw [hb] at e
    have hx := congrArg (fun l => l[i]?) e
    have hx' : ((lineL n b).take i ++ ([c] ++ (lineL n b).drop (i + 1)))[i]? = (lineL n b)[i]? := hx
    rw [get_post (Nat.le_refl _) (by omega), Nat.sub_self] at hx'
    exact hne (hx'.symm.trans rfl)
theorem spoil_out (g : GoodB n b) (hi : i < (lineL n b).length) (g' : GoodB n (((lineL n b).take i ++ (lineL n b).drop (i + 1)).drop 18)) :
    (lineL n b).take i ++ (lineL n b).drop (i + 1) ≠ lineL n (((lineL n b).take i ++ (lineL n b).drop (i + 1)).drop 18) := fun e => by
  have hl := congrArg List.length e
  have hl2 := g.len
  rw [g'.len, List.length_append, List.length_take, List.length_drop] at hl
  by_cases h : 17 ≤ i
  · have h17 : (lineL n (((lineL n b).take i ++ (lineL n b).drop (i + 1)).drop 18)).take 17 = (lineL n b).take 17 := by
      rw [← e]; exact take_pre h (by omega)
    have := line_len g g' h17
    omega
  · obtain ⟨d, hd, h48⟩ := g'.a16
    rw [← e, get_post (by omega) (by omega), List.getElem?_drop, show i + 1 + (16 - i) = 17 by omega, g.a17] at hd
    cases hd
    omega
theorem spoil_in (g : GoodB n b) (hi : i ≤ (lineL n b).length) (g' : GoodB n (((lineL n b).take i ++ [c] ++ (lineL n b).drop i).drop 18)) :
    (lineL n b).take i ++ [c] ++ (lineL n b).drop i ≠ lineL n (((lineL n b).take i ++ [c] ++ (lineL n b).drop i).drop 18) := fun e => by
  rw [List.append_assoc] at e g'
  have hl := congrArg List.length e
  have hl2 := g.len
  rw [g'.len, List.length_append, List.length_append, List.length_take, List.length_drop, List.length_singleton] at hl
  by_cases h : 17 ≤ i
  · have h17 : (lineL n (((lineL n b).take i ++ ([c] ++ (lineL n b).drop i)).drop 18)).take 17 = (lineL n b).take 17 := by
      rw [← e]; exact take_pre h (by omega)
    have := line_len g g' h17
    omega
  · obtain ⟨d, hd, h48⟩ := g.a16
    have h32 := g'.a17
    rw [← e, get_post (by omega) (by omega)] at h32
    rw [show ([c] ++ (lineL n b).drop i)[17 - i]? = ((lineL n b).drop i)[17 - i - 1]? by
      obtain ⟨k, hk⟩ : ∃ k, 17 - i = k + 1 := ⟨17 - i - 1, by omega⟩
      rw [hk]; rfl] at h32
    rw [List.getElem?_drop, show i + (17 - i - 1) = 16 by omega, hd] at h32
    cases h32
    omega
end
theorem bears_got1 {H H' : Hp} {C : Addr} {fs : List (Str × V)} (s : Same H H') : Bears (Got H C fs) H' C fs := fun d H'' hd s2 e => ⟨rfl, d, rfl, none_of_same s hd, s.trans s2, e⟩
/-! ### what the defs promise -/
theorem line_c {n : Nat} {b : List Nat} (hb : ∀ c ∈ b, c < 128) : ∀ c ∈ lineL n b, c < 128 := fun c hc => by
  have d : ∀ w m, c ∈ zf w m → c < 128 := fun w m h => by have := (zf_dig w m c h).2; omega
  unfold lineL hdL pfL at hc
  simp only [List.mem_append, List.mem_singleton] at hc
  rcases hc with ((((h | h) | h) | h) | h | h) | h
  · exact d _ _ h
  · omega
  · exact d _ _ h
  · omega
  · exact d _ _ h
  · omega
  · exact hb c h
def txB (c st mo : Int) : List Nat := (List.range (mixN c st % mo).toNat).map fun k => sgB (mixN c (st + 1 + (k : Nat)))
theorem txB_c (c st mo : Int) : ∀ x ∈ txB c st mo, x < 128 := fun x hx => by
  obtain ⟨k, _, rfl⟩ := List.mem_map.mp hx
  exact sgB_lt _
theorem txB_len {c st mo : Int} (h : 0 < mo) : ((txB c st mo).length : Int) < mo := by
  unfold txB
  rw [List.length_map, List.length_range]
  have := Int.emod_lt_of_pos (mixN c st) h
  have := Int.emod_nonneg (mixN c st) (show mo ≠ 0 by omega)
  omega
def sp_sum : Sp := fun vs H Q _ => ∃ l : List Nat, vs = [.str (S l)] ∧ (∀ c ∈ l, c < 128) ∧ Q (.int (sumF 0 l : Nat)) H
def sp_wholeN : Sp := fun vs H Q _ => ∃ x y : Int, vs = [.int x, .int y] ∧ Q (.bl (decide (x = y))) H
def sp_lineof : Sp := fun vs H Q _ => ∃ (n : Nat) (b : List Nat), vs = [.int (n : Int), .str (S b)] ∧ GoodB n b ∧ ∀ H', Same H H' → Q (.str (S (lineL n b))) H'
def sp_lline : Sp := fun vs H Q _ => ∃ (n : Nat) (b : List Nat), vs = [.int (n : Int), .str (S b)] ∧ GoodB n b ∧ Q (.str (S (lineL n b))) H
def sp_body (C : Addr) : Sp := fun vs H Q E => ∃ (n : Nat) (l : List Nat), vs = [.int (n : Int), .str (S l)] ∧ GoodB n (l.drop 18) ∧ l.length ≤ 20000 ∧
  ((l = lineL n (l.drop 18) ∧ ∀ H', Same H H' → Q (.str (S (l.drop 18))) H') ∨ (l ≠ lineL n (l.drop 18) ∧ ∀ H', Same H H' → Bears E H' C [("line", .int (n : Int))]))
def sp_refusedN : Sp := fun vs H Q _ => ∃ (n : Nat) (l : List Nat), vs = [.int (n : Int), .str (S l)] ∧ GoodB n (l.drop 18) ∧ l.length ≤ 20000 ∧ l ≠ lineL n (l.drop 18) ∧ ∀ H', Same H H' → Q (.bl true) H'
def sp_spoiled : Sp := fun vs H Q _ => ∃ (n : Nat) (b : List Nat) (c : Int), vs = [.str (S (lineL n b)), .int c] ∧ GoodB n b ∧ b.length ≤ 9000 ∧
  ∀ l : List Nat, GoodB n (l.drop 18) → l.length ≤ 10000 → l ≠ lineL n (l.drop 18) → Q (.str (S l)) H
def sp_textN : Sp := fun vs H Q _ => ∃ c st mo : Int, vs = [.int c, .int st, .int mo] ∧ 0 < mo ∧ mo ≤ 1000 ∧ Q (.str (S (txB c st mo))) H
end L2

set_option Elab.async false
set_option linter.all false
set_option maxRecDepth 100000
set_option maxHeartbeats 4000000
namespace L2
open PySem PySem.Spec PyProof.Rows Builtin Builtin.ObjectAttr
theorem boot_ValueError : bootBuiltins "ValueError" = some (.type "ValueError") := by decide +kernel
/-! ### isinstance(e, C) of an exception -/
structure XIs (K : PySem.W.Frag) (C : Addr) : Prop where
  ha : PySem.W.findIn K (.ref C) "__class__" = some (some (.builtin "object.__class__"))
  hn : PySem.W.specialIn K (.builtin "object.__class__") "__get__" = some (some (.builtin "getset_descriptor.__get__"))
  htk : PySem.W.takesIn K (.builtin "object.__class__") = some true
theorem x_mro {K : PySem.W.Frag} {C : Addr} {v : Value} (c : xIn K C = true) (hv : valTail.contains v = true) : PySem.W.mroIn K C v = some true := by
  obtain ⟨nm, qn, N, bs, bm, sn, sub, ab, col, dd, k0, k1, k2, k3, k5, hK, ho⟩ := xIn_cls c
  obtain ⟨cd, hc, hcm⟩ : ∃ cd, PySem.W.clsIn K C = some cd ∧ cd.mro = .ref C :: bm := ⟨_, by unfold PySem.W.clsIn; rw [hK], rfl⟩
  obtain ⟨rs, rfl⟩ := xOver_shape ho
  unfold PySem.W.mroIn
  rw [hc, Option.bind_some, hcm, if_neg (by simp), List.contains_cons]
  have : (rs.map Value.ref ++ valTail).contains v = true := by
    rw [List.contains_iff_mem, List.mem_append]
    exact .inr (List.contains_iff_mem.mp hv)
  rw [this, Bool.or_true]
section
variable {prog : Program} {w : World} {A : Around} {E : Value → Shared → Prop} {s : Shared} {K : PySem.W.Frag} {x C : Addr} {v : Value}
theorem class_x {ox : Obj} {od : Obj} {Q : Option Value → Shared → Prop} (X : K.In s.heap) (I : PySem.W.InstAt s.heap x ox C (some od)) (c : XCls K C) (i : XIs K C)
    (h : Q (some (.ref C)) { s with toks := s.toks + 1 }) : wpAny (model prog w) A (getAttr? (.ref x) "__class__") Q E s := by
  obtain ⟨h0, g, d, t, os⟩ := s
  have hf : PySem.W.findObj K C (some od) "__class__" = some (.bind (.builtin "getset_descriptor.__get__") (.builtin "object.__class__")) := PySem.W.findObj_data (by obtain ⟨cd, hc, _⟩ := PySem.W.any_some c.hd; rw [hc]; rfl) i.ha i.hn i.htk
  have L0 := I.type (M := model prog w)
  have L1 := PySem.W.looks_findIn (M := model prog w) X c.ga
  have L2 := PySem.W.looks_findIn (M := model prog w) X c.gn
  have L3 := PySem.W.looks_find (M := model prog w) X I hf
  unfold getAttr? getAttrBy? getAttrBy
  refine wpAny_bind (wpAny_mkText (wpAny_bind (wpAny_attempt (wpAny_holding (wpAny_bind (L0.at (wpAny_bind (L1.at ?_))))))))
  show wpAny _ _ (getAttrByItsOwn _ _ _ _ _ _) _ _ _
  unfold getAttrByItsOwn
  have G := PySem.F.excAttr_ValueError.ga
  have e1 : callGetattribute (.ref x) (.str "__class__" t) (.builtin "BaseException.__getattribute__") false = boundAndCalled (.builtin "BaseException.__getattribute__") (.ref x) (.str "__class__" t) := by
    unfold callGetattribute
    rfl
  have LB : PySem.W.Looks (model prog w) h0 (isInstance (.ref x) (.type "BaseException")) true := L0.andThen (PySem.W.looks_mroIn X (x_mro c.x (by decide)))
  refine wpAny_bind (show wpAny _ _ (typeLookup (.ref C) "__getattr__") _ _ _ from L2.at ?_)
  refine wpAny_bind (wpAny_attempt (wpAny_holding ?_))
  rw [e1]
  unfold boundAndCalled
  rw [G.bind]
  refine wpAny_bind (wpAny_pure (wpAny_call (codeAny_call_builtin G.plain PySem.F.entry_bexc_ga (@PySem.W.check_slot (model prog w) _ _ ⟨h0, g, d, t + 1, os⟩ "BaseException.__getattribute__" "BaseException" "__getattribute__" (.ref x) [.str "__class__" t] [] _ (by decide +kernel) (by decide +kernel) LB (PySem.F.args_bexc_ga _ _) ?_))))
  refine wpAny_bind (wpAny_pure (wpAny_bind (wpAny_pure (wpAny_bind (L0.at (wpAny_bind (L3.at ?_)))))))
  show wpAny _ _ (bindTo _ _ _ _) _ _ _
  unfold bindTo
  refine wpAny_bind (wpAny_holding (wpAny_call (PySem.W.class_get (s := ⟨h0, g, d, t + 1, os⟩) (ox := ox) (od := some od) X I (x_mro c.x (by decide)) ?_)))
  exact wpAny_pure (PySem.W.handed_on rfl (wpAny_pure h))
theorem kitx_x {x : Addr} {ox od : Obj} (c : XCls K C) (i : XIs K C) : PySem.W.KitX K (.ref x) (.ref C) (fun h => PySem.W.InstAt h x ox C (some od)) where
  ty := fun _ _ _ I => I.type
  it := fun _ _ X _ => by
    obtain ⟨cdD, hcD, _⟩ := PySem.W.any_some c.hd
    unfold PySem.W.clsIn at hcD
    split at hcD
    · rename_i c' d' cd' sl' ho
      intro A' Q' E' s' k q
      unfold isType loadHead
      exact wpAny_bind (wpAny_loadPart (k _ _ (X _ _ ho)) (wpAny_pure q))
    · cases hcD
  ne := fun h tp dd its n sl X htp => by
    obtain ⟨cdD, hcD, _⟩ := PySem.W.any_some c.hd
    refine Bool.eq_false_iff.mpr fun q => ?_
    have e : C = tp := Value.ref.inj (beq_iff_eq.mp q)
    subst e
    unfold PySem.W.clsIn at hcD
    split at hcD
    · rename_i c' d' cd' sl' ho
      have z := (X _ _ ho).symm.trans htp
      cases z
    · cases hcD
  ca := fun X I k => class_x X I c i k
end
/-- what isinstance tells of an exception -/
def rIsx (K : PySem.W.Frag) : List V → Hp → VK → Prop := fun xs H Q => ∃ ea C d fs c b, (xs = [.ref ea, c]) ∧ H ea = some (xh ea C (some d)) ∧ H d = some (xdo d fs) ∧ XCls K C ∧ XIs K C ∧ ((∃ n, c = .ty n ∧ PySem.W.kitOne K (.ref C) (.type n) = some b) ∨ ∃ D, c = .ref D ∧ PySem.W.kitOne K (.ref C) (.ref D) = some b) ∧ Q (.bl b) H
theorem call_isx {X : Cx} : CallR X (.builtin "isinstance") (rIsx X.K) := by
  intro pins s σ H xs us Q I r h
  obtain ⟨ea, C, d, fs, c, b, rfl, hea, hd, xc, xi, hk, q⟩ := h
  obtain ⟨u, w, rfl, rx, rw'⟩ := vals2 r
  obtain rfl : u = Value.ref ea := rx
  obtain ⟨o, vs, ge, gc, gd, gf⟩ := xh_get I.hok hea
  obtain ⟨mA, hn, hr⟩ := xdo_get I.hok hd
  obtain ⟨od, ho, hl⟩ := lookIn_ns hn
  have J : PySem.W.InstAt s.heap ea o C (some od) := by
    obtain ⟨oc, odd, oda, osl⟩ := o
    dsimp only at gc gd gf
    subst gc gd gf
    exact ⟨ge, rfl, rfl, ho⟩
  rcases hk with ⟨n, rfl, e⟩ | ⟨D, rfl, e⟩
  · cases rw'
    exact PySem.W.kia_one (kitx_x xc xi) I.kIn J e (fun z => nomatch z) fun tk => ⟨.bl b, H, I.tok tk, rfl, q⟩
  · cases rw'
    exact PySem.W.kia_one (kitx_x xc xi) I.kIn J e (fun z => nomatch z) fun tk => ⟨.bl b, H, I.tok tk, rfl, q⟩
theorem call_isxK {X : Cx} {K : PySem.W.Frag} (hK : X.K = K := by rfl) : CallR X (.builtin "isinstance") (rIsx K) := hK ▸ call_isx
/-- the same, by the pieces -/
theorem rIsx_r {K : PySem.W.Frag} {H : Hp} {Q : VK} {ea C d D : Addr} {fs : List (Str × V)} {b : Bool} (hea : H ea = some (xh ea C (some d))) (hd : H d = some (xdo d fs)) (xc : XCls K C) (xi : XIs K C) (e : PySem.W.kitOne K (.ref C) (.ref D) = some b) (q : Q (.bl b) H) : rIsx K [.ref ea, .ref D] H Q :=
  ⟨ea, C, d, fs, _, b, rfl, hea, hd, xc, xi, .inr ⟨D, rfl, e⟩, q⟩
theorem rIsx_t {K : PySem.W.Frag} {H : Hp} {Q : VK} {ea C d : Addr} {n : String} {fs : List (Str × V)} {b : Bool} (hea : H ea = some (xh ea C (some d))) (hd : H d = some (xdo d fs)) (xc : XCls K C) (xi : XIs K C) (e : PySem.W.kitOne K (.ref C) (.type n) = some b) (q : Q (.bl b) H) : rIsx K [.ref ea, .ty n] H Q :=
  ⟨ea, C, d, fs, _, b, rfl, hea, hd, xc, xi, .inl ⟨n, rfl, e⟩, q⟩
end L2

set_option Elab.async false
set_option linter.all false
set_option maxRecDepth 100000
set_option maxHeartbeats 4000000
namespace L2
open PySem PySem.Spec PyProof.Rows Builtin Builtin.ObjectAttr
/-! ### isinstance(e, (C, D, ..)) of an exception; slices of tuples -/
def rIsxT (K : PySem.W.Frag) : List V → Hp → VK → Prop := fun xs H Q => ∃ ea C d fs p, ∃ (Ds : List Addr) (b : Bool), xs = [.ref ea, .ref p] ∧ H ea = some (xh ea C (some d)) ∧ H d = some (xdo d fs) ∧ XCls K C ∧ XIs K C ∧ H p = some (.tup (Ds.map V.ref)) ∧ PySem.W.kitAny K (.ref C) (Ds.map Value.ref) = some b ∧ Q (.bl b) H
theorem vals_refs : ∀ {Ds : List Addr} {us : List Value}, Vals (Ds.map V.ref) us → us = Ds.map Value.ref
  | [], _, .nil => rfl
  | _ :: _, _, .cons h t => by
    cases (show _ = Value.ref _ from h)
    rw [vals_refs t]; rfl
theorem call_isxT {X : Cx} : CallR X (.builtin "isinstance") (rIsxT X.K) := by
  intro pins s σ H xs us Q I r h
  obtain ⟨ea, C, d, fs, p, Ds, b, rfl, hea, hd, xc, xi, hp, e, q⟩ := h
  obtain ⟨u, w, rfl, rx, rw'⟩ := vals2 r
  obtain rfl : u = Value.ref ea := rx
  obtain rfl : w = Value.ref p := rw'
  obtain ⟨o, vs, ge, gc, gd, gf⟩ := xh_get I.hok hea
  obtain ⟨mA, hn, hr⟩ := xdo_get I.hok hd
  obtain ⟨od, ho, hl⟩ := lookIn_ns hn
  have J : PySem.W.InstAt s.heap ea o C (some od) := by
    obtain ⟨oc, odd, oda, osl⟩ := o
    dsimp only at gc gd gf
    subst gc gd gf
    exact ⟨ge, rfl, rfl, ho⟩
  obtain ⟨_, its, rv, it⟩ := (show ObjOk X.prog X.w H s.heap p (.tup (Ds.map V.ref)) from I.hok p _ hp)
  have ei := vals_refs rv
  subst ei
  obtain ⟨ot, h1, h2, nn, h3⟩ := it
  obtain ⟨tc, td, tda, tsl⟩ := ot
  dsimp only at h2 h3
  subst h2 h3
  exact PySem.W.kia_tup (kitx_x xc xi) I.kIn J h1 e (fun z => nomatch z) fun tk => ⟨.bl b, H, I.tok tk, rfl, q⟩
theorem call_isxTK {X : Cx} {K : PySem.W.Frag} (hK : X.K = K := by rfl) : CallR X (.builtin "isinstance") (rIsxT K) := hK ▸ call_isxT
theorem sl_tupK {X : Cx} {K : PySem.W.Frag} (hK : X.K = K := by rfl) : SlR X (rSlT K) := hK ▸ sl_tup
end L2

set_option Elab.async false
set_option linter.all false
set_option maxRecDepth 100000
set_option maxHeartbeats 4000000
namespace L2
open PySem PySem.Spec PyProof.Rows
/-! ### o.m(e), where e raises -/
def xBm (K : PySem.W.Frag) (T : String) (to : TE) (tx : TX) : TX := fun E σ H => to σ H fun x H1 => tyV K T x H1 ∧ tx E σ H1
section
variable {X : Cx} {K : PySem.W.Frag} {o e : Expr} {to : TE} {tx : TX} {name : Str} {apos cpos : Pos} {T id : String}
end
end L2

set_option Elab.async false
set_option linter.all false
set_option maxRecDepth 100000
set_option maxHeartbeats 4000000
namespace L2
open PySem PySem.Spec PyProof.Rows
/-! ### acts as bodies, bodies as lines -/
def sgA : List (List Nat) → List (List Nat)
  | [] => []
  | [b] => [46 :: b]
  | b :: c :: r => (43 :: b) :: sgA (c :: r)
theorem sgA_len : ∀ act : List (List Nat), (sgA act).length = act.length
  | [] => rfl
  | [_] => rfl
  | b :: c :: r => by rw [sgA, List.length_cons, sgA_len (c :: r)]; rfl
theorem sgA_get : ∀ (act : List (List Nat)) (k : Nat) (b : List Nat), act[k]? = some b → (sgA act)[k]? = some ((if k + 1 < act.length then 43 else 46) :: b)
  | [], k, b, h => by simp at h
  | [c], k, b, h => by
    cases k with
    | zero => cases h; rfl
    | succ k => simp at h
  | c :: d :: r, k, b, h => by
    cases k with
    | zero => cases h; rfl
    | succ k =>
      have := sgA_get (d :: r) k b h
      rw [sgA, List.getElem?_cons_succ, this]
      simp only [List.length_cons, Nat.add_lt_add_iff_right]
def fl (A : List (List (List Nat))) : List (List Nat) := A.flatMap sgA
theorem fl_app (A B : List (List (List Nat))) : fl (A ++ B) = fl A ++ fl B := by unfold fl; rw [List.flatMap_append]
theorem fl_one (a : List (List Nat)) : fl [a] = sgA a := by unfold fl; simp
theorem fl_cons (a : List (List Nat)) (B : List (List (List Nat))) : fl (a :: B) = sgA a ++ fl B := by unfold fl; rw [List.flatMap_cons]
def lns : Nat → List (List Nat) → List (List Nat)
  | _, [] => []
  | n, b :: r => lineL n b :: lns (n + 1) r
theorem lns_len : ∀ (n : Nat) (bs : List (List Nat)), (lns n bs).length = bs.length
  | _, [] => rfl
  | n, b :: r => by rw [lns, List.length_cons, lns_len (n + 1) r]; rfl
theorem lns_app : ∀ (n : Nat) (a b : List (List Nat)), lns n (a ++ b) = lns n a ++ lns (n + a.length) b
  | n, [], b => rfl
  | n, x :: a, b => by
    rw [List.cons_append, lns, lns, lns_app (n + 1) a b, List.length_cons, List.cons_append]
    congr 3
    omega
theorem lns_get : ∀ (n : Nat) (bs : List (List Nat)) (k : Nat) (b : List Nat), bs[k]? = some b → (lns n bs)[k]? = some (lineL (n + k) b)
  | n, [], k, b, h => by simp at h
  | n, x :: r, k, b, h => by
    cases k with
    | zero => cases h; rfl
    | succ k =>
      rw [lns, List.getElem?_cons_succ, lns_get (n + 1) r k b h]
      congr 2
      omega
theorem lns_snoc (n : Nat) (a : List (List Nat)) (b : List Nat) : lns n (a ++ [b]) = lns n a ++ [lineL (n + a.length) b] := lns_app n a [b]
theorem lns_take : ∀ (n : Nat) (bs : List (List Nat)) (k : Nat), (lns n bs).take k = lns n (bs.take k)
  | n, [], k => by simp [lns]
  | n, x :: r, k => by
    cases k with
    | zero => rfl
    | succ k => rw [lns, List.take_succ_cons, List.take_succ_cons, lns, lns_take (n + 1) r k]
/-- plain bodies, acts -/
def okB (b : List Nat) : Prop := (∀ c ∈ b, c < 128) ∧ b.length ≤ 400
def okA (A : List (List (List Nat))) : Prop := ∀ a ∈ A, a ≠ [] ∧ ∀ b ∈ a, okB b
theorem sgA_ok {a : List (List Nat)} (h : ∀ b ∈ a, okB b) : ∀ b ∈ sgA a, (∀ c ∈ b, c < 128) ∧ b.length ≤ 401 ∧ (b[0]? = some 43 ∨ b[0]? = some 46) := fun b hb => by
  obtain ⟨k, hk⟩ := List.getElem?_of_mem hb
  have hk' : k < a.length := by rw [← sgA_len]; exact (List.getElem?_eq_some_iff.mp hk).1
  have e := sgA_get a k a[k] (List.getElem?_eq_getElem hk')
  rw [hk] at e
  cases e
  have := h a[k] (List.getElem_mem _)
  refine ⟨fun c hc => ?_, ?_, ?_⟩
  · rcases List.mem_cons.mp hc with rfl | hc
    · split <;> decide
    · exact this.1 c hc
  · have := this.2; simp; omega
  · split
    · exact .inl rfl
    · exact .inr rfl
/-- what is a line of a book -/
def okLn (n : Nat) (l : List Nat) : Prop := l = lineL n (l.drop 18) ∧ ((l.drop 18)[0]? = some 43 ∨ (l.drop 18)[0]? = some 46)
theorem okLn_line {n : Nat} {b : List Nat} (g : GoodB n b) (h : b[0]? = some 43 ∨ b[0]? = some 46) : okLn n (lineL n b) := ⟨by rw [g.drop], by rw [g.drop]; exact h⟩
/-! ### bodies gathered to acts -/
def gstep (s : List (List (List Nat)) × List (List Nat) × Nat × Nat) (b : List Nat) : List (List (List Nat)) × List (List Nat) × Nat × Nat :=
  if b[0]? = some 46 then (s.1 ++ [s.2.1 ++ [b.drop 1]], [], s.2.2.2 + 1, s.2.2.2 + 1) else (s.1, s.2.1 ++ [b.drop 1], s.2.2.1, s.2.2.2 + 1)
def gst (bs : List (List Nat)) : List (List (List Nat)) × List (List Nat) × Nat × Nat := bs.foldl gstep ([], [], 0, 0)
theorem gst_snoc (bs : List (List Nat)) (b : List Nat) : gst (bs ++ [b]) = gstep (gst bs) b := by unfold gst; rw [List.foldl_append]; rfl
theorem gst_act : ∀ (act : List (List Nat)) (As : List (List (List Nat))) (cur : List (List Nat)) (m n : Nat), act ≠ [] → (sgA act).foldl gstep (As, cur, m, n) = (As ++ [cur ++ act], [], n + act.length, n + act.length)
  | [], _, _, _, _, h => absurd rfl h
  | [b], As, cur, m, n, _ => by
    rw [sgA, List.foldl_cons, List.foldl_nil, gstep, if_pos (by rfl)]
    rfl
  | b :: c :: r, As, cur, m, n, _ => by
    rw [sgA, List.foldl_cons, gstep, if_neg (show ¬ (43 :: b)[0]? = some 46 from fun z => by cases z)]
    show List.foldl gstep (As, cur ++ [b], m, n + 1) (sgA (c :: r)) = _
    rw [gst_act (c :: r) As (cur ++ [b]) m (n + 1) (by simp)]
    simp only [List.length_cons, List.append_assoc, List.singleton_append]
    congr 3 <;> omega
theorem gst_acts : ∀ (A As : List (List (List Nat))) (m n : Nat), (∀ a ∈ A, a ≠ []) → m = n → (fl A).foldl gstep (As, [], m, n) = (As ++ A, [], n + (fl A).length, n + (fl A).length)
  | [], As, m, n, _, e => by subst e; simp [fl]
  | a :: A, As, m, n, h, _ => by
    rw [fl_cons, List.foldl_append, gst_act a As [] m n (h a (by simp)), List.nil_append, gst_acts A (As ++ [a]) _ _ (fun x hx => h x (List.mem_cons_of_mem _ hx)) rfl]
    rw [List.length_append, sgA_len, List.append_assoc, List.singleton_append]
    congr 3 <;> omega
theorem gst_rest : ∀ (pr : List (List Nat)) (As : List (List (List Nat))) (cur : List (List Nat)) (m n : Nat), (∀ b ∈ pr, b[0]? = some 43) → pr.foldl gstep (As, cur, m, n) = (As, cur ++ pr.map (·.drop 1), m, n + pr.length)
  | [], As, cur, m, n, _ => by simp
  | b :: r, As, cur, m, n, h => by
    rw [List.foldl_cons, gstep, if_neg (by rw [h b (by simp)]; exact fun z => by cases z), gst_rest r As _ m _ (fun x hx => h x (List.mem_cons_of_mem _ hx))]
    simp only [List.map_cons, List.length_cons, List.append_assoc, List.singleton_append]
    congr 3
    omega
theorem gst_all {A : List (List (List Nat))} {pr : List (List Nat)} (hA : ∀ a ∈ A, a ≠ []) (hp : ∀ b ∈ pr, b[0]? = some 43) : gst (fl A ++ pr) = (A, pr.map (·.drop 1), (fl A).length, (fl A).length + pr.length) := by
  unfold gst
  rw [List.foldl_append, gst_acts A [] 0 0 hA rfl, gst_rest pr _ _ _ _ hp]
  simp
theorem gst_cnt (bs : List (List Nat)) : (gst bs).2.2.2 = bs.length := by
  have : ∀ (bs : List (List Nat)) s, (bs.foldl gstep s).2.2.2 = s.2.2.2 + bs.length := by
    intro bs
    induction bs with
    | nil => intro s; rfl
    | cons b r ih =>
      intro s
      rw [List.foldl_cons, ih, gstep]
      split <;> (simp only [List.length_cons]; omega)
  have := this bs ([], [], 0, 0)
  unfold gst
  rw [this]; simp
/-! ### lists of lists of texts -/
def Lsts (H : Hp) : List Addr → List (List (List Nat)) → Prop
  | [], [] => True
  | a :: as, A :: As => H a = some (.lst (tx A)) ∧ Lsts H as As
  | _, _ => False
theorem Lsts.same {H H' : Hp} (s : Same H H') : ∀ {as : List Addr} {As : List (List (List Nat))}, Lsts H as As → Lsts H' as As
  | [], [], _ => trivial
  | _ :: _, _ :: _, h => ⟨s _ _ h.1, h.2.same s⟩
  | [], _ :: _, h => h.elim
  | _ :: _, [], h => h.elim
theorem Lsts.chg {H H' : Hp} {B : List Addr} (c : Chg B H H') : ∀ {as : List Addr} {As : List (List (List Nat))}, Lsts H as As → (∀ a ∈ as, a ∉ B) → Lsts H' as As
  | [], [], _, _ => trivial
  | a :: _, _ :: _, h, n => ⟨c.keep _ _ h.1 (n a (by simp)), h.2.chg c fun x hx => n x (List.mem_cons_of_mem _ hx)⟩
  | [], _ :: _, h, _ => h.elim
  | _ :: _, [], h, _ => h.elim
theorem Lsts.len {H : Hp} : ∀ {as : List Addr} {As : List (List (List Nat))}, Lsts H as As → as.length = As.length
  | [], [], _ => rfl
  | _ :: _, _ :: _, h => by rw [List.length_cons, List.length_cons, h.2.len]
  | [], _ :: _, h => h.elim
  | _ :: _, [], h => h.elim
theorem Lsts.snoc {H : Hp} {a : Addr} {A : List (List Nat)} (e : H a = some (.lst (tx A))) : ∀ {as : List Addr} {As : List (List (List Nat))}, Lsts H as As → Lsts H (as ++ [a]) (As ++ [A])
  | [], [], _ => ⟨e, trivial⟩
  | _ :: _, _ :: _, h => ⟨h.1, h.2.snoc e⟩
  | [], _ :: _, h => h.elim
  | _ :: _, [], h => h.elim
theorem Lsts.get {H : Hp} : ∀ {as : List Addr} {As : List (List (List Nat))} {i : Nat} {a : Addr}, Lsts H as As → as[i]? = some a → ∃ A, As[i]? = some A ∧ H a = some (.lst (tx A))
  | [], [], i, a, _, e => by simp at e
  | x :: _, y :: _, i, a, h, e => by
    cases i with
    | zero => cases e; exact ⟨y, rfl, h.1⟩
    | succ i => exact h.2.get (i := i) e
  | [], _ :: _, _, _, h, _ => h.elim
  | _ :: _, [], _, _, h, _ => h.elim
theorem Lsts.take {H : Hp} : ∀ {as : List Addr} {As : List (List (List Nat))} (i : Nat), Lsts H as As → Lsts H (as.take i) (As.take i)
  | [], [], i, _ => by simp [Lsts]
  | _ :: _, _ :: _, i, h => by
    cases i with
    | zero => trivial
    | succ i => exact ⟨h.1, h.2.take i⟩
  | [], _ :: _, _, h => h.elim
  | _ :: _, [], _, h => h.elim
def dA (A : List (List (List Nat))) : PyData := .list (A.map fun a => .list (a.map fun b => PyData.str (S b)))
theorem Lsts.den {K : PySem.W.Frag} {H : Hp} : ∀ {as : List Addr} {As : List (List (List Nat))}, Lsts H as As → DenAll K H (as.map V.ref) (As.map fun a => .list (a.map fun b => PyData.str (S b)))
  | [], [], _ => .nil
  | _ :: _, _ :: _, h => .cons (den_tx (.inl (.inl h.1))) h.2.den
  | [], _ :: _, h => h.elim
  | _ :: _, [], h => h.elim
theorem den_acts {K : PySem.W.Frag} {H : Hp} {p : Addr} {as : List Addr} {As : List (List (List Nat))} (hp : SqL K H p (as.map V.ref)) (h : Lsts H as As) : Den K H (.ref p) (dA As) := .lst hp h.den
theorem okB_S {b : List Nat} (h : okB b) : okS b := fun c hc => Nat.lt_trans (h.1 c hc) (by decide)
theorem wd_acts {A : List (List (List Nat))} (h : ∀ a ∈ A, ∀ b ∈ a, okS b) : wd 2 (dA A) := wd_list fun d hd => by
  obtain ⟨a, ha, rfl⟩ := List.mem_map.mp hd
  exact wd_tx (h a ha)
theorem same_wr {H H' : Hp} {d : Addr} {o : HO} (s : Same H H') (h : H d = none) : Same H (upd H' d o) := fun b u e => by rw [upd_ne (ne_of_none e h)]; exact s b u e
/-! ### a book -/
structure BookAt (C : Addr) (H : Hp) (r l : Addr) (ls : List (List Nat)) : Prop where
  obj : ∃ dx, H r = some (.ins C dx [("lines", .ref l)])
  lst : H l = some (.lst (tx ls))
theorem BookAt.ne {C : Addr} {H : Hp} {r l : Addr} {ls : List (List Nat)} (R : BookAt C H r l ls) : r ≠ l := fun z => by
  obtain ⟨dx, h⟩ := R.obj
  rw [z, R.lst] at h; cases h
theorem BookAt.same {C : Addr} {H H' : Hp} {r l : Addr} {ls : List (List Nat)} (R : BookAt C H r l ls) (s : Same H H') : BookAt C H' r l ls := ⟨let ⟨dx, h⟩ := R.obj; ⟨dx, s _ _ h⟩, s _ _ R.lst⟩
def sp_bk_init (C : Addr) : Sp := fun vs H Q _ => ∃ x dx, vs = [.ref x] ∧ H x = some (.ins C dx []) ∧ ∀ l H', H l = none → l ≠ x → Chg [x] H H' → BookAt C H' x l [] → Q .non H'
def sp_bk_write (C : Addr) : Sp := fun vs H Q _ => ∃ (r p l : Addr) (ls act : List (List Nat)), vs = [.ref r, .ref p] ∧ BookAt C H r l ls ∧ H p = some (.lst (tx act)) ∧ p ≠ l ∧ (∀ b ∈ act, okB b) ∧ ls.length + act.length ≤ 5000 ∧
  ∀ H', Chg [l] H H' → BookAt C H' r l (ls ++ lns ls.length (sgA act)) → Q (.int ((ls.length + act.length : Nat) : Int)) H'
def sp_bk_told (C : Addr) : Sp := fun vs H Q _ => ∃ (r l : Addr) (ls : List (List Nat)), vs = [.ref r] ∧ BookAt C H r l ls ∧ ∀ p H', H p = none → Same H H' → H' p = some (.lst (tx ls)) → Q (.ref p) H'
def sp_sbody (C : Addr) : Sp := fun vs H Q E => ∃ (n : Nat) (l : List Nat), vs = [.int (n : Int), .str (S l)] ∧ GoodB n (l.drop 18) ∧ l.length ≤ 20000 ∧
  ((okLn n l ∧ ∀ H', Same H H' → Q (.str (S (l.drop 18))) H') ∨ (¬ okLn n l ∧ ∀ H', Same H H' → Bears E H' C [("line", .int (n : Int))]))
/-- good lines, then perhaps one that is none -/
structure Cutt (ls bs tl : List (List Nat)) : Prop where
  e : ls = lns 0 bs ++ tl
  b : ∀ b ∈ bs, (∀ c ∈ b, c < 128) ∧ b.length ≤ 401 ∧ (b[0]? = some 43 ∨ b[0]? = some 46)
  n : bs.length ≤ 5000
  t1 : tl.length ≤ 1
  t : ∀ l ∈ tl, (∀ c ∈ l, c < 128) ∧ l.length ≤ 9000 ∧ ¬ okLn bs.length l
def sp_goodb : Sp := fun vs H Q _ => ∃ (p : Addr) (ls bs tl : List (List Nat)), vs = [.ref p] ∧ H p = some (.lst (tx ls)) ∧ Cutt ls bs tl ∧ ∀ d H', H d = none → Same H H' → H' d = some (.lst (tx bs)) → Q (.ref d) H'
def sp_actsof : Sp := fun vs H Q _ => ∃ (p : Addr) (ls bs tl : List (List Nat)), vs = [.ref p] ∧ H p = some (.lst (tx ls)) ∧ Cutt ls bs tl ∧
  ∀ t q (ads : List Addr) H', H t = none → H q = none → Same H H' → H' t = some (.tup [.ref q, .int ((gst bs).2.2.1 : Nat)]) → H' q = some (.lst (ads.map V.ref)) → Lsts H' ads (gst bs).1 → Q (.ref t) H'
def sp_bookof (C : Addr) : Sp := fun vs H Q _ => ∃ (p : Addr) (ls bs tl : List (List Nat)), vs = [.ref p] ∧ H p = some (.lst (tx ls)) ∧ Cutt ls bs tl ∧
  ∀ r l H', H r = none → H l = none → Same H H' → BookAt C H' r l (ls.take (gst bs).2.2.1) → Q (.ref r) H'
/-! ### the laws' acts -/
def okAct (act : List (List Nat)) : Prop := act ≠ [] ∧ act.length ≤ 12 ∧ ∀ b ∈ act, okB b
def sp_actby : Sp := fun vs H Q _ => ∃ c : Int, vs = [.int c] ∧ ∀ act d H', okAct act → H d = none → Same H H' → H' d = some (.lst (tx act)) → Q (.ref d) H'
def ActsAt (H : Hp) (p : Addr) (ads : List Addr) (A : List (List (List Nat))) : Prop := H p = some (.lst (ads.map V.ref)) ∧ Lsts H ads A
theorem ActsAt.same {H H' : Hp} {p : Addr} {ads : List Addr} {A : List (List (List Nat))} (h : ActsAt H p ads A) (s : Same H H') : ActsAt H' p ads A := ⟨s _ _ h.1, h.2.same s⟩
theorem fl_le {A : List (List (List Nat))} (h : ∀ a ∈ A, okAct a) : (fl A).length ≤ 12 * A.length := by
  induction A with
  | nil => exact Nat.le_refl _
  | cons a A ih =>
    have h1 := ih fun x hx => h x (List.mem_cons_of_mem _ hx)
    have h2 := (h a (by simp)).2.1
    rw [fl_cons, List.length_append, sgA_len, List.length_cons]; omega
theorem fl_snoc {A : List (List (List Nat))} {i : Nat} {a : List (List Nat)} (h : A[i]? = some a) : fl (A.take (i + 1)) = fl (A.take i) ++ sgA a := by rw [take_snoc1 h, fl_app, fl_one]
theorem fl_ok {A : List (List (List Nat))} (h : ∀ a ∈ A, okAct a) : ∀ b ∈ fl A, (∀ c ∈ b, c < 128) ∧ b.length ≤ 401 ∧ (b[0]? = some 43 ∨ b[0]? = some 46) := fun b hb => by
  obtain ⟨a, ha, hb⟩ := List.mem_flatMap.mp hb
  exact sgA_ok (h a ha).2.2 b hb
theorem take_fl {A : List (List (List Nat))} {j m : Nat} (hj : (fl (A.take j)).length ≤ m) (hm : m ≤ (fl A).length) (hn : ∀ a, A[j]? = some a → m < (fl (A.take j)).length + a.length) (hjl : j ≤ A.length) :
    ∃ pr, (fl A).take m = fl (A.take j) ++ pr ∧ ∀ b ∈ pr, b[0]? = some 43 := by
  have e : fl A = fl (A.take j) ++ fl (A.drop j) := by rw [← fl_app, List.take_append_drop]
  have e2 : (fl A).take m = fl (A.take j) ++ (fl (A.drop j)).take (m - (fl (A.take j)).length) := by
    conv => lhs; rw [e]
    rw [List.take_append, List.take_of_length_le hj]
  refine ⟨_, e2, fun b hb => ?_⟩
  by_cases hlt : j < A.length
  · have ha : A[j]? = some A[j] := List.getElem?_eq_getElem hlt
    have hn' := hn _ ha
    rw [List.drop_eq_getElem_cons hlt, fl_cons, List.take_append_of_le_length (by rw [sgA_len]; omega)] at hb
    obtain ⟨k, hk⟩ := List.getElem?_of_mem hb
    have hk2 := (List.getElem?_eq_some_iff.mp hk).1
    rw [List.length_take, sgA_len] at hk2
    rw [List.getElem?_take_of_lt (by omega)] at hk
    have hk3 : k < A[j].length := by omega
    rw [sgA_get A[j] k _ (List.getElem?_eq_getElem hk3)] at hk
    cases hk
    rw [if_pos (by omega)]
    rfl
  · rw [List.drop_eq_nil_of_le (by omega)] at hb
    simp [fl] at hb
def sp_linesof : Sp := fun vs H Q _ => ∃ (p : Addr) (ads : List Addr) (A : List (List (List Nat))), vs = [.ref p] ∧ ActsAt H p ads A ∧ (∀ a ∈ A, okAct a) ∧ A.length ≤ 24 ∧ ∀ d H', H d = none → Same H H' → H' d = some (.lst (tx (lns 0 (fl A)))) → Q (.ref d) H'
def sp_begun : Sp := fun vs H Q _ => ∃ (p : Addr) (ads : List Addr) (A : List (List (List Nat))) (m : Nat), vs = [.ref p, .int (m : Int)] ∧ ActsAt H p ads A ∧ A.length ≤ 24 ∧
  ∀ j t q H', j ≤ A.length → (fl (A.take j)).length ≤ m → (∀ a, A[j]? = some a → m < (fl (A.take j)).length + a.length) → H t = none → H q = none → t ≠ q → Same H H' → H' t = some (.tup [.ref q, .int ((fl (A.take j)).length : Nat)]) → H' q = some (.lst ((ads.take j).map V.ref)) → Q (.ref t) H'
def sp_same16 : Sp := fun vs H Q _ => ∃ (t q t' q' : Addr) (ads ads' : List Addr) (A : List (List (List Nat))) (n : Nat), vs = [.ref t, .ref t'] ∧ H t = some (.tup [.ref q, .int (n : Int)]) ∧ ActsAt H q ads A ∧ H t' = some (.tup [.ref q', .int (n : Int)]) ∧ ActsAt H q' ads' A ∧
  (∀ a ∈ A, ∀ b ∈ a, okS b) ∧ Q (.bl true) H
def sp_written16 (C : Addr) : Sp := fun vs H Q _ => ∃ (p : Addr) (ads : List Addr) (A : List (List (List Nat))), vs = [.ref p] ∧ ActsAt H p ads A ∧ (∀ a ∈ A, okAct a) ∧ A.length ≤ 24 ∧ ∀ r l H', H r = none → H l = none → Same H H' → BookAt C H' r l (lns 0 (fl A)) → Q (.ref r) H'
def sp_cut18 : Sp := fun vs H Q _ => ∃ (p : Addr) (c : Int) (A : List (List (List Nat))), vs = [.ref p, .int c] ∧ H p = some (.lst (tx (lns 0 (fl A)))) ∧ (∀ a ∈ A, okAct a) ∧ A.length ≤ 24 ∧
  ∀ m tl t lf H', m ≤ (fl A).length → Cutt (lns 0 ((fl A).take m) ++ tl) ((fl A).take m) tl → H t = none → H lf = none → Same H H' → H' t = some (.tup [.ref lf, .int (m : Nat)]) → H' lf = some (.lst (tx (lns 0 ((fl A).take m) ++ tl))) → Q (.ref t) H'
/-- a book, its acts, another book that stays -/
structure W18 (C : Addr) (H : Hp) (r l D : Addr) (ads : List Addr) (A : List (List (List Nat))) (vo vs : V) : Prop where
  B : BookAt C H r l (lns 0 (fl A))
  acts : ActsAt H D ads A
  ok : ∀ a ∈ A, okAct a
  nD : D ∉ ads
  nl : l ∉ ads
  nDl : D ≠ l
  oth : (vo = .non ∧ ∃ st, vs = .ref st) ∨ ∃ ro lo st ls, vo = .ref ro ∧ vs = .ref st ∧ BookAt C H ro lo ls ∧ H st = some (.lst (tx ls)) ∧ lo ≠ l ∧ lo ≠ D ∧ st ≠ l ∧ st ≠ D ∧ ∀ b ∈ ls, okS b
theorem lns_ok {A : List (List (List Nat))} (hok : ∀ a ∈ A, okAct a) : ∀ b ∈ lns 0 (fl A), okS b := fun b hb => by
  obtain ⟨k, hk⟩ := List.getElem?_of_mem hb
  have hk' : k < (fl A).length := by rw [← lns_len 0]; exact (List.getElem?_eq_some_iff.mp hk).1
  rw [lns_get 0 (fl A) k _ (List.getElem?_eq_getElem hk')] at hk
  cases hk
  intro c hc
  exact Nat.lt_trans (line_c (fl_ok hok _ (List.getElem_mem hk')).1 c hc) (by decide)
theorem BookAt.keep {C : Addr} {H H' : Hp} {r l : Addr} {ls : List (List Nat)} {X : List Addr} (R : BookAt C H r l ls) (c : Chg X H H') (h1 : r ∉ X) (h2 : l ∉ X) : BookAt C H' r l ls := ⟨let ⟨dx, h⟩ := R.obj; ⟨dx, c.keep _ _ h h1⟩, c.keep _ _ R.lst h2⟩
def lenV (H : Hp) : V → V
  | .ref a => match H a with
    | some (.lst xs) => .int xs.length
    | _ => .non
  | _ => .non
end L2

set_option Elab.async false
set_option linter.all false
set_option maxRecDepth 100000
set_option maxHeartbeats 4000000
namespace L2
open PySem PySem.Spec PyProof.Rows PySem.Calls
/-! ### an exception's class without an __init__ of its own -/
section
variable {M : Model} {A : Around} {E : Value → Shared → Prop} {h : Heap} {g : Array GenState} {d : Drawn} {t : Nat} {os : OsState}
variable {nm qn : Str} {C N : Addr} {bs bm : List Value} {hdct : Bool} {sn : List Str} {sub : List Value} {ab : Bool} {col : Option Bool} {dd : Option Addr} {k0 k1 k2 k3 k5 : Option Value}
end
section
variable {prog : Program} {w : World} {A : Around} {h : Heap} {g : Array GenState} {d : Drawn} {t : Nat} {os : OsState} {C : Addr}
end
def tRaise0 (C : Addr) (E : XK) : TS := fun _ _ H => E (.ref C) none H
section
variable {X : Cx} {k : Nat} {C : Addr} {E : XK} {x : Str} {np cpos pos : Pos}
end
end L2

set_option Elab.async false
set_option linter.all false
set_option maxRecDepth 100000
set_option maxHeartbeats 4000000
namespace L2
open PySem PySem.Spec PyProof.Rows Builtin Builtin.ObjectAttr
/-! ### isinstance(e, C) of an exception, with or without a dict of its own -/
section
variable {prog : Program} {w : World} {A : Around} {E : Value → Shared → Prop} {s : Shared} {K : PySem.W.Frag} {x C : Addr} {v : Value}
end
/-- the own dict of an exception: none, or one with these fields -/
def XD (H : Hp) (dx : Option Addr) (fs : List (Str × V)) : Prop := (dx = none ∧ fs = []) ∨ ∃ d, dx = some d ∧ H d = some (xdo d fs)
theorem XD.same {H H' : Hp} {dx : Option Addr} {fs : List (Str × V)} (h : XD H dx fs) (s : Same H H') : XD H' dx fs := by
  rcases h with h | ⟨d, e, h⟩
  · exact .inl h
  · exact .inr ⟨d, e, s _ _ h⟩
def rIsy (K : PySem.W.Frag) : List V → Hp → VK → Prop := fun xs H Q => ∃ ea C dx fs c b, (xs = [.ref ea, c]) ∧ H ea = some (xh ea C dx) ∧ XD H dx fs ∧ XCls K C ∧ XIs K C ∧ ((∃ n, c = .ty n ∧ PySem.W.kitOne K (.ref C) (.type n) = some b) ∨ ∃ D, c = .ref D ∧ PySem.W.kitOne K (.ref C) (.ref D) = some b) ∧ Q (.bl b) H
/-! ### an exception of a class, with these fields (none: no dict) -/
def XB (E : XK) (H : Hp) (C : Addr) (fs : List (Str × V)) : Prop := ∀ dx H', Same H H' → XD H' dx fs → (∀ d, dx = some d → H d = none) → E (.ref C) dx H'
def XG (H : Hp) (C : Addr) (fs : List (Str × V)) : XK := fun c dx H' => c = .ref C ∧ Same H H' ∧ XD H' dx fs ∧ ∀ d, dx = some d → H d = none
theorem XB.zero {E : XK} {H : Hp} {C : Addr} (h : XB E H C []) : E (.ref C) none H := h none H (Same.refl _) (.inl ⟨rfl, rfl⟩) fun _ z => nomatch z
theorem XB.bears {E : XK} {H : Hp} {C : Addr} {fs : List (Str × V)} (h : XB E H C fs) : Bears E H C fs := fun d H' hd s e => h (some d) H' s (.inr ⟨d, rfl, e⟩) fun d' z => by cases z; exact hd
theorem XB.back {E : XK} {H H1 : Hp} {C : Addr} {fs : List (Str × V)} (h : XB E H C fs) (s : Same H H1) : XB E H1 C fs := fun dx H' s' d n => h dx H' (s.trans s') d fun d' z => same_back s (n d' z)
theorem XG.at {H H' : Hp} {C D ea : Addr} {fs : List (Str × V)} {dx : Option Addr} (g : XG H C fs (.ref D) dx H') (he : H' ea = none) : D = C ∧ Same H (upd H' ea (xh ea C dx)) ∧ upd H' ea (xh ea C dx) ea = some (xh ea C dx) ∧ XD (upd H' ea (xh ea C dx)) dx fs := by
  obtain ⟨e, sm, hd, _⟩ := g
  cases e
  refine ⟨rfl, fun b o hb => (upd_ne (ne_of_none (sm _ _ hb) he)).trans (sm _ _ hb), upd_same, hd.same fun b o hb => (upd_ne (ne_of_none hb he)).trans hb⟩
/-! ### what raises behind a call that doesn't -/
section
variable {X : Cx} {e : Expr} {pos : Pos} {rest : List Stmt} {st : Stmt}
end
/-! ### a def that is called from a handler -/
structure FnU (P : Program) (w : World) (K : PySem.W.Frag) (mg : Str → Option Value) (base : Heap) (k : Nat) (f : Addr) (fd : FuncData) (ps : List Str) (sp : Sp) : Prop where
  len : ∀ vs H Q E, sp vs H Q E → vs.length = ps.length
  run : ∀ (A : Around) (ea : Addr) (outer : List Env) (s : Shared) (H : Hp) (args : Args) (us : List Value) (vs : List V) (Q : VK) (E : XK), Room k A → Env0 P w K mg base A outer s H → BindsTo s fd args (ps.zip us) → Vals vs us → sp vs H Q E →
    codeAny (model P w) (A.mark (some (.ref ea))) (.call (.ref f) args) (CR CX0 outer P w H s Q E) s
theorem fnU_of {P : Program} {w : World} {K : PySem.W.Frag} {mg : Str → Option Value} {base : Heap} {k : Nat} {f : Addr} {name qual : Str} {params : Arguments} {body : List Stmt} {scope : Scope} {dV kV doc pm cdv ct oc : Value} {an od : Option Addr}
    {osl : Array (Option Value)} {N ps : List Str} {sp : Sp} (lk : K.lookup f = some ⟨oc, od, .func (PySem.W.fnOf name qual params body scope dV kV doc pm an cdv ct), osl⟩) (hcd : PySem.W.codeIn K cdv qual = true) (S : FnScope N ps scope)
    (len : ∀ vs H Q E, sp vs H Q E → vs.length = ps.length)
    (hbody : ∀ (A : Around) (ea : Addr) (outer : List Env) (s : Shared) (H : Hp) (vs : List V) (Q : VK) (E : XK), Room k (A.deeper (envOfC qual scope s.heap.objs.size f cdv)) → sp vs H Q E →
      ∃ t, PSs ((cxOf CX0 P w K mg base N qual scope f cdv A outer s H E).han ea).nox body t ∧ t { nx := fun _ H' => Q .non H', rt := Q } (start N vs) H) :
    FnU P w K mg base (k + 1) f (PySem.W.fnOf name qual params body scope dV kV doc pm an cdv ct) ps sp := by
  refine ⟨len, fun A ea outer s H args us vs Q E hr e0 hb r hsp => ?_⟩
  have hl := len _ _ _ _ hsp
  have KX : K.In s.heap := e0.mod.kin.keeps fun b o e => (e0.bs b o e).1
  have lim : s.heap.NoLimit := e0.mod.nolimit.keeps fun b o e => (e0.bs b o e).1
  have hkind : ∀ y ∈ ps.zip us, scope.names.lookup y.1 = some .local ∨ (scope.names.lookup y.1 = some .cell ∧ ((cellsFrom (s.heap.objs.size + 1) scope.names []).lookup y.1).isSome = true) := fun ⟨n, v⟩ hy => by
    rcases S.par n (List.of_mem_zip hy).1 with q | q
    · exact .inl q
    · exact .inr ⟨q, PySem.W.cellsFrom_some _ _ _ (.inl q)⟩
  refine codeAny_call_function (A := A.mark (some (.ref ea))) hr.depth (KX _ _ lk) rfl S.co S.gen rfl (PySem.W.codeRec_of KX hcd) (hb _ _ _ _ ?_)
  refine wpAny_newFunctionEnv_cells S.kind hkind fun env he s1 x => ?_
  subst he
  refine ⟨lim.keeps x.toInCall.keep, codeAny_func ?_⟩
  obtain ⟨t, ht, hq⟩ := hbody A ea outer s H vs Q E (hr.deeper _) hsp
  have I : Inv (cxOf CX0 P w K mg base N qual scope f cdv A outer s H E) [] (start N vs) H s1 := inv_start S hr.hd e0 hl r x
  refine wpAny_mono (ht [] s1 (start N vs) H _ ((I.han ea).wish _) hq) (fun fl s' hs => ?_) fun e s' hs => hs.elim
  have fin : ∀ {σ' : St} {H' : Hp} {v : V} {u : Value}, Inv (cxOf CX0 P w K mg base N qual scope f cdv A outer s H E) [] σ' H' s' → RelV v u → Q v H' → CE outer P w H s Q u s' :=
    fun {σ' H' v u} J rv q => ⟨v, H', J.os, J.bare, J.base, J.hok, rv, q⟩
  cases fl with
  | ret u =>
    obtain ⟨v, σ', H', J, rv, q⟩ := hs
    exact fin (J.unwish.unhan I.ok) rv q
  | next =>
    obtain ⟨σ', H', J, q⟩ := hs
    exact fin (v := V.non) (u := Value.none) (J.unwish.unhan I.ok) rfl q
  | brk =>
    obtain ⟨_, _, _, q⟩ := hs
    exact False.elim q
  | cont =>
    obtain ⟨_, _, _, q⟩ := hs
    exact False.elim q
section
variable {P : Program} {w : World} {K : PySem.W.Frag} {mg : Str → Option Value} {base : Heap}
theorem Fun.okU {x qual : Str} {st : Stmt} {f : Addr} {fd : FuncData} {N ps : List Str} {k : Nat} {sp : Sp} (F : Fun K x qual st f fd) (S : FnScope N ps (defScope st)) (len : ∀ vs H Q E, sp vs H Q E → vs.length = ps.length)
    (hbody : ∀ (cdv : Value) (A : Around) (eh : Addr) (outer : List Env) (s : Shared) (H : Hp) (vs : List V) (Q : VK) (E : XK), Room k (A.deeper (envOfC qual (defScope st) s.heap.objs.size f cdv)) → sp vs H Q E →
      ∃ t, PSs ((cxOf CX0 P w K mg base N qual (defScope st) f cdv A outer s H E).han eh).nox (defBody st) t ∧ t { nx := fun _ H' => Q .non H', rt := Q } (start N vs) H) : FnU P w K mg base (k + 1) f fd ps sp := by
  obtain ⟨oc, od, kV, doc, pm, an, cdv, ct, osl, rfl, lk, hcd⟩ := F.ex
  exact fnU_of lk hcd S len fun A ea outer s H vs Q E hr hsp => hbody cdv A ea outer s H vs Q E hr hsp
end
section
variable {X : Cx} {ea : Addr} {k : Nat} {f : Addr} {fd : FuncData} {ps : List Str} {sp : Sp} {ds : List Value} {dvs : List V} {x : Str} {p pos : Pos} {e : Expr} {es : List Expr} {t : TA}
end
end L2

set_option Elab.async false
set_option linter.all false
set_option maxRecDepth 100000
set_option maxHeartbeats 4000000
namespace L2
open PySem PySem.Spec PyProof.Rows
/-! ### exceptions that leave a loop -/
section
variable {M : Model} {A : Around} {E : Value → Shared → Prop} {s : Shared}
/-- it is held at a frame -/
theorem flight_some {B : Heap} {l : List Env} {e L : Addr} {cls : Value} {dc : Option Addr} {a0 fl : Value} {Q : Unit → Shared → Prop} (f : Fly B l e cls dc a0 fl s.heap)
    (k : ∀ h', Fly B l e cls dc a0 (rawInt L) h' → s.heap.UpToSlots h' → Q () { s with heap := h' }) : wpAny M A (setFlight (.ref e) (some L)) Q E s := by
  obtain ⟨kb, nb, ff, oe, vs, T, oT, ts, ge, hc, hdc, dt, z0, z1, nT, nTe, gT, dT, z3⟩ := f
  have z3' : 3 < ts.size := (Array.getElem?_eq_some_iff.mp z3).1
  have oth : ∀ b, b ≠ T → (s.heap.update T (Obj.mapFields (·.setIfInBounds 3 ((some L : Option Addr).elim Value.none fun f => rawInt f)))).get? b = s.heap.get? b := fun b q => Heap.get?_update_other _ _ (Ne.symm q)
  have norec : ∀ b o, s.heap.get? b = some o → (∀ ws, o.data ≠ .fields ws) → b ≠ T := fun b o q nf z => by
    subst z
    rw [gT] at q
    cases q
    exact nf ts dT
  unfold setFlight
  refine wpAny_bind (wpAny_field ge dt z1 ?_)
  rw [if_pos (by simp)]
  refine wpAny_setField gT dT z3' (k _ ⟨fun b o q => (oth b fun z => by rw [z, nT] at q; cases q).trans (kb b o q), nb, ff.of_keeps fun b o q nf => ⟨o, (oth b (norec b o q nf)).trans q, rfl⟩, ?_⟩ fun b o q nf => ⟨o.slots, (oth b (norec b o q nf)).trans q⟩)
  exact ⟨oe, vs, T, _, _, (oth e (Ne.symm nTe)).trans ge, hc, hdc, dt, z0, z1, nT, nTe, Heap.get?_update_self _ gT (Obj.isFreed_of_fields (Obj.data_mapFields dT _)), Obj.data_mapFields dT _, by simp [z3']⟩
end
/-- held at X's own frame -/
def Hld (X : Cx) (E : XK) (e : Value) (s' : Shared) : Prop := ∃ (ea C : Addr) (dx : Option Addr) (B : Heap) (H' : Hp), e = .ref ea ∧ X.Ok ∧ s'.os = X.s₀.os ∧ AllBare s'.gens ∧ (∃ a0, Fly B X.stack ea (.ref C) dx a0 (rawInt X.env.locals) s'.heap) ∧
  HOk X.prog X.w H' B ∧ Bas X.outer X.H₀ H' X.s₀.heap B ∧ Slo X.outer X.s₀.heap s'.heap ∧ E (.ref C) dx H'
theorem slo_up {X : Cx} (ok : X.Ok) {h h' : Heap} (t : Slo X.outer X.s₀.heap h) (u : h.UpToSlots h') : Slo X.outer X.s₀.heap h' := fun b o hb e => by
  obtain ⟨_, o1, ho1, nf⟩ := ok.funs.mem hb
  rw [e] at ho1
  cases ho1
  obtain ⟨sl, e1⟩ := t b o hb e
  obtain ⟨sl2, e2⟩ := u b _ e1 nf
  exact ⟨sl2, e2⟩
def xeL (X : Cx) (E : XK) : Value → Shared → Prop := fun e s' => wpAny (model X.prog X.w) X.A (noteFrame e X.env) (fun _ s'' => Hld X E e s'') (fun _ _ => False) s'
section
variable {X : Cx} {E : XK}
theorem passesL (hf : X.env.frame = some X.env.locals := by rfl) : PassesOwn (model X.prog X.w) X.A X.env (xeL X E) := by
  intro e s' h
  show wpAny _ _ (noteFrame e X.env) _ _ s'
  refine wpAny_mono h (fun _ s2 hh => ?_) fun _ _ z => False.elim z
  obtain ⟨ea, C, dx, B, H', rfl, ok, os, bare, ⟨a0, f⟩, hok, bas, slo, q⟩ := hh
  show wpAny _ _ (do
    if (← field (.ref ea) 1) == .none then unsupported "frame.own-activation:exception-without-traceback"
    setFlight (.ref ea) X.env.frame) _ _ s2
  have f' := f
  obtain ⟨kb, nb, ff, oe, vs, T, oT, ts, ge, hc, hdc, dt, z0, z1, nT, nTe, gT, dT, z3⟩ := f'
  refine wpAny_bind (wpAny_field ge dt z1 ?_)
  rw [if_neg (by simp), hf]
  refine flight_some f fun h3 f3 u3 => ?_
  show wpAny _ _ (noteFrame _ _) _ _ _
  exact note_again hf f3 ⟨ea, C, dx, B, H', rfl, ok, os, bare, ⟨a0, f3⟩, hok, bas, slo_up ok slo u3, q⟩
theorem passL (hk : X.stack = X.env :: X.outer := by rfl) (hf : X.env.frame = some X.env.locals := by rfl) (hex : X.ex = [] := by rfl) : Passes (CXv X.prog X.w) (X.wish (xeL X E)) E := by
  rintro pins σ H1 s1 e s' I' ⟨ea, C, dx, B, H', rfl, T, q⟩
  have I := I'.unwish
  obtain ⟨a0, fl⟩ := T.fly
  show wpAny _ _ (noteFrame _ _) _ _ _
  have fl' : Fly B (X.env :: X.outer) ea (.ref C) dx a0 .none s'.heap := by rw [← hk]; exact fl
  refine note_next (by rw [I.ok.frames, hk]) hf fl' fun h2 f2 u2 => ?_
  rw [← hk] at f2
  exact ⟨ea, C, dx, B, H', rfl, I.ok, T.os.trans I.os, T.bare, ⟨a0, f2⟩, T.hok, T.bas.out I hex, T.slo.out I hex u2, q⟩
/-- a statement whose exceptions are held, in a def that may raise -/
theorem PS.held {st : Stmt} {t : TS} (hx : ∀ e s, xeL X E e s → X.xe e s) (h : PS (X.wish (xeL X E)) st t) : PS X st t := fun pins s σ H D I q =>
  wpAny_mono (h pins s σ H D (I.wish _) q) (fun _ _ z => z.unwish) hx
end
theorem xeL_cx {P : Program} {w : World} {K : PySem.W.Frag} {mg : Str → Option Value} {base : Heap} {N : List Str} {qual : Str} {scope : Scope} {f : Addr} {cd : Value} {A : Around} {outer : List Env} {s : Shared} {H : Hp} {E : XK} :
    ∀ e s', xeL (cxOf (CXv P w) P w K mg base N qual scope f cd A outer s H E) E e s' → (cxOf (CXv P w) P w K mg base N qual scope f cd A outer s H E).xe e s' := by
  intro e s' h
  show wpAny _ _ (leaving _ _) _ _ _
  unfold leaving
  refine wpAny_bind (wpAny_mono h (fun _ s2 hh => ?_) fun _ _ z => False.elim z)
  obtain ⟨ea, C, dx, B, H', rfl, ok, os, bare, ⟨a0, f⟩, hok, bas, slo, q⟩ := hh
  refine flight_none f fun h3 f3 u3 => ?_
  exact ⟨ea, C, dx, B, H', rfl, ⟨os, bare, ⟨a0, f3.pop⟩, hok, bas, slo_up ok slo u3⟩, q⟩
end L2

set_option Elab.async false
set_option linter.all false
set_option maxRecDepth 100000
set_option maxHeartbeats 4000000
namespace L2
open PySem PySem.Spec PyProof.Rows PySem.Calls
/-! ### exceptions that bear no context -/
def CXn (P : Program) (w : World) : CXT := fun l H s E e s' => ∃ ea C dx B H', e = .ref ea ∧ Thr P w l H s ea C dx .none B H' s' ∧ Fly B l ea (.ref C) dx .none .none s'.heap ∧ E (.ref C) dx H'
theorem passn0 {P : Program} {w : World} {X : Cx} : Passes (CXn P w) X E0 := fun _ _ _ _ _ _ _ ⟨_, _, _, _, _, _, _, _, h⟩ => h.elim
section
variable {P : Program} {w : World} {K : PySem.W.Frag} {mg : Str → Option Value} {base : Heap} {N : List Str} {qual : Str} {scope : Scope} {f : Addr} {cd : Value} {A : Around} {outer : List Env} {s : Shared} {H : Hp} {E : XK}
theorem passN : Passes (CXn P w) (cxOf (CXn P w) P w K mg base N qual scope f cd A outer s H E) E := by
  rintro pins σ H1 s1 e s' I ⟨ea, C, dx, B, H', rfl, T, fl, q⟩
  show wpAny _ _ (leaving _ _) _ _ _
  exact leave_next I.ok.frames rfl fl fun h2 f2 u2 => ⟨ea, C, dx, B, H', rfl, ⟨T.os.trans I.os, T.bare, ⟨_, f2⟩, T.hok, T.bas.out I rfl, T.slo.out I rfl u2⟩, f2, q⟩
theorem raiseN : RaiseTo (cxOf (CXn P w) P w K mg base N qual scope f cd A outer s H E) E := by
  intro pins σ H1 s1 ea C t dx I he hn q
  have ge := xo_get I.hok he
  show wpAny _ _ (leaving _ _) _ _ _
  refine leave_first (B := atThrow _ s1 ea) I.ok.frames (at_funs I) rfl ge (fun b o z => PySem.W.of_hideAll _ z) (PySem.W.hideAll_none _ List.mem_cons_self) rfl rfl rfl fun h2 f2 u2 => ?_
  exact ⟨ea, C, dx, _, _, rfl, ⟨I.os, I.bare, ⟨_, f2⟩, at_hok I he, at_bas I rfl he hn, Slo.out I rfl (fun b o _ e => ⟨o.slots, e⟩) u2⟩, f2, q⟩
end
section
variable {P : Program} {w : World} {K : PySem.W.Frag} {mg : Str → Option Value} {base : Heap}
theorem Fun.okN {x qual : Str} {st : Stmt} {f : Addr} {fd : FuncData} {N ps : List Str} {k : Nat} {sp : Sp} (F : Fun K x qual st f fd) (S : FnScope N ps (defScope st)) (len : ∀ vs H Q E, sp vs H Q E → vs.length = ps.length)
    (hbody : ∀ (cdv : Value) (A : Around) (outer : List Env) (s : Shared) (H : Hp) (vs : List V) (Q : VK) (E : XK), Room k (A.deeper (envOfC qual (defScope st) s.heap.objs.size f cdv)) → sp vs H Q E →
      ∃ t, PSs (cxOf (CXn P w) P w K mg base N qual (defScope st) f cdv A outer s H E) (defBody st) t ∧ t { nx := fun _ H' => Q .non H', rt := Q } (start N vs) H) : FnOk P w K mg base (CXn P w) (k + 1) f fd ps sp := by
  obtain ⟨oc, od, kV, doc, pm, an, cdv, ct, osl, rfl, lk, hcd⟩ := F.ex
  exact fn_of lk hcd S len fun A outer s H vs Q E hr hsp => hbody cdv A outer s H vs Q E hr hsp
end
def LandsN (X : Cx) (pins : List (Addr × Obj)) (σ : St) (E : XK) (e : Value) (s' : Shared) : Prop :=
  ∃ (s : Shared) (H : Hp) (ea C : Addr) (dx : Option Addr) (B : Heap) (H' : Hp), e = .ref ea ∧ Inv X pins σ H s ∧ Thr X.prog X.w X.stack H s ea C dx .none B H' s' ∧ Fly B X.stack ea (.ref C) dx .none .none s'.heap ∧ E (.ref C) dx H'
def PExN (X : Cx) (e : Expr) (t : TX) : Prop := ∀ (pins : List (Addr × Obj)) (s : Shared) (σ : St) (H : Hp) (E : XK), Inv X pins σ H s → t E σ H → wpAny (model X.prog X.w) X.A (eval e X.env) (fun _ _ => False) (LandsN X pins σ E) s
def PSxN (X : Cx) (st : Stmt) (t : TX) : Prop := ∀ (pins : List (Addr × Obj)) (s : Shared) (σ : St) (H : Hp) (E : XK), Inv X pins σ H s → t E σ H → wpAny (model X.prog X.w) X.A (exec st X.env) (fun _ _ => False) (LandsN X pins σ E) s
def PSsxN (X : Cx) (st : List Stmt) (t : TX) : Prop := ∀ (pins : List (Addr × Obj)) (s : Shared) (σ : St) (H : Hp) (E : XK), Inv X pins σ H s → t E σ H → wpAny (model X.prog X.w) X.A (execs st X.env) (fun _ _ => False) (LandsN X pins σ E) s
section
variable {X : Cx} {k : Nat} {f : Addr} {fd : FuncData} {ps : List Str} {sp : Sp} {dvs : List V} {ds : List Value} {E : XK} {x : Str} {p pos : Pos} {e o : Expr} {es : List Expr} {t : TA} {pins : List (Addr × Obj)} {σ : St} {H : Hp} {s : Shared}
theorem px_callN (F : FnOk X.prog X.w X.K X.mg X.base (CXn X.prog X.w) k f fd ps sp) (hr : Room k X.A) (hg : Gl X x) (hm : X.mg x = some (.ref f)) (hk : PySem.W.keepIn X.K (.ref f) = true) (hb : Binds X.K fd ps ds) (hd : Vals dvs ds)
    (ha : PA X.nox (e :: es) t) (hdb : (x == ("__debug__" : Str)) = false := by decide) (he : starEach (e :: es) X.env = (false, eval e X.env) :: starEach es X.env := by rfl) (hpl : (backTo pos (starEach es X.env)).any (·.1) = false := by rfl) :
    PExN X (.Call (.Name x p) (e :: es) [] pos) (xCall sp dvs t) := by
  intro pins s σ H E I h
  refine wpAny_Call_Name_kw (ld_glob I hg hm ?_ hdb)
  refine PySem.W.callWith_K (h₀ := X.base) I.ok.mod.kin hk (thx (ha pos pins s σ H _ (I.wish _) h) fun us s1 ⟨vs, H1, I1', r, q⟩ => ⟨I1'.kIn, ?_⟩) he hpl
  have I1 := I1'.unwish
  have r2 : Vals (vs ++ dvs) (us ++ ds) := r.append hd
  have hl : (us ++ ds).length = ps.length := by rw [← r2.length]; exact F.len _ _ _ _ q
  refine wpAny_call (codeAny_mono (F.run X.A X.stack s1 H1 ⟨us, []⟩ (us ++ ds) (vs ++ dvs) _ E hr I1.env0 (hb s1 us I1.kIn hl) r2 q) fun r s' hq => ?_)
  cases r with
  | error e =>
    obtain ⟨ea, C, dx, B, H', rfl, T, fl, q⟩ := hq
    exact ⟨s1, H1, ea, C, dx, B, H', rfl, I1, T, fl, q⟩
  | ok fl =>
    cases fl with
    | ret u => obtain ⟨_, _, _, _, _, _, _, q⟩ := hq; exact q
    | next => exact False.elim hq
    | brk => exact False.elim hq
    | cont => exact False.elim hq
theorem px_exprN {tx : TX} (he : PExN X e tx) (hs : swapsWith e none pos.line X.env = pure false := by rfl) : PSxN X (.Expr e pos) tx := by
  intro pins s σ H E I h
  exact wpAny_Expr_any (thn (he pins s σ H E I h) fun _ _ z => z.elim) I.quiet hs
theorem pxs_oneN {st : Stmt} {rest : List Stmt} {t : TX} (h1 : PSxN X st t) : PSsxN X (st :: rest) t := by
  intro pins s σ H E I h
  exact wpAny_execs_cons (thn (h1 pins s σ H E I h) fun _ _ z => z.elim)
end
section
variable {X : Cx} {K : PySem.W.Frag} {o e : Expr} {to : TE} {tx : TX} {name : Str} {apos cpos : Pos} {T id : String}
theorem px_bmN (pa : PlainAttrs T) (slot : Slot T name id) (hty : typeOf (.builtin id) = pure (.type "method_descriptor")) (ho : PE X.nox o to) (hx : PExN X e tx)
    (hbase : attributeBase o name X.env (eval o X.env) = eval o X.env := by rfl)
    (hfew : ((backTo cpos (starEach [e] X.env)).all (fun x => !x.1) && (backToKw cpos (keywordEach [] X.env)).all (fun x => x.1.isSome)
      && decide (([e] : List Expr).length + ([] : List Keyword).length + (if ([] : List Keyword).isEmpty then 0 else 1) < 30)) = true := by rfl)
    (hline : (apos.endLine == cpos.line) = true := by rfl) (hs : starEach [e] X.env = (false, eval e X.env) :: starEach [] X.env := by rfl) (hK : X.K = K := by rfl) :
    PExN X (.Call (.Attribute o name apos) [e] [] cpos) (xBm K T to tx) := by
  subst hK
  intro pins s σ H E I h
  refine wpAny_Call_method_late hbase hfew hline rfl (thx (ho pins s σ H _ (I.wish _) h) fun v s1 ⟨x, H1, I1, r1, ty, q1⟩ => ?_)
  obtain ⟨h1, h2⟩ := tyV_is I1 r1 ty
  refine ⟨T, id, pa, slot, hty, h1, h2, ?_⟩
  rw [hs]
  refine Calls.callWith_builtin rfl (Calls.evalArgs_plain ?_)
  show wpAny _ _ (spliced ((false, eval e X.env) :: backTo cpos (starEach [] X.env))) _ _ s1
  exact Calls.spliced_cons (thn (hx pins s1 σ H1 E I1.unwish q1) fun _ _ z => z.elim)
end
/-! ### a handler whose suite may raise anew, from None -/
/-- the exception while it is handled: no context -/
def xhN (ea C : Addr) (dx : Option Addr) : HO := .ext fun h => ∃ o vs, h.get? ea = some o ∧ o.cls = .ref C ∧ o.dict = dx ∧ o.data = .fields vs ∧ vs[2]? = some .none
theorem xhN_ok {P : Program} {w : World} {H : Hp} {h : Heap} {ea C : Addr} {dx : Option Addr} {o : Obj} {vs : Array Value} (e : h.get? ea = some o) (e1 : o.cls = .ref C) (e2 : o.dict = dx) (e3 : o.data = .fields vs) (e4 : vs[2]? = some .none) : ObjOk P w H h ea (xhN ea C dx) :=
  ⟨⟨o, vs, e, e1, e2, e3, e4⟩, ⟨_, e⟩, fun _ _ ⟨o, vs, q, r⟩ k => ⟨o, vs, k _ q, r⟩⟩
theorem xhN_get {P : Program} {w : World} {H : Hp} {h : Heap} {ea C : Addr} {dx : Option Addr} (x : HOk P w H h) (e : H ea = some (xhN ea C dx)) : ∃ o vs, h.get? ea = some o ∧ o.cls = .ref C ∧ o.dict = dx ∧ o.data = .fields vs ∧ vs[2]? = some .none :=
  (show ObjOk P w H h ea (xhN ea C dx) from x _ _ e).1
theorem Thr.seenN {X : Cx} {pins : List (Addr × Obj)} {σ : St} {H H' : Hp} {s s' : Shared} {ea C : Addr} {dx : Option Addr} {B : Heap} {fl : Value} (T : Thr X.prog X.w X.stack H s ea C dx fl B H' s') (f : Fly B X.stack ea (.ref C) dx .none fl s'.heap) (I : Inv X pins σ H s) : Inv X pins σ (upd H' ea (xhN ea C dx)) s' := by
  have hn := T.none
  obtain ⟨oe, vs, _, _, _, ge, gc, gd, dt, z0, _⟩ := f.tale
  have un := T.un
  refine I.call' (ch := []) T.os ⟨un.keep, un.slot, fun b o e n hx => ?_, un.there, fun b xs e => ?_, fun b o u e => ?_, fun b ps e => ?_⟩ (fun b u e => ?_) T.bare (fun b z => nomatch z)
  · rw [upd_ne (T.new I e)]; exact un.free b o e n hx
  · have := un.tups b xs e; rw [upd_ne (ne_of_none this hn)]; exact this
  · have := un.frzs b o u e; rw [upd_ne (ne_of_none this hn)]; exact this
  · obtain ⟨m, this⟩ := un.tbls b ps e; exact ⟨m, by rw [upd_ne (ne_of_none this hn)]; exact this⟩
  · by_cases hb : b = ea
    · subst hb; rw [upd_same] at e; cases e; exact xhN_ok ge gc gd dt z0
    · rw [upd_ne hb] at e
      exact (T.held b u e).stay (fun c v _ r => r) (fun c r => by rw [upd_ne (ne_of_none r hn)]; exact r) fun c xs r => by rw [upd_ne (ne_of_none r hn)]; exact r
def PHN (X : Cx) (hs : List ExceptHandler) (th : THs) : Prop :=
  ∀ (pins : List (Addr × Obj)) (σ : St) (H H' : Hp) (D : Ends) (s s' : Shared) (ea C : Addr) (dx : Option Addr) (B : Heap), Inv X pins σ H s → Thr X.prog X.w X.stack H s ea C dx .none B H' s' → Fly B X.stack ea (.ref C) dx .none .none s'.heap → th C ea dx D σ H' →
    wpAny (model X.prog X.w) X.A (handleBy (.ref ea) X.env hs) (SP X pins D) X.xe s'
def tBareN (K : PySem.W.Frag) (Ck : Addr) (ts : Addr → TS) : THs := fun C ea dx D σ H => PySem.W.exmOne K (.ref C) (.ref Ck) = some true ∧ ts ea D σ (upd H ea (xhN ea C dx))
theorem passesH {X : Cx} {E : XK} {ea : Addr} (ok : X.Ok) (hf : X.env.frame = some X.env.locals) (e : Value) (s' : Shared) (h : xeL (X.han ea) E e s') : notedBy (model X.prog X.w) (X.A.mark (some (.ref ea))) X.env (cameBackBy (model X.prog X.w) X.A X.env (xeL X E)) e s' := by
  show wpAny _ _ (noteFrame e X.env) _ _ s'
  refine wpAny_mono h (fun _ s2 hh => ?_) fun _ _ z => False.elim z
  obtain ⟨eb, C, dx, B, H', rfl, _, os, bare, ⟨a0, f⟩, hok, bas, slo, q⟩ := hh
  show wpAny _ _ (do
    if (← field (.ref eb) 1) == .none then unsupported "frame.own-activation:exception-without-traceback"
    setFlight (.ref eb) X.env.frame) _ _ s2
  have f' := f
  obtain ⟨kb, nb, ff, oe, vs, T, oT, ts, ge, hc, hdc, dt, z0, z1, nT, nTe, gT, dT, z3⟩ := f'
  refine wpAny_bind (wpAny_field ge dt z1 ?_)
  rw [if_neg (by simp), hf]
  refine flight_some f fun h3 f3 u3 => ?_
  show wpAny _ _ (noteFrame _ _) _ _ _
  exact note_again hf f3 ⟨eb, C, dx, B, H', rfl, ok, os, bare, ⟨a0, f3⟩, hok, bas, slo_up ok slo u3, q⟩
section
variable {X : Cx} {E : XK} {x : Str} {np hpos pos : Pos} {b₀ : Stmt} {suite body : List Stmt} {h₀ : ExceptHandler} {rest : List ExceptHandler} {Ck : Addr} {ts : Addr → TS} {tb : TS} {tx : TX} {tr : THs}
theorem ph_bareN (hg : Gl X x) (hm : X.mg x = some (.ref Ck)) (hs : ∀ ea, PSs ((X.han ea).wish (xeL (X.han ea) E)) (b₀ :: suite) (ts ea)) (hdb : (x == ("__debug__" : Str)) = false := by decide) (hf : X.env.frame = some X.env.locals := by rfl) :
    PHN (X.wish (xeL X E)) [.ExceptHandler (some (.Name x np)) none (b₀ :: suite) hpos] (tBareN X.K Ck ts) := by
  intro pins σ H H' D s s' ea C dx B I T F h
  obtain ⟨hx, h⟩ := h
  have I1 := T.inv I
  refine wpAny_handleBy_cons (codeAny_handlers_test (ld_glob (X := (X.wish (xeL X E)).han ea) (I1.han ea) hg hm ?_ hdb)) (by intro q; cases q)
  refine PySem.W.Looks.here (PySem.W.exm_one I1.kIn T.looks hx) ?_
  refine codeAny_handlers_suite ?_
  refine flight_none F fun h2 f2 u2 => ?_
  have I2 := (((T.on f2 u2 I).seenN f2 I).unwish).han ea
  refine wpAny_mono (hs ea pins _ _ _ D (I2.wish _) h) (fun fl s4 q => ?_) (fun e s4 z => passesH I.ok.unwish hf e s4 z)
  cases fl with
  | next => obtain ⟨σ4, H4, I4, q⟩ := q; exact ⟨_, _, (I4.unwish.unhan I.ok.unwish).wish _, q⟩
  | brk => obtain ⟨σ4, H4, I4, q⟩ := q; exact ⟨_, _, (I4.unwish.unhan I.ok.unwish).wish _, q⟩
  | cont => obtain ⟨σ4, H4, I4, q⟩ := q; exact ⟨_, _, (I4.unwish.unhan I.ok.unwish).wish _, q⟩
  | ret u => obtain ⟨v, σ4, H4, I4, r, q⟩ := q; exact ⟨v, _, _, (I4.unwish.unhan I.ok.unwish).wish _, r, q⟩
theorem ps_tryN (hb : PSs X.nox body tb) (hx : PSsxN X body tx) (hh : PHN X (h₀ :: rest) tr) (hk : X.stack = X.env :: X.outer := by rfl) (hf : X.env.frame = some X.env.locals := by rfl) : PS X (.Try body (h₀ :: rest) [] [] pos) (tTry tb tx tr) := by
  intro pins s σ H D I h
  refine wpAny_Try_except ?_
  rcases h with h | ⟨E, h, q⟩
  · refine wpAny_mono (hb pins s σ H D (I.wish _) h) (fun f s1 z => ?_) (fun _ _ z => z.elim)
    cases f with
    | next => exact wpAny_execs_nil z.unwish
    | brk => exact z.unwish
    | cont => exact z.unwish
    | ret u => exact z.unwish
  · refine wpAny_mono (hx pins s σ H E I h) (fun _ _ z => z.elim) ?_
    rintro e s1 ⟨s0, H0, ea, C, dx, B, H', rfl, I0, T, f, qE⟩
    rw [hk] at f
    refine note_next (by rw [I0.ok.frames, hk]) hf f fun h1 f1 u1 => ?_
    rw [← hk] at f1
    have T1 := T.on f1 u1 I0
    refine flight_none f1 fun h2 f2 u2 => ?_
    have T2 := T1.on f2 u2 I0
    exact hh pins σ H0 H' D s0 _ ea C dx B I0 T2 f2 (q C dx H' ea qE T2.none)
end
end L2
namespace L2
open PySem PySem.Spec PyProof.Rows PySem.Calls
theorem entry_unchain : entryFor table "proto.unchain" = some Builtin.«proto.unchain» := entryFor_of_tree (by kernel_rfl)
section
variable {X : Cx} {pins : List (Addr × Obj)} {σ : St} {H : Hp} {s : Shared} {ea : Addr} {φ : Heap → Prop}
theorem at_hokX (I : Inv X pins σ H s) (he : H ea = some (.ext φ)) : HOk X.prog X.w (del H ea) (atThrow X s ea) := fun b u q => by
  have nb : b ≠ ea := fun z => by rw [z, del_self] at q; cases q
  rw [del_ne nb] at q
  have nown : ∀ c y, H c = some (.own y) → c ≠ ea := fun c y r z => by rw [z, he] at r; cases r
  have ntup : ∀ c xs, H c = some (.tup xs) → c ≠ ea := fun c xs r z => by rw [z, he] at r; cases r
  have nfr : ∀ c u, H c = some u → c ∉ frs X.stack := fun c u r z => by rw [I.stkFree c z] at r; cases r
  refine (I.hok b u q).stay (fun c v hc r => PySem.W.hideAll_get _ r fun m => ?_) (fun c r => by rw [del_ne (nown c b r)]; exact r) fun c xs r => by rw [del_ne (ntup c xs r)]; exact r
  rcases List.mem_cons.mp m with z | z
  · rcases hc with r' | r'
    · exact nb (r'.symm.trans z)
    · exact nown c b r' z
  · rcases hc with r' | r'
    · rw [r'] at z; exact nfr b u q z
    · exact nfr c _ r' z
theorem at_basX (I : Inv X pins σ H s) (hex : X.ex = []) (he : H ea = some (.ext φ)) (hn : X.s₀.heap.objs.size ≤ ea) : Bas X.outer X.H₀ (del H ea) X.s₀.heap (atThrow X s ea) where
  keep := fun b o e n hb => PySem.W.hideAll_get _ (I.base.keep b o e n hb (by rw [hex]; simp)) fun m => by
    rcases List.mem_cons.mp m with z | z
    · exact absurd (Heap.lt_size e) (by rw [z]; exact Nat.not_lt.mpr hn)
    · exact I.low e hb z
  free := fun b o e n => by
    rw [del_ne fun z => absurd (Heap.lt_size e) (by rw [z]; exact Nat.not_lt.mpr hn)]
    exact I.base.free b o e n (by rw [hex]; simp)
  there := fun b o e hb => by
    obtain ⟨o', q⟩ := I.base.there b o e (by rw [hex]; simp)
    refine ⟨o', PySem.W.hideAll_get _ q fun m => ?_⟩
    rcases List.mem_cons.mp m with z | z
    · exact absurd (Heap.lt_size e) (by rw [z]; exact Nat.not_lt.mpr hn)
    · exact I.low e hb z
  tups := fun b xs q => by
    have r := I.base.tups b xs q
    rw [del_ne fun z => by rw [z, he] at r; cases r]
    exact r
  frzs := fun b o u q => by
    have r := I.base.frzs b o u q
    rw [del_ne fun z => by rw [z, he] at r; cases r]
    exact r
  tbls := fun b ps q => by
    obtain ⟨m, r⟩ := I.base.tbls b ps q
    exact ⟨m, by rw [del_ne fun z => by rw [z, he] at r; cases r]; exact r⟩
/-- an exception that lies in the heap, not yet noted anywhere, is held here -/
theorem xeL_of {E : XK} {C : Addr} {dx : Option Addr} {oe : Obj} {vs : Array Value} {a0 : Value} (I : Inv X pins σ H s) (he : H ea = some (.ext φ)) (hn : X.s₀.heap.objs.size ≤ ea) (ge : s.heap.get? ea = some oe) (gc : oe.cls = .ref C) (gd : oe.dict = dx) (dt : oe.data = .fields vs) (z1 : vs[1]? = some .none) (z0 : vs[2]? = some a0)
    (q : E (.ref C) dx (del H ea)) (hk : X.stack = X.env :: X.outer) (hf : X.env.frame = some X.env.locals) (hex : X.ex = []) : xeL X E (.ref ea) s := by
  show wpAny _ _ (noteFrame _ _) _ _ _
  have ff := at_funs (ea := ea) I
  rw [hk] at ff
  refine note_first (B := atThrow X s ea) (by rw [I.ok.frames, hk]) ff hf ge (fun b o z => PySem.W.of_hideAll _ z) (PySem.W.hideAll_none _ List.mem_cons_self) dt z1 z0 fun h2 f2 u2 => ?_
  rw [← hk, gc, gd] at f2
  exact ⟨ea, C, dx, _, _, rfl, I.ok, I.os, I.bare, ⟨_, f2⟩, at_hokX I he, at_basX I hex he hn, Slo.out I hex (fun b o _ e => ⟨o.slots, e⟩) u2, q⟩
end
/-- a new exception within a handler whose own exception has no context -/
theorem raiseNew_han {α : Type} {prog : Program} {w : World} {A : Around} {E : Value → Shared → Prop} {Q : α → Shared → Prop} {hp : Heap} {g : Array GenState} {d : Drawn} {tk : Nat} {os : OsState} {ea eh : Addr} {oh : Obj} {vh : Array Value} {c0 v0 v3 v4 v5 : Value} {dx : Option Addr}
    (ha : A.handled = some (.ref eh)) (ne : eh ≠ ea) (gh : hp.get? eh = some oh) (dh : oh.data = .fields vh) (zh : vh[2]? = some .none)
    (ge : hp.get? ea = some ({ cls := c0, dict := dx, data := .fields #[v0, .none, .none, v3, v4, v5] } : Obj))
    (k : ∀ h', (∀ b, b ≠ ea → h'.get? b = hp.get? b) → h'.get? ea = some ({ cls := c0, dict := dx, data := .fields #[v0, .none, .ref eh, v3, v4, v5] } : Obj) → E (.ref ea) ⟨h', g, d, tk, os⟩) :
    wpAny (model prog w) A (raiseNew (.ref ea) : Sem α) Q E ⟨hp, g, d, tk, os⟩ := by
  unfold raiseNew
  refine wpAny_bind (wpAny_handled ?_)
  rw [ha]
  show wpAny _ _ (if (Value.ref eh != Value.ref ea) = true then _ else _) _ _ _
  rw [if_pos (by simp [ne])]
  refine wpAny_bind (wpAny_holding (wpAny_runValue (codeAny_builtin entry_unchain ?_)))
  show wpAny _ _ (do
    let context ← field (.ref eh) 2
    if context == .none then return ← ret .none
    if context == Value.ref ea then
      rule "raise.context-cycle-cut"
      setField (.ref eh) 2 .none
      return ← ret .none
    if context == Value.ref eh then rule "raise.context-old-cycle"; return ← ret .none
    let slow ← if false then field (.ref eh) 2 else pure (.ref eh)
    again (.builtin "proto.unchain" ⟨[.ref ea, context, slow, .bool !false], []⟩)) _ _ _
  refine wpAny_bind (wpAny_field gh dh zh ?_)
  rw [if_pos (by rfl)]
  refine wpAny_bind (wpAny_pure (wpAny_pure ?_))
  refine wpAny_bind (wpAny_setField (s := ⟨hp, g, d, tk, os⟩) ge rfl (by simp) ?_)
  refine wpAny_throw (k _ (fun b nb => Heap.get?_update_other _ _ (Ne.symm nb)) (Heap.get?_update_self _ ge rfl))
def tRaiseN (eh C : Addr) (names : List Str) (E : XK) (t : TA) : TS := fun _ σ H => t σ H fun ys H1 => ys.length = names.length ∧ (∃ Ch dh, H1 eh = some (xhN eh Ch dh)) ∧ ∀ d H', H1 d = none → Same H1 H' → H' d = some (xdo d (names.zip ys)) → E (.ref C) (some d) H'
section
variable {X : Cx} {k : Nat} {f C eh : Addr} {fd : FuncData} {ps names : List Str} {E : XK} {x : Str} {np cpos pos : Pos} {e ce : Expr} {es : List Expr} {t : TA}
theorem ps_raiseN (c : XCls X.K C) (hi : PySem.W.findIn X.K (.ref C) "__init__" = some (some (.ref f))) (hf : PySem.W.isFn X.K (.ref f) = true) (F : FnU X.prog X.w X.K X.mg X.base k f fd ps (sp_xs C names)) (hr : Room (k + 1) X.A)
    (hg : Gl X x) (hm : X.mg x = some (.ref C)) (hb : Binds X.K fd ps []) (hnl : names.length ≤ 100) (ha : PA ((X.han eh).wish (xeL (X.han eh) E)) (e :: es) t) (hce : PE ((X.han eh).wish (xeL (X.han eh) E)) ce (tC .non)) (hdb : (x == ("__debug__" : Str)) = false := by decide)
    (hst : starEach (e :: es) X.env = (false, eval e X.env) :: starEach es X.env := by rfl) (hpl : (backTo cpos (starEach es X.env)).any (·.1) = false := by rfl) (hk : X.stack = X.env :: X.outer := by rfl) (hfr : X.env.frame = some X.env.locals := by rfl) (hex : X.ex = [] := by rfl) :
    PS ((X.han eh).wish (xeL (X.han eh) E)) (.Raise (some (.Call (.Name x np) (e :: es) [] cpos)) (some ce) pos) (tRaiseN eh C names E t) := by
  intro pins s σ H D I h
  rw [arm_exec_Raise]
  show wpAny _ _ (do standAt pos; raiseStmt X.env (some (do let v ← eval (.Call (.Name x np) (e :: es) [] cpos) X.env; standAt pos; pure v)) (some (do let v ← eval ce X.env; standAt pos; pure v))) _ _ s
  refine wpAny_bind (wpAny_standAt ?_)
  unfold raiseStmt
  refine wpAny_bind (wpAny_bind (thn (Q := fun u s1 => ∃ ea tt dx H2, u = Value.ref ea ∧ X.s₀.heap.objs.size ≤ ea ∧ Inv (X.han eh) pins σ H2 s1 ∧ ea ≠ eh ∧ (∃ Ch dh, H2 eh = some (xhN eh Ch dh)) ∧ H2 ea = some (xo ea C tt dx) ∧ E (.ref C) dx (del H2 ea)) ?_ ?_))
  · refine wpAny_Call_Name_kw (ld_glob I hg hm ?_ hdb)
    refine PySem.W.callWith_K (h₀ := X.base) I.ok.mod.kin c.kp (thn (ha cpos pins s σ H _ I h) fun us s1 ⟨ys, H1, I1', r, hlen, ⟨Ch, dh, hh⟩, q⟩ => ⟨I1'.kIn, ?_⟩) hst hpl
    have I1 := I1'.unwish
    have hul : us.length ≤ 100 := by rw [← r.length, hlen]; exact hnl
    refine x_call I1.kIn c hi hf (Nat.le_trans hul (by decide)) (wpAny_call ?_)
    have e2 : ((s1.heap.push (xTup us)).push (XObj C s1.heap.objs.size none)).get? (s1.heap.objs.size + 1) = some (XObj C s1.heap.objs.size none) := by
      have := Heap.get?_push_size (s1.heap.push (xTup us)) (o := XObj C s1.heap.objs.size none) rfl
      rwa [Heap.size_push] at this
    have I2 := (I1.kept (h' := s1.heap.push (xTup us)) (t' := s1.toks) (fun b u q => Heap.get?_push_of_some _ q)).laid (a := s1.heap.objs.size + 1) (o := xo (s1.heap.objs.size + 1) C s1.heap.objs.size none) (h' := (s1.heap.push (xTup us)).push (XObj C s1.heap.objs.size none)) (t' := s1.toks) (fun b u q => Heap.get?_push_of_some _ q) (Nat.le_of_eq (Heap.size_push _ _)) (xo_ok e2)
    have hfr : H1 (s1.heap.objs.size + 1) = none := I1.hok.fresh (Nat.le_succ _)
    have nh : s1.heap.objs.size + 1 ≠ eh := fun z => by rw [z, hh] at hfr; cases hfr
    have r2 : Vals (V.ref (s1.heap.objs.size + 1) :: ys) (Value.ref (s1.heap.objs.size + 1) :: us) := .cons rfl r
    have hsp : sp_xs C names (V.ref (s1.heap.objs.size + 1) :: ys) (upd H1 (s1.heap.objs.size + 1) (xo (s1.heap.objs.size + 1) C s1.heap.objs.size none))
        (fun v H2 => v = .non ∧ (∃ Ch dh, H2 eh = some (xhN eh Ch dh)) ∧ ∃ tt dx, H2 (s1.heap.objs.size + 1) = some (xo (s1.heap.objs.size + 1) C tt dx) ∧ E (.ref C) dx (del H2 (s1.heap.objs.size + 1))) E0 := by
      refine ⟨_, _, ys, rfl, hlen, upd_same, fun d H' hd nd ho hea hdd => ⟨rfl, ⟨Ch, dh, ?_⟩, _, _, hea, q d _ ?_ (fun b o hb => ?_) ?_⟩⟩
      · have n2 : eh ≠ d := fun z => by rw [← z, upd_ne (Ne.symm nh), hh] at hd; cases hd
        rw [ho eh n2 (Ne.symm nh), upd_ne (Ne.symm nh)]; exact hh
      · rw [upd_ne nd] at hd; exact hd
      · have n1 : b ≠ s1.heap.objs.size + 1 := ne_of_none hb hfr
        have n2 : b ≠ d := fun z => by rw [z, ← upd_ne (H := H1) nd, hd] at hb; cases hb
        rw [del_ne n1, ho b n2 n1, upd_ne n1]; exact hb
      · rw [del_ne nd]; exact hdd
    have hl : (Value.ref (s1.heap.objs.size + 1) :: us ++ []).length = ps.length := by
      have e := r2.length
      rw [F.len _ _ _ _ hsp] at e
      rw [List.append_nil]
      exact e.symm
    have hbd := hb _ (Value.ref (s1.heap.objs.size + 1) :: us) I2.kIn hl
    rw [List.append_nil] at hbd
    have e0 := I2.env0
    have e0' : Env0 X.prog X.w X.K X.mg X.base X.A X.stack _ _ := ⟨e0.frames, e0.mod, e0.bs, e0.bsz, e0.funs, e0.frf, e0.hok, e0.bare⟩
    refine codeAny_mono (F.run (X.A.under (.builtin "type.__call__" ⟨.ref C :: us, []⟩)) eh X.stack _ _ ⟨Value.ref (s1.heap.objs.size + 1) :: us, []⟩ _ _ _ E0 (hr.make C us []) (e0'.make C us []) hbd r2 hsp) fun r s' hq' => ?_
    cases r with
    | error e => exact False.elim hq'
    | ok fl =>
      cases fl with
      | ret u =>
        obtain ⟨v, H', I3, rv, ev, hh', tt, dx, g1, g2⟩ := I2.after hq'
        subst ev
        exact ⟨rv, _, tt, dx, H', rfl, Nat.le_trans I1.sz (Nat.le_succ _), I3, nh, hh', g1, g2⟩
      | next => exact False.elim hq'
      | brk => exact False.elim hq'
      | cont => exact False.elim hq'
  · rintro u s1 ⟨ea, tt, dx, H2, rfl, hn, I2, neh, ⟨Ch, dh, hh⟩, he2, q2⟩
    refine wpAny_bind (wpAny_standAt (wpAny_pure ?_))
    refine wpAny_bind (wpAny_holding (wpAny_bind (thn (hce pins s1 σ H2 (fun v H3 => v = .non ∧ H3 = H2) (I2.wish _) ⟨rfl, rfl⟩) fun u s2 ⟨v, H3, I3', rv, ev, eH⟩ => ?_)))
    subst ev eH
    obtain rfl : u = Value.none := rv
    have I3 := I3'.unwish
    clear I2 I3'
    refine wpAny_bind (wpAny_standAt (wpAny_pure (wpAny_bind (wpAny_pure ?_))))
    have ge := xo_get I3.hok he2
    obtain ⟨nm, qn, N, bs, bm, sn, sub, ab, col, dd, k0, k1, k2, k3, k5, hK, ho⟩ := xIn_cls c.x
    have hC := I3.kIn _ _ hK
    have cB : (Value.ref C :: bm).contains (.type "BaseException") = true := by rw [List.contains_cons, xOver_has ho (b := true) (by decide), Bool.or_true]
    have hxe : ∀ h' tk, (∀ b o, b ≠ ea → s2.heap.get? b = some o → h'.get? b = some o) → h'.get? ea = some ({ cls := .ref C, dict := dx, data := .fields #[.ref tt, .none, .ref eh, .none, .bool true, .none] } : Obj) → xeL (X.han eh) E (.ref ea) { s2 with heap := h', toks := tk } := by
      intro h' tk kp ge'
      have I4 := I3.write (x := ea) (e := ea) (t' := tk) (h' := h') (o := xh ea C dx) (by rw [he2]; exact True.intro) (.inl rfl) (fun b u nb hb => kp b u nb hb) ⟨_, ge'⟩ (xh_ok ge' rfl rfl rfl)
      refine xeL_of I4 upd_same hn ge' rfl rfl rfl rfl rfl ?_ hk hfr hex
      have ed : del (upd H3 ea (xh ea C dx)) ea = del H3 ea := by
        funext b
        by_cases z : b = ea
        · rw [z, del_self, del_self]
        · rw [del_ne z, del_ne z, upd_ne z]
      rw [ed]
      exact q2
    obtain ⟨oh, vh, gh, _, _, dh', zh⟩ := xhN_get I3.hok hh
    clear I3 hK he2 hh q2
    obtain ⟨hp, g, d, tk, os⟩ := s2
    dsimp only at ge hC gh hxe
    repeat (first | (with_reducible refine wpAny_loadPart_at ge ?_) | (with_reducible refine wpAny_loadPart_at hC ?_) | (with_reducible refine wpAny_isSubtype_exc hC ?_; rw [cB]) | wp_step)
    have nCe : ea ≠ C := fun z => by rw [z, hC] at ge; cases ge
    have g1 := Heap.get?_update_self (Obj.mapFields (fun x => x.setIfInBounds 3 Value.none)) ge rfl
    have g2 := Heap.get?_update_self (Obj.mapFields (fun x => x.setIfInBounds 4 (Value.bool true))) g1 rfl
    have kp : ∀ b o, b ≠ ea → hp.get? b = some o → ((hp.update ea (Obj.mapFields fun x => x.setIfInBounds 3 Value.none)).update ea (Obj.mapFields fun x => x.setIfInBounds 4 (Value.bool true))).get? b = some o := fun b o nb q =>
      (Heap.get?_update_other _ _ (Ne.symm nb)).trans ((Heap.get?_update_other _ _ (Ne.symm nb)).trans q)
    generalize (hp.update ea (Obj.mapFields fun x => x.setIfInBounds 3 Value.none)).update ea (Obj.mapFields fun x => x.setIfInBounds 4 (Value.bool true)) = hp2 at g2 kp ⊢
    have hC2 := kp _ _ (Ne.symm nCe) hC
    have gh2 := kp _ _ (Ne.symm neh) gh
    have g3 : hp2.get? ea = some ({ cls := .ref C, dict := dx, data := .fields #[.ref tt, .none, .none, .none, .bool true, .none] } : Obj) := g2
    clear g1 g2
    repeat (first | (with_reducible refine wpAny_loadPart_at g3 ?_) | (with_reducible refine wpAny_loadPart_at hC2 ?_) | wp_step)
    exact raiseNew_han (by rfl) (Ne.symm neh) gh2 dh' zh g3 fun h' sb ge' => hxe h' tk (fun b o nb q => (sb b nb).trans (kp b o nb q)) ge'
end
end L2

set_option Elab.async false
set_option linter.all false
set_option maxRecDepth 100000
set_option maxHeartbeats 4000000
namespace L2
open PySem PySem.Spec PyProof.Rows
/-- good lines, one that is none, and more -/
structure Amid (ls bs : List (List Nat)) (l : List Nat) (rest : List (List Nat)) : Prop where
  e : ls = lns 0 bs ++ l :: rest
  b : ∀ b ∈ bs, (∀ c ∈ b, c < 128) ∧ b.length ≤ 401 ∧ (b[0]? = some 43 ∨ b[0]? = some 46)
  n : bs.length ≤ 5000
  r : rest ≠ []
  t : (∀ c ∈ l, c < 128) ∧ l.length ≤ 9000 ∧ ¬ okLn bs.length l
def sp_goodbX (C : Addr) : Sp := fun vs H Q E => ∃ (p : Addr) (ls bs : List (List Nat)), vs = [.ref p] ∧ H p = some (.lst (tx ls)) ∧
  ((∃ tl, Cutt ls bs tl ∧ ∀ d H', H d = none → Same H H' → H' d = some (.lst (tx bs)) → Q (.ref d) H') ∨ (∃ l rest, Amid ls bs l rest ∧ ∀ H', Same H H' → Bears E H' C [("line", .int (bs.length : Int))]))
def sp_actsofX (C : Addr) : Sp := fun vs H Q E => ∃ (p : Addr) (ls bs : List (List Nat)), vs = [.ref p] ∧ H p = some (.lst (tx ls)) ∧
  ((∃ tl, Cutt ls bs tl ∧ ∀ t q (ads : List Addr) H', H t = none → H q = none → Same H H' → H' t = some (.tup [.ref q, .int ((gst bs).2.2.1 : Nat)]) → H' q = some (.lst (ads.map V.ref)) → Lsts H' ads (gst bs).1 → Q (.ref t) H') ∨ (∃ l rest, Amid ls bs l rest ∧ ∀ H', Same H H' → Bears E H' C [("line", .int (bs.length : Int))]))
def sp_bookofX (CB C : Addr) : Sp := fun vs H Q E => ∃ (p : Addr) (ls bs : List (List Nat)), vs = [.ref p] ∧ H p = some (.lst (tx ls)) ∧
  ((∃ tl, Cutt ls bs tl ∧ ∀ r l H', H r = none → H l = none → Same H H' → BookAt CB H' r l (ls.take (gst bs).2.2.1) → Q (.ref r) H') ∨ (∃ l rest, Amid ls bs l rest ∧ ∀ H', Same H H' → Bears E H' C [("line", .int (bs.length : Int))]))
theorem GotN.at {H H' : Hp} {C D ea : Addr} {fs : List (Str × V)} {dx : Option Addr} (g : Got H C fs (.ref D) dx H') (he : H' ea = none) : D = C ∧ ∃ d, dx = some d ∧ Same H (upd H' ea (xhN ea C (some d))) ∧ upd H' ea (xhN ea C (some d)) ea = some (xhN ea C (some d)) ∧ upd H' ea (xhN ea C (some d)) d = some (xdo d fs) := by
  obtain ⟨e, d, rfl, hd, sm, hdd⟩ := g
  cases e
  have ned : d ≠ ea := fun z => by rw [z, he] at hdd; cases hdd
  exact ⟨rfl, d, rfl, fun b o hb => (upd_ne (ne_of_none (sm _ _ hb) he)).trans (sm _ _ hb), upd_same, (upd_ne ned).trans hdd⟩
/-- what comes behind the good lines -/
structure Tl (n : Nat) (tl : List (List Nat)) : Prop where
  len : tl.length ≤ 2000
  ok : ∀ l ∈ tl, (∀ c ∈ l, c < 128) ∧ l.length ≤ 9000
  bad : ∀ l, tl[0]? = some l → ¬ okLn n l
def sp_changed17 : Sp := fun vs H Q _ => ∃ (n : Nat) (b : List Nat) (way c : Int), vs = [.str (S (lineL n b)), .int way, .int c] ∧ GoodB n b ∧ b.length ≤ 8000 ∧ ∀ l : List Nat, (∀ c ∈ l, c < 128) → l.length ≤ 9000 → ¬ okLn n l → Q (.str (S l)) H
def sp_broken17 : Sp := fun vs H Q _ => ∃ (p : Addr) (ls bs : List (List Nat)) (l : List Nat) (rest : List (List Nat)) (bb : Bool), vs = [.ref p, .bl bb] ∧ H p = some (.lst (tx ls)) ∧ Amid ls bs l rest ∧
  ∀ t H', Same H H' → H' t = some (.tup [.int (bs.length : Int), .bl false, .bl true, .bl true]) → Q (.ref t) H'
def sp_refused17 : Sp := fun vs H Q _ => ∃ (t : Addr) (n : Nat), vs = [.ref t, .int (n : Int)] ∧ H t = some (.tup [.int (n : Int), .bl false, .bl true, .bl true]) ∧ ∀ H', Same H H' → Q (.bl true) H'
def bad17 (i : Nat) (way : Int) : Nat := i + if way = 5 then 1 else 0
def sp_spoiled17 : Sp := fun vs H Q _ => ∃ (p : Addr) (A : List (List (List Nat))) (i : Nat) (way c : Int), vs = [.ref p, .int (i : Int), .int way, .int c] ∧ H p = some (.lst (tx (lns 0 (fl A)))) ∧ (∀ a ∈ A, okAct a) ∧ A.length ≤ 24 ∧ i < (fl A).length ∧
  ∀ tl D H', Tl (bad17 i way) tl → H D = none → Same H H' → H' D = some (.lst (tx (lns 0 ((fl A).take (bad17 i way)) ++ tl))) → Q (.ref D) H'
theorem lns_in {A : List (List (List Nat))} (ok : ∀ a ∈ A, okAct a) (hl : A.length ≤ 24) : ∀ l ∈ lns 0 (fl A), (∀ c ∈ l, c < 128) ∧ l.length ≤ 9000 := fun l hl' => by
  have fle := fl_le ok
  obtain ⟨k, hk⟩ := List.getElem?_of_mem hl'
  have hk' : k < (fl A).length := by rw [← lns_len 0]; exact (List.getElem?_eq_some_iff.mp hk).1
  rw [lns_get 0 (fl A) k _ (List.getElem?_eq_getElem hk'), Nat.zero_add] at hk
  cases hk
  have okb := fl_ok ok _ (List.getElem_mem hk')
  have g : GoodB k (fl A)[k] := ⟨by omega, okb.1, by omega⟩
  exact ⟨line_c okb.1, by rw [g.len]; omega⟩
theorem wrong_n {m n : Nat} {b : List Nat} (g : GoodB m b) (hn : n < 1000000) (ne : m ≠ n) : ¬ okLn n (lineL m b) := fun z => by
  have e := z.1
  rw [g.drop] at e
  exact ne (line_number g ⟨hn, g.c, g.l⟩ e)
section
variable {K : PySem.W.Frag} {H H1 : Hp} {p : Addr} {ls vs : List (List Nat)} {k m : Nat} {Q : VK}
theorem tx_app (a b : List (List Nat)) : tx (a ++ b) = tx a ++ tx b := by unfold tx; rw [List.map_append]
theorem tx_len (a : List (List Nat)) : (tx a).length = a.length := by unfold tx; rw [List.length_map]
theorem tx_take (a : List (List Nat)) (k : Nat) : (tx a).take k = tx (a.take k) := by unfold tx; rw [List.map_take]
theorem tx_drop (a : List (List Nat)) (k : Nat) : (tx a).drop k = tx (a.drop k) := by unfold tx; rw [List.map_drop]
theorem two17 (hp : H p = some (.lst (tx ls))) (hz : ls.length ≤ 3000) (q : ∀ D H', H D = none → Same H H' → H' D = some (.lst (tx (ls.take k) ++ tx (ls.drop m))) → Q (.ref D) H') :
    rSlA K (.ref p) none (some (k : Int)) H fun x H1 => rSlA K (.ref p) (some (m : Int)) none H1 fun y H2 => rPlus K x y H2 Q := by
  have Z : 40000 ≤ sizeLine := by decide
  refine rSlA_l (.inl (.inl hp)) fun l1 h1 => ?_
  rw [cutV_pre, tx_take]
  have s1 : Same H (upd H l1 (.lst (tx (ls.take k)))) := Same.upd h1
  have a1 : upd H l1 (.lst (tx (ls.take k))) l1 = some (.lst (tx (ls.take k))) := upd_same
  generalize upd H l1 (.lst (tx (ls.take k))) = H1 at s1 a1 ⊢
  refine rSlA_l (.inl (.inl (s1 _ _ hp))) fun l2 h2 => ?_
  rw [cutV_suf, tx_drop]
  have s2 : Same H1 (upd H1 l2 (.lst (tx (ls.drop m)))) := Same.upd h2
  have a2 : upd H1 l2 (.lst (tx (ls.drop m))) l2 = some (.lst (tx (ls.drop m))) := upd_same
  generalize upd H1 l2 (.lst (tx (ls.drop m))) = H2 at s2 a2 ⊢
  refine rPlus_l (.inl (.inl (s2 _ _ a1))) (.inl (.inl a2)) ?_ fun D hD => q D _ (none_of_same (s1.trans s2) hD) ((s1.trans s2).trans (Same.upd hD)) upd_same
  rw [tx_len, tx_len, List.length_take, List.length_drop]; omega
theorem end17 {l1 l2 : Addr} (s : Same H H1) (hp : H p = some (.lst (tx ls))) (hz : ls.length ≤ 3000) (hv : vs.length ≤ 10) (a1 : H1 l1 = some (.lst (tx (ls.take k)))) (h2 : H1 l2 = none)
    (q : ∀ D H', H D = none → Same H H' → H' D = some (.lst (tx (ls.take k) ++ tx (vs ++ ls.drop m))) → Q (.ref D) H') :
    rPlus K (.ref l1) (.ref l2) (upd H1 l2 (.lst (tx vs))) fun y H2 => rSlA K (.ref p) (some (m : Int)) none H2 fun z H3 => rPlus K y z H3 Q := by
  have Z : 40000 ≤ sizeLine := by decide
  have s2 : Same H1 (upd H1 l2 (.lst (tx vs))) := Same.upd h2
  have a2 : upd H1 l2 (.lst (tx vs)) l2 = some (.lst (tx vs)) := upd_same
  generalize upd H1 l2 (.lst (tx vs)) = H2 at s2 a2 ⊢
  refine rPlus_l (.inl (.inl (s2 _ _ a1))) (.inl (.inl a2)) (by rw [tx_len, tx_len, List.length_take]; omega) fun l3 h3 => ?_
  have s3 : Same H2 (upd H2 l3 (.lst (tx (ls.take k) ++ tx vs))) := Same.upd h3
  have a3 : upd H2 l3 (.lst (tx (ls.take k) ++ tx vs)) l3 = some (.lst (tx (ls.take k) ++ tx vs)) := upd_same
  generalize upd H2 l3 (.lst (tx (ls.take k) ++ tx vs)) = H3 at s3 a3 ⊢
  have s03 := s.trans (s2.trans s3)
  refine rSlA_l (.inl (.inl (s03 _ _ hp))) fun l4 h4 => ?_
  rw [cutV_suf, tx_drop]
  have s4 : Same H3 (upd H3 l4 (.lst (tx (ls.drop m)))) := Same.upd h4
  have a4 : upd H3 l4 (.lst (tx (ls.drop m))) l4 = some (.lst (tx (ls.drop m))) := upd_same
  generalize upd H3 l4 (.lst (tx (ls.drop m))) = H4 at s4 a4 ⊢
  refine rPlus_l (.inl (.inl (s4 _ _ a3))) (.inl (.inl a4)) ?_ fun D hD => q D _ (none_of_same (s03.trans s4) hD) ((s03.trans s4).trans (Same.upd hD)) ?_
  · rw [List.length_append, tx_len, tx_len, tx_len, List.length_take, List.length_drop]; omega
  · rw [upd_same, tx_app, List.append_assoc]
end
def sh17 : V → V
  | .str z => .str (S (cutL z.cps.toList none (some (-1))))
  | v => v
theorem sh17_map (xs : List (List Nat)) : (tx xs).map sh17 = tx (xs.map fun l => cutL l none (some (-1))) := by
  unfold tx
  rw [List.map_map, List.map_map]
  refine List.map_congr_left fun l _ => ?_
  show V.str (S (cutL (S l).cps.toList none (some (-1)))) = _
  have : (S l).cps.toList = l := by simp [S]
  rw [this]
  rfl
theorem Tl.short {n : Nat} {tl : List (List Nat)} (h : Tl n tl) : Tl n (tl.take 1 ++ (tl.drop 1).map fun l => cutL l none (some (-1))) := by
  refine ⟨?_, fun l hl => ?_, fun l hl => ?_⟩
  · have := h.len
    rw [List.length_append, List.length_map, List.length_take, List.length_drop]; omega
  · rcases List.mem_append.mp hl with hl | hl
    · exact h.ok l (List.mem_of_mem_take hl)
    · obtain ⟨x, hx, rfl⟩ := List.mem_map.mp hl
      have ok := h.ok x (List.mem_of_mem_drop hx)
      have hc : ∀ c ∈ cutL x none (some (-1)), c ∈ x := fun c hc => by
        unfold cutL at hc
        exact List.mem_of_mem_drop (List.mem_of_mem_take hc)
      exact ⟨fun c hc' => ok.1 c (hc c hc'), Nat.le_trans (cutL_le _ _ _) ok.2⟩
  · cases tl with
    | nil => simp at hl
    | cons x r =>
      refine h.bad l ?_
      simpa using hl
end L2

set_option Elab.async false
set_option linter.all false
set_option maxRecDepth 100000
set_option maxHeartbeats 4000000
set_option pp.deepTerms true
set_option pp.maxSteps 200000
namespace K17
open PySem PySem.Spec PyProof.Rows L2
def top (i : Nat) : Stmt := PySem.Challenge.pw_lettercell_k17_lines_spoiled_amid.main.body.getD i (.Pass ⟨0, 0, 0, 0⟩)
abbrev s_Broken___init__ : Stmt := inClass (top 5) 0
theorem sc_Broken___init__ : FnScope ["self", "line"] ["self", "line"] (defScope s_Broken___init__) := ⟨rfl, rfl, rfl, by decide +kernel, rfl, by decide +kernel, by decide +kernel⟩
abbrev s_sum_of : Stmt := top 8
theorem sc_sum_of : FnScope ["text", "c", "sign"] ["text"] (defScope s_sum_of) := ⟨rfl, rfl, rfl, by decide +kernel, rfl, by decide +kernel, by decide +kernel⟩
abbrev s_line_of : Stmt := top 9
theorem sc_line_of : FnScope ["number", "body", "figures"] ["number", "body"] (defScope s_line_of) := ⟨rfl, rfl, rfl, by decide +kernel, rfl, by decide +kernel, by decide +kernel⟩
abbrev s_body_of : Stmt := top 10
theorem sc_body_of : FnScope ["number", "line", "body"] ["number", "line"] (defScope s_body_of) := ⟨rfl, rfl, rfl, by decide +kernel, rfl, by decide +kernel, by decide +kernel⟩
abbrev s_Book___init__ : Stmt := inClass (top 12) 0
theorem sc_Book___init__ : FnScope ["self"] ["self"] (defScope s_Book___init__) := ⟨rfl, rfl, rfl, by decide +kernel, rfl, by decide +kernel, by decide +kernel⟩
abbrev s_Book_told : Stmt := inClass (top 12) 2
theorem sc_Book_told : FnScope ["self"] ["self"] (defScope s_Book_told) := ⟨rfl, rfl, rfl, by decide +kernel, rfl, by decide +kernel, by decide +kernel⟩
abbrev s_signed_body : Stmt := top 13
theorem sc_signed_body : FnScope ["number", "line", "body"] ["number", "line"] (defScope s_signed_body) := ⟨rfl, rfl, rfl, by decide +kernel, rfl, by decide +kernel, by decide +kernel⟩
abbrev s_good_bodies : Stmt := top 14
theorem sc_good_bodies : FnScope ["lines", "bodies", "number", "line"] ["lines"] (defScope s_good_bodies) := ⟨rfl, rfl, rfl, by decide +kernel, rfl, by decide +kernel, by decide +kernel⟩
abbrev s_acts_of : Stmt := top 15
theorem sc_acts_of : FnScope ["lines", "acts", "act", "many", "number", "body"] ["lines"] (defScope s_acts_of) := ⟨rfl, rfl, rfl, by decide +kernel, rfl, by decide +kernel, by decide +kernel⟩
abbrev s_book_of : Stmt := top 16
theorem sc_book_of : FnScope ["lines", "book"] ["lines"] (defScope s_book_of) := ⟨rfl, rfl, rfl, by decide +kernel, rfl, by decide +kernel, by decide +kernel⟩
abbrev s_l_cell_at : Stmt := top 18
theorem sc_l_cell_at : FnScope ["_law_script", "_law_k"] ["_law_script", "_law_k"] (defScope s_l_cell_at) := ⟨rfl, rfl, rfl, by decide +kernel, rfl, by decide +kernel, by decide +kernel⟩
abbrev s_l_mixed : Stmt := top 19
theorem sc_l_mixed : FnScope ["_law_cell", "_law_k", "_law_number"] ["_law_cell", "_law_k"] (defScope s_l_mixed) := ⟨rfl, rfl, rfl, by decide +kernel, rfl, by decide +kernel, by decide +kernel⟩
abbrev s_l_whole : Stmt := top 20
theorem sc_l_whole : FnScope ["_law_found", "_law_due"] ["_law_found", "_law_due"] (defScope s_l_whole) := ⟨rfl, rfl, rfl, by decide +kernel, rfl, by decide +kernel, by decide +kernel⟩
abbrev s_l_sign_by : Stmt := top 21
theorem sc_l_sign_by : FnScope ["_law_number", "_law_some"] ["_law_number"] (defScope s_l_sign_by) := ⟨rfl, rfl, rfl, by decide +kernel, rfl, by decide +kernel, by decide +kernel⟩
abbrev s_l_text_by : Stmt := top 22
theorem sc_l_text_by : FnScope ["_law_cell", "_law_start", "_law_most", "_law_found", "_law_k"] ["_law_cell", "_law_start", "_law_most"] (defScope s_l_text_by) := ⟨rfl, rfl, rfl, by decide +kernel, rfl, by decide +kernel, by decide +kernel⟩
abbrev s_l_act_by : Stmt := top 23
theorem sc_l_act_by : FnScope ["_law_cell", "_law_many", "_law_found"] ["_law_cell"] (defScope s_l_act_by) := ⟨rfl, rfl, rfl, by decide +kernel, rfl, by decide +kernel, by decide +kernel⟩
abbrev s_l_line : Stmt := top 24
theorem sc_l_line : FnScope ["_law_number", "_law_body", "_law_low", "_law_sign", "_law_head"] ["_law_number", "_law_body"] (defScope s_l_line) := ⟨rfl, rfl, rfl, by decide +kernel, rfl, by decide +kernel, by decide +kernel⟩
abbrev s_l_lines_of : Stmt := top 25
theorem sc_l_lines_of : FnScope ["_law_acts", "_law_found", "_law_act", "_law_k", "_law_sign"] ["_law_acts"] (defScope s_l_lines_of) := ⟨rfl, rfl, rfl, by decide +kernel, rfl, by decide +kernel, by decide +kernel⟩
abbrev s_l_begun : Stmt := top 26
theorem sc_l_begun : FnScope ["_law_acts", "_law_many", "_law_found", "_law_kept", "_law_act"] ["_law_acts", "_law_many"] (defScope s_l_begun) := ⟨rfl, rfl, rfl, by decide +kernel, rfl, by decide +kernel, by decide +kernel⟩
abbrev s_l_same : Stmt := top 27
theorem sc_l_same : FnScope ["_law_found", "_law_due"] ["_law_found", "_law_due"] (defScope s_l_same) := ⟨rfl, rfl, rfl, by decide +kernel, rfl, by decide +kernel, by decide +kernel⟩
abbrev s_l_changed : Stmt := top 28
theorem sc_l_changed : FnScope ["_law_line_here", "_law_way", "_law_cell", "_law_at", "_law_sign"] ["_law_line_here", "_law_way", "_law_cell"] (defScope s_l_changed) := ⟨rfl, rfl, rfl, by decide +kernel, rfl, by decide +kernel, by decide +kernel⟩
abbrev s_l_spoiled : Stmt := top 29
theorem sc_l_spoiled : FnScope ["_law_lines", "_law_at", "_law_way", "_law_cell", "_law_body"] ["_law_lines", "_law_at", "_law_way", "_law_cell"] (defScope s_l_spoiled) := ⟨rfl, rfl, rfl, by decide +kernel, rfl, by decide +kernel, by decide +kernel⟩
abbrev s_l_broken : Stmt := top 30
theorem sc_l_broken : FnScope ["_law_lines", "_law_book_too", "_law_told", "e", "_law_other"] ["_law_lines", "_law_book_too"] (defScope s_l_broken) := ⟨rfl, rfl, rfl, by decide +kernel, rfl, by decide +kernel, by decide +kernel⟩
abbrev s_l_refused : Stmt := top 31
theorem sc_l_refused : FnScope ["_law_told", "_law_number"] ["_law_told", "_law_number"] (defScope s_l_refused) := ⟨rfl, rfl, rfl, by decide +kernel, rfl, by decide +kernel, by decide +kernel⟩
abbrev s_law : Stmt := top 32
theorem sc_law : FnScope ["_law_script", "_law_acts", "_law_due", "_law_first", "_law_at", "_law_way", "_law_lines", "_law_bad", "_law_handed", "_law_start"] ["_law_script"] (defScope s_law) := ⟨rfl, rfl, rfl, by decide +kernel, rfl, by decide +kernel, by decide +kernel⟩
structure Adr where
  C_BadWord : Addr
  C_Broken : Addr
  C_CellarError : Addr
  C_Doubled : Addr
  C_NoSuch : Addr
  C_Book : Addr
  f_Broken___init__ : Addr
  d_Broken___init__ : FuncData
  f_sum_of : Addr
  d_sum_of : FuncData
  f_line_of : Addr
  d_line_of : FuncData
  f_body_of : Addr
  d_body_of : FuncData
  f_Book___init__ : Addr
  d_Book___init__ : FuncData
  f_Book_told : Addr
  d_Book_told : FuncData
  f_signed_body : Addr
  d_signed_body : FuncData
  f_good_bodies : Addr
  d_good_bodies : FuncData
  f_acts_of : Addr
  d_acts_of : FuncData
  f_book_of : Addr
  d_book_of : FuncData
  f_l_cell_at : Addr
  d_l_cell_at : FuncData
  f_l_mixed : Addr
  d_l_mixed : FuncData
  f_l_whole : Addr
  d_l_whole : FuncData
  f_l_sign_by : Addr
  d_l_sign_by : FuncData
  f_l_text_by : Addr
  d_l_text_by : FuncData
  f_l_act_by : Addr
  d_l_act_by : FuncData
  f_l_line : Addr
  d_l_line : FuncData
  f_l_lines_of : Addr
  d_l_lines_of : FuncData
  f_l_begun : Addr
  d_l_begun : FuncData
  f_l_same : Addr
  d_l_same : FuncData
  f_l_changed : Addr
  d_l_changed : FuncData
  f_l_spoiled : Addr
  d_l_spoiled : FuncData
  f_l_broken : Addr
  d_l_broken : FuncData
  f_l_refused : Addr
  d_l_refused : FuncData
  f_law : Addr
  d_law : FuncData
structure Txt (K : PySem.W.Frag) (mg : Str → Option Value) (a : Adr) : Prop where
  F_Broken___init__ : Fun K "__init__" "Broken.__init__" s_Broken___init__ a.f_Broken___init__ a.d_Broken___init__
  b_Broken___init__ : Binds K a.d_Broken___init__ ["self", "line"] []
  F_sum_of : Fun K "sum_of" "sum_of" s_sum_of a.f_sum_of a.d_sum_of
  b_sum_of : Binds K a.d_sum_of ["text"] []
  m_sum_of : mg "sum_of" = some (.ref a.f_sum_of)
  F_line_of : Fun K "line_of" "line_of" s_line_of a.f_line_of a.d_line_of
  b_line_of : Binds K a.d_line_of ["number", "body"] []
  m_line_of : mg "line_of" = some (.ref a.f_line_of)
  F_body_of : Fun K "body_of" "body_of" s_body_of a.f_body_of a.d_body_of
  b_body_of : Binds K a.d_body_of ["number", "line"] []
  m_body_of : mg "body_of" = some (.ref a.f_body_of)
  F_Book___init__ : Fun K "__init__" "Book.__init__" s_Book___init__ a.f_Book___init__ a.d_Book___init__
  b_Book___init__ : Binds K a.d_Book___init__ ["self"] []
  F_Book_told : Fun K "told" "Book.told" s_Book_told a.f_Book_told a.d_Book_told
  b_Book_told : Binds K a.d_Book_told ["self"] []
  M_Book_told : Meth K a.C_Book "told" a.f_Book_told
  F_signed_body : Fun K "signed_body" "signed_body" s_signed_body a.f_signed_body a.d_signed_body
  b_signed_body : Binds K a.d_signed_body ["number", "line"] []
  m_signed_body : mg "signed_body" = some (.ref a.f_signed_body)
  F_good_bodies : Fun K "good_bodies" "good_bodies" s_good_bodies a.f_good_bodies a.d_good_bodies
  b_good_bodies : Binds K a.d_good_bodies ["lines"] []
  m_good_bodies : mg "good_bodies" = some (.ref a.f_good_bodies)
  F_acts_of : Fun K "acts_of" "acts_of" s_acts_of a.f_acts_of a.d_acts_of
  b_acts_of : Binds K a.d_acts_of ["lines"] []
  m_acts_of : mg "acts_of" = some (.ref a.f_acts_of)
  F_book_of : Fun K "book_of" "book_of" s_book_of a.f_book_of a.d_book_of
  b_book_of : Binds K a.d_book_of ["lines"] []
  m_book_of : mg "book_of" = some (.ref a.f_book_of)
  F_l_cell_at : Fun K "_law_cell_at" "_law_cell_at" s_l_cell_at a.f_l_cell_at a.d_l_cell_at
  b_l_cell_at : Binds K a.d_l_cell_at ["_law_script", "_law_k"] []
  m_l_cell_at : mg "_law_cell_at" = some (.ref a.f_l_cell_at)
  F_l_mixed : Fun K "_law_mixed" "_law_mixed" s_l_mixed a.f_l_mixed a.d_l_mixed
  b_l_mixed : Binds K a.d_l_mixed ["_law_cell", "_law_k"] []
  m_l_mixed : mg "_law_mixed" = some (.ref a.f_l_mixed)
  F_l_whole : Fun K "_law_whole" "_law_whole" s_l_whole a.f_l_whole a.d_l_whole
  b_l_whole : Binds K a.d_l_whole ["_law_found", "_law_due"] []
  m_l_whole : mg "_law_whole" = some (.ref a.f_l_whole)
  F_l_sign_by : Fun K "_law_sign_by" "_law_sign_by" s_l_sign_by a.f_l_sign_by a.d_l_sign_by
  b_l_sign_by : Binds K a.d_l_sign_by ["_law_number"] []
  m_l_sign_by : mg "_law_sign_by" = some (.ref a.f_l_sign_by)
  F_l_text_by : Fun K "_law_text_by" "_law_text_by" s_l_text_by a.f_l_text_by a.d_l_text_by
  b_l_text_by : Binds K a.d_l_text_by ["_law_cell", "_law_start", "_law_most"] []
  m_l_text_by : mg "_law_text_by" = some (.ref a.f_l_text_by)
  F_l_act_by : Fun K "_law_act_by" "_law_act_by" s_l_act_by a.f_l_act_by a.d_l_act_by
  b_l_act_by : Binds K a.d_l_act_by ["_law_cell"] []
  m_l_act_by : mg "_law_act_by" = some (.ref a.f_l_act_by)
  F_l_line : Fun K "_law_line" "_law_line" s_l_line a.f_l_line a.d_l_line
  b_l_line : Binds K a.d_l_line ["_law_number", "_law_body"] []
  m_l_line : mg "_law_line" = some (.ref a.f_l_line)
  F_l_lines_of : Fun K "_law_lines_of" "_law_lines_of" s_l_lines_of a.f_l_lines_of a.d_l_lines_of
  b_l_lines_of : Binds K a.d_l_lines_of ["_law_acts"] []
  m_l_lines_of : mg "_law_lines_of" = some (.ref a.f_l_lines_of)
  F_l_begun : Fun K "_law_begun" "_law_begun" s_l_begun a.f_l_begun a.d_l_begun
  b_l_begun : Binds K a.d_l_begun ["_law_acts", "_law_many"] []
  m_l_begun : mg "_law_begun" = some (.ref a.f_l_begun)
  F_l_same : Fun K "_law_same" "_law_same" s_l_same a.f_l_same a.d_l_same
  b_l_same : Binds K a.d_l_same ["_law_found", "_law_due"] []
  m_l_same : mg "_law_same" = some (.ref a.f_l_same)
  F_l_changed : Fun K "_law_changed" "_law_changed" s_l_changed a.f_l_changed a.d_l_changed
  b_l_changed : Binds K a.d_l_changed ["_law_line_here", "_law_way", "_law_cell"] []
  m_l_changed : mg "_law_changed" = some (.ref a.f_l_changed)
  F_l_spoiled : Fun K "_law_spoiled" "_law_spoiled" s_l_spoiled a.f_l_spoiled a.d_l_spoiled
  b_l_spoiled : Binds K a.d_l_spoiled ["_law_lines", "_law_at", "_law_way", "_law_cell"] []
  m_l_spoiled : mg "_law_spoiled" = some (.ref a.f_l_spoiled)
  F_l_broken : Fun K "_law_broken" "_law_broken" s_l_broken a.f_l_broken a.d_l_broken
  b_l_broken : Binds K a.d_l_broken ["_law_lines", "_law_book_too"] []
  m_l_broken : mg "_law_broken" = some (.ref a.f_l_broken)
  F_l_refused : Fun K "_law_refused" "_law_refused" s_l_refused a.f_l_refused a.d_l_refused
  b_l_refused : Binds K a.d_l_refused ["_law_told", "_law_number"] []
  m_l_refused : mg "_law_refused" = some (.ref a.f_l_refused)
  F_law : Fun K "law" "law" s_law a.f_law a.d_law
  b_law : Binds K a.d_law ["_law_script"] []
  m_law : mg "law" = some (.ref a.f_law)
  cl_Book : Cls K a.C_Book
  mg_Book : mg "Book" = some (.ref a.C_Book)
  k_Book : Mk K a.C_Book a.f_Book___init__
  no_Book_lines : NoAttr K a.C_Book "lines"
  mg_BadWord : mg "BadWord" = some (.ref a.C_BadWord)
  mg_Broken : mg "Broken" = some (.ref a.C_Broken)
  mg_CellarError : mg "CellarError" = some (.ref a.C_CellarError)
  mg_Doubled : mg "Doubled" = some (.ref a.C_Doubled)
  mg_NoSuch : mg "NoSuch" = some (.ref a.C_NoSuch)
  x_Broken : XCls K a.C_Broken
  xi_Broken : PySem.W.findIn K (.ref a.C_Broken) "__init__" = some (some (.ref a.f_Broken___init__))
  xf_Broken : PySem.W.isFn K (.ref a.f_Broken___init__) = true
  no_Broken_line : NoAttr K a.C_Broken "line"
  em_Broken_Broken : PySem.W.exmOne K (.ref a.C_Broken) (.ref a.C_Broken) = some true
  xs_Broken : XIs K a.C_Broken
  ki_Broken_BadWord : PySem.W.kitOne K (.ref a.C_Broken) (.ref a.C_BadWord) = some false
  ki_Broken_CellarError : PySem.W.kitOne K (.ref a.C_Broken) (.ref a.C_CellarError) = some true
  ki_Broken_Doubled : PySem.W.kitOne K (.ref a.C_Broken) (.ref a.C_Doubled) = some false
  ki_Broken_NoSuch : PySem.W.kitOne K (.ref a.C_Broken) (.ref a.C_NoSuch) = some false
  ki_Broken_ValueError : PySem.W.kitOne K (.ref a.C_Broken) (.type "ValueError") = some true
  n_ValueError : mg "ValueError" = none
  n_bool : mg "bool" = none
  n_enumerate : mg "enumerate" = none
  n_int : mg "int" = none
  n_isinstance : mg "isinstance" = none
  n_len : mg "len" = none
  n_list : mg "list" = none
  n_ord : mg "ord" = none
  n_range : mg "range" = none
  n_str : mg "str" = none
  n_tuple : mg "tuple" = none
  c_HEAD_SIGNS : GConst mg "HEAD_SIGNS" (.int 18)
  bl_law : ∀ (s : Shared) (u : Value), BindsTo s a.d_law ⟨[u], []⟩ [("_law_script", u)]

local macro_rules | `(tactic| walk_at "rd") => do
  let ns := (("sp_sum, sp_wholeN, sp_lineof, sp_lline, sp_body, sp_textN, sp_signB, sp_mixed, sp_cell_at, rSw, rSplit, rZf, sp_bk_init, sp_bk_told, sp_sbody, sp_goodbX, sp_actsofX, sp_bookofX, xBm, sXs, tRaise, tRaiseN, tTry, tXFld, xMeth, xCall, xNo, tAs, tBare, tBareN, tNoH, Ends.less, sp_actby, sp_linesof, sp_begun, sp_same16, sp_changed17, sp_broken17, sp_refused17, sp_spoiled17, S_iff, and_assoc, tFor_eq, tComp_eq, cx_K, iAny_eq, iRng1, iRng2, rSlA_s, rSlS, tSl, tNoPart, tPart, tBM, tBM0, tyV, rJoin, tLst, tTup, tSeq, tAsg, gName, gTup, gCons, gNil, gSub, tVar, tC, tOp, tUn, rU, rI, rI0, tTest, tIfS, tRet, tRetN, tNext, tBreak, tCont, tDrop, tCons, tNil, tCall, tMeth, tMake, tCB, tB, tNot, tAnd, tOr, tAndV, tOrV, tNotV, tChain, tIf, tIsN, tNotN, tFld, sFld, tInRng, tInRng1, tDGet1, tDGet2, tDPop1, tDPop2, tDisp, tPairs, tDNewK, rAppend, rMax, rMin, iZip, iEnum, rInt_i, rInt_b, rStrI, rMul_ii, rMul_si, rIsB_bb, rNotB_bb, tForD_eq, iItems, iKeys, iRev, tDClear, rPlus_ii, rPlus_ss, rEqq_ii, rNeq_ii, rEqq_ss, rNeq_ss, rEqq_bb, rNeq_bb, rEqq_nn, rNeq_nn, rEqq_ni, rNeq_ni, rEqq_in, rNeq_in, rEqq_ns, rNeq_ns, rEqq_sn, rNeq_sn, rEqq_nb, rNeq_nb, rEqq_bn, rNeq_bn, rEqq_is, rNeq_is, rEqq_si, rNeq_si, rLt_ii, rLt_ss, rLe_ii, rLe_ss, rLen_s, rInn_s, rNin_s, rOrd, tTru, TruV_b, TruV_n, TruV_i, rIxA_s, rIxS2, rAny_s, isi_non_int, isi_non_bool, isi_non_str, isi_non_list, isi_non_tuple, isi_non_dict, isi_bl_int, isi_bl_bool, isi_bl_str, isi_bl_list, isi_bl_tuple, isi_bl_dict, isi_int_int, isi_int_bool, isi_int_str, isi_int_list, isi_int_tuple, isi_int_dict, isi_str_int, isi_str_bool, isi_str_str, isi_str_list, isi_str_tuple, isi_str_dict, _root_.L2.start, CMul, CDiv, CPow, Int.reduceNeg, Int.reducePow, Int.reduceLT, Int.reduceLE, Int.reduceToNat, or_true, true_or, and_self, Nat.reducePow, List.map_cons, List.map_nil, List.length_cons, List.length_nil, List.replicate, List.cons_append, List.nil_append, List.append_nil, Nat.reduceAdd, Nat.reduceSub, Nat.zero_add, Nat.add_zero, Nat.sub_self, List.getElem?_cons_zero, List.getElem?_cons_succ, List.set_cons_zero, List.set_cons_succ, Option.some.injEq, V.int.injEq, V.bl.injEq, V.str.injEq, V.ref.injEq, V.ty.injEq, reduceCtorEq, exists_eq, exists_eq', not_true_eq_false, not_false_eq_true, exists_eq_left', exists_eq_left, exists_eq_right, exists_eq_right', exists_and_left, exists_and_right, exists_const, false_and, and_false, true_and, and_true, exists_false, or_false, false_or, List.cons.injEq, eq_self_iff_true, Bool.false_eq_true, Bool.or_self, Bool.or_true, Bool.true_or, Bool.or_false, Bool.false_or, if_true, if_false, ite_true, ite_false, Bool.not_true, Bool.not_false, decide_eq_true_eq, Bool.not_eq_true', decide_eq_false_iff_not".splitOn ",").map String.trim).filter (fun s => !s.isEmpty)
  let ls ← ns.mapM fun s => `(Lean.Parser.Tactic.simpLemma| $(Lean.mkIdent s.toName):term)
  let ls := ls.toArray
  `(tactic| simp (maxSteps := 3000000) only [$ls,*, ↓reduceIte])
seal PE PT PW PA PS PSs PG PGs PI PO PPs PC
section
variable {P : Program} {w : World} {K : PySem.W.Frag} {mg : Str → Option Value} {base : Heap} {a : Adr}

theorem ok_Broken___init__ (T : Txt K mg a) : FnOk P w K mg base CX0 1 a.f_Broken___init__ a.d_Broken___init__ ["self", "line"] (sp_xs a.C_Broken ["line"]) := by
  refine T.F_Broken___init__.ok sc_Broken___init__ (fun vs H Q E h => ?_) (fun cdv A outer s H vs Q E hr h => ?_)
  · obtain ⟨ea, t, ys, rfl, hl, _⟩ := h
    rw [List.length_cons, hl]
    rfl
  · obtain ⟨ea, t, ys, rfl, hl, he, q⟩ := h
    obtain ⟨y0, rfl⟩ : ∃ y0, ys = [y0] := by
      match ys, hl with
      | [y0], _ => exact ⟨y0, rfl⟩
    refine ⟨_, (pss_one (ps_setx (pv 0) (pv 1) rfl)), ?_⟩
    walk_at "rd"
    exact ⟨a.C_Broken, T.x_Broken, T.no_Broken_line, t, .inl ⟨he, fun d hd nd => q d _ hd nd (fun b h1 h2 => by rw [upd_ne h2, upd_ne h1]) upd_same (by rw [upd_ne nd]; exact upd_same)⟩⟩
theorem okU_Broken___init__ (T : Txt K mg a) : FnU P w K mg base 1 a.f_Broken___init__ a.d_Broken___init__ ["self", "line"] (sp_xs a.C_Broken ["line"]) := by
  refine T.F_Broken___init__.okU sc_Broken___init__ (fun vs H Q E h => ?_) (fun cdv A eh outer s H vs Q E hr h => ?_)
  · obtain ⟨ea, t, ys, rfl, hl, _⟩ := h
    rw [List.length_cons, hl]
    rfl
  · obtain ⟨ea, t, ys, rfl, hl, he, q⟩ := h
    obtain ⟨y0, rfl⟩ : ∃ y0, ys = [y0] := by
      match ys, hl with
      | [y0], _ => exact ⟨y0, rfl⟩
    refine ⟨_, (pss_one (ps_setx (pv 0) (pv 1) rfl)), ?_⟩
    walk_at "rd"
    exact ⟨a.C_Broken, T.x_Broken, T.no_Broken_line, t, .inl ⟨he, fun d hd nd => q d _ hd nd (fun b h1 h2 => by rw [upd_ne h2, upd_ne h1]) upd_same (by rw [upd_ne nd]; exact upd_same)⟩⟩

theorem ok_l_mixed (T : Txt K mg a) : FnOk P w K mg base CX0 1 a.f_l_mixed a.d_l_mixed ["_law_cell", "_law_k"] sp_mixed := by
  refine T.F_l_mixed.ok sc_l_mixed (fun vs H Q E h => ?_) (fun cdv A outer s H vs Q E hr h => ?_)
  · obtain ⟨c, k, rfl, _⟩ := h
    rfl
  · obtain ⟨c, k, rfl, q⟩ := h
    refine ⟨_, (pss_cons (ps_set (i := 2) sc_l_mixed.nd rfl (Or.inl rfl) (pe_op op_mod (pe_op (op_plusK (K := K)) (pe_op (op_plusK (K := K)) (pe_op op_mulA (pe_op op_mod (pv 0) pe_int) pe_int) (pe_op op_mulA pe_int (pv 1))) pe_int) pe_int))
      (pss_one (ps_ret (pe_op op_mod (pe_op op_mulA (pv 2) (pv 2)) pe_int)))), ?_⟩
    walk_at "rd"
    refine ⟨.inl ?_, q⟩
    omega

theorem ok_l_sign_by (T : Txt K mg a) : FnOk P w K mg base CX0 1 a.f_l_sign_by a.d_l_sign_by ["_law_number"] sp_signB := by
  refine T.F_l_sign_by.ok sc_l_sign_by (fun vs H Q E h => ?_) (fun cdv A outer s H vs Q E hr h => ?_)
  · obtain ⟨n, rfl, _⟩ := h
    rfl
  · obtain ⟨n, rfl, q⟩ := h
    refine ⟨_, (pss_cons (ps_set (i := 1) sc_l_sign_by.nd rfl (Or.inl rfl) pe_str)
      (pss_cons (ps_set (i := 1) sc_l_sign_by.nd rfl (Or.inl rfl) (pe_op (op_plusK (K := K)) (pv 1) pe_str))
      (pss_one (ps_ret (pe_ix (ix_anyK (K := K) (hU1 hr)) (pv 1) (pe_op op_mod (pv 0) pe_int) (fun _ _ => rfl)))))), ?_⟩
    walk_at "rd"
    exact ⟨TB1, by decide +kernel, TB2, by decide +kernel, by decide, by decide, sgB n, atI_get? (by omega) (sgB_at n), q⟩

theorem ok_l_cell_at (T : Txt K mg a) : FnOk P w K mg base CX0 1 a.f_l_cell_at a.d_l_cell_at ["_law_script", "_law_k"] (sp_cell_at K) := by
  refine T.F_l_cell_at.ok sc_l_cell_at (fun vs H Q E h => ?_) (fun cdv A outer s H vs Q E hr h => ?_)
  · obtain ⟨p, ns, k, rfl, _⟩ := h
    rfl
  · obtain ⟨p, ns, k, rfl, hs, hk, q⟩ := h
    refine ⟨_, (pss_cons (ps_if (pt_cmpR op_ltK (pv 1) (pe_callB (call_lenK (K := K)) (by rfl) T.n_len boot_len (pa_cons (pv 0) pa_nil)) (nomark _)) (pss_one (ps_ret (pe_ix (ix_anyK (K := K) (hU1 hr)) (pv 0) (pv 1) (fun _ _ => rfl)))) pss_nil)
      (pss_one (ps_ret pe_int))), ?_⟩
    walk_at "rd"
    refine rLen_l hs ?_
    walk_at "rd"
    rw [List.length_map]
    refine ite2 (fun hlt => ?_) (fun hge => ?_)
    · refine rIxA_l hs (v := .int (ns.getD k.toNat 0)) (atI_get? hk ?_) q
      rw [List.getElem?_map, List.getD_eq_getElem?_getD, List.getElem?_eq_getElem (show k.toNat < ns.length by omega)]
      rfl
    · rw [List.getD_eq_getElem?_getD, List.getElem?_eq_none (show ns.length ≤ k.toNat by omega)] at q
      exact q

theorem ok_sum_of (T : Txt K mg a) : FnOk P w K mg base CX0 1 a.f_sum_of a.d_sum_of ["text"] sp_sum := by
  refine T.F_sum_of.ok sc_sum_of (fun vs H Q E h => ?_) (fun cdv A outer s H vs Q E hr h => ?_)
  · obtain ⟨l, rfl, _⟩ := h
    rfl
  · obtain ⟨l, rfl, hl, q⟩ := h
    refine ⟨_, (pss_cons (ps_set (i := 1) sc_sum_of.nd rfl (Or.inl rfl) pe_int)
      (pss_cons (ps_for PassesOwn.never rfl (pi_anyK (K := K) (pv 0)) (pg_name (i := 2) sc_sum_of.nd rfl (Or.inl rfl)) (pss_one (ps_set (i := 1) sc_sum_of.nd rfl (Or.inl rfl) (pe_op op_xor (pe_op op_or (pe_op op_and (pe_op op_shl (pv 1) pe_int) pe_int) (pe_op op_shr (pv 1) pe_int)) (pe_callB call_ordK (by rfl) T.n_ord boot_ord (pa_cons (pv 2) pa_nil))))))
      (pss_one (ps_ret (pv 1))))), ?_⟩
    walk_at "rd"
    refine forW_str (fun i σ H' => H' = H ∧ ∃ v, σ = [some (.str (S l)), some (.int (sumF 0 (l.take i) : Nat)), v]) ⟨rfl, none, rfl⟩ ?_ ?_
    · rintro i c σ H' hc ⟨rfl, v, rfl⟩
      have hc' : l[i]? = some c := by simpa using hc
      have hb : sumF 0 (l.take i) < 65536 := sumF_lt (fun x hx => Nat.lt_trans (hl x (List.mem_of_mem_take hx)) (by decide)) (by decide)
      have hs := sum_step (c := c) hb
      walk_at "rd"
      rw [sumF_snoc hc', ← hs]
      refine ⟨by omega, ?_⟩
      simp
    · rintro σ H' ⟨rfl, v, rfl⟩
      walk_at "rd"
      have e : l.take (S l).cps.size = l := by simp
      rw [e]
      exact q
theorem ok_line_of (T : Txt K mg a) : FnOk P w K mg base CX0 2 a.f_line_of a.d_line_of ["number", "body"] sp_lineof := by
  refine T.F_line_of.ok sc_line_of (fun vs H Q E h => ?_) (fun cdv A outer s H vs Q E hr h => ?_)
  · obtain ⟨n, b, rfl, _⟩ := h
    rfl
  · obtain ⟨n, b, rfl, g, q⟩ := h
    refine ⟨_, (pss_cons (ps_set (i := 2) sc_line_of.nd rfl (Or.inl rfl) (pe_lst (pa_cons (pe_bmK (K := K) PySem.F.plainAttrs_str PySem.F.slot_str_zfill PySem.F.type_str_zfill mt_zfill (pe_callTy (call_strK (K := K)) rfl T.n_str boot_str (pa_cons (pv 0) pa_nil)) (pa_cons pe_int pa_nil)) (pa_cons (pe_bmK (K := K) PySem.F.plainAttrs_str PySem.F.slot_str_zfill PySem.F.type_str_zfill mt_zfill (pe_callTy (call_strK (K := K)) rfl T.n_str boot_str (pa_cons (pe_call (ok_sum_of T) (hr.mono (by decide)) rfl T.m_sum_of T.F_sum_of.kp T.b_sum_of .nil pass0 (pa_cons (pv 1) pa_nil)) pa_nil)) (pa_cons pe_int pa_nil)) (pa_cons (pe_bmK (K := K) PySem.F.plainAttrs_str PySem.F.slot_str_zfill PySem.F.type_str_zfill mt_zfill (pe_callTy (call_strK (K := K)) rfl T.n_str boot_str (pa_cons (pe_callB (call_lenK (K := K)) (by rfl) T.n_len boot_len (pa_cons (pv 1) pa_nil)) pa_nil)) (pa_cons pe_int pa_nil)) pa_nil)))))
      (pss_one (ps_ret (pe_op (op_plusK (K := K)) (pe_op (op_plusK (K := K)) (pe_bmK (K := K) PySem.F.plainAttrs_str PySem.F.slot_str_join PySem.F.type_str_join (mt_joinK (K := K)) pe_str (pa_cons (pv 2) pa_nil)) pe_str) (pv 1))))), ?_⟩
    walk_at "rd"
    have hs := g.sum
    have hl := g.l
    have hn := g.n
    have Z : 40000 ≤ sizeLine := by decide
    have z6 := zf_len (w := 6) (by decide) g.n
    have z5 := zf_len (w := 5) (by decide) (Nat.lt_trans g.sum (show 65536 < 10 ^ 5 by decide))
    have z4 := zf_len (w := 4) (by decide) g.l
    refine ⟨log_small (by omega) (by omega), n, rfl, 6, rfl, by decide, g.c, log_small (by omega) (by omega), sumF 0 b, rfl, 5, rfl, by decide, by omega, log_small (by omega) (by omega), b.length, rfl, 4, rfl, by decide, by omega, fun p hp => ⟨[32], by decide +kernel, [zf 6 n, zf 5 (sumF 0 b), zf 4 b.length], .inl (.inl upd_same), ?_, [32], by decide +kernel, ?_⟩⟩
    · simp only [List.map_cons, List.map_nil, List.sum_cons, List.sum_nil, List.length_cons, List.length_nil]; omega
    have ej : joinL [32] [zf 6 n, zf 5 (sumF 0 b), zf 4 b.length] ++ [32] = hdL n b := by
      show zf 6 n ++ [32] ++ (zf 5 (sumF 0 b) ++ [32] ++ zf 4 b.length) ++ [32] = _
      unfold hdL pfL; simp
    have el := congrArg List.length ej
    rw [g.hd, List.length_append, List.length_singleton] at el
    rw [ej, g.hd]
    refine ⟨?_, by omega, q _ (Same.upd hp)⟩
    simp only [List.length_cons, List.length_nil]; omega
theorem ok_body_of (T : Txt K mg a) : FnOk P w K mg base (CXn P w) 3 a.f_body_of a.d_body_of ["number", "line"] (sp_body a.C_Broken) := by
  refine T.F_body_of.okN sc_body_of (fun vs H Q E h => ?_) (fun cdv A outer s H vs Q E hr h => ?_)
  · obtain ⟨n, l, rfl, _⟩ := h
    rfl
  · obtain ⟨n, l, rfl, g, hl, q⟩ := h
    refine ⟨_, (pss_cons (PS.nox (ps_set (i := 2) sc_body_of.nd rfl (Or.inl rfl) (pe_slice (sl_anyK (K := K)) (pv 1) (po_some (pe_const T.c_HEAD_SIGNS)) po_none)))
      (pss_cons (ps_if (PT.nox (pt_cmpR (op_neK (K := K) (hU hr)) (pv 1) (pe_call (ok_line_of T) (hr.mono (by decide)) rfl T.m_line_of T.F_line_of.kp T.b_line_of .nil pass0 (pa_cons (pv 0) (pa_cons (pv 2) pa_nil))) (nomark _))) (pss_one (ps_raise T.x_Broken T.xi_Broken T.xf_Broken (ok_Broken___init__ T) (hr.mono (by decide)) rfl T.mg_Broken T.b_Broken___init__ (by decide) raiseN (pa_cons (pv 0) pa_nil))) pss_nil)
      (pss_one (PS.nox (ps_ret (pv 2)))))), ?_⟩
    walk_at "rd"
    have Z : 40000 ≤ sizeLine := by decide
    rw [show (18 : Int) = ((18 : Nat) : Int) from rfl, cutL_suf]
    refine ⟨by omega, n, rfl, g, fun H' s' => ?_⟩
    rcases q with ⟨e, q⟩ | ⟨e, q⟩
    · rw [if_neg (fun h => h e)]
      exact q H' s'
    · rw [if_pos e]
      exact q H' s'

theorem ok_l_whole (T : Txt K mg a) : FnOk P w K mg base CX0 1 a.f_l_whole a.d_l_whole ["_law_found", "_law_due"] sp_wholeN := by
  refine T.F_l_whole.ok sc_l_whole (fun vs H Q E h => ?_) (fun cdv A outer s H vs Q E hr h => ?_)
  · obtain ⟨x, y, rfl, _⟩ := h
    rfl
  · obtain ⟨x, y, rfl, q⟩ := h
    refine ⟨_, (pss_one (ps_ret (pe_and (pe_callB (call_isinstanceK (K := K)) (by rfl) T.n_isinstance boot_isinstance (pa_cons (pv 0) (pa_cons (pe_bltn (v := .ty "int") rfl T.n_int boot_int rfl) pa_nil))) (pe_and (pe_not (pe_callB (call_isinstanceK (K := K)) (by rfl) T.n_isinstance boot_isinstance (pa_cons (pv 0) (pa_cons (pe_bltn (v := .ty "bool") rfl T.n_bool boot_bool rfl) pa_nil)))) (pe_one (pe_cmpR (op_eqK (K := K) (hU hr)) (pv 0) (pv 1) (nomark _))))))), ?_⟩
    walk_at "rd"
    exact q

theorem ok_l_text_by (T : Txt K mg a) : FnOk P w K mg base CX0 2 a.f_l_text_by a.d_l_text_by ["_law_cell", "_law_start", "_law_most"] sp_textN := by
  refine T.F_l_text_by.ok sc_l_text_by (fun vs H Q E h => ?_) (fun cdv A outer s H vs Q E hr h => ?_)
  · obtain ⟨c, st, mo, rfl, _⟩ := h
    rfl
  · obtain ⟨c, st, mo, rfl, h0, h1, q⟩ := h
    refine ⟨_, (pss_cons (ps_set (i := 3) sc_l_text_by.nd rfl (Or.inl rfl) pe_str)
      (pss_cons (ps_for PassesOwn.never rfl (pi_range1 rfl T.n_range (pa_cons (pe_op op_mod (pe_call (ok_l_mixed T) (hr.mono (by decide)) rfl T.m_l_mixed T.F_l_mixed.kp T.b_l_mixed .nil pass0 (pa_cons (pv 0) (pa_cons (pv 1) pa_nil))) (pv 2)) pa_nil)) (pg_name (i := 4) sc_l_text_by.nd rfl (Or.inl rfl)) (pss_one (ps_set (i := 3) sc_l_text_by.nd rfl (Or.inl rfl) (pe_op (op_plusK (K := K)) (pv 3) (pe_call (ok_l_sign_by T) (hr.mono (by decide)) rfl T.m_l_sign_by T.F_l_sign_by.kp T.b_l_sign_by .nil pass0 (pa_cons (pe_call (ok_l_mixed T) (hr.mono (by decide)) rfl T.m_l_mixed T.F_l_mixed.kp T.b_l_mixed .nil pass0 (pa_cons (pv 0) (pa_cons (pe_op (op_plusK (K := K)) (pe_op (op_plusK (K := K)) (pv 1) pe_int) (pv 4)) pa_nil))) pa_nil))))))
      (pss_one (ps_ret (pv 3))))), ?_⟩
    walk_at "rd"
    have Z : 40000 ≤ sizeLine := by decide
    have b0 := Int.emod_nonneg (mixN c st) (show mo ≠ 0 by omega)
    have b1 := Int.emod_lt_of_pos (mixN c st) h0
    rw [show Str.ofString "" = S [] by decide +kernel]
    refine ⟨h0, by omega, by omega, ?_⟩
    refine forW_range (fun i σ H' => i ≤ (mixN c st % mo).toNat ∧ H' = H ∧ ∃ v, σ = [some (.int c), some (.int st), some (.int mo), some (.str (S ((List.range i).map fun k => sgB (mixN c (st + 1 + (k : Nat)))))), v]) ⟨Nat.zero_le _, rfl, none, rfl⟩ ?_ ?_
    · rintro i σ H' hi ⟨_, rfl, v, rfl⟩
      walk_at "rd"
      rw [List.range_succ, List.map_append, show (st + 1 + (0 + (i : Int))) = st + 1 + ((i : Nat) : Int) by omega]
      have hl : ((List.range i).map fun k => sgB (mixN c (st + 1 + (k : Nat)))).length = i := by rw [List.length_map, List.length_range]
      generalize ((List.range i).map fun k => sgB (mixN c (st + 1 + (k : Nat)))) = pre at hl ⊢
      exact ⟨by omega, by omega, rfl⟩
    · rintro σ H' ⟨_, rfl, v, rfl⟩
      walk_at "rd"
      exact q

theorem ok_l_line (T : Txt K mg a) : FnOk P w K mg base CX0 1 a.f_l_line a.d_l_line ["_law_number", "_law_body"] sp_lline := by
  refine T.F_l_line.ok sc_l_line (fun vs H Q E h => ?_) (fun cdv A outer s H vs Q E hr h => ?_)
  · obtain ⟨n, b, rfl, _⟩ := h
    rfl
  · obtain ⟨n, b, rfl, g, q⟩ := h
    refine ⟨_, (pss_cons (ps_set (i := 2) sc_l_line.nd rfl (Or.inl rfl) pe_int)
      (pss_cons (ps_for PassesOwn.never rfl (pi_anyK (K := K) (pv 1)) (pg_name (i := 3) sc_l_line.nd rfl (Or.inl rfl)) (pss_cons (ps_set (i := 2) sc_l_line.nd rfl (Or.inl rfl) (pe_op (op_plusK (K := K)) (pe_op op_mod (pe_op op_mulA (pv 2) pe_int) pe_int) (pe_op op_fdiv (pv 2) pe_int)))
      (pss_one (ps_set (i := 2) sc_l_line.nd rfl (Or.inl rfl) (pe_op op_xor (pv 2) (pe_callB call_ordK (by rfl) T.n_ord boot_ord (pa_cons (pv 3) pa_nil)))))))
      (pss_cons (ps_set (i := 4) sc_l_line.nd rfl (Or.inl rfl) (pe_op (op_plusK (K := K)) pe_str (pe_callTy (call_strK (K := K)) rfl T.n_str boot_str (pa_cons (pv 0) pa_nil))))
      (pss_one (ps_ret (pe_op (op_plusK (K := K)) (pe_op (op_plusK (K := K)) (pe_op (op_plusK (K := K)) (pe_op (op_plusK (K := K)) (pe_op (op_plusK (K := K)) (pe_op (op_plusK (K := K)) (pe_slice (sl_anyK (K := K)) (pv 4) (po_some (pe_un un_neg pe_int)) po_none) pe_str) (pe_slice (sl_anyK (K := K)) (pe_op (op_plusK (K := K)) pe_str (pe_callTy (call_strK (K := K)) rfl T.n_str boot_str (pa_cons (pv 2) pa_nil))) (po_some (pe_un un_neg pe_int)) po_none)) pe_str) (pe_slice (sl_anyK (K := K)) (pe_op (op_plusK (K := K)) pe_str (pe_callTy (call_strK (K := K)) rfl T.n_str boot_str (pa_cons (pe_callB (call_lenK (K := K)) (by rfl) T.n_len boot_len (pa_cons (pv 1) pa_nil)) pa_nil))) (po_some (pe_un un_neg pe_int)) po_none)) pe_str) (pv 1))))))), ?_⟩
    walk_at "rd"
    refine forW_str (fun i σ H' => H' = H ∧ ∃ v, σ = [some (.int (n : Int)), some (.str (S b)), some (.int (sumF 0 (b.take i) : Nat)), v, none]) ⟨rfl, none, rfl⟩ ?_ ?_
    · rintro i c σ H' hc ⟨rfl, v, rfl⟩
      have hc' : b[i]? = some c := by simpa using hc
      have hb : sumF 0 (b.take i) < 65536 := sumF_lt (fun x hx => Nat.lt_trans (g.c x (List.mem_of_mem_take hx)) (by decide)) (by decide)
      have hs := lsum_step (c := c) hb
      walk_at "rd"
      rw [sumF_snoc hc', ← hs]
    · rintro σ H' ⟨rfl, v, rfl⟩
      walk_at "rd"
      have e : b.take (S b).cps.size = b := by simp
      rw [e]
      have hs := g.sum
      have hl := g.l
      have hn := g.n
      have Z : 40000 ≤ sizeLine := by decide
      have z6 := zf_len (w := 6) (by decide) g.n
      have z5 := zf_len (w := 5) (by decide) (Nat.lt_trans g.sum (show 65536 < 10 ^ 5 by decide))
      have z4 := zf_len (w := 4) (by decide) g.l
      have s6 := strI_le (m := n) (k := 6) (by decide) hn
      have s5 := strI_le (m := sumF 0 b) (k := 5) (by decide) (Nat.lt_trans g.sum (show 65536 < 10 ^ 5 by decide))
      have s4 := strI_le (m := b.length) (k := 4) (by decide) hl
      have c6 : cutL ([48, 48, 48, 48, 48, 48] ++ strI (n : Int)) (some (-6)) none = zf 6 n := cutL_zf (w := 6) (by decide) hn
      have c5 : cutL ([48, 48, 48, 48, 48] ++ strI ((sumF 0 b : Nat) : Int)) (some (-5)) none = zf 5 (sumF 0 b) := cutL_zf (w := 5) (by decide) (Nat.lt_trans g.sum (show 65536 < 10 ^ 5 by decide))
      have c4 : cutL ([48, 48, 48, 48] ++ strI (b.length : Int)) (some (-4)) none = zf 4 b.length := cutL_zf (w := 4) (by decide) hl
      refine ⟨log_small (by omega) (by omega), [48, 48, 48, 48, 48, 48], by decide +kernel, ?_⟩
      rw [c6]
      refine ⟨by simp only [List.length_cons, List.length_nil]; omega, by simp only [List.length_append, List.length_cons, List.length_nil]; omega, [32], by decide +kernel, by simp only [List.length_cons, List.length_nil]; omega, log_small (by omega) (by omega), [48, 48, 48, 48, 48], by decide +kernel, ?_⟩
      rw [c5]
      refine ⟨by simp only [List.length_cons, List.length_nil]; omega, by simp only [List.length_append, List.length_cons, List.length_nil]; omega, by simp only [List.length_append, List.length_cons, List.length_nil]; omega, [32], by decide +kernel, by simp only [List.length_append, List.length_cons, List.length_nil]; omega, by omega, log_small (by omega) (by omega), [48, 48, 48, 48], by decide +kernel, ?_⟩
      rw [c4]
      refine ⟨by simp only [List.length_cons, List.length_nil]; omega, by simp only [List.length_append, List.length_cons, List.length_nil]; omega, by simp only [List.length_append, List.length_cons, List.length_nil]; omega, [32], by decide +kernel, by simp only [List.length_append, List.length_cons, List.length_nil]; omega, by simp only [List.length_append, List.length_cons, List.length_nil]; omega, ?_⟩
      have e2 : zf 6 n ++ [32] ++ zf 5 (sumF 0 b) ++ [32] ++ zf 4 b.length ++ [32] ++ b = lineL n b := by unfold lineL hdL pfL; simp
      rw [e2]
      exact q

theorem ok_Book___init__ (T : Txt K mg a) : FnOk P w K mg base CX0 1 a.f_Book___init__ a.d_Book___init__ ["self"] (sp_bk_init a.C_Book) := by
  refine T.F_Book___init__.ok sc_Book___init__ (fun vs H Q E h => ?_) (fun cdv A outer s H vs Q E hr h => ?_)
  · obtain ⟨x, dx, rfl, _⟩ := h
    rfl
  · obtain ⟨x, dx, rfl, hx, q⟩ := h
    refine ⟨_, (pss_one (ps_fld (pv 0) (pe_lst pa_nil) rfl)), ?_⟩
    walk_at "rd"
    refine ⟨by decide, fun d hd => ?_⟩
    have hdx : d ≠ x := fun z => by rw [z, hx] at hd; cases hd
    refine ⟨_, dx, [], (upd_ne (Ne.symm hdx)).trans hx, T.cl_Book, T.no_Book_lines, by decide, ?_⟩
    refine q d _ hd hdx ((Chg.new hd).trans (Chg.upd (by simp) (mut_ins ((upd_ne (Ne.symm hdx)).trans hx)))) ⟨⟨dx, upd_same⟩, (upd_ne hdx).trans upd_same⟩
theorem ok_Book_told (T : Txt K mg a) : FnOk P w K mg base CX0 1 a.f_Book_told a.d_Book_told ["self"] (sp_bk_told a.C_Book) := by
  refine T.F_Book_told.ok sc_Book_told (fun vs H Q E h => ?_) (fun cdv A outer s H vs Q E hr h => ?_)
  · obtain ⟨r, l, ls, rfl, _⟩ := h
    rfl
  · obtain ⟨r, l, ls, rfl, R, q⟩ := h
    refine ⟨_, (pss_one (ps_ret (pe_callTy (call_listK (K := K)) rfl T.n_list boot_list (pa_cons (pe_fldK (K := K) (pv 0) rfl) pa_nil)))), ?_⟩
    obtain ⟨dx, hr⟩ := R.obj
    walk_at "rd"
    refine ⟨_, dx, _, hr, T.cl_Book, T.no_Book_lines, _, rfl, rListOf_l (.inl (.inl (.inl R.lst))) fun p hp => q p _ hp (Same.upd hp) upd_same⟩

theorem ok_signed_body (T : Txt K mg a) : FnOk P w K mg base (CXn P w) 4 a.f_signed_body a.d_signed_body ["number", "line"] (sp_sbody a.C_Broken) := by
  refine T.F_signed_body.okN sc_signed_body (fun vs H Q E h => ?_) (fun cdv A outer s H vs Q E hr h => ?_)
  · obtain ⟨n, l, rfl, _⟩ := h
    rfl
  · obtain ⟨n, l, rfl, g, hl, q⟩ := h
    refine ⟨_, (pss_cons (ps_set (i := 2) sc_signed_body.nd rfl (Or.inl rfl) (pe_call (ok_body_of T) (hr.mono (by decide)) rfl T.m_body_of T.F_body_of.kp T.b_body_of .nil passN (pa_cons (pv 0) (pa_cons (pv 1) pa_nil))))
      (pss_cons (ps_if (PT.nox (PW.pt (pw_and (pt_not (pt_truthK (K := K) (pe_bmK (K := K) PySem.F.plainAttrs_str PySem.F.slot_str_startswith PySem.F.type_str_startswith mt_startswith (pv 2) (pa_cons pe_str pa_nil)) (by intro _; rfl))) (pw_and1 (pt_not (pt_truthK (K := K) (pe_bmK (K := K) PySem.F.plainAttrs_str PySem.F.slot_str_startswith PySem.F.type_str_startswith mt_startswith (pv 2) (pa_cons pe_str pa_nil)) (by intro _; rfl))))))) (pss_one (ps_raise T.x_Broken T.xi_Broken T.xf_Broken (ok_Broken___init__ T) (hr.mono (by decide)) rfl T.mg_Broken T.b_Broken___init__ (by decide) raiseN (pa_cons (pv 0) pa_nil))) pss_nil)
      (pss_one (PS.nox (ps_ret (pv 2)))))), ?_⟩
    walk_at "rd"
    refine ⟨n, rfl, g, hl, ?_⟩
    have e43 : Str.ofString "+" = S [43] := by decide +kernel
    have e46 : Str.ofString "." = S [46] := by decide +kernel
    rw [e43, e46, startswith_S, startswith_S]
    by_cases hL : l = lineL n (l.drop 18)
    · refine .inl ⟨hL, fun H' s' => ?_⟩
      rcases q with ⟨ok, q⟩ | ⟨nok, q⟩
      · have h2 := q H' s'
        rcases ok.2 with h | h
        · rw [h]; simpa using h2
        · rw [h]; simpa using h2
      · have h1 : ¬ (l.drop 18)[0]? = some 43 := fun z => nok ⟨hL, .inl z⟩
        have h2 : ¬ (l.drop 18)[0]? = some 46 := fun z => nok ⟨hL, .inr z⟩
        rw [decide_eq_false h1, decide_eq_false h2]
        exact q H' s'
    · refine .inr ⟨hL, fun H' s' => ?_⟩
      rcases q with ⟨ok, q⟩ | ⟨nok, q⟩
      · exact absurd ok.1 hL
      · exact q H' s'

theorem ok_l_act_by (T : Txt K mg a) : FnOk P w K mg base CX0 3 a.f_l_act_by a.d_l_act_by ["_law_cell"] sp_actby := by
  refine T.F_l_act_by.ok sc_l_act_by (fun vs H Q E h => ?_) (fun cdv A outer s H vs Q E hr h => ?_)
  · obtain ⟨c, rfl, _⟩ := h
    rfl
  · obtain ⟨c, rfl, q⟩ := h
    refine ⟨_, (pss_cons (ps_set (i := 1) sc_l_act_by.nd rfl (Or.inl rfl) (pe_op (op_plusK (K := K)) pe_int (pe_op op_mod (pe_call (ok_l_mixed T) (hr.mono (by decide)) rfl T.m_l_mixed T.F_l_mixed.kp T.b_l_mixed .nil pass0 (pa_cons (pv 0) (pa_cons pe_int pa_nil))) pe_int)))
      (pss_cons (ps_if (pt_cmpR (op_eqK (K := K) (hU hr)) (pe_op op_mod (pe_call (ok_l_mixed T) (hr.mono (by decide)) rfl T.m_l_mixed T.F_l_mixed.kp T.b_l_mixed .nil pass0 (pa_cons (pv 0) (pa_cons pe_int pa_nil))) pe_int) pe_int (nomark _)) (pss_one (ps_set (i := 1) sc_l_act_by.nd rfl (Or.inl rfl) (pe_op (op_plusK (K := K)) pe_int (pe_op op_mod (pe_call (ok_l_mixed T) (hr.mono (by decide)) rfl T.m_l_mixed T.F_l_mixed.kp T.b_l_mixed .nil pass0 (pa_cons (pv 0) (pa_cons pe_int pa_nil))) pe_int)))) pss_nil)
      (pss_cons (ps_setc (i := 2) ["_law_cell", "_law_many", "_law_found"] ["_law_cell", "_law_many", "_law_found"] (defScope s_l_act_by) (by exact ⟨rfl, by decide +kernel, by decide +kernel, by decide +kernel, by decide +kernel, by decide +kernel, by decide +kernel, by decide +kernel, by decide +kernel⟩) (pi_range1 rfl T.n_range (pa_cons (pv 1) pa_nil)) (fun C₁ s₁ H₁ f₁ => (pe_call (ok_l_text_by T) (hr.mono (by decide)) rfl T.m_l_text_by T.F_l_text_by.kp T.b_l_text_by .nil pass0 (pa_cons (pv 1) (pa_cons (pe_op op_mulA pe_int (pv 0)) (pa_cons pe_int pa_nil))))) sc_l_act_by.nd)
      (pss_cons (ps_if (pt_cmpR (op_eqK (K := K) (hU hr)) (pe_op op_mod (pe_call (ok_l_mixed T) (hr.mono (by decide)) rfl T.m_l_mixed T.F_l_mixed.kp T.b_l_mixed .nil pass0 (pa_cons (pv 0) (pa_cons pe_int pa_nil))) pe_int) pe_int (nomark _)) (pss_one (ps_asg (pe_call (ok_l_text_by T) (hr.mono (by decide)) rfl T.m_l_text_by T.F_l_text_by.kp T.b_l_text_by .nil pass0 (pa_cons (pv 0) (pa_cons pe_int (pa_cons pe_int pa_nil)))) (pg_sub (pv 2) pe_int (set_any (hU1 hr))))) pss_nil)
      (pss_one (ps_ret (pv 2))))))), ?_⟩
    have Z : 40000 ≤ sizeLine := by decide
    refine cut2 fun Rz hRz => ?_
    walk_at "rd"
    have fin : ∀ n : Nat, 1 ≤ n → n ≤ 12 → Rz { nx := fun x H' => Q V.non H', rt := Q } [some (V.int c), some (V.int (n : Int)), none] H := by
      intro n h1 h2
      rw [hRz]
      clear hRz
      walk_at "rd"
      refine ⟨by omega, by omega, ?_⟩
      rw [Int.toNat_natCast]
      refine compW_range (by omega) (fun i => .str (S (txB c (20 * (i : Int)) 10))) (fun i H' hi s Qe qe => ?_) fun d H1 hd s1 hd1 => ?_
      · walk_at "rd"
        rw [show (20 : Int) * (0 + (i : Int)) = 20 * (i : Int) by omega]
        exact qe H' (Same.refl _)
      have hd2 : H1 d = some (.lst (tx ((List.range n).map fun i => txB c (20 * ((i : Nat) : Int)) 10))) := by rw [hd1]; unfold tx; rw [List.map_map]; rfl
      have okt : ∀ b ∈ (List.range n).map fun i => txB c (20 * ((i : Nat) : Int)) 10, okB b := fun b hb => by
        obtain ⟨k, _, rfl⟩ := List.mem_map.mp hb
        have := txB_len (c := c) (st := 20 * (k : Int)) (mo := 10) (by decide)
        exact ⟨txB_c _ _ _, by omega⟩
      have lt : ((List.range n).map fun i => txB c (20 * ((i : Nat) : Int)) 10).length = n := by rw [List.length_map, List.length_range]
      generalize (List.range n).map (fun i => txB c (20 * ((i : Nat) : Int)) 10) = act at hd2 okt lt
      have lx : (tx act).length = n := by unfold tx; rw [List.length_map, lt]
      refine ite2 (fun _ => ?_) (fun _ => ?_)
      · refine rSetA_l (j := 0) hd2 (by rw [lx]; exact ixN_of (by decide) (by show 0 < n; omega)) ?_
        refine q (act.set 0 (txB c 1000 300)) d _ ⟨?_, by rw [List.length_set]; omega, fun b hb => ?_⟩ hd (same_wr s1 hd) ?_
        · intro z
          have := congrArg List.length z
          rw [List.length_set, lt] at this
          simp at this; omega
        · rcases List.mem_or_eq_of_mem_set hb with hb | rfl
          · exact okt b hb
          · have := txB_len (c := c) (st := 1000) (mo := 300) (by decide)
            exact ⟨txB_c _ _ _, by omega⟩
        · rw [upd_same]; unfold tx; rw [List.map_set]
      · exact q act d _ ⟨by intro z; rw [z] at lt; simp at lt; omega, by omega, okt⟩ hd s1 hd2
    have e1 : 1 + mixN c 900 % 3 = (((1 + mixN c 900 % 3).toNat : Nat) : Int) := by omega
    have e2 : 4 + mixN c 902 % 9 = (((4 + mixN c 902 % 9).toNat : Nat) : Int) := by omega
    refine ite2 (fun _ => ?_) (fun _ => ?_)
    · rw [e2]; exact fin _ (by omega) (by omega)
    · rw [e1]; exact fin _ (by omega) (by omega)
theorem ok_l_lines_of (T : Txt K mg a) : FnOk P w K mg base CX0 2 a.f_l_lines_of a.d_l_lines_of ["_law_acts"] sp_linesof := by
  refine T.F_l_lines_of.ok sc_l_lines_of (fun vs H Q E h => ?_) (fun cdv A0 outer s H vs Q E hr h => ?_)
  · obtain ⟨p, ads, A, rfl, _⟩ := h
    rfl
  · obtain ⟨p, ads, A, rfl, hA, ok, hl, q⟩ := h
    refine ⟨_, (pss_cons (ps_set (i := 1) sc_l_lines_of.nd rfl (Or.inl rfl) (pe_lst pa_nil))
      (pss_cons (ps_for PassesOwn.never rfl (pi_anyK (K := K) (pv 0)) (pg_name (i := 2) sc_l_lines_of.nd rfl (Or.inl rfl)) (pss_one (ps_for PassesOwn.never rfl (pi_range1 rfl T.n_range (pa_cons (pe_callB (call_lenK (K := K)) (by rfl) T.n_len boot_len (pa_cons (pv 2) pa_nil)) pa_nil)) (pg_name (i := 3) sc_l_lines_of.nd rfl (Or.inl rfl)) (pss_cons (ps_set (i := 4) sc_l_lines_of.nd rfl (Or.inl rfl) (pe_ix (ix_anyK (K := K) (hU1 hr)) (pe_lst (pa_cons pe_str (pa_cons pe_str pa_nil))) (pe_callTy (call_intK (K := K)) rfl T.n_int boot_int (pa_cons (pe_cmpR op_ltK (pe_op (op_plusK (K := K)) (pv 3) pe_int) (pe_callB (call_lenK (K := K)) (by rfl) T.n_len boot_len (pa_cons (pv 2) pa_nil)) (nomark _)) pa_nil)) (fun _ _ => rfl)))
      (pss_one (ps_expr (pe_bmK (K := K) PySem.F.plainAttrs_list PySem.F.slot_list_append PySem.F.type_list_append mt_append (pv 1) (pa_cons (pe_call (ok_l_line T) (hr.mono (by decide)) rfl T.m_l_line T.F_l_line.kp T.b_l_line .nil pass0 (pa_cons (pe_callB (call_lenK (K := K)) (by rfl) T.n_len boot_len (pa_cons (pv 1) pa_nil)) (pa_cons (pe_op (op_plusK (K := K)) (pv 4) (pe_ix (ix_anyK (K := K) (hU1 hr)) (pv 2) (pv 3) (fun _ _ => rfl))) pa_nil))) pa_nil))))))))
      (pss_one (ps_ret (pv 1))))), ?_⟩
    have Z : 40000 ≤ sizeLine := by decide
    have fle := fl_le ok
    have adl := hA.2.len
    walk_at "rd"
    refine ⟨by omega, fun d hd => rAny_l (.inl (.inl ((Same.upd hd) _ _ hA.1))) ?_⟩
    have s0 : Same H (upd H d (.lst [])) := Same.upd hd
    have hd0 : upd H d (.lst []) d = some (.lst (tx [])) := upd_same
    generalize upd H d (.lst []) = H0 at s0 hd0 ⊢
    refine forW_list (xs := ads.map V.ref) (fun i σ H' => Same H H' ∧ H' d = some (.lst (tx (lns 0 (fl (A.take i))))) ∧ ∃ v1 v2 v3, σ = [some (.ref p), some (.ref d), v1, v2, v3]) ⟨s0, hd0, none, none, none, rfl⟩ (fun i σ H' _ h => .inl (.inl (h.1 _ _ hA.1))) ?_ ?_
    · rintro i x σ H' hx ⟨s', hd', v1, v2, v3, rfl⟩
      rw [List.getElem?_map, Option.map_eq_some_iff] at hx
      obtain ⟨ad, had, rfl⟩ := hx
      obtain ⟨act, hact, hH⟩ := hA.2.get had
      have oka := ok act (List.mem_of_getElem? hact)
      have hi : i < A.length := (List.getElem?_eq_some_iff.mp hact).1
      have fle2 : (fl (A.take i)).length ≤ 288 := by
        have := fl_le (A := A.take i) fun a ha => ok a (List.mem_of_mem_take ha)
        rw [List.length_take] at this; omega
      have lx : (tx act).length = act.length := by unfold tx; rw [List.length_map]
      walk_at "rd"
      refine rLen_l (.inl (.inl (s' _ _ hH))) ?_
      walk_at "rd"
      rw [lx]
      have l12 := oka.2.1
      refine ⟨by omega, by omega, ?_⟩
      rw [Int.toNat_natCast]
      refine forW_range (fun k σ H2 => Same H H2 ∧ H2 d = some (.lst (tx (lns 0 (fl (A.take i) ++ (sgA act).take k)))) ∧ ∃ v2 v3, σ = [some (.ref p), some (.ref d), some (.ref ad), v2, v3]) ⟨s', by simpa using hd', v2, v3, rfl⟩ ?_ ?_
      · rintro k σ H2 hk ⟨s2, hd2, v2, v3, rfl⟩
        have hb : act[k]? = some act[k] := List.getElem?_eq_getElem hk
        have okb := oka.2.2 act[k] (List.getElem_mem _)
        have sg := sgA_get act k _ hb
        have tl : (lns 0 (fl (A.take i) ++ (sgA act).take k)).length = (fl (A.take i)).length + k := by
          rw [lns_len, List.length_append, List.length_take, sgA_len]; omega
        walk_at "rd"
        refine ⟨by omega, fun p1 hp1n => ?_⟩
        have sp : Same H2 (upd H2 p1 (.lst [V.str (Str.ofString "."), V.str (Str.ofString "+")])) := Same.upd hp1n
        have hp1 : upd H2 p1 (.lst [V.str (Str.ofString "."), V.str (Str.ofString "+")]) p1 = some (.lst [V.str (Str.ofString "."), V.str (Str.ofString "+")]) := upd_same
        generalize upd H2 p1 (.lst [V.str (Str.ofString "."), V.str (Str.ofString "+")]) = H3 at sp hp1 ⊢
        have hd3 := sp _ _ hd2
        have had3 := sp _ _ (s2 _ _ hH)
        have hat : atI (tx act) (0 + (k : Int)) = some (V.str (S act[k])) := by
          rw [show (0 + (k : Int)) = (k : Int) by omega]
          refine atI_nat ?_
          unfold tx
          rw [List.getElem?_map, hb]; rfl
        refine rLen_l (.inl (.inl had3)) ?_
        rw [rLt_ii, rInt_b, lx]
        by_cases hlt : k + 1 < act.length
        · rw [decide_eq_true (show (0 + (k : Int) + 1) < (act.length : Int) by omega)]
          rw [if_pos hlt] at sg
          refine rIxA_l (v := .str (Str.ofString "+")) (.inl (.inl hp1)) rfl ⟨.inl ⟨_, .inl (.inl hd3)⟩, rLen_l (.inl (.inl hd3)) (rIxA_l (v := .str (S act[k])) (.inl (.inl had3)) hat ?_)⟩
          rw [rPlus_ss]
          refine ⟨[43], act[k], by decide +kernel, rfl, by have := okb.2; simp only [List.length_cons, List.length_nil]; omega, (fl (A.take i)).length + k, ?_, _, rfl, ?_, _, hd3, ?_, same_wr (s2.trans sp) hd, ?_⟩
          · unfold tx; rw [List.length_map, tl]
          · refine ⟨by omega, fun x hx => ?_, by have := okb.2; simp only [List.length_append, List.length_cons, List.length_nil]; omega⟩
            rcases List.mem_append.mp hx with hx | hx
            · rw [List.mem_singleton.mp hx]; decide
            · exact okb.1 x hx
          · unfold tx; rw [List.length_map, tl]; omega
          · rw [upd_same, take_snoc1 sg, ← List.append_assoc, lns_snoc, List.length_append, List.length_take, sgA_len, Nat.min_eq_left (by omega), Nat.zero_add]
            unfold tx
            rw [List.map_append]
            rfl
        · rw [decide_eq_false (show ¬ (0 + (k : Int) + 1) < (act.length : Int) by omega)]
          rw [if_neg hlt] at sg
          refine rIxA_l (v := .str (Str.ofString ".")) (.inl (.inl hp1)) rfl ⟨.inl ⟨_, .inl (.inl hd3)⟩, rLen_l (.inl (.inl hd3)) (rIxA_l (v := .str (S act[k])) (.inl (.inl had3)) hat ?_)⟩
          rw [rPlus_ss]
          refine ⟨[46], act[k], by decide +kernel, rfl, by have := okb.2; simp only [List.length_cons, List.length_nil]; omega, (fl (A.take i)).length + k, ?_, _, rfl, ?_, _, hd3, ?_, same_wr (s2.trans sp) hd, ?_⟩
          · unfold tx; rw [List.length_map, tl]
          · refine ⟨by omega, fun x hx => ?_, by have := okb.2; simp only [List.length_append, List.length_cons, List.length_nil]; omega⟩
            rcases List.mem_append.mp hx with hx | hx
            · rw [List.mem_singleton.mp hx]; decide
            · exact okb.1 x hx
          · unfold tx; rw [List.length_map, tl]; omega
          · rw [upd_same, take_snoc1 sg, ← List.append_assoc, lns_snoc, List.length_append, List.length_take, sgA_len, Nat.min_eq_left (by omega), Nat.zero_add]
            unfold tx
            rw [List.map_append]
            rfl
      · rintro σ H2 ⟨s2, hd2, v2, v3, rfl⟩
        rw [show (sgA act).take act.length = sgA act by rw [← sgA_len, List.take_length], ← fl_snoc hact] at hd2
        exact ⟨s2, hd2, _, _, _, rfl⟩
    · rintro σ H' ⟨s', hd', v1, v2, v3, rfl⟩
      walk_at "rd"
      rw [List.length_map, adl, List.take_length] at hd'
      exact q d H' hd s' hd'
theorem ok_l_begun (T : Txt K mg a) : FnOk P w K mg base CX0 1 a.f_l_begun a.d_l_begun ["_law_acts", "_law_many"] sp_begun := by
  refine T.F_l_begun.ok sc_l_begun (fun vs H Q E h => ?_) (fun cdv A0 outer s H vs Q E hr h => ?_)
  · obtain ⟨p, ads, A, m, rfl, _⟩ := h
    rfl
  · obtain ⟨p, ads, A, m, rfl, hA, hl, q⟩ := h
    refine ⟨_, (pss_cons (ps_set (i := 2) sc_l_begun.nd rfl (Or.inl rfl) (pe_lst pa_nil))
      (pss_cons (ps_set (i := 3) sc_l_begun.nd rfl (Or.inl rfl) pe_int)
      (pss_cons (ps_for PassesOwn.never rfl (pi_anyK (K := K) (pv 0)) (pg_name (i := 4) sc_l_begun.nd rfl (Or.inl rfl)) (pss_cons (ps_if (pt_cmpR op_gtA (pe_op (op_plusK (K := K)) (pv 3) (pe_callB (call_lenK (K := K)) (by rfl) T.n_len boot_len (pa_cons (pv 4) pa_nil))) (pv 1) (nomark _)) (pss_one (ps_ret (pe_tup (pa_cons (pv 2) (pa_cons (pv 3) pa_nil))))) pss_nil)
      (pss_cons (ps_expr (pe_bmK (K := K) PySem.F.plainAttrs_list PySem.F.slot_list_append PySem.F.type_list_append mt_append (pv 2) (pa_cons (pv 4) pa_nil)))
      (pss_one (ps_set (i := 3) sc_l_begun.nd rfl (Or.inl rfl) (pe_op (op_plusK (K := K)) (pv 3) (pe_callB (call_lenK (K := K)) (by rfl) T.n_len boot_len (pa_cons (pv 4) pa_nil))))))))
      (pss_one (ps_ret (pe_tup (pa_cons (pv 2) (pa_cons (pv 3) pa_nil)))))))), ?_⟩
    have Z : 40000 ≤ sizeLine := by decide
    have adl := hA.2.len
    walk_at "rd"
    refine ⟨by omega, fun d hd => rAny_l (.inl (.inl ((Same.upd hd) _ _ hA.1))) ?_⟩
    have s0 : Same H (upd H d (.lst [])) := Same.upd hd
    have hd0 : upd H d (.lst []) d = some (.lst []) := upd_same
    generalize upd H d (.lst []) = H0 at s0 hd0 ⊢
    have fin : ∀ (j : Nat) (H' : Hp), j ≤ A.length → (fl (A.take j)).length ≤ m → (∀ a, A[j]? = some a → m < (fl (A.take j)).length + a.length) → Same H H' → H' d = some (.lst ((ads.take j).map V.ref)) → ∀ t, H' t = none → Q (.ref t) (upd H' t (.tup [V.ref d, V.int ((fl (A.take j)).length : Nat)])) := fun j H' hj h1 h2 s' hd' t ht =>
      q j t d _ hj h1 h2 (none_of_same s' ht) hd (fun z => by rw [z, hd'] at ht; cases ht) (s'.trans (Same.upd ht)) upd_same ((Same.upd ht) _ _ hd')
    refine forW_list (xs := ads.map V.ref) (fun i σ H' => Same H H' ∧ H' d = some (.lst ((ads.take i).map V.ref)) ∧ (fl (A.take i)).length ≤ m ∧ ∃ v1, σ = [some (.ref p), some (.int (m : Int)), some (.ref d), some (.int ((fl (A.take i)).length : Nat)), v1]) ⟨s0, hd0, Nat.zero_le _, none, rfl⟩ (fun i σ H' _ h => .inl (.inl (h.1 _ _ hA.1))) ?_ ?_
    · rintro i x σ H' hx ⟨s', hd', hm, v1, rfl⟩
      rw [List.getElem?_map, Option.map_eq_some_iff] at hx
      obtain ⟨ad, had, rfl⟩ := hx
      obtain ⟨act, hact, hH⟩ := hA.2.get had
      have hi : i < A.length := (List.getElem?_eq_some_iff.mp hact).1
      have lx : (tx act).length = act.length := by unfold tx; rw [List.length_map]
      walk_at "rd"
      refine rLen_l (.inl (.inl (s' _ _ hH))) ?_
      walk_at "rd"
      rw [lx]
      refine ite2 (fun h => ?_) (fun h => ?_)
      · exact ⟨by omega, fin i H' (by omega) hm (fun a ha => by rw [hact] at ha; cases ha; omega) s' hd'⟩
      · refine ⟨.inl ⟨_, .inl (.inl hd')⟩, _, hd', by rw [List.length_map, List.length_take]; omega, ?_⟩
        have nad : ad ≠ d := fun z => by rw [z, hd] at hH; cases hH
        refine rLen_l (.inl (.inl ((upd_ne nad).trans (s' _ _ hH)))) ?_
        walk_at "rd"
        rw [lx, fl_snoc hact, List.length_append, sgA_len, take_snoc1 had]
        refine ⟨same_wr s' hd, ?_, by omega, by omega⟩
        rw [upd_same, List.map_append]; rfl
    · rintro σ H' ⟨s', hd', hm, v1, rfl⟩
      walk_at "rd"
      rw [List.length_map, adl] at hd' hm ⊢
      exact ⟨by omega, fin A.length H' (Nat.le_refl _) hm (fun a ha => by rw [List.getElem?_eq_none (Nat.le_refl _)] at ha; cases ha) s' hd'⟩
theorem ok_l_same (T : Txt K mg a) : FnOk P w K mg base CX0 2 a.f_l_same a.d_l_same ["_law_found", "_law_due"] sp_same16 := by
  refine T.F_l_same.ok sc_l_same (fun vs H Q E h => ?_) (fun cdv A0 outer s H vs Q E hr h => ?_)
  · obtain ⟨t, q, t', q', ads, ads', A, n, rfl, _⟩ := h
    rfl
  · obtain ⟨t, r, t', r', ads, ads', A, n, rfl, ht, hr', ht', hr2, ok, q⟩ := h
    refine ⟨_, (pss_cons (ps_if (PW.pt (pw_or (pt_not (pt_truthK (K := K) (pe_callB (call_isinstanceK (K := K)) (by rfl) T.n_isinstance boot_isinstance (pa_cons (pv 0) (pa_cons (pe_bltn (v := .ty "tuple") rfl T.n_tuple boot_tuple rfl) pa_nil))) (by intro _; rfl))) (pw_or (pt_cmpR (op_neK (K := K) (hU hr)) (pe_callB (call_lenK (K := K)) (by rfl) T.n_len boot_len (pa_cons (pv 0) pa_nil)) pe_int (nomark _)) (pw_or1 (pt_not (pt_truthK (K := K) (pe_call (ok_l_whole T) (hr.mono (by decide)) rfl T.m_l_whole T.F_l_whole.kp T.b_l_whole .nil pass0 (pa_cons (pe_ix (ix_anyK (K := K) (hU1 hr)) (pv 0) pe_int (fun _ _ => rfl)) (pa_cons (pe_ix (ix_anyK (K := K) (hU1 hr)) (pv 1) pe_int (fun _ _ => rfl)) pa_nil))) (by intro _; rfl))))))) (pss_one (ps_ret pe_bl)) pss_nil)
      (pss_one (ps_ret (pe_and (pe_callB (call_isinstanceK (K := K)) (by rfl) T.n_isinstance boot_isinstance (pa_cons (pe_ix (ix_anyK (K := K) (hU1 hr)) (pv 0) pe_int (fun _ _ => rfl)) (pa_cons (pe_bltn (v := .ty "list") rfl T.n_list boot_list rfl) pa_nil))) (pe_one (pe_cmpR (op_eqK (K := K) (hU hr)) (pe_ix (ix_anyK (K := K) (hU1 hr)) (pv 0) pe_int (fun _ _ => rfl)) (pe_ix (ix_anyK (K := K) (hU1 hr)) (pv 1) pe_int (fun _ _ => rfl)) (nomark _))))))), ?_⟩
    walk_at "rd"
    refine (isi_tup_tuple ht).mpr ⟨_, TruV_b _ _ ▸ rfl, ?_⟩
    rw [if_neg (by decide)]
    refine rLen_t (.inl (.inl ht)) ?_
    walk_at "rd"
    refine rIxA_t (v := .int n) (.inl (.inl ht)) rfl (rIxA_t (v := .int n) (.inl (.inl ht')) rfl ?_)
    walk_at "rd"
    refine rIxA_t (v := .ref r) (.inl (.inl ht)) rfl ((isi_lst_list hr'.1).mpr ⟨_, rfl, ?_⟩)
    rw [if_pos rfl]
    refine rIxA_t (v := .ref r) (.inl (.inl ht)) rfl (rIxA_t (v := .ref r') (.inl (.inl ht')) rfl ?_)
    exact rEqq_same (den_acts (.inl (.inl hr'.1)) hr'.2) (den_acts (.inl (.inl hr2.1)) hr2.2) (wd_acts ok) rfl q

theorem ok_good_bodies (T : Txt K mg a) : FnOk P w K mg base (CXv P w) 5 a.f_good_bodies a.d_good_bodies ["lines"] (sp_goodbX a.C_Broken) := by
  refine T.F_good_bodies.okX sc_good_bodies (fun vs H Q E h => ?_) (fun cdv A outer s H vs Q E hr h => ?_)
  · obtain ⟨p, ls, bs, rfl, _⟩ := h
    rfl
  · obtain ⟨p, ls, bs, rfl, hp, h⟩ := h
    refine ⟨_, (pss_cons (PS.nox (ps_set (i := 1) sc_good_bodies.nd rfl (Or.inl rfl) (pe_lst pa_nil)))
      (pss_cons (PS.held xeL_cx (ps_for passesL rfl (pi_enumerate rfl T.n_enumerate (pa_cons (pv 0) pa_nil)) (pg_tupK (K := K) (n := 2) rfl (pgs_cons (pg_name (i := 2) sc_good_bodies.nd rfl (Or.inl rfl)) (pgs_cons (pg_name (i := 3) sc_good_bodies.nd rfl (Or.inl rfl)) pgs_nil))) (pss_one (ps_tryN (pss_one (ps_expr (pe_bmK (K := K) PySem.F.plainAttrs_list PySem.F.slot_list_append PySem.F.type_list_append mt_append (pv 1) (pa_cons (pe_call (ok_signed_body T) (hr.mono (by decide)) rfl T.m_signed_body T.F_signed_body.kp T.b_signed_body .nil passn0 (pa_cons (pv 2) (pa_cons (pv 3) pa_nil))) pa_nil))))
      (pxs_oneN (px_exprN (px_bmN (K := K) PySem.F.plainAttrs_list PySem.F.slot_list_append PySem.F.type_list_append (pv 1) (px_callN (ok_signed_body T) (hr.mono (by decide)) rfl T.m_signed_body T.F_signed_body.kp T.b_signed_body .nil (pa_cons (pv 2) (pa_cons (pv 3) pa_nil))))))
      (ph_bareN rfl T.mg_Broken (fun ea => (pss_one (ps_if (PT.nox (pt_cmpR op_ltK (pv 2) (pe_op op_sub (pe_callB (call_lenK (K := K)) (by rfl) T.n_len boot_len (pa_cons (pv 0) pa_nil)) pe_int) (nomark _))) (pss_one (ps_raiseN T.x_Broken T.xi_Broken T.xf_Broken (okU_Broken___init__ T) (hr.mono (by decide)) rfl T.mg_Broken T.b_Broken___init__ (by decide) (pa_cons (pv 2) pa_nil) pe_non)) pss_nil))))))))
      (pss_one (PS.nox (ps_ret (pv 1)))))), ?_⟩
    have Z : 40000 ≤ sizeLine := by decide
    have bb : ∀ b ∈ bs, (∀ c ∈ b, c < 128) ∧ b.length ≤ 401 ∧ (b[0]? = some 43 ∨ b[0]? = some 46) := by
      rcases h with ⟨tl, C, _⟩ | ⟨l, rest, C, _⟩
      · exact C.b
      · exact C.b
    have hn : bs.length ≤ 5000 := by
      rcases h with ⟨tl, C, _⟩ | ⟨l, rest, C, _⟩
      · exact C.n
      · exact C.n
    obtain ⟨tl, el⟩ : ∃ tl, ls = lns 0 bs ++ tl := by
      rcases h with ⟨tl, C, _⟩ | ⟨l, rest, C, _⟩
      · exact ⟨_, C.e⟩
      · exact ⟨_, C.e⟩
    walk_at "rd"
    refine ⟨by omega, fun d hd => ?_⟩
    have s0 : Same H (upd H d (.lst [])) := Same.upd hd
    have hd0 : upd H d (.lst []) d = some (.lst []) := upd_same
    generalize upd H d (.lst []) = H0 at s0 hd0 ⊢
    have ll : ls.length = bs.length + tl.length := by rw [el, List.length_append, lns_len]
    refine ⟨⟨_, .inl (.inl (s0 _ _ hp))⟩, ?_⟩
    refine forW_enum (xs := tx ls) (fun i σ H' => Same H H' ∧ H' d = some (.lst (tx (bs.take i))) ∧ ((∃ l rest, Amid ls bs l rest) → i ≤ bs.length) ∧ ∃ v1 v2, σ = [some (.ref p), some (.ref d), v1, v2]) ⟨s0, by simpa [tx] using hd0, fun _ => Nat.zero_le _, none, none, rfl⟩ (fun i σ H' _ h => .inl (.inl (h.1 _ _ hp))) ?_ ?_
    · rintro i x t σ H' hx ht ⟨s', hd', hA, v1, v2, rfl⟩
      unfold tx at hx
      rw [List.getElem?_map, Option.map_eq_some_iff] at hx
      obtain ⟨l, hli, rfl⟩ := hx
      have s1 : Same H' (upd H' t (.tup [.int (i : Nat), .str (S l)])) := Same.upd ht
      have ht1 : upd H' t (.tup [.int (i : Nat), .str (S l)]) t = some (.tup [.int (i : Nat), .str (S l)]) := upd_same
      generalize upd H' t (.tup [.int (i : Nat), .str (S l)]) = H1 at s1 ht1 ⊢
      have hd1 := s1 _ _ hd'
      walk_at "rd"
      refine ⟨_, .inl (.inl ht1), rfl, _, _, rfl, _, _, rfl, rfl, ?_⟩
      by_cases hi : i < bs.length
      · have hb : bs[i]? = some bs[i] := List.getElem?_eq_getElem hi
        have ell : l = lineL i bs[i] := by
          have := lns_get 0 bs i _ hb
          rw [el, List.getElem?_append_left (by rw [lns_len]; exact hi), this] at hli
          rw [← Option.some.inj hli, Nat.zero_add]
        have okb := bb bs[i] (List.getElem_mem _)
        have g : GoodB i bs[i] := ⟨by omega, okb.1, by omega⟩
        subst ell
        refine .inl ⟨.inl ⟨_, .inl (.inl hd1)⟩, i, rfl, _, rfl, by rw [g.drop]; exact g, by rw [g.len]; omega, .inl ⟨okLn_line g okb.2.2, fun H2 s2 => ?_⟩⟩
        have hd2 := s2 _ _ hd1
        refine ⟨_, hd2, by unfold tx; rw [List.length_map, List.length_take]; omega, same_wr (s'.trans (s1.trans s2)) hd, ?_, fun _ => hi⟩
        rw [upd_same, g.drop, take_snoc1 hb]
        unfold tx
        rw [List.map_append]
        rfl
      · have hil : i < ls.length := (List.getElem?_eq_some_iff.mp hli).1
        have key : i = bs.length ∧ (∀ c ∈ l, c < 128) ∧ l.length ≤ 9000 ∧ ¬ okLn bs.length l := by
          rcases h with ⟨tl', C, _⟩ | ⟨l0, rest, C, _⟩
          · have e2 := congrArg List.length C.e
            rw [List.length_append, lns_len] at e2
            have := C.t1
            have ei : i = bs.length := by omega
            refine ⟨ei, C.t l ?_⟩
            rw [C.e, List.getElem?_append_right (by rw [lns_len]; omega)] at hli
            exact List.mem_of_getElem? hli
          · have := hA ⟨l0, rest, C⟩
            have ei : i = bs.length := by omega
            rw [C.e, List.getElem?_append_right (by rw [lns_len]; omega), lns_len, ei, Nat.sub_self] at hli
            cases hli
            exact ⟨ei, C.t⟩
        obtain ⟨ei, lc, ll2, lno⟩ := key
        have g : GoodB i (l.drop 18) := ⟨by omega, fun c hc => lc c (List.mem_of_mem_drop hc), by rw [List.length_drop]; omega⟩
        rw [← ei] at lno
        refine .inr ⟨.inl ⟨_, .inl (.inl hd1)⟩, Got H1 a.C_Broken [("line", .int (i : Int))], ⟨i, rfl, l, rfl, g, by omega, .inr ⟨lno, fun H' s' => bears_got1 s'⟩⟩, fun C' dy H2 ea gt he => ?_⟩
        obtain ⟨rfl, dd, rfl, sm, ge, gd⟩ := GotN.at gt he
        generalize upd H2 ea (xhN ea a.C_Broken (some dd)) = H3 at sm ge gd ⊢
        have sH := s'.trans (s1.trans sm)
        refine ⟨T.em_Broken_Broken, rLen_l (.inl (.inl (sH _ _ hp))) ⟨_, rfl, ?_⟩⟩
        rw [rLt_ii]
        refine ⟨_, rfl, ?_⟩
        have e1 : (tx ls).length = ls.length := by unfold tx; rw [List.length_map]
        rw [e1]
        rcases h with ⟨tl', C, _⟩ | ⟨l0, rest, C, q⟩
        · have e2 := congrArg List.length C.e
          rw [List.length_append, lns_len] at e2
          have t1 := C.t1
          rw [if_neg (fun z => by have := of_decide_eq_true z; omega)]
          refine ⟨sH, ?_, fun z => ?_⟩
          · rw [sm _ _ hd1, List.take_of_length_le (by omega), List.take_of_length_le (by omega)]
          · obtain ⟨l0, rest, C2⟩ := z
            have e3 := congrArg List.length C2.e
            rw [List.length_append, lns_len, List.length_cons] at e3
            have : rest.length ≠ 0 := fun z => C2.r (List.eq_nil_of_length_eq_zero z)
            omega
        · have e3 := congrArg List.length C.e
          rw [List.length_append, lns_len, List.length_cons] at e3
          have : rest.length ≠ 0 := fun z => C.r (List.eq_nil_of_length_eq_zero z)
          rw [if_pos (decide_eq_true (by omega))]
          exact ⟨⟨_, _, ge⟩, fun d2 H4 hd2 s4 h4 => q H3 sH d2 H4 hd2 s4 (by rw [← ei]; exact h4)⟩
    · rintro σ H' ⟨s', hd', hA, v1, v2, rfl⟩
      walk_at "rd"
      rcases h with ⟨tl, C, q⟩ | ⟨l, rest, C, q⟩
      · refine q d H' hd s' ?_
        rw [hd', List.take_of_length_le (by unfold tx; rw [List.length_map]; omega)]
      · have := hA ⟨l, rest, C⟩
        have e1 : (tx ls).length = ls.length := by unfold tx; rw [List.length_map]
        have e2 := congrArg List.length C.e
        rw [List.length_append, lns_len, List.length_cons] at e2
        omega

theorem ok_acts_of (T : Txt K mg a) : FnOk P w K mg base (CXv P w) 6 a.f_acts_of a.d_acts_of ["lines"] (sp_actsofX a.C_Broken) := by
  refine T.F_acts_of.okX sc_acts_of (fun vs H Q E h => ?_) (fun cdv A outer s H vs Q E hr h => ?_)
  · obtain ⟨p, ls, bs, rfl, _⟩ := h
    rfl
  · obtain ⟨p, ls, bs, rfl, hp, h⟩ := h
    refine ⟨_, (pss_cons (PS.nox (ps_set (i := 1) sc_acts_of.nd rfl (Or.inl rfl) (pe_lst pa_nil)))
      (pss_cons (PS.nox (ps_set (i := 2) sc_acts_of.nd rfl (Or.inl rfl) (pe_lst pa_nil)))
      (pss_cons (PS.nox (ps_set (i := 3) sc_acts_of.nd rfl (Or.inl rfl) pe_int))
      (pss_cons (PS.held xeL_cx (ps_for passesL rfl (pi_enumerate rfl T.n_enumerate (pa_cons (pe_call (ok_good_bodies T) (hr.mono (by decide)) rfl T.m_good_bodies T.F_good_bodies.kp T.b_good_bodies .nil passL (pa_cons (pv 0) pa_nil)) pa_nil)) (pg_tupK (K := K) (n := 2) rfl (pgs_cons (pg_name (i := 4) sc_acts_of.nd rfl (Or.inl rfl)) (pgs_cons (pg_name (i := 5) sc_acts_of.nd rfl (Or.inl rfl)) pgs_nil))) (pss_cons (PS.nox (ps_expr (pe_bmK (K := K) PySem.F.plainAttrs_list PySem.F.slot_list_append PySem.F.type_list_append mt_append (pv 2) (pa_cons (pe_slice (sl_anyK (K := K)) (pv 5) (po_some pe_int) po_none) pa_nil))))
      (pss_one (PS.nox (ps_if (pt_truthK (K := K) (pe_bmK (K := K) PySem.F.plainAttrs_str PySem.F.slot_str_startswith PySem.F.type_str_startswith mt_startswith (pv 5) (pa_cons pe_str pa_nil)) (by intro _; rfl)) (pss_cons (ps_expr (pe_bmK (K := K) PySem.F.plainAttrs_list PySem.F.slot_list_append PySem.F.type_list_append mt_append (pv 1) (pa_cons (pv 2) pa_nil)))
      (pss_cons (ps_set (i := 2) sc_acts_of.nd rfl (Or.inl rfl) (pe_lst pa_nil))
      (pss_one (ps_set (i := 3) sc_acts_of.nd rfl (Or.inl rfl) (pe_op (op_plusK (K := K)) (pv 4) pe_int))))) pss_nil))))))
      (pss_one (PS.nox (ps_ret (pe_tup (pa_cons (pv 1) (pa_cons (pv 3) pa_nil)))))))))), ?_⟩
    have Z : 40000 ≤ sizeLine := by decide
    walk_at "rd"
    refine ⟨by omega, fun A0 hA0 => ⟨by omega, fun c0 hc0 => ?_⟩⟩
    have nca : c0 ≠ A0 := fun z => by rw [z, upd_same] at hc0; cases hc0
    have hc1 : H c0 = none := by rw [upd_ne nca] at hc0; exact hc0
    have s0 : Same H (upd (upd H A0 (.lst [])) c0 (.lst [])) := (Same.upd hA0).trans (Same.upd hc0)
    have ha0 : upd (upd H A0 (.lst [])) c0 (.lst []) A0 = some (.lst []) := by rw [upd_ne (Ne.symm nca), upd_same]
    have hcc : upd (upd H A0 (.lst [])) c0 (.lst []) c0 = some (.lst []) := upd_same
    generalize upd (upd H A0 (.lst [])) c0 (.lst []) = H0 at s0 ha0 hcc ⊢
    rcases h with ⟨tl, C, q⟩ | ⟨l, rest, C, q⟩
    case inr => exact ⟨_, s0 _ _ hp, _, .inr ⟨⟨_, _, C⟩, fun H' s' => q H' (s0.trans s')⟩⟩
    have hn := C.n
    refine ⟨_, s0 _ _ hp, _, .inl ⟨⟨_, C⟩, fun d H1 hd s1 hd1 => ⟨⟨_, .inl (.inl hd1)⟩, ?_⟩⟩⟩
    have hd0 : H d = none := none_of_same s0 hd
    have nda : A0 ≠ d := ne_of_none ha0 hd
    refine forW_enum (xs := tx bs) (fun i σ H' => Same H H' ∧ H' d = some (.lst (tx bs)) ∧ (∃ ads, H' A0 = some (.lst (ads.map V.ref)) ∧ Lsts H' ads (gst (bs.take i)).1 ∧ (∀ x ∈ ads, x ≠ A0 ∧ x ≠ d ∧ H x = none) ∧
      ∃ c, c ≠ A0 ∧ c ≠ d ∧ c ∉ ads ∧ H c = none ∧ H' c = some (.lst (tx (gst (bs.take i)).2.1)) ∧ (gst (bs.take i)).2.1.length ≤ i ∧ ads.length ≤ i ∧
      ∃ v1 v2, σ = [some (.ref p), some (.ref A0), some (.ref c), some (.int ((gst (bs.take i)).2.2.1 : Nat)), v1, v2])) ?_ (fun i σ H' _ h => .inl (.inl h.2.1)) ?_ ?_
    · exact ⟨s0.trans s1, hd1, [], s1 _ _ ha0, trivial, fun x hx => (by cases hx), c0, nca, ne_of_none hcc hd, (by simp), hc1, s1 _ _ hcc, Nat.le_refl _, Nat.le_refl _, none, none, rfl⟩
    · rintro i x t σ H' hx ht ⟨s', hd', ads, hA', hL', had, c, ncA, ncd, ncads, hcn, hc', lcur, lads, v1, v2, rfl⟩
      unfold tx at hx
      rw [List.getElem?_map, Option.map_eq_some_iff] at hx
      obtain ⟨b, hb, rfl⟩ := hx
      have hi : i < bs.length := (List.getElem?_eq_some_iff.mp hb).1
      have okb := C.b b (List.mem_of_getElem? hb)
      have sx : Same H' (upd H' t (.tup [.int (i : Nat), .str (S b)])) := Same.upd ht
      have ht1 : upd H' t (.tup [.int (i : Nat), .str (S b)]) t = some (.tup [.int (i : Nat), .str (S b)]) := upd_same
      generalize upd H' t (.tup [.int (i : Nat), .str (S b)]) = H1 at sx ht1 ⊢
      have hcnt : (gst (bs.take i)).2.2.2 = i := by rw [gst_cnt, List.length_take]; omega
      have hg : gst (bs.take (i + 1)) = gstep (gst (bs.take i)) b := by rw [take_snoc1 hb, gst_snoc]
      rw [hg]
      generalize gst (bs.take i) = g at hL' hc' lcur hcnt ⊢
      walk_at "rd"
      refine ⟨_, .inl (.inl ht1), rfl, _, _, rfl, _, _, rfl, rfl, ?_⟩
      have hc1' := sx _ _ hc'
      have hA1 := sx _ _ hA'
      have hd1' := sx _ _ hd'
      have hL1 := hL'.same sx
      have sH1 := s'.trans sx
      refine ⟨.inl ⟨_, .inl (.inl hc1')⟩, ?_⟩
      walk_at "rd"
      rw [show (1 : Int) = ((1 : Nat) : Int) from rfl, cutL_suf, show Str.ofString "." = S [46] by decide +kernel, startswith_S]
      refine ⟨by have := okb.2.1; omega, _, hc1', by unfold tx; rw [List.length_map]; omega, ?_⟩
      have hc2 : upd H1 c (.lst (tx g.2.1 ++ [V.str (S (b.drop 1))])) c = some (.lst (tx (g.2.1 ++ [b.drop 1]))) := by
        rw [upd_same]; unfold tx; rw [List.map_append]; rfl
      have ch : Chg [c] H1 (upd H1 c (.lst (tx g.2.1 ++ [V.str (S (b.drop 1))]))) := Chg.upd (by simp) (mut_lst hc1')
      have sH2 : Same H (upd H1 c (.lst (tx g.2.1 ++ [V.str (S (b.drop 1))]))) := same_wr sH1 hcn
      generalize upd H1 c (.lst (tx g.2.1 ++ [V.str (S (b.drop 1))])) = H2 at hc2 ch sH2 ⊢
      have hA2 := ch.keep _ _ hA1 (by simpa using Ne.symm ncA)
      have hd2 := ch.keep _ _ hd1' (by simpa using Ne.symm ncd)
      have hL2 : Lsts H2 ads g.1 := hL1.chg ch fun x hx z => ncads (by rw [← List.mem_singleton.mp z]; exact hx)
      by_cases h46 : b[0]? = some 46
      · rw [if_pos (decide_eq_true h46)]
        have eg : gstep g b = (g.1 ++ [g.2.1 ++ [b.drop 1]], [], i + 1, i + 1) := by unfold gstep; rw [if_pos h46, hcnt]
        rw [eg]
        refine ⟨.inl ⟨_, .inl (.inl hA2)⟩, _, hA2, by rw [List.length_map]; omega, by omega, fun p2 hp2 => ?_⟩
        have hA3 : upd H2 A0 (.lst (ads.map V.ref ++ [V.ref c])) A0 = some (.lst ((ads ++ [c]).map V.ref)) := by rw [upd_same, List.map_append]; rfl
        have ch3 : Chg [A0] H2 (upd H2 A0 (.lst (ads.map V.ref ++ [V.ref c]))) := Chg.upd (by simp) (mut_lst hA2)
        have sH3 : Same H (upd H2 A0 (.lst (ads.map V.ref ++ [V.ref c]))) := same_wr sH2 hA0
        generalize upd H2 A0 (.lst (ads.map V.ref ++ [V.ref c])) = H3 at hA3 ch3 sH3 hp2 ⊢
        have hc3 := ch3.keep _ _ hc2 (by simpa using ncA)
        have hd3 := ch3.keep _ _ hd2 (by simpa using Ne.symm nda)
        have hL3 : Lsts H3 ads g.1 := hL2.chg ch3 fun x hx z => (had x hx).1 (List.mem_singleton.mp z)
        have hpn : H p2 = none := none_of_same sH3 hp2
        have s4 : Same H3 (upd H3 p2 (.lst [])) := Same.upd hp2
        refine ⟨sH3.trans s4, s4 _ _ hd3, ads ++ [c], s4 _ _ hA3, (hL3.snoc hc3).same s4, fun x hx => ?_, ?_⟩
        · rcases List.mem_append.mp hx with hx | hx
          · exact had x hx
          · rw [List.mem_singleton.mp hx]; exact ⟨ncA, ncd, hcn⟩
        · refine ⟨p2, (fun z => by rw [z, hA3] at hp2; cases hp2), (fun z => by rw [z, hd3] at hp2; cases hp2), fun z => ?_, hpn, upd_same, Nat.zero_le _, by simp; omega, rfl, rfl⟩
          rcases List.mem_append.mp z with z | z
          · obtain ⟨k, hk⟩ := List.getElem?_of_mem z
            obtain ⟨A', _, hx⟩ := hL3.get hk
            rw [hp2] at hx; cases hx
          · rw [List.mem_singleton.mp z, hc3] at hp2; cases hp2
      · rw [if_neg (fun z => h46 (of_decide_eq_true z))]
        have eg : gstep g b = (g.1, g.2.1 ++ [b.drop 1], g.2.2.1, i + 1) := by unfold gstep; rw [if_neg h46, hcnt]
        rw [eg]
        exact ⟨sH2, hd2, ads, hA2, hL2, had, c, ncA, ncd, ncads, hcn, hc2, (by show (g.2.1 ++ [b.drop 1]).length ≤ _; rw [List.length_append, List.length_singleton]; omega), by omega, rfl, rfl⟩
    · rintro σ H' ⟨s', hd', ads, hA', hL', had, c, ncA, ncd, ncads, hcn, hc', lcur, lads, v1, v2, rfl⟩
      walk_at "rd"
      have el : (tx bs).length = bs.length := by unfold tx; rw [List.length_map]
      rw [el, List.take_length] at hL' ⊢
      refine ⟨by omega, fun t ht => q t A0 ads _ (none_of_same s' ht) hA0 (s'.trans (Same.upd ht)) upd_same ((Same.upd ht) _ _ hA') (hL'.same (Same.upd ht))⟩
theorem ok_book_of (T : Txt K mg a) : FnOk P w K mg base (CXv P w) 7 a.f_book_of a.d_book_of ["lines"] (sp_bookofX a.C_Book a.C_Broken) := by
  refine T.F_book_of.okX sc_book_of (fun vs H Q E h => ?_) (fun cdv A outer s H vs Q E hr h => ?_)
  · obtain ⟨p, ls, bs, rfl, _⟩ := h
    rfl
  · obtain ⟨p, ls, bs, rfl, hp, h⟩ := h
    refine ⟨_, (pss_cons (PS.nox (ps_set (i := 1) sc_book_of.nd rfl (Or.inl rfl) (pe_make0 T.k_Book (ok_Book___init__ T) (hr.mono (by decide)) rfl T.mg_Book T.b_Book___init__ .nil pass0)))
      (pss_cons (ps_fld (pv 1) (pe_slice (sl_anyK (K := K)) (pv 0) po_none (po_some (pe_ix (ix_anyK (K := K) (hU1 hr)) (pe_call (ok_acts_of T) (hr.mono (by decide)) rfl T.m_acts_of T.F_acts_of.kp T.b_acts_of .nil passX (pa_cons (pv 0) pa_nil)) pe_int (fun _ _ => rfl)))) rfl)
      (pss_one (PS.nox (ps_ret (pv 1)))))), ?_⟩
    have Z : 40000 ≤ sizeLine := by decide
    walk_at "rd"
    intro x dx hx hdx nd
    have npx : p ≠ x := ne_of_none hp hx
    have hp0 : upd (upd H dx (.own x)) x (.ins a.C_Book dx []) p = some (.lst (tx ls)) := by rw [upd_ne npx, upd_ne (ne_of_none hp hdx)]; exact hp
    refine ⟨⟨dx, upd_same⟩, fun l H1 hl nl ch B => ⟨_, ch.keep _ _ hp0 (by simpa using npx), bs, ?_⟩⟩
    have sH1 : Same H H1 := fun b u e => by
      have n1 : b ≠ x := ne_of_none e hx
      exact ch.keep _ _ (by rw [upd_ne n1, upd_ne (ne_of_none e hdx)]; exact e) (by simpa using n1)
    rcases h with ⟨tl, C, q⟩ | ⟨l, rest, C, q⟩
    case inr => exact .inr ⟨⟨_, _, C⟩, fun H' s' => q H' (sH1.trans s')⟩
    refine .inl ⟨⟨_, C⟩, fun t q' ads H2 ht hq s2 ht2 hq2 hL2 => ?_⟩
    have hp2 := s2 _ _ (ch.keep _ _ hp0 (by simpa using npx))
    obtain ⟨dy, hx1⟩ := B.obj
    have hx2 := s2 _ _ hx1
    refine rIxA_t (v := .int ((gst bs).2.2.1 : Nat)) (.inl (.inl ht2)) rfl ⟨_, rfl, rSlA_l (.inl (.inl hp2)) fun m hm => ?_⟩
    rw [cutV_pre]
    have nmx : x ≠ m := ne_of_none hx2 hm
    have sH : ∀ b u, H b = some u → H2 b = some u := fun b u e => by
      have n1 : b ≠ x := ne_of_none e hx
      exact s2 _ _ (ch.keep _ _ (by rw [upd_ne n1, upd_ne (ne_of_none e hdx)]; exact e) (by simpa using n1))
    refine ⟨_, dy, _, (upd_ne nmx).trans hx2, T.cl_Book, T.no_Book_lines, (show 1 < 1000 by decide), q x m _ hx (none_of_same sH hm) (fun b u e => ?_) ⟨⟨dy, upd_same⟩, ?_⟩⟩
    · rw [upd_ne (ne_of_none e hx), upd_ne (ne_of_none (sH b u e) hm)]; exact sH b u e
    · rw [upd_ne (Ne.symm nmx), upd_same]; unfold tx; rw [List.map_take]

theorem ok_l_refused (T : Txt K mg a) : FnOk P w K mg base CX0 2 a.f_l_refused a.d_l_refused ["_law_told", "_law_number"] sp_refused17 := by
  refine T.F_l_refused.ok sc_l_refused (fun vs H Q E h => ?_) (fun cdv A outer s H vs Q E hr h => ?_)
  · obtain ⟨t, n, rfl, _⟩ := h
    rfl
  · obtain ⟨p2, n, rfl, h2, q⟩ := h
    refine ⟨_, (pss_one (ps_ret (pe_and (pe_cmp (pc_notN (pv 0))) (pe_and (pe_call (ok_l_whole T) (hr.mono (by decide)) rfl T.m_l_whole T.F_l_whole.kp T.b_l_whole .nil pass0 (pa_cons (pe_ix (ix_anyK (K := K) (hU1 hr)) (pv 0) pe_int (fun _ _ => rfl)) (pa_cons (pv 1) pa_nil))) (pe_one (pe_cmpR (op_eqK (K := K) (hU hr)) (pe_slice (sl_tupK (K := K)) (pv 0) (po_some pe_int) po_none) (pe_tup (pa_cons pe_bl (pa_cons pe_bl (pa_cons pe_bl pa_nil)))) (nomark _))))))), ?_⟩
    walk_at "rd"
    refine rIxA_t (v := .int n) (.inl (.inl h2)) rfl ⟨_, rfl, ?_⟩
    rw [if_pos rfl]
    refine ⟨p2, _, rfl, .inl (.inl h2), (fun z => absurd z.1 (show ¬ (1 : Nat) = 0 by decide)), fun p3 hp3 => ⟨by decide, fun p4 hp4 => ?_⟩⟩
    have e3 : cutV [V.int n, V.bl false, V.bl true, V.bl true] (some 1) none = [V.bl false, V.bl true, V.bl true] := cutV_suf _ 1
    rw [e3] at hp4 ⊢
    have s34 := (Same.upd (o := HO.tup [V.bl false, V.bl true, V.bl true]) hp3).trans (Same.upd (o := HO.tup [V.bl false, V.bl true, V.bl true]) hp4)
    refine rEqq_same (n := 1) (d := .tuple [.bool false, .bool true, .bool true]) (.tup (.inl (.inl ((Same.upd hp4) _ _ upd_same))) (.cons (.bl _) (.cons (.bl _) (.cons (.bl _) .nil)))) (.tup (.inl (.inl upd_same)) (.cons (.bl _) (.cons (.bl _) (.cons (.bl _) .nil)))) (wd_tuple (n := 0) fun d hd => ?_) rfl (q _ s34)
    simp only [List.mem_cons, List.not_mem_nil, or_false] at hd
    rcases hd with rfl | rfl | rfl <;> exact wd_bl _ _
theorem ok_l_broken (T : Txt K mg a) : FnOk P w K mg base CX0 8 a.f_l_broken a.d_l_broken ["_law_lines", "_law_book_too"] sp_broken17 := by
  refine T.F_l_broken.ok sc_l_broken (fun vs H Q E h => ?_) (fun cdv A outer s H vs Q E hr h => ?_)
  · obtain ⟨p, ls, bs, l, rest, bb, rfl, _⟩ := h
    rfl
  · obtain ⟨p, ls, bs, l, rest, bb, rfl, hp, C, q⟩ := h
    refine ⟨_, (pss_cons (ps_set (i := 2) sc_l_broken.nd rfl (Or.inl rfl) pe_non)
      (pss_cons (ps_try (pss_one (ps_if (pt_truthK (K := K) (pv 1) (by intro _; rfl)) (pss_one (ps_expr (pe_call (ok_book_of T) (hr.mono (by decide)) rfl T.m_book_of T.F_book_of.kp T.b_book_of .nil passv0 (pa_cons (pv 0) pa_nil)))) (pss_one (ps_expr (pe_call (ok_acts_of T) (hr.mono (by decide)) rfl T.m_acts_of T.F_acts_of.kp T.b_acts_of .nil passv0 (pa_cons (pv 0) pa_nil))))))
      (pxs_one (px_if (pt_truthK (K := K) (pv 1) (by intro _; rfl)) (pxs_one (px_expr (px_call (ok_book_of T) (hr.mono (by decide)) rfl T.m_book_of T.F_book_of.kp T.b_book_of .nil (pa_cons (pv 0) pa_nil)))) (pxs_one (px_expr (px_call (ok_acts_of T) (hr.mono (by decide)) rfl T.m_acts_of T.F_acts_of.kp T.b_acts_of .nil (pa_cons (pv 0) pa_nil))))))
      (ph_as (i := 3) rfl T.mg_Broken sc_l_broken.nd rfl rfl (fun ea => (pss_cons (ps_set (i := 4) sc_l_broken.nd rfl (Or.inl rfl) (pe_callB (call_isxTK (K := K)) (by rfl) T.n_isinstance boot_isinstance (pa_cons (pv 3) (pa_cons (pe_tup (pa_cons (pe_glob (v := .ref a.C_BadWord) rfl T.mg_BadWord rfl) (pa_cons (pe_glob (v := .ref a.C_NoSuch) rfl T.mg_NoSuch rfl) (pa_cons (pe_glob (v := .ref a.C_Doubled) rfl T.mg_Doubled rfl) pa_nil)))) pa_nil))))
      (pss_one (ps_set (i := 2) sc_l_broken.nd rfl (Or.inl rfl) (pe_tup (pa_cons (pe_xfldK (K := K) (pv 3) rfl) (pa_cons (pv 4) (pa_cons (pe_callB (call_isxK (K := K)) (by rfl) T.n_isinstance boot_isinstance (pa_cons (pv 3) (pa_cons (pe_glob (v := .ref a.C_CellarError) rfl T.mg_CellarError rfl) pa_nil))) (pa_cons (pe_callB (call_isxK (K := K)) (by rfl) T.n_isinstance boot_isinstance (pa_cons (pv 3) (pa_cons (pe_bltn (v := .ty "ValueError") rfl T.n_ValueError L2.boot_ValueError rfl) pa_nil))) pa_nil)))))))))
      ph_nil))
      (pss_one (ps_ret (pv 2))))), ?_⟩
    walk_at "rd"
    refine .inr ⟨Got H a.C_Broken [("line", .int (bs.length : Int))], ?_, fun C dy H' ea gt he => ?_⟩
    · cases bb with
      | true => exact ⟨_, hp, _, .inr ⟨⟨_, _, C⟩, fun H' s' => bears_got1 s'⟩⟩
      | false => exact ⟨_, hp, _, .inr ⟨⟨_, _, C⟩, fun H' s' => bears_got1 s'⟩⟩
    · obtain ⟨rfl, d, rfl, sm, ge, gd⟩ := gt.at he
      generalize upd H' ea (xh ea a.C_Broken (some d)) = H1 at sm ge gd ⊢
      have ka : PySem.W.kitAny K (.ref a.C_Broken) ([a.C_BadWord, a.C_NoSuch, a.C_Doubled].map Value.ref) = some false := by
        simp only [List.map_cons, List.map_nil, PySem.W.kitAny, T.ki_Broken_BadWord, T.ki_Broken_NoSuch, T.ki_Broken_Doubled]
      refine ⟨T.em_Broken_Broken, by decide, fun p hp => ?_⟩
      have s1 : Same H1 (upd H1 p (.tup [V.ref a.C_BadWord, V.ref a.C_NoSuch, V.ref a.C_Doubled])) := Same.upd hp
      have hpp : upd H1 p (.tup [V.ref a.C_BadWord, V.ref a.C_NoSuch, V.ref a.C_Doubled]) p = some (.tup ([a.C_BadWord, a.C_NoSuch, a.C_Doubled].map V.ref)) := upd_same
      generalize upd H1 p (.tup [V.ref a.C_BadWord, V.ref a.C_NoSuch, V.ref a.C_Doubled]) = H2 at s1 hpp ⊢
      have ge2 := s1 _ _ ge
      have gd2 := s1 _ _ gd
      refine ⟨ea, a.C_Broken, d, _, p, _, _, rfl, ge2, gd2, T.x_Broken, T.xs_Broken, hpp, ka, ?_⟩
      refine ⟨_, d, ge2, _, gd2, T.x_Broken, T.no_Broken_line, _, rfl, rIsx_r ge2 gd2 T.x_Broken T.xs_Broken T.ki_Broken_CellarError (rIsx_t ge2 gd2 T.x_Broken T.xs_Broken T.ki_Broken_ValueError ⟨by decide, fun p2 hp2 => ?_⟩)⟩
      exact q p2 _ (sm.trans (s1.trans (Same.upd hp2))) upd_same
theorem ok_l_changed (T : Txt K mg a) : FnOk P w K mg base CX0 2 a.f_l_changed a.d_l_changed ["_law_line_here", "_law_way", "_law_cell"] sp_changed17 := by
  refine T.F_l_changed.ok sc_l_changed (fun vs H Q E h => ?_) (fun cdv A outer s H vs Q E hr h => ?_)
  · obtain ⟨n, b, way, c, rfl, _⟩ := h
    rfl
  · obtain ⟨n, b, way, c, rfl, g, hb, q⟩ := h
    refine ⟨_, (pss_cons (ps_set (i := 3) sc_l_changed.nd rfl (Or.inl rfl) (pe_op op_mod (pe_call (ok_l_mixed T) (hr.mono (by decide)) rfl T.m_l_mixed T.F_l_mixed.kp T.b_l_mixed .nil pass0 (pa_cons (pv 2) (pa_cons pe_int pa_nil))) (pe_callB (call_lenK (K := K)) (by rfl) T.n_len boot_len (pa_cons (pv 0) pa_nil))))
      (pss_cons (ps_set (i := 4) sc_l_changed.nd rfl (Or.inl rfl) (pe_call (ok_l_sign_by T) (hr.mono (by decide)) rfl T.m_l_sign_by T.F_l_sign_by.kp T.b_l_sign_by .nil pass0 (pa_cons (pe_call (ok_l_mixed T) (hr.mono (by decide)) rfl T.m_l_mixed T.F_l_mixed.kp T.b_l_mixed .nil pass0 (pa_cons (pv 2) (pa_cons pe_int pa_nil))) pa_nil)))
      (pss_cons (ps_if (PW.pt (pw_and (pt_cmpR (op_eqK (K := K) (hU hr)) (pv 1) pe_int (nomark _)) (pw_and1 (pt_cmpR (op_neK (K := K) (hU hr)) (pv 4) (pe_ix (ix_anyK (K := K) (hU1 hr)) (pv 0) (pv 3) (fun _ _ => rfl)) (nomark _))))) (pss_one (ps_ret (pe_op (op_plusK (K := K)) (pe_op (op_plusK (K := K)) (pe_slice (sl_anyK (K := K)) (pv 0) po_none (po_some (pv 3))) (pv 4)) (pe_slice (sl_anyK (K := K)) (pv 0) (po_some (pe_op (op_plusK (K := K)) (pv 3) pe_int)) po_none)))) pss_nil)
      (pss_cons (ps_if (pt_cmpR (op_eqK (K := K) (hU hr)) (pv 1) pe_int (nomark _)) (pss_one (ps_ret (pe_op (op_plusK (K := K)) (pe_slice (sl_anyK (K := K)) (pv 0) po_none (po_some (pv 3))) (pe_slice (sl_anyK (K := K)) (pv 0) (po_some (pe_op (op_plusK (K := K)) (pv 3) pe_int)) po_none)))) pss_nil)
      (pss_cons (ps_if (pt_cmpR (op_eqK (K := K) (hU hr)) (pv 1) pe_int (nomark _)) (pss_one (ps_ret (pe_op (op_plusK (K := K)) (pe_op (op_plusK (K := K)) (pe_slice (sl_anyK (K := K)) (pv 0) po_none (po_some (pv 3))) (pv 4)) (pe_slice (sl_anyK (K := K)) (pv 0) (po_some (pv 3)) po_none)))) pss_nil)
      (pss_one (ps_ret (pe_slice (sl_anyK (K := K)) (pv 0) po_none (po_some (pv 3)))))))))), ?_⟩
    walk_at "rd"
    have Z : 40000 ≤ sizeLine := by decide
    have len := g.len
    have hc := line_c (n := n) g.c
    have gd' : ∀ l : List Nat, (∀ c ∈ l, c < 128) → l.length ≤ 9000 → GoodB n (l.drop 18) := fun l h1 h2 => ⟨g.n, fun c hc => h1 c (List.mem_of_mem_drop hc), by rw [List.length_drop]; omega⟩
    have zlen : (lineL n b).length ≤ sizeLine := by omega
    have b0 := Int.emod_nonneg (mixN c 951) (show ((lineL n b).length : Int) ≠ 0 by omega)
    have b1 := Int.emod_lt_of_pos (mixN c 951) (show (0 : Int) < ((lineL n b).length : Int) by omega)
    generalize mixN c 951 % ((lineL n b).length : Int) = zi at b0 b1 ⊢
    obtain ⟨i, rfl⟩ := Int.eq_ofNat_of_zero_le b0
    have hi : i < (lineL n b).length := by omega
    have e1 : ((i : Int) + 1) = ((i + 1 : Nat) : Int) := by omega
    rw [e1, cutL_pre, cutL_suf, cutL_suf]
    have lt : ((lineL n b).take i).length = i := by rw [List.length_take]; omega
    have ld : ∀ k, ((lineL n b).drop k).length = (lineL n b).length - k := fun k => List.length_drop
    have ct : ∀ k, ∀ x ∈ (lineL n b).take k, x < 128 := fun k x hx => hc x (List.mem_of_mem_take hx)
    have cd : ∀ k, ∀ x ∈ (lineL n b).drop k, x < 128 := fun k x hx => hc x (List.mem_of_mem_drop hx)
    have cut : (lineL n b).length ≤ sizeLine ∧ Q (V.str (S ((lineL n b).take i))) H := by
      have hll : ((lineL n b).take i).length ≤ 9000 := by omega
      exact ⟨zlen, q _ (ct i) hll fun z => spoil_cut g hi (gd' _ (ct i) hll) z.1⟩
    have out : (lineL n b).length ≤ sizeLine ∧ (lineL n b).length ≤ sizeLine ∧ ((lineL n b).take i).length + ((lineL n b).drop (i + 1)).length ≤ sizeLine ∧ Q (V.str (S ((lineL n b).take i ++ (lineL n b).drop (i + 1)))) H := by
      have hch : ∀ y ∈ (lineL n b).take i ++ (lineL n b).drop (i + 1), y < 128 := fun y hy => by
        rcases List.mem_append.mp hy with hy | hy
        · exact ct _ y hy
        · exact cd _ y hy
      have hll : ((lineL n b).take i ++ (lineL n b).drop (i + 1)).length ≤ 9000 := by
        simp only [List.length_append, lt, ld]; omega
      exact ⟨zlen, zlen, by rw [lt, ld]; omega, q _ hch hll fun z => spoil_out g hi (gd' _ hch hll) z.1⟩
    have inn : (lineL n b).length ≤ sizeLine ∧ ((lineL n b).take i).length + 1 ≤ sizeLine ∧ (lineL n b).length ≤ sizeLine ∧ ((lineL n b).take i ++ [sgB (mixN c 952)]).length + ((lineL n b).drop i).length ≤ sizeLine ∧ Q (V.str (S ((lineL n b).take i ++ [sgB (mixN c 952)] ++ (lineL n b).drop i))) H := by
      have hch : ∀ y ∈ (lineL n b).take i ++ [sgB (mixN c 952)] ++ (lineL n b).drop i, y < 128 := fun y hy => by
        simp only [List.mem_append, List.mem_singleton] at hy
        rcases hy with (hy | rfl) | hy
        · exact ct _ y hy
        · exact sgB_lt _
        · exact cd _ y hy
      have hll : ((lineL n b).take i ++ [sgB (mixN c 952)] ++ (lineL n b).drop i).length ≤ 9000 := by
        simp only [List.length_append, List.length_singleton, lt, ld]; omega
      refine ⟨zlen, by omega, zlen, ?_, q _ hch hll fun z => spoil_in g (Nat.le_of_lt hi) (gd' _ hch hll) z.1⟩
      simp only [List.length_append, List.length_singleton, lt, ld]; omega
    refine ⟨zlen, by omega, ite2 (fun h1 => ?_) fun h1 => ite2 (fun h2 => out) fun h2 => ite2 (fun h3 => inn) fun h3 => cut⟩
    refine ⟨zlen, (lineL n b)[i], atI_nat (List.getElem?_eq_getElem hi), ?_⟩
    refine ite2 (fun hne => ?_) (fun h => ite2 (fun h2 => out) fun h2 => ite2 (fun h3 => inn) fun h3 => cut)
    have hch : ∀ y ∈ (lineL n b).take i ++ [sgB (mixN c 952)] ++ (lineL n b).drop (i + 1), y < 128 := fun y hy => by
      simp only [List.mem_append, List.mem_singleton] at hy
      rcases hy with (hy | rfl) | hy
      · exact ct _ y hy
      · exact sgB_lt _
      · exact cd _ y hy
    have hll : ((lineL n b).take i ++ [sgB (mixN c 952)] ++ (lineL n b).drop (i + 1)).length ≤ 9000 := by
      simp only [List.length_append, List.length_singleton, lt, ld]; omega
    refine ⟨zlen, by omega, zlen, ?_, q _ hch hll fun z => spoil_change g hi (sgB_lt _) (by rw [List.getElem?_eq_getElem hi]; exact fun z => hne (Option.some.inj z).symm) (gd' _ hch hll) z.1⟩
    simp only [List.length_append, List.length_singleton, lt, ld]; omega
theorem ok_l_spoiled (T : Txt K mg a) : FnOk P w K mg base CX0 3 a.f_l_spoiled a.d_l_spoiled ["_law_lines", "_law_at", "_law_way", "_law_cell"] sp_spoiled17 := by
  refine T.F_l_spoiled.ok sc_l_spoiled (fun vs H Q E h => ?_) (fun cdv A0 outer s H vs Q E hr h => ?_)
  · obtain ⟨p, A, i, way, c, rfl, _⟩ := h
    rfl
  · obtain ⟨p, A, i, way, c, rfl, hp, ok, lA, hi, q⟩ := h
    refine ⟨_, (pss_cons (ps_if (pt_cmpR (op_eqK (K := K) (hU hr)) (pv 2) pe_int (nomark _)) (pss_one (ps_ret (pe_op (op_plusK (K := K)) (pe_slice (sl_anyK (K := K)) (pv 0) po_none (po_some (pv 1))) (pe_slice (sl_anyK (K := K)) (pv 0) (po_some (pe_op (op_plusK (K := K)) (pv 1) pe_int)) po_none)))) pss_nil)
      (pss_cons (ps_if (pt_cmpR (op_eqK (K := K) (hU hr)) (pv 2) pe_int (nomark _)) (pss_one (ps_ret (pe_op (op_plusK (K := K)) (pe_slice (sl_anyK (K := K)) (pv 0) po_none (po_some (pe_op (op_plusK (K := K)) (pv 1) pe_int))) (pe_slice (sl_anyK (K := K)) (pv 0) (po_some (pv 1)) po_none)))) pss_nil)
      (pss_cons (ps_if (pt_cmpR (op_eqK (K := K) (hU hr)) (pv 2) pe_int (nomark _)) (pss_cons (ps_set (i := 4) sc_l_spoiled.nd rfl (Or.inl rfl) (pe_op (op_plusK (K := K)) (pe_call (ok_l_sign_by T) (hr.mono (by decide)) rfl T.m_l_sign_by T.F_l_sign_by.kp T.b_l_sign_by .nil pass0 (pa_cons (pe_call (ok_l_mixed T) (hr.mono (by decide)) rfl T.m_l_mixed T.F_l_mixed.kp T.b_l_mixed .nil pass0 (pa_cons (pv 3) (pa_cons pe_int pa_nil))) pa_nil)) pe_str))
      (pss_cons (ps_if (PW.pt (pw_or (pt_cmpR (op_eqK (K := K) (hU hr)) (pe_ix (ix_anyK (K := K) (hU1 hr)) (pv 4) pe_int (fun _ _ => rfl)) pe_str (nomark _)) (pw_or1 (pt_cmpR (op_eqK (K := K) (hU hr)) (pe_ix (ix_anyK (K := K) (hU1 hr)) (pv 4) pe_int (fun _ _ => rfl)) pe_str (nomark _))))) (pss_one (ps_set (i := 4) sc_l_spoiled.nd rfl (Or.inl rfl) pe_str)) pss_nil)
      (pss_one (ps_ret (pe_op (op_plusK (K := K)) (pe_op (op_plusK (K := K)) (pe_slice (sl_anyK (K := K)) (pv 0) po_none (po_some (pv 1))) (pe_lst (pa_cons (pe_call (ok_l_line T) (hr.mono (by decide)) rfl T.m_l_line T.F_l_line.kp T.b_l_line .nil pass0 (pa_cons (pv 1) (pa_cons (pv 4) pa_nil))) pa_nil))) (pe_slice (sl_anyK (K := K)) (pv 0) (po_some (pe_op (op_plusK (K := K)) (pv 1) pe_int)) po_none)))))) pss_nil)
      (pss_cons (ps_if (PW.pt (pw_and (pt_cmpR (op_eqK (K := K) (hU hr)) (pv 2) pe_int (nomark _)) (pw_and1 (pt_cmpR op_ltK (pe_op (op_plusK (K := K)) (pv 1) pe_int) (pe_callB (call_lenK (K := K)) (by rfl) T.n_len boot_len (pa_cons (pv 0) pa_nil)) (nomark _))))) (pss_one (ps_ret (pe_op (op_plusK (K := K)) (pe_op (op_plusK (K := K)) (pe_slice (sl_anyK (K := K)) (pv 0) po_none (po_some (pv 1))) (pe_lst (pa_cons (pe_ix (ix_anyK (K := K) (hU1 hr)) (pv 0) (pe_op (op_plusK (K := K)) (pv 1) pe_int) (fun _ _ => rfl)) (pa_cons (pe_ix (ix_anyK (K := K) (hU1 hr)) (pv 0) (pv 1) (fun _ _ => rfl)) pa_nil)))) (pe_slice (sl_anyK (K := K)) (pv 0) (po_some (pe_op (op_plusK (K := K)) (pv 1) pe_int)) po_none)))) pss_nil)
      (pss_one (ps_ret (pe_op (op_plusK (K := K)) (pe_op (op_plusK (K := K)) (pe_slice (sl_anyK (K := K)) (pv 0) po_none (po_some (pv 1))) (pe_lst (pa_cons (pe_call (ok_l_changed T) (hr.mono (by decide)) rfl T.m_l_changed T.F_l_changed.kp T.b_l_changed .nil pass0 (pa_cons (pe_ix (ix_anyK (K := K) (hU1 hr)) (pv 0) (pv 1) (fun _ _ => rfl)) (pa_cons (pv 2) (pa_cons (pv 3) pa_nil)))) pa_nil))) (pe_slice (sl_anyK (K := K)) (pv 0) (po_some (pe_op (op_plusK (K := K)) (pv 1) pe_int)) po_none)))))))), ?_⟩
    have Z : 40000 ≤ sizeLine := by decide
    have fle := fl_le ok
    have hin := lns_in ok lA
    have hll : (lns 0 (fl A)).length = (fl A).length := lns_len _ _
    have gB : ∀ (k : Nat) (hk : k < (fl A).length), GoodB k (fl A)[k] := fun k hk => ⟨by omega, (fl_ok ok _ (List.getElem_mem hk)).1, by have := (fl_ok ok _ (List.getElem_mem hk)).2.1; omega⟩
    have gt : ∀ (k : Nat) (hk : k < (fl A).length), (lns 0 (fl A))[k]? = some (lineL k (fl A)[k]) := fun k hk => by
      have := lns_get 0 (fl A) k _ (List.getElem?_eq_getElem hk)
      rwa [Nat.zero_add] at this
    have fin : ∀ (tl : List (List Nat)) (D : Addr) (H' : Hp), tl.length ≤ 2000 → (∀ l ∈ tl, (∀ c ∈ l, c < 128) ∧ l.length ≤ 9000) → (∀ l, tl[0]? = some l → ¬ okLn (bad17 i way) l) → H D = none → Same H H' → H' D = some (.lst (tx ((lns 0 (fl A)).take (bad17 i way)) ++ tx tl)) → Q (.ref D) H' := fun tl D H' h1 h2 h3 hD s' hd => q tl D H' ⟨h1, h2, h3⟩ hD s' (by rw [hd, lns_take]; unfold tx; rw [List.map_append])
    refine cut1 fun R1 hR1 => ?_
    walk_at "rd"
    have e1 : (i : Int) + 1 = ((i + 1 : Nat) : Int) := by omega
    have e2 : (i : Int) + 2 = ((i + 2 : Nat) : Int) := by omega
    have dr : ∀ (k : Nat), ∀ l ∈ (lns 0 (fl A)).drop k, (∀ c ∈ l, c < 128) ∧ l.length ≤ 9000 := fun k l hl => hin l (List.mem_of_mem_drop hl)
    have d0 : ∀ (k : Nat) l, ((lns 0 (fl A)).drop k)[0]? = some l → ∃ hk : k < (fl A).length, l = lineL k (fl A)[k] := fun k l h => by
      rw [List.getElem?_drop, Nat.add_zero] at h
      have hk : k < (fl A).length := by rw [← hll]; exact (List.getElem?_eq_some_iff.mp h).1
      rw [gt k hk] at h
      exact ⟨hk, (Option.some.inj h).symm⟩
    rw [e1]
    refine ite2 (fun hw => ?_) (fun hw4 => ?_)
    · have hbad : bad17 i way = i := by unfold bad17; rw [if_neg (by omega)]; rfl
      rw [hbad] at fin
      refine two17 hp (by omega) fun D H' hD s' h' => fin ((lns 0 (fl A)).drop (i + 1)) D H' (by rw [List.length_drop]; omega) (dr _) (fun l hl => ?_) hD s' h'
      obtain ⟨hk, rfl⟩ := d0 _ _ hl
      exact wrong_n (gB _ hk) (by omega) (by omega)
    rw [hR1]
    clear hR1
    refine cut1 fun R1 hR1 => ?_
    walk_at "rd"
    rw [e1]
    refine ite2 (fun hw => ?_) (fun hw5 => ?_)
    · have hbad : bad17 i way = i + 1 := by unfold bad17; rw [if_pos hw]
      rw [hbad] at fin
      refine two17 hp (by omega) fun D H' hD s' h' => fin ((lns 0 (fl A)).drop i) D H' (by rw [List.length_drop]; omega) (dr _) (fun l hl => ?_) hD s' h'
      obtain ⟨hk, rfl⟩ := d0 _ _ hl
      exact wrong_n (gB _ hk) (by omega) (by omega)
    have hbad : bad17 i way = i := by unfold bad17; rw [if_neg hw5]; rfl
    rw [hbad] at fin
    rw [hR1]
    clear hR1
    refine cut1 fun R1 hR1 => ?_
    walk_at "rd"
    have slc : ∀ R : VK, (∀ l1 H1, Same H H1 → H1 l1 = some (.lst (tx ((lns 0 (fl A)).take i))) → R (.ref l1) H1) → rSlA K (.ref p) none (some (i : Int)) H R := fun R hR => rSlA_l (.inl (.inl hp)) fun l1 h1 => by
      rw [cutV_pre, tx_take]
      exact hR l1 _ (Same.upd h1) upd_same
    have put : ∀ (l : List Nat), (∀ c ∈ l, c < 128) → l.length ≤ 9000 → ¬ okLn i l → ∀ (H1 : Hp) (l1 p1 : Addr), Same H H1 → H1 l1 = some (.lst (tx ((lns 0 (fl A)).take i))) → H1 p1 = none →
        rPlus K (.ref l1) (.ref p1) (upd H1 p1 (.lst [V.str (S l)])) fun x H1 => rSlA K (.ref p) (some ((i : Int) + 1)) none H1 fun y H2 => rPlus K x y H2 Q := fun l h1 h2 h3 H1 l1 p1 s a1 hp1 => by
      rw [e1]
      refine end17 (vs := [l]) (m := i + 1) s hp (by omega) (by simp) a1 hp1 fun D H' hD s' h' => fin ([l] ++ (lns 0 (fl A)).drop (i + 1)) D H' (by simp only [List.length_append, List.length_singleton, List.length_drop]; omega) (fun l' hl' => ?_) (fun l' hl' => ?_) hD s' h'
      · rcases List.mem_append.mp hl' with hl' | hl'
        · rw [List.mem_singleton.mp hl']; exact ⟨h1, h2⟩
        · exact dr _ l' hl'
      · cases hl'; exact h3
    have put6 : ∀ bd : List Nat, (∀ c ∈ bd, c < 128) → bd.length ≤ 10 → bd[0]? ≠ some 43 → bd[0]? ≠ some 46 → GoodB i bd ∧ (∀ c ∈ lineL i bd, c < 128) ∧ (lineL i bd).length ≤ 9000 ∧ ¬ okLn i (lineL i bd) := fun bd h1 h2 h3 h4 => by
      have g : GoodB i bd := ⟨by omega, h1, by omega⟩
      refine ⟨g, line_c h1, by rw [g.len]; omega, fun z => ?_⟩
      have := z.2
      rw [g.drop] at this
      rcases this with h | h
      · exact h3 h
      · exact h4 h
    refine ite2 (fun hw => ?_) (fun hw6 => ?_)
    · refine ⟨[43, 46], by decide +kernel, by simp only [List.length_cons, List.length_nil]; omega, by simp only [List.length_cons, List.length_nil]; omega, sgB (mixN c 953), rfl, ?_⟩
      have emp : ∃ x : List Nat, Str.ofString "" = S x ∧ GoodB i x ∧ 1 ≤ sizeLine ∧ ∀ (H1 : Hp) (l1 p1 : Addr), Same H H1 → H1 l1 = some (.lst (tx ((lns 0 (fl A)).take i))) → H1 p1 = none →
          rPlus K (.ref l1) (.ref p1) (upd H1 p1 (.lst [V.str (S (lineL i x))])) fun x H1 => rSlA K (.ref p) (some ((i : Int) + 1)) none H1 fun y H2 => rPlus K x y H2 Q := by
        obtain ⟨g, h1, h2, h3⟩ := put6 [] (by simp) (by simp) (by simp) (by simp)
        exact ⟨[], by decide +kernel, g, by omega, put _ h1 h2 h3⟩
      obtain ⟨x, x1, x2, x3, x4⟩ := emp
      refine ite2 (fun _ => slc _ fun l1 H1 s1 a1 => ⟨i, rfl, x, x1, x2, x3, fun p1 hp1 => x4 _ _ _ s1 a1 hp1⟩) (fun n43 => ⟨by simp only [List.length_cons, List.length_nil]; omega, sgB (mixN c 953), rfl, ?_⟩)
      refine ite2 (fun _ => slc _ fun l1 H1 s1 a1 => ⟨i, rfl, x, x1, x2, x3, fun p1 hp1 => x4 _ _ _ s1 a1 hp1⟩) (fun n46 => ?_)
      obtain ⟨g, h1, h2, h3⟩ := put6 [sgB (mixN c 953), 43, 46] (fun c hc => by
        simp only [List.mem_cons, List.not_mem_nil, or_false] at hc
        rcases hc with rfl | rfl | rfl
        · exact sgB_lt _
        · decide
        · decide) (by simp) (fun z => n43 (by rw [Option.some.inj z]; decide +kernel)) (fun z => n46 (by rw [Option.some.inj z]; decide +kernel))
      exact slc _ fun l1 H1 s1 a1 => ⟨i, rfl, g, by omega, fun p1 hp1 => put _ h1 h2 h3 _ _ _ s1 a1 hp1⟩
    rw [hR1]
    clear hR1
    refine cut1 fun R1 hR1 => ?_
    have las : R1 { nx := fun x H' => Q V.non H', rt := Q } [some (V.ref p), some (V.int (i : Int)), some (V.int way), some (V.int c), none] H := by
      rw [hR1]
      walk_at "rd"
      refine slc _ fun l1 H1 s1 a1 => rIxA_l (.inl (.inl (s1 _ _ hp))) (atI_nat (by unfold tx; rw [List.getElem?_map, gt i hi]; rfl)) ?_
      exact ⟨i, _, rfl, gB i hi, by have := (fl_ok ok _ (List.getElem_mem hi)).2.1; omega, fun l h1 h2 h3 => ⟨by omega, fun p1 hp1 => put l h1 h2 h3 _ _ _ s1 a1 hp1⟩⟩
    walk_at "rd"
    refine ite2 (fun hw => rLen_l (.inl (.inl hp)) ?_) (fun _ => las)
    rw [rLt_ii, tx_len, hll]
    refine ⟨_, rfl, ?_⟩
    by_cases hi1 : i + 1 < (fl A).length
    case neg =>
      rw [if_neg (fun z => by have := of_decide_eq_true z; omega)]
      exact las
    rw [if_pos (decide_eq_true (by omega))]
    refine slc _ fun l1 H1 s1 a1 => ?_
    rw [e1]
    refine rIxA_l (.inl (.inl (s1 _ _ hp))) (atI_nat (by unfold tx; rw [List.getElem?_map, gt (i + 1) hi1]; rfl)) ?_
    refine rIxA_l (.inl (.inl (s1 _ _ hp))) (atI_nat (by unfold tx; rw [List.getElem?_map, gt i hi]; rfl)) ⟨by omega, fun p1 hp1 => ?_⟩
    rw [e2]
    refine end17 (vs := [lineL (i + 1) (fl A)[i + 1], lineL i (fl A)[i]]) (m := i + 2) s1 hp (by omega) (by simp) a1 hp1 fun D H' hD s' h' => fin ([lineL (i + 1) (fl A)[i + 1], lineL i (fl A)[i]] ++ (lns 0 (fl A)).drop (i + 2)) D H' (by simp only [List.length_append, List.length_cons, List.length_nil, List.length_drop]; omega) (fun l' hl' => ?_) (fun l' hl' => ?_) hD s' h'
    · rcases List.mem_append.mp hl' with hl' | hl'
      · simp only [List.mem_cons, List.not_mem_nil, or_false] at hl'
        rcases hl' with rfl | rfl
        · exact hin _ (List.mem_of_getElem? (gt (i + 1) hi1))
        · exact hin _ (List.mem_of_getElem? (gt i hi))
      · exact dr _ l' hl'
    · cases hl'
      exact wrong_n (gB _ hi1) (by omega) (by omega)

theorem ok_law (T : Txt K mg a) : FnOk P w K mg base CX0 9 a.f_law a.d_law ["_law_script"] (sp_law K) := by
  refine T.F_law.ok sc_law (fun vs H Q E h => ?_) (fun cdv A0 outer s H vs Q E hr h => ?_)
  · obtain ⟨p, ns, rfl, _⟩ := h
    rfl
  · obtain ⟨p, ns, rfl, hS, hlen, q⟩ := h
    refine ⟨_, (pss_cons (ps_set (i := 1) sc_law.nd rfl (Or.inl rfl) (pe_op (op_plusK (K := K)) (pe_comp ["_law_script", "_law_acts", "_law_due", "_law_first", "_law_at", "_law_way", "_law_lines", "_law_bad", "_law_handed", "_law_start"] ["_law_script", "_law_acts", "_law_due", "_law_first", "_law_at", "_law_way", "_law_lines", "_law_bad", "_law_handed", "_law_start"] (defScope s_law) (by exact ⟨rfl, by decide +kernel, by decide +kernel, by decide +kernel, by decide +kernel, by decide +kernel, by decide +kernel, by decide +kernel, by decide +kernel⟩) (pi_anyK (K := K) (pe_slice (sl_anyK (K := K)) (pv 0) (po_some pe_int) (po_some pe_int))) (fun C₁ s₁ H₁ f₁ => (pe_call (ok_l_act_by T) (hr.mono (by decide)) rfl T.m_l_act_by T.F_l_act_by.kp T.b_l_act_by .nil pass0 (pa_cons (pv 0) pa_nil)))) (pe_lst (pa_cons (pe_call (ok_l_act_by T) (hr.mono (by decide)) rfl T.m_l_act_by T.F_l_act_by.kp T.b_l_act_by .nil pass0 (pa_cons (pe_call (ok_l_cell_at T) (hr.mono (by decide)) rfl T.m_l_cell_at T.F_l_cell_at.kp T.b_l_cell_at .nil pass0 (pa_cons (pv 0) (pa_cons pe_int pa_nil))) pa_nil)) pa_nil))))
      (pss_cons (ps_set (i := 2) sc_law.nd rfl (Or.inl rfl) (pe_call (ok_l_lines_of T) (hr.mono (by decide)) rfl T.m_l_lines_of T.F_l_lines_of.kp T.b_l_lines_of .nil pass0 (pa_cons (pv 1) pa_nil)))
      (pss_cons (ps_set (i := 3) sc_law.nd rfl (Or.inl rfl) (pe_call (ok_l_cell_at T) (hr.mono (by decide)) rfl T.m_l_cell_at T.F_l_cell_at.kp T.b_l_cell_at .nil pass0 (pa_cons (pv 0) (pa_cons pe_int pa_nil))))
      (pss_cons (ps_set (i := 4) sc_law.nd rfl (Or.inl rfl) (pe_op op_mod (pe_call (ok_l_mixed T) (hr.mono (by decide)) rfl T.m_l_mixed T.F_l_mixed.kp T.b_l_mixed .nil pass0 (pa_cons (pv 3) (pa_cons pe_int pa_nil))) (pe_callB (call_lenK (K := K)) (by rfl) T.n_len boot_len (pa_cons (pv 2) pa_nil))))
      (pss_cons (ps_set (i := 5) sc_law.nd rfl (Or.inl rfl) (pe_op op_mod (pe_call (ok_l_mixed T) (hr.mono (by decide)) rfl T.m_l_mixed T.F_l_mixed.kp T.b_l_mixed .nil pass0 (pa_cons (pv 3) (pa_cons pe_int pa_nil))) pe_int))
      (pss_cons (ps_set (i := 6) sc_law.nd rfl (Or.inl rfl) (pe_call (ok_l_spoiled T) (hr.mono (by decide)) rfl T.m_l_spoiled T.F_l_spoiled.kp T.b_l_spoiled .nil pass0 (pa_cons (pv 2) (pa_cons (pv 4) (pa_cons (pv 5) (pa_cons (pe_call (ok_l_cell_at T) (hr.mono (by decide)) rfl T.m_l_cell_at T.F_l_cell_at.kp T.b_l_cell_at .nil pass0 (pa_cons (pv 0) (pa_cons pe_int pa_nil))) pa_nil))))))
      (pss_cons (ps_set (i := 7) sc_law.nd rfl (Or.inl rfl) (pe_op (op_plusK (K := K)) (pv 4) (pe_callTy (call_intK (K := K)) rfl T.n_int boot_int (pa_cons (pe_cmpR (op_eqK (K := K) (hU hr)) (pv 5) pe_int (nomark _)) pa_nil))))
      (pss_cons (ps_if (pt_cmpR (op_eqK (K := K) (hU hr)) (pe_op op_mod (pe_call (ok_l_mixed T) (hr.mono (by decide)) rfl T.m_l_mixed T.F_l_mixed.kp T.b_l_mixed .nil pass0 (pa_cons (pv 3) (pa_cons pe_int pa_nil))) pe_int) pe_int (nomark _)) (pss_one (ps_set (i := 6) sc_law.nd rfl (Or.inl rfl) (pe_op (op_plusK (K := K)) (pe_slice (sl_anyK (K := K)) (pv 6) po_none (po_some (pe_op (op_plusK (K := K)) (pv 7) pe_int))) (pe_comp ["_law_script", "_law_acts", "_law_due", "_law_first", "_law_at", "_law_way", "_law_lines", "_law_bad", "_law_handed", "_law_start"] ["_law_script", "_law_acts", "_law_due", "_law_first", "_law_at", "_law_way", "_law_lines", "_law_bad", "_law_handed", "_law_start"] (defScope s_law) (by exact ⟨rfl, by decide +kernel, by decide +kernel, by decide +kernel, by decide +kernel, by decide +kernel, by decide +kernel, by decide +kernel, by decide +kernel⟩) (pi_anyK (K := K) (pe_slice (sl_anyK (K := K)) (pv 6) (po_some (pe_op (op_plusK (K := K)) (pv 7) pe_int)) po_none)) (fun C₁ s₁ H₁ f₁ => (pe_slice (sl_anyK (K := K)) (pv 0) po_none (po_some (pe_un un_neg pe_int)))))))) pss_nil)
      (pss_cons (ps_set (i := 8) sc_law.nd rfl (Or.inl rfl) (pe_callTy (call_listK (K := K)) rfl T.n_list boot_list (pa_cons (pv 6) pa_nil)))
      (pss_cons (ps_if (pt_cmpR op_ltK (pe_op (op_plusK (K := K)) (pv 7) pe_int) (pe_callB (call_lenK (K := K)) (by rfl) T.n_len boot_len (pa_cons (pv 6) pa_nil)) (nomark _)) (pss_one (ps_ret (pe_and (pe_call (ok_l_refused T) (hr.mono (by decide)) rfl T.m_l_refused T.F_l_refused.kp T.b_l_refused .nil pass0 (pa_cons (pe_call (ok_l_broken T) (hr.mono (by decide)) rfl T.m_l_broken T.F_l_broken.kp T.b_l_broken .nil pass0 (pa_cons (pv 8) (pa_cons pe_bl pa_nil))) (pa_cons (pv 7) pa_nil))) (pe_one (pe_call (ok_l_refused T) (hr.mono (by decide)) rfl T.m_l_refused T.F_l_refused.kp T.b_l_refused .nil pass0 (pa_cons (pe_call (ok_l_broken T) (hr.mono (by decide)) rfl T.m_l_broken T.F_l_broken.kp T.b_l_broken .nil pass0 (pa_cons (pv 8) (pa_cons pe_bl pa_nil))) (pa_cons (pv 7) pa_nil))))))) pss_nil)
      (pss_cons (ps_set (i := 9) sc_law.nd rfl (Or.inl rfl) (pe_call (ok_l_begun T) (hr.mono (by decide)) rfl T.m_l_begun T.F_l_begun.kp T.b_l_begun .nil pass0 (pa_cons (pv 1) (pa_cons (pv 7) pa_nil))))
      (pss_cons (ps_if (PW.pt (pw_or (pt_not (pt_truthK (K := K) (pe_call (ok_l_same T) (hr.mono (by decide)) rfl T.m_l_same T.F_l_same.kp T.b_l_same .nil pass0 (pa_cons (pe_call (ok_acts_of T) (hr.mono (by decide)) rfl T.m_acts_of T.F_acts_of.kp T.b_acts_of .nil passv0 (pa_cons (pv 8) pa_nil)) (pa_cons (pv 9) pa_nil))) (by intro _; rfl))) (pw_or1 (pt_cmpR (op_neK (K := K) (hU hr)) (pv 8) (pv 6) (nomark _))))) (pss_one (ps_ret pe_bl)) pss_nil)
      (pss_one (ps_ret (pe_cmpR (op_eqK (K := K) (hU hr)) (pe_meth0 (pe_call (ok_book_of T) (hr.mono (by decide)) rfl T.m_book_of T.F_book_of.kp T.b_book_of .nil passv0 (pa_cons (pv 8) pa_nil)) T.cl_Book T.M_Book_told (ok_Book_told T) (hr.mono (by decide)) T.b_Book_told .nil pass0) (pe_slice (sl_anyK (K := K)) (pv 2) po_none (po_some (pe_ix (ix_anyK (K := K) (hU1 hr)) (pv 9) pe_int (fun _ _ => rfl)))) (nomark _)))))))))))))))), ?_⟩
    have Z : 40000 ≤ sizeLine := by decide
    refine cut2 fun Rz hRz => ?_
    walk_at "rd"
    refine rSlA_l hS fun p1 hp1 => rAny_l (.inl (.inl upd_same)) ?_
    have e18 : cutV (List.map V.int ns) (some 2) (some 20) = ((ns.drop 2).take 18).map V.int := by
      have := cutV_mid (ns.map V.int) 2 18
      rw [List.map_take, List.map_drop]
      exact this
    rw [e18]
    have l18 : ((ns.drop 2).take 18).length ≤ 18 := by rw [List.length_take]; omega
    generalize (ns.drop 2).take 18 = cs at l18
    have h1 : upd H p1 (.lst (cs.map V.int)) p1 = some (.lst (cs.map V.int)) := upd_same
    have sS : Same H (upd H p1 (.lst (cs.map V.int))) := Same.upd hp1
    generalize upd H p1 (.lst (cs.map V.int)) = H1 at h1 sS ⊢
    refine compW_listI (xs := cs.map V.int) (by rw [List.length_map]; omega) (fun D i ys H' => Same H1 H' ∧ H' D = some (.lst ys) ∧ ∃ (ads : List Addr) (A : List (List (List Nat))), ys = ads.map V.ref ∧ Lsts H' ads A ∧ (∀ a ∈ A, okAct a) ∧ ads.length = i ∧ D ∉ ads) (fun D hD => ⟨Same.upd hD, upd_same, [], [], rfl, trivial, fun a ha => (by cases ha), rfl, (by simp)⟩) (fun D i ys H' hi ⟨s', hD', ads, A, e, _, _, hl, _⟩ => ⟨hD', by rw [e, List.length_map, hl]; exact Nat.le_refl _, .inl (.inl (s' _ _ h1))⟩) ?_ ?_
    · rintro D i ys H' x hD hx ⟨s', hD', ads, A, rfl, hL, hok, hl, nD⟩ Qe qe
      rw [List.getElem?_map, Option.map_eq_some_iff] at hx
      obtain ⟨c, _, rfl⟩ := hx
      walk_at "rd"
      intro act d H2 oka hd s2 hd2
      have hD2 := s2 _ _ hD'
      refine qe _ H2 hD2 ⟨same_wr (s'.trans s2) hD, upd_same, ads ++ [d], A ++ [act], ?_, ?_, ?_, ?_, ?_⟩
      · rw [List.map_append]; rfl
      · have nd : d ≠ D := fun z => by rw [z, hD'] at hd; cases hd
        have ch : Chg [D] H2 (upd H2 D (.lst (ads.map V.ref ++ [V.ref d]))) := Chg.upd (by simp) (mut_lst hD2)
        exact ((hL.same s2).snoc hd2).chg ch fun x hx z => by
          rw [List.mem_singleton.mp z] at hx
          rcases List.mem_append.mp hx with hx | hx
          · exact nD hx
          · exact nd (List.mem_singleton.mp hx).symm
      · intro a ha
        rcases List.mem_append.mp ha with ha | ha
        · exact hok a ha
        · rw [List.mem_singleton.mp ha]; exact oka
      · rw [List.length_append, hl]; rfl
      · intro z
        rcases List.mem_append.mp z with z | z
        · exact nD z
        · rw [← List.mem_singleton.mp z, hD'] at hd; cases hd
    · rintro D ys H2 hD ⟨s2, hD2, ads, A, rfl, hL, hok, hl, nD⟩
      have lA : A.length ≤ 18 := by rw [← hL.len, hl, List.length_map]; exact l18
      have hS2 : SqL K H2 p (ns.map V.int) := s2.seq (sS.seq hS)
      refine ⟨⟨ns, hS2⟩, fun act d H3 oka hd s3 hd3 => ⟨by omega, fun p4 hp4 => ?_⟩⟩
      have hD3 := s3 _ _ hD2
      have nDd : d ≠ D := fun z => by rw [z, hD2] at hd; cases hd
      have s4 : Same H3 (upd H3 p4 (.lst [V.ref d])) := Same.upd hp4
      have h4 : upd H3 p4 (.lst [V.ref d]) p4 = some (.lst [V.ref d]) := upd_same
      generalize upd H3 p4 (.lst [V.ref d]) = H4 at s4 h4 ⊢
      refine rPlus_l (.inl (.inl (s4 _ _ hD3))) (.inl (.inl h4)) (by rw [List.length_map, hl, List.length_map, List.length_singleton]; omega) fun D5 hD5 => ?_
      have s5 : Same H4 (upd H4 D5 (.lst (ads.map V.ref ++ [V.ref d]))) := Same.upd hD5
      have h5 : upd H4 D5 (.lst (ads.map V.ref ++ [V.ref d])) D5 = some (.lst ((ads ++ [d]).map V.ref)) := by rw [upd_same, List.map_append]; rfl
      generalize upd H4 D5 (.lst (ads.map V.ref ++ [V.ref d])) = H5 at s5 h5 ⊢
      have s25 := s3.trans (s4.trans s5)
      have hA : ActsAt H5 D5 (ads ++ [d]) (A ++ [act]) := ⟨h5, (hL.same s25).snoc (s5 _ _ (s4 _ _ hd3))⟩
      have hok' : ∀ a ∈ A ++ [act], okAct a := fun a ha => by
        rcases List.mem_append.mp ha with ha | ha
        · exact hok a ha
        · rw [List.mem_singleton.mp ha]; exact oka
      have lA' : (A ++ [act]).length ≤ 24 := by rw [List.length_append, List.length_singleton]; omega
      have hS5 : SqL K H5 p (ns.map V.int) := s25.seq hS2
      have flp : 0 < (fl (A ++ [act])).length := by
        rw [fl_app, fl_one, List.length_append, sgA_len]
        have := List.length_pos_iff.mpr oka.1
        omega
      clear hL hD2 s2 sS h1 hD hok lA hS2 hd hd3 hD3 nDd s3 s4 s5 s25 h4 h5 hp4 hD5 hl nD oka
      generalize A ++ [act] = A at hA hok' lA' flp ⊢
      generalize ads ++ [d] = ads at hA ⊢
      have fle := fl_le hok'
      refine ⟨D5, rfl, _, _, hA, hok', lA', fun du H6 hdu s6 hdu6 => ?_⟩
      have hA6 := hA.same s6
      have hS6 : SqL K H6 p (ns.map V.int) := s6.seq hS5
      rw [hRz]
      clear hRz hA hS5 hdu s6
      refine cut5 fun Rz hRz => ?_
      walk_at "rd"
      have hll : (lns 0 (fl A)).length = (fl A).length := lns_len _ _
      refine ⟨ns, hS6, rLen_l (.inl (.inl hdu6)) ?_⟩
      rw [tx_len, hll]
      have i0 := Int.emod_nonneg (mixN (ns.getD 0 0) 1) (show ((fl A).length : Int) ≠ 0 by omega)
      have i1 := Int.emod_lt_of_pos (mixN (ns.getD 0 0) 1) (show (0 : Int) < ((fl A).length : Int) by omega)
      refine ⟨_, rfl, by omega, ⟨ns, hS6⟩, A, ?_⟩
      generalize mixN (ns.getD 0 0) 1 % ((fl A).length : Int) = zi at i0 i1 ⊢
      obtain ⟨i, rfl⟩ := Int.eq_ofNat_of_zero_le i0
      have hi : i < (fl A).length := by omega
      refine ⟨i, rfl, hdu6, hok', lA', hi, fun tl DL H7 hT hDL s7 h7 => ?_⟩
      have hbv : ((i : Int) + if mixN (ns.getD 0 0) 2 % 8 = 5 then 1 else 0) = ((bad17 i (mixN (ns.getD 0 0) 2 % 8) : Nat) : Int) := by unfold bad17; split <;> simp
      rw [hbv]
      have hbad : bad17 i (mixN (ns.getD 0 0) 2 % 8) ≤ (fl A).length := by unfold bad17; split <;> omega
      generalize bad17 i (mixN (ns.getD 0 0) 2 % 8) = bad at hbad hT h7 ⊢
      generalize mixN (ns.getD 0 0) 2 % 8 = way
      have lbs : ((fl A).take bad).length = bad := by rw [List.length_take]; omega
      have okt : ∀ b ∈ (fl A).take bad, (∀ c ∈ b, c < 128) ∧ b.length ≤ 401 ∧ (b[0]? = some 43 ∨ b[0]? = some 46) := fun b hb => fl_ok hok' b (List.mem_of_mem_take hb)
      clear hbv i0 i1
      rw [hRz]
      clear hRz
      refine cut1 fun R2 hR2 => ?_
      have rest : ∀ (tl : List (List Nat)) (DL : Addr) (H7 : Hp), Tl bad tl → Same H6 H7 → H7 DL = some (.lst (tx (lns 0 ((fl A).take bad) ++ tl))) →
          R2 { nx := fun x H' => Q V.non H', rt := Q } [some (V.ref p), some (V.ref D5), some (V.ref du), some (V.int (ns.getD 0 0)), some (V.int (i : Int)), some (V.int way), some (V.ref DL), some (V.int (bad : Int)), none, none] H7 := by
        intro tl DL H7 hT s7 h7
        rw [hR2]
        clear hR2
        refine cut2 fun R3 hR3 => ?_
        walk_at "rd"
        have tlen := hT.len
        have lln : (lns 0 ((fl A).take bad) ++ tl).length = bad + tl.length := by rw [List.length_append, lns_len, lbs]
        refine rListOf_l (.inl (.inl (.inl h7))) fun D8 hD8 => ?_
        have s8 : Same H7 (upd H7 D8 (.lst (tx (lns 0 ((fl A).take bad) ++ tl)))) := Same.upd hD8
        have h8 : upd H7 D8 (.lst (tx (lns 0 ((fl A).take bad) ++ tl))) D8 = some (.lst (tx (lns 0 ((fl A).take bad) ++ tl))) := upd_same
        generalize upd H7 D8 (.lst (tx (lns 0 ((fl A).take bad) ++ tl))) = H8 at s8 h8 ⊢
        have h78 := s8 _ _ h7
        have s68 := s7.trans s8
        refine rLen_l (.inl (.inl h78)) ?_
        rw [rLt_ii, tx_len, lln]
        refine ⟨_, rfl, ?_⟩
        by_cases h2 : 2 ≤ tl.length
        · rw [if_pos (decide_eq_true (by omega))]
          obtain ⟨l, rst, etl⟩ : ∃ l rst, tl = l :: rst := by
            cases tl with
            | nil => simp at h2
            | cons l r => exact ⟨l, r, rfl⟩
          have okl := hT.ok l (by rw [etl]; simp)
          have AM : Amid (lns 0 ((fl A).take bad) ++ tl) ((fl A).take bad) l rst := ⟨by rw [etl], okt, by rw [lbs]; omega, (fun z => by rw [etl, z] at h2; simp at h2), okl.1, okl.2, by rw [lbs]; exact hT.bad l (by rw [etl]; rfl)⟩
          refine ⟨D8, rfl, _, h8, _, ⟨_, _, AM⟩, fun t9 H9 s9 h9 => ⟨bad, rfl, by rw [h9, lbs], fun H10 s10 => ⟨D8, rfl, _, s10 _ _ (s9 _ _ h8), _, ⟨_, _, AM⟩, fun t11 H11 s11 h11 => ⟨bad, rfl, by rw [h11, lbs], fun H12 s12 => q H12⟩⟩⟩⟩
        rw [if_neg (fun z => by have := of_decide_eq_true z; omega)]
        have CT : Cutt (lns 0 ((fl A).take bad) ++ tl) ((fl A).take bad) tl := ⟨rfl, okt, by rw [lbs]; omega, by omega, fun l hl => by
          have okl := hT.ok l hl
          refine ⟨okl.1, okl.2, ?_⟩
          rw [lbs]
          refine hT.bad l ?_
          match tl, h2, hl with
          | [x], _, hl => rw [List.mem_singleton.mp hl]; rfl
          | x :: y :: r, h2, _ => simp at h2⟩
        rw [hR3]
        clear hR3
        walk_at "rd"
        refine ⟨ads, A, bad, rfl, hA6.same s68, lA', fun j t9 q9 H9 hj hj1 hj2 ht9 hq9 nt s9 h9t h9q => ?_⟩
        obtain ⟨pr, hpr, h43⟩ := take_fl hj1 hbad hj2 hj
        have hg : gst ((fl A).take bad) = (A.take j, pr.map (·.drop 1), (fl (A.take j)).length, (fl (A.take j)).length + pr.length) := by
          rw [hpr]
          exact gst_all (fun a ha => (hok' a (List.mem_of_mem_take ha)).1) h43
        have e0 : (fl A).take (fl (A.take j)).length = fl (A.take j) := by
          have := congrArg (List.take (fl (A.take j)).length) hpr
          rw [List.take_take, Nat.min_eq_left hj1, List.take_left] at this
          exact this
        have e1 : (lns 0 ((fl A).take bad) ++ tl).take (fl (A.take j)).length = lns 0 (fl (A.take j)) := by
          rw [List.take_append_of_le_length (by rw [lns_len, lbs]; exact hj1), lns_take, List.take_take, Nat.min_eq_left hj1, e0]
        have h9 := s9 _ _ h8
        refine ⟨_, h9, _, .inl ⟨⟨_, CT⟩, fun t10 q10 ads10 H10 ht10 hq10 s10 h10t h10q hL10 => ?_⟩⟩
        rw [hg] at h10t hL10
        have okA : ∀ a ∈ A.take j, ∀ b ∈ a, okS b := fun a ha b hb => okB_S ((hok' a (List.mem_of_mem_take ha)).2.2 b hb)
        refine ⟨q10, q9, ads10, ads.take j, A.take j, _, h10t, ⟨h10q, hL10⟩, s10 _ _ h9t, ⟨s10 _ _ h9q, ((hA6.2.take j).same (s68.trans (s9.trans s10)))⟩, okA, ?_⟩
        have okl : ∀ b ∈ lns 0 ((fl A).take bad) ++ tl, okS b := fun b hb => by
          rcases List.mem_append.mp hb with hb | hb
          · rw [← lns_take] at hb
            exact lns_ok hok' b (List.mem_of_mem_take hb)
          · exact fun c hc => Nat.lt_trans ((hT.ok b hb).1 c hc) (by decide)
        refine rNeq_same (den_tx (.inl (.inl (s10 _ _ h9)))) (den_tx (.inl (.inl (s10 _ _ (s9 _ _ h78))))) (wd_tx okl) rfl ⟨_, rfl, ?_⟩
        rw [if_neg (by decide)]
        refine ⟨_, s10 _ _ h9, _, .inl ⟨⟨_, CT⟩, fun r l H11 hr11 hl11 s11 B11 => ?_⟩⟩
        rw [hg, e1] at B11
        obtain ⟨dz, hz⟩ := B11.obj
        have s611 := s68.trans (s9.trans (s10.trans s11))
        refine ⟨dz, _, hz, rfl, l, _, B11, fun pe H12 hpe s12 hpe12 => ?_⟩
        refine rIxA_t (v := .int ((fl (A.take j)).length : Nat)) (.inl (.inl (s12 _ _ (s11 _ _ (s10 _ _ h9t))))) rfl ⟨_, rfl, rSlA_l (.inl (.inl (s12 _ _ (s611 _ _ hdu6)))) fun D13 hD13 => ?_⟩
        rw [cutV_pre, tx_take, lns_take, e0]
        have okm : ∀ b ∈ lns 0 (fl (A.take j)), okS b := lns_ok fun a ha => hok' a (List.mem_of_mem_take ha)
        exact rEqq_same (den_tx (.inl (.inl ((Same.upd hD13) _ _ hpe12)))) (den_tx (.inl (.inl upd_same))) (wd_tx okm) rfl (q _)
      walk_at "rd"
      refine ite2 (fun _ => ?_) (fun _ => rest tl DL H7 hT s7 h7)
      have eb : (bad : Int) + 1 = ((bad + 1 : Nat) : Int) := by omega
      rw [eb]
      have tlen := hT.len
      have lln : (lns 0 ((fl A).take bad) ++ tl).length = bad + tl.length := by rw [List.length_append, lns_len, lbs]
      have etk : (lns 0 ((fl A).take bad) ++ tl).take (bad + 1) = lns 0 ((fl A).take bad) ++ tl.take 1 := by
        rw [List.take_append, lns_len, lbs, List.take_of_length_le (by rw [lns_len, lbs]; omega)]; congr 2; omega
      have edr : (lns 0 ((fl A).take bad) ++ tl).drop (bad + 1) = tl.drop 1 := by
        rw [List.drop_append, lns_len, lbs, List.drop_eq_nil_of_le (by rw [lns_len, lbs]; omega), List.nil_append]; congr 1; omega
      refine rSlA_l (.inl (.inl h7)) fun l1 hl1 => ?_
      rw [cutV_pre, tx_take, etk]
      have s8 : Same H7 (upd H7 l1 (.lst (tx (lns 0 ((fl A).take bad) ++ tl.take 1)))) := Same.upd hl1
      have a8 : upd H7 l1 (.lst (tx (lns 0 ((fl A).take bad) ++ tl.take 1))) l1 = some (.lst (tx (lns 0 ((fl A).take bad) ++ tl.take 1))) := upd_same
      generalize upd H7 l1 (.lst (tx (lns 0 ((fl A).take bad) ++ tl.take 1))) = H8 at s8 a8 ⊢
      refine rSlA_l (.inl (.inl (s8 _ _ h7))) fun l2 hl2 => ?_
      rw [cutV_suf, tx_drop, edr]
      have s9 : Same H8 (upd H8 l2 (.lst (tx (tl.drop 1)))) := Same.upd hl2
      have a9 : upd H8 l2 (.lst (tx (tl.drop 1))) l2 = some (.lst (tx (tl.drop 1))) := upd_same
      generalize upd H8 l2 (.lst (tx (tl.drop 1))) = H9 at s9 a9 ⊢
      refine rAny_l (.inl (.inl a9)) (compW_list (.inl (.inl a9)) (by rw [tx_len, List.length_drop]; omega) sh17 (fun y H10 hy s10 Qe qe => ?_) fun D11 H11 hD11 s11 h11 => ?_)
      · obtain ⟨l, hl, rfl⟩ := List.mem_map.mp hy
        have okl := hT.ok l (List.mem_of_mem_drop hl)
        walk_at "rd"
        exact ⟨by omega, qe _ (Same.refl _)⟩
      rw [sh17_map] at h11
      refine rPlus_l (.inl (.inl (s11 _ _ (s9 _ _ a8)))) (.inl (.inl h11)) (by rw [tx_len, tx_len, List.length_append, lns_len, lbs, List.length_take, List.length_map, List.length_drop]; omega) fun D12 hD12 => ?_
      refine rest (tl.take 1 ++ (tl.drop 1).map fun l => cutL l none (some (-1))) D12 _ (hT.short) (s7.trans (s8.trans (s9.trans (s11.trans (Same.upd hD12))))) ?_
      rw [upd_same, ← tx_app, List.append_assoc]

end
theorem txt_mk {K : PySem.W.Frag} {h : Heap} {mg : Str → Option Value} (X : K.In h) (G : h.Ns mainGlobals mg)
    {C_BadWord : Addr}
    {C_Broken : Addr}
    {C_CellarError : Addr}
    {C_Doubled : Addr}
    {C_NoSuch : Addr}
    {C_Book : Addr}
    {f1 : Addr} {od1 an1 : Option Addr} {sl1 : Array (Option Value)} {oc1 kV1 dc1 pm1 cd1 ct1 : Value}
    {f2 : Addr} {od2 an2 : Option Addr} {sl2 : Array (Option Value)} {oc2 kV2 dc2 pm2 cd2 ct2 : Value}
    {f3 : Addr} {od3 an3 : Option Addr} {sl3 : Array (Option Value)} {oc3 kV3 dc3 pm3 cd3 ct3 : Value}
    {f4 : Addr} {od4 an4 : Option Addr} {sl4 : Array (Option Value)} {oc4 kV4 dc4 pm4 cd4 ct4 : Value}
    {f5 : Addr} {od5 an5 : Option Addr} {sl5 : Array (Option Value)} {oc5 kV5 dc5 pm5 cd5 ct5 : Value}
    {f6 : Addr} {od6 an6 : Option Addr} {sl6 : Array (Option Value)} {oc6 kV6 dc6 pm6 cd6 ct6 : Value}
    {f7 : Addr} {od7 an7 : Option Addr} {sl7 : Array (Option Value)} {oc7 kV7 dc7 pm7 cd7 ct7 : Value}
    {f8 : Addr} {od8 an8 : Option Addr} {sl8 : Array (Option Value)} {oc8 kV8 dc8 pm8 cd8 ct8 : Value}
    {f9 : Addr} {od9 an9 : Option Addr} {sl9 : Array (Option Value)} {oc9 kV9 dc9 pm9 cd9 ct9 : Value}
    {f10 : Addr} {od10 an10 : Option Addr} {sl10 : Array (Option Value)} {oc10 kV10 dc10 pm10 cd10 ct10 : Value}
    {f11 : Addr} {od11 an11 : Option Addr} {sl11 : Array (Option Value)} {oc11 kV11 dc11 pm11 cd11 ct11 : Value}
    {f12 : Addr} {od12 an12 : Option Addr} {sl12 : Array (Option Value)} {oc12 kV12 dc12 pm12 cd12 ct12 : Value}
    {f13 : Addr} {od13 an13 : Option Addr} {sl13 : Array (Option Value)} {oc13 kV13 dc13 pm13 cd13 ct13 : Value}
    {f14 : Addr} {od14 an14 : Option Addr} {sl14 : Array (Option Value)} {oc14 kV14 dc14 pm14 cd14 ct14 : Value}
    {f15 : Addr} {od15 an15 : Option Addr} {sl15 : Array (Option Value)} {oc15 kV15 dc15 pm15 cd15 ct15 : Value}
    {f16 : Addr} {od16 an16 : Option Addr} {sl16 : Array (Option Value)} {oc16 kV16 dc16 pm16 cd16 ct16 : Value}
    {f17 : Addr} {od17 an17 : Option Addr} {sl17 : Array (Option Value)} {oc17 kV17 dc17 pm17 cd17 ct17 : Value}
    {f18 : Addr} {od18 an18 : Option Addr} {sl18 : Array (Option Value)} {oc18 kV18 dc18 pm18 cd18 ct18 : Value}
    {f19 : Addr} {od19 an19 : Option Addr} {sl19 : Array (Option Value)} {oc19 kV19 dc19 pm19 cd19 ct19 : Value}
    {f20 : Addr} {od20 an20 : Option Addr} {sl20 : Array (Option Value)} {oc20 kV20 dc20 pm20 cd20 ct20 : Value}
    {f21 : Addr} {od21 an21 : Option Addr} {sl21 : Array (Option Value)} {oc21 kV21 dc21 pm21 cd21 ct21 : Value}
    {f22 : Addr} {od22 an22 : Option Addr} {sl22 : Array (Option Value)} {oc22 kV22 dc22 pm22 cd22 ct22 : Value}
    {f23 : Addr} {od23 an23 : Option Addr} {sl23 : Array (Option Value)} {oc23 kV23 dc23 pm23 cd23 ct23 : Value}
    {f24 : Addr} {od24 an24 : Option Addr} {sl24 : Array (Option Value)} {oc24 kV24 dc24 pm24 cd24 ct24 : Value}
    {f25 : Addr} {od25 an25 : Option Addr} {sl25 : Array (Option Value)} {oc25 kV25 dc25 pm25 cd25 ct25 : Value}
    {t_HEAD_SIGNS : Tok}
    (a1 : PySem.W.findIn K (.ref C_Broken) "__init__" = some (some (.ref f1))) (i1 : PySem.W.isFn K (.ref f1) = true)
    (l1 : K.lookup f1 = some ⟨oc1, od1, .func (PySem.W.fnOf "__init__" "Broken.__init__" (defArgs s_Broken___init__) (defBody s_Broken___init__) (defScope s_Broken___init__) .none kV1 dc1 pm1 an1 cd1 ct1), sl1⟩) (c1 : PySem.W.codeIn K cd1 "Broken.__init__" = true) (k1 : PySem.W.keepIn K (.ref f1) = true)
    (a2 : PySem.W.nsIn K mainGlobals "sum_of" = some (some (.ref f2)))
    (l2 : K.lookup f2 = some ⟨oc2, od2, .func (PySem.W.fnOf "sum_of" "sum_of" (defArgs s_sum_of) (defBody s_sum_of) (defScope s_sum_of) .none kV2 dc2 pm2 an2 cd2 ct2), sl2⟩) (c2 : PySem.W.codeIn K cd2 "sum_of" = true) (k2 : PySem.W.keepIn K (.ref f2) = true)
    (a3 : PySem.W.nsIn K mainGlobals "line_of" = some (some (.ref f3)))
    (l3 : K.lookup f3 = some ⟨oc3, od3, .func (PySem.W.fnOf "line_of" "line_of" (defArgs s_line_of) (defBody s_line_of) (defScope s_line_of) .none kV3 dc3 pm3 an3 cd3 ct3), sl3⟩) (c3 : PySem.W.codeIn K cd3 "line_of" = true) (k3 : PySem.W.keepIn K (.ref f3) = true)
    (a4 : PySem.W.nsIn K mainGlobals "body_of" = some (some (.ref f4)))
    (l4 : K.lookup f4 = some ⟨oc4, od4, .func (PySem.W.fnOf "body_of" "body_of" (defArgs s_body_of) (defBody s_body_of) (defScope s_body_of) .none kV4 dc4 pm4 an4 cd4 ct4), sl4⟩) (c4 : PySem.W.codeIn K cd4 "body_of" = true) (k4 : PySem.W.keepIn K (.ref f4) = true)
    (a5 : PySem.W.findIn K (.ref C_Book) "__init__" = some (some (.ref f5))) (i5 : PySem.W.isFn K (.ref f5) = true)
    (l5 : K.lookup f5 = some ⟨oc5, od5, .func (PySem.W.fnOf "__init__" "Book.__init__" (defArgs s_Book___init__) (defBody s_Book___init__) (defScope s_Book___init__) .none kV5 dc5 pm5 an5 cd5 ct5), sl5⟩) (c5 : PySem.W.codeIn K cd5 "Book.__init__" = true) (k5 : PySem.W.keepIn K (.ref f5) = true)
    (a6 : PySem.W.findIn K (.ref C_Book) "told" = some (some (.ref f6))) (i6 : PySem.W.isFn K (.ref f6) = true)
    (l6 : K.lookup f6 = some ⟨oc6, od6, .func (PySem.W.fnOf "told" "Book.told" (defArgs s_Book_told) (defBody s_Book_told) (defScope s_Book_told) .none kV6 dc6 pm6 an6 cd6 ct6), sl6⟩) (c6 : PySem.W.codeIn K cd6 "Book.told" = true) (k6 : PySem.W.keepIn K (.ref f6) = true)
    (a7 : PySem.W.nsIn K mainGlobals "signed_body" = some (some (.ref f7)))
    (l7 : K.lookup f7 = some ⟨oc7, od7, .func (PySem.W.fnOf "signed_body" "signed_body" (defArgs s_signed_body) (defBody s_signed_body) (defScope s_signed_body) .none kV7 dc7 pm7 an7 cd7 ct7), sl7⟩) (c7 : PySem.W.codeIn K cd7 "signed_body" = true) (k7 : PySem.W.keepIn K (.ref f7) = true)
    (a8 : PySem.W.nsIn K mainGlobals "good_bodies" = some (some (.ref f8)))
    (l8 : K.lookup f8 = some ⟨oc8, od8, .func (PySem.W.fnOf "good_bodies" "good_bodies" (defArgs s_good_bodies) (defBody s_good_bodies) (defScope s_good_bodies) .none kV8 dc8 pm8 an8 cd8 ct8), sl8⟩) (c8 : PySem.W.codeIn K cd8 "good_bodies" = true) (k8 : PySem.W.keepIn K (.ref f8) = true)
    (a9 : PySem.W.nsIn K mainGlobals "acts_of" = some (some (.ref f9)))
    (l9 : K.lookup f9 = some ⟨oc9, od9, .func (PySem.W.fnOf "acts_of" "acts_of" (defArgs s_acts_of) (defBody s_acts_of) (defScope s_acts_of) .none kV9 dc9 pm9 an9 cd9 ct9), sl9⟩) (c9 : PySem.W.codeIn K cd9 "acts_of" = true) (k9 : PySem.W.keepIn K (.ref f9) = true)
    (a10 : PySem.W.nsIn K mainGlobals "book_of" = some (some (.ref f10)))
    (l10 : K.lookup f10 = some ⟨oc10, od10, .func (PySem.W.fnOf "book_of" "book_of" (defArgs s_book_of) (defBody s_book_of) (defScope s_book_of) .none kV10 dc10 pm10 an10 cd10 ct10), sl10⟩) (c10 : PySem.W.codeIn K cd10 "book_of" = true) (k10 : PySem.W.keepIn K (.ref f10) = true)
    (a11 : PySem.W.nsIn K mainGlobals "_law_cell_at" = some (some (.ref f11)))
    (l11 : K.lookup f11 = some ⟨oc11, od11, .func (PySem.W.fnOf "_law_cell_at" "_law_cell_at" (defArgs s_l_cell_at) (defBody s_l_cell_at) (defScope s_l_cell_at) .none kV11 dc11 pm11 an11 cd11 ct11), sl11⟩) (c11 : PySem.W.codeIn K cd11 "_law_cell_at" = true) (k11 : PySem.W.keepIn K (.ref f11) = true)
    (a12 : PySem.W.nsIn K mainGlobals "_law_mixed" = some (some (.ref f12)))
    (l12 : K.lookup f12 = some ⟨oc12, od12, .func (PySem.W.fnOf "_law_mixed" "_law_mixed" (defArgs s_l_mixed) (defBody s_l_mixed) (defScope s_l_mixed) .none kV12 dc12 pm12 an12 cd12 ct12), sl12⟩) (c12 : PySem.W.codeIn K cd12 "_law_mixed" = true) (k12 : PySem.W.keepIn K (.ref f12) = true)
    (a13 : PySem.W.nsIn K mainGlobals "_law_whole" = some (some (.ref f13)))
    (l13 : K.lookup f13 = some ⟨oc13, od13, .func (PySem.W.fnOf "_law_whole" "_law_whole" (defArgs s_l_whole) (defBody s_l_whole) (defScope s_l_whole) .none kV13 dc13 pm13 an13 cd13 ct13), sl13⟩) (c13 : PySem.W.codeIn K cd13 "_law_whole" = true) (k13 : PySem.W.keepIn K (.ref f13) = true)
    (a14 : PySem.W.nsIn K mainGlobals "_law_sign_by" = some (some (.ref f14)))
    (l14 : K.lookup f14 = some ⟨oc14, od14, .func (PySem.W.fnOf "_law_sign_by" "_law_sign_by" (defArgs s_l_sign_by) (defBody s_l_sign_by) (defScope s_l_sign_by) .none kV14 dc14 pm14 an14 cd14 ct14), sl14⟩) (c14 : PySem.W.codeIn K cd14 "_law_sign_by" = true) (k14 : PySem.W.keepIn K (.ref f14) = true)
    (a15 : PySem.W.nsIn K mainGlobals "_law_text_by" = some (some (.ref f15)))
    (l15 : K.lookup f15 = some ⟨oc15, od15, .func (PySem.W.fnOf "_law_text_by" "_law_text_by" (defArgs s_l_text_by) (defBody s_l_text_by) (defScope s_l_text_by) .none kV15 dc15 pm15 an15 cd15 ct15), sl15⟩) (c15 : PySem.W.codeIn K cd15 "_law_text_by" = true) (k15 : PySem.W.keepIn K (.ref f15) = true)
    (a16 : PySem.W.nsIn K mainGlobals "_law_act_by" = some (some (.ref f16)))
    (l16 : K.lookup f16 = some ⟨oc16, od16, .func (PySem.W.fnOf "_law_act_by" "_law_act_by" (defArgs s_l_act_by) (defBody s_l_act_by) (defScope s_l_act_by) .none kV16 dc16 pm16 an16 cd16 ct16), sl16⟩) (c16 : PySem.W.codeIn K cd16 "_law_act_by" = true) (k16 : PySem.W.keepIn K (.ref f16) = true)
    (a17 : PySem.W.nsIn K mainGlobals "_law_line" = some (some (.ref f17)))
    (l17 : K.lookup f17 = some ⟨oc17, od17, .func (PySem.W.fnOf "_law_line" "_law_line" (defArgs s_l_line) (defBody s_l_line) (defScope s_l_line) .none kV17 dc17 pm17 an17 cd17 ct17), sl17⟩) (c17 : PySem.W.codeIn K cd17 "_law_line" = true) (k17 : PySem.W.keepIn K (.ref f17) = true)
    (a18 : PySem.W.nsIn K mainGlobals "_law_lines_of" = some (some (.ref f18)))
    (l18 : K.lookup f18 = some ⟨oc18, od18, .func (PySem.W.fnOf "_law_lines_of" "_law_lines_of" (defArgs s_l_lines_of) (defBody s_l_lines_of) (defScope s_l_lines_of) .none kV18 dc18 pm18 an18 cd18 ct18), sl18⟩) (c18 : PySem.W.codeIn K cd18 "_law_lines_of" = true) (k18 : PySem.W.keepIn K (.ref f18) = true)
    (a19 : PySem.W.nsIn K mainGlobals "_law_begun" = some (some (.ref f19)))
    (l19 : K.lookup f19 = some ⟨oc19, od19, .func (PySem.W.fnOf "_law_begun" "_law_begun" (defArgs s_l_begun) (defBody s_l_begun) (defScope s_l_begun) .none kV19 dc19 pm19 an19 cd19 ct19), sl19⟩) (c19 : PySem.W.codeIn K cd19 "_law_begun" = true) (k19 : PySem.W.keepIn K (.ref f19) = true)
    (a20 : PySem.W.nsIn K mainGlobals "_law_same" = some (some (.ref f20)))
    (l20 : K.lookup f20 = some ⟨oc20, od20, .func (PySem.W.fnOf "_law_same" "_law_same" (defArgs s_l_same) (defBody s_l_same) (defScope s_l_same) .none kV20 dc20 pm20 an20 cd20 ct20), sl20⟩) (c20 : PySem.W.codeIn K cd20 "_law_same" = true) (k20 : PySem.W.keepIn K (.ref f20) = true)
    (a21 : PySem.W.nsIn K mainGlobals "_law_changed" = some (some (.ref f21)))
    (l21 : K.lookup f21 = some ⟨oc21, od21, .func (PySem.W.fnOf "_law_changed" "_law_changed" (defArgs s_l_changed) (defBody s_l_changed) (defScope s_l_changed) .none kV21 dc21 pm21 an21 cd21 ct21), sl21⟩) (c21 : PySem.W.codeIn K cd21 "_law_changed" = true) (k21 : PySem.W.keepIn K (.ref f21) = true)
    (a22 : PySem.W.nsIn K mainGlobals "_law_spoiled" = some (some (.ref f22)))
    (l22 : K.lookup f22 = some ⟨oc22, od22, .func (PySem.W.fnOf "_law_spoiled" "_law_spoiled" (defArgs s_l_spoiled) (defBody s_l_spoiled) (defScope s_l_spoiled) .none kV22 dc22 pm22 an22 cd22 ct22), sl22⟩) (c22 : PySem.W.codeIn K cd22 "_law_spoiled" = true) (k22 : PySem.W.keepIn K (.ref f22) = true)
    (a23 : PySem.W.nsIn K mainGlobals "_law_broken" = some (some (.ref f23)))
    (l23 : K.lookup f23 = some ⟨oc23, od23, .func (PySem.W.fnOf "_law_broken" "_law_broken" (defArgs s_l_broken) (defBody s_l_broken) (defScope s_l_broken) .none kV23 dc23 pm23 an23 cd23 ct23), sl23⟩) (c23 : PySem.W.codeIn K cd23 "_law_broken" = true) (k23 : PySem.W.keepIn K (.ref f23) = true)
    (a24 : PySem.W.nsIn K mainGlobals "_law_refused" = some (some (.ref f24)))
    (l24 : K.lookup f24 = some ⟨oc24, od24, .func (PySem.W.fnOf "_law_refused" "_law_refused" (defArgs s_l_refused) (defBody s_l_refused) (defScope s_l_refused) .none kV24 dc24 pm24 an24 cd24 ct24), sl24⟩) (c24 : PySem.W.codeIn K cd24 "_law_refused" = true) (k24 : PySem.W.keepIn K (.ref f24) = true)
    (a25 : PySem.W.nsIn K mainGlobals "law" = some (some (.ref f25)))
    (l25 : K.lookup f25 = some ⟨oc25, od25, .func (PySem.W.fnOf "law" "law" (defArgs s_law) (defBody s_law) (defScope s_law) .none kV25 dc25 pm25 an25 cd25 ct25), sl25⟩) (c25 : PySem.W.codeIn K cd25 "law" = true) (k25 : PySem.W.keepIn K (.ref f25) = true)
    (aC_Book : PySem.W.nsIn K mainGlobals "Book" = some (some (.ref C_Book))) (pg_Book : PySem.W.plainGet K C_Book Str.empty = true) (hd_Book : PySem.W.hasDictIn K C_Book = true) (po_Book : PySem.W.plainOver K C_Book = true) (sa_Book : PySem.W.findIn K (.ref C_Book) "__setattr__" = some (some (.builtin "object.__setattr__"))) (mk_Book : PySem.W.makesIn K C_Book = true) (kc_Book : PySem.W.keepIn K (.ref C_Book) = true)
    (no_Book_lines : PySem.W.findIn K (.ref C_Book) "lines" = some none)
    (aC_BadWord : PySem.W.nsIn K mainGlobals "BadWord" = some (some (.ref C_BadWord)))
    (aC_Broken : PySem.W.nsIn K mainGlobals "Broken" = some (some (.ref C_Broken)))
    (aC_CellarError : PySem.W.nsIn K mainGlobals "CellarError" = some (some (.ref C_CellarError)))
    (aC_Doubled : PySem.W.nsIn K mainGlobals "Doubled" = some (some (.ref C_Doubled)))
    (aC_NoSuch : PySem.W.nsIn K mainGlobals "NoSuch" = some (some (.ref C_NoSuch)))
    (xx_Broken : L2.xIn K C_Broken = true) (kc_Broken : PySem.W.keepIn K (.ref C_Broken) = true) (sa_Broken : PySem.W.findIn K (.ref C_Broken) "__setattr__" = some (some (.builtin "object.__setattr__"))) (ga_Broken : PySem.W.findIn K (.ref C_Broken) "__getattribute__" = some (some (.builtin "BaseException.__getattribute__"))) (gn_Broken : PySem.W.findIn K (.ref C_Broken) "__getattr__" = some none) (hd_Broken : PySem.W.hasDictIn K C_Broken = true)
    (no_Broken_line : PySem.W.findIn K (.ref C_Broken) "line" = some none)
    (em_Broken_Broken : PySem.W.exmOne K (.ref C_Broken) (.ref C_Broken) = some true)
    (xq_Broken : PySem.W.findIn K (.ref C_Broken) "__class__" = some (some (.builtin "object.__class__")))
    (xr : PySem.W.specialIn K (.builtin "object.__class__") "__get__" = some (some (.builtin "getset_descriptor.__get__"))) (xt : PySem.W.takesIn K (.builtin "object.__class__") = some true)
    (ki_Broken_BadWord : PySem.W.kitOne K (.ref C_Broken) (.ref C_BadWord) = some false)
    (ki_Broken_CellarError : PySem.W.kitOne K (.ref C_Broken) (.ref C_CellarError) = some true)
    (ki_Broken_Doubled : PySem.W.kitOne K (.ref C_Broken) (.ref C_Doubled) = some false)
    (ki_Broken_NoSuch : PySem.W.kitOne K (.ref C_Broken) (.ref C_NoSuch) = some false)
    (ki_Broken_ValueError : PySem.W.kitOne K (.ref C_Broken) (.type "ValueError") = some true)
    (z_ValueError : PySem.W.nsIn K mainGlobals "ValueError" = some none)
    (z_bool : PySem.W.nsIn K mainGlobals "bool" = some none)
    (z_enumerate : PySem.W.nsIn K mainGlobals "enumerate" = some none)
    (z_int : PySem.W.nsIn K mainGlobals "int" = some none)
    (z_isinstance : PySem.W.nsIn K mainGlobals "isinstance" = some none)
    (z_len : PySem.W.nsIn K mainGlobals "len" = some none)
    (z_list : PySem.W.nsIn K mainGlobals "list" = some none)
    (z_ord : PySem.W.nsIn K mainGlobals "ord" = some none)
    (z_range : PySem.W.nsIn K mainGlobals "range" = some none)
    (z_str : PySem.W.nsIn K mainGlobals "str" = some none)
    (z_tuple : PySem.W.nsIn K mainGlobals "tuple" = some none)
    (g_HEAD_SIGNS : PySem.W.nsIn K mainGlobals "HEAD_SIGNS" = some (some (.int 18 t_HEAD_SIGNS))) :
    ∃ a, Txt K mg a :=
  ⟨⟨C_BadWord, C_Broken, C_CellarError, C_Doubled, C_NoSuch, C_Book, f1, (PySem.W.fnOf "__init__" "Broken.__init__" (defArgs s_Broken___init__) (defBody s_Broken___init__) (defScope s_Broken___init__) .none kV1 dc1 pm1 an1 cd1 ct1), f2, (PySem.W.fnOf "sum_of" "sum_of" (defArgs s_sum_of) (defBody s_sum_of) (defScope s_sum_of) .none kV2 dc2 pm2 an2 cd2 ct2), f3, (PySem.W.fnOf "line_of" "line_of" (defArgs s_line_of) (defBody s_line_of) (defScope s_line_of) .none kV3 dc3 pm3 an3 cd3 ct3), f4, (PySem.W.fnOf "body_of" "body_of" (defArgs s_body_of) (defBody s_body_of) (defScope s_body_of) .none kV4 dc4 pm4 an4 cd4 ct4), f5, (PySem.W.fnOf "__init__" "Book.__init__" (defArgs s_Book___init__) (defBody s_Book___init__) (defScope s_Book___init__) .none kV5 dc5 pm5 an5 cd5 ct5), f6, (PySem.W.fnOf "told" "Book.told" (defArgs s_Book_told) (defBody s_Book_told) (defScope s_Book_told) .none kV6 dc6 pm6 an6 cd6 ct6), f7, (PySem.W.fnOf "signed_body" "signed_body" (defArgs s_signed_body) (defBody s_signed_body) (defScope s_signed_body) .none kV7 dc7 pm7 an7 cd7 ct7), f8, (PySem.W.fnOf "good_bodies" "good_bodies" (defArgs s_good_bodies) (defBody s_good_bodies) (defScope s_good_bodies) .none kV8 dc8 pm8 an8 cd8 ct8), f9, (PySem.W.fnOf "acts_of" "acts_of" (defArgs s_acts_of) (defBody s_acts_of) (defScope s_acts_of) .none kV9 dc9 pm9 an9 cd9 ct9), f10, (PySem.W.fnOf "book_of" "book_of" (defArgs s_book_of) (defBody s_book_of) (defScope s_book_of) .none kV10 dc10 pm10 an10 cd10 ct10), f11, (PySem.W.fnOf "_law_cell_at" "_law_cell_at" (defArgs s_l_cell_at) (defBody s_l_cell_at) (defScope s_l_cell_at) .none kV11 dc11 pm11 an11 cd11 ct11), f12, (PySem.W.fnOf "_law_mixed" "_law_mixed" (defArgs s_l_mixed) (defBody s_l_mixed) (defScope s_l_mixed) .none kV12 dc12 pm12 an12 cd12 ct12), f13, (PySem.W.fnOf "_law_whole" "_law_whole" (defArgs s_l_whole) (defBody s_l_whole) (defScope s_l_whole) .none kV13 dc13 pm13 an13 cd13 ct13), f14, (PySem.W.fnOf "_law_sign_by" "_law_sign_by" (defArgs s_l_sign_by) (defBody s_l_sign_by) (defScope s_l_sign_by) .none kV14 dc14 pm14 an14 cd14 ct14), f15, (PySem.W.fnOf "_law_text_by" "_law_text_by" (defArgs s_l_text_by) (defBody s_l_text_by) (defScope s_l_text_by) .none kV15 dc15 pm15 an15 cd15 ct15), f16, (PySem.W.fnOf "_law_act_by" "_law_act_by" (defArgs s_l_act_by) (defBody s_l_act_by) (defScope s_l_act_by) .none kV16 dc16 pm16 an16 cd16 ct16), f17, (PySem.W.fnOf "_law_line" "_law_line" (defArgs s_l_line) (defBody s_l_line) (defScope s_l_line) .none kV17 dc17 pm17 an17 cd17 ct17), f18, (PySem.W.fnOf "_law_lines_of" "_law_lines_of" (defArgs s_l_lines_of) (defBody s_l_lines_of) (defScope s_l_lines_of) .none kV18 dc18 pm18 an18 cd18 ct18), f19, (PySem.W.fnOf "_law_begun" "_law_begun" (defArgs s_l_begun) (defBody s_l_begun) (defScope s_l_begun) .none kV19 dc19 pm19 an19 cd19 ct19), f20, (PySem.W.fnOf "_law_same" "_law_same" (defArgs s_l_same) (defBody s_l_same) (defScope s_l_same) .none kV20 dc20 pm20 an20 cd20 ct20), f21, (PySem.W.fnOf "_law_changed" "_law_changed" (defArgs s_l_changed) (defBody s_l_changed) (defScope s_l_changed) .none kV21 dc21 pm21 an21 cd21 ct21), f22, (PySem.W.fnOf "_law_spoiled" "_law_spoiled" (defArgs s_l_spoiled) (defBody s_l_spoiled) (defScope s_l_spoiled) .none kV22 dc22 pm22 an22 cd22 ct22), f23, (PySem.W.fnOf "_law_broken" "_law_broken" (defArgs s_l_broken) (defBody s_l_broken) (defScope s_l_broken) .none kV23 dc23 pm23 an23 cd23 ct23), f24, (PySem.W.fnOf "_law_refused" "_law_refused" (defArgs s_l_refused) (defBody s_l_refused) (defScope s_l_refused) .none kV24 dc24 pm24 an24 cd24 ct24), f25, (PySem.W.fnOf "law" "law" (defArgs s_law) (defBody s_law) (defScope s_law) .none kV25 dc25 pm25 an25 cd25 ct25)⟩, {
    F_Broken___init__ := fun_mk (st := s_Broken___init__) l1 c1 k1,
    b_Broken___init__ := ((fun_mk (st := s_Broken___init__) l1 c1 k1).binds (fun _ _ _ _ _ _ => el2 fun _ _ => rfl)),
    m_sum_of := PySem.W.mg_of X G a2,
    F_sum_of := fun_mk (st := s_sum_of) l2 c2 k2,
    b_sum_of := ((fun_mk (st := s_sum_of) l2 c2 k2).binds (fun _ _ _ _ _ _ => el1 fun _ => rfl)),
    m_line_of := PySem.W.mg_of X G a3,
    F_line_of := fun_mk (st := s_line_of) l3 c3 k3,
    b_line_of := ((fun_mk (st := s_line_of) l3 c3 k3).binds (fun _ _ _ _ _ _ => el2 fun _ _ => rfl)),
    m_body_of := PySem.W.mg_of X G a4,
    F_body_of := fun_mk (st := s_body_of) l4 c4 k4,
    b_body_of := ((fun_mk (st := s_body_of) l4 c4 k4).binds (fun _ _ _ _ _ _ => el2 fun _ _ => rfl)),
    F_Book___init__ := fun_mk (st := s_Book___init__) l5 c5 k5,
    b_Book___init__ := ((fun_mk (st := s_Book___init__) l5 c5 k5).binds (fun _ _ _ _ _ _ => el1 fun _ => rfl)),
    M_Book_told := ⟨a6, i6, k6⟩,
    F_Book_told := fun_mk (st := s_Book_told) l6 c6 k6,
    b_Book_told := ((fun_mk (st := s_Book_told) l6 c6 k6).binds (fun _ _ _ _ _ _ => el1 fun _ => rfl)),
    m_signed_body := PySem.W.mg_of X G a7,
    F_signed_body := fun_mk (st := s_signed_body) l7 c7 k7,
    b_signed_body := ((fun_mk (st := s_signed_body) l7 c7 k7).binds (fun _ _ _ _ _ _ => el2 fun _ _ => rfl)),
    m_good_bodies := PySem.W.mg_of X G a8,
    F_good_bodies := fun_mk (st := s_good_bodies) l8 c8 k8,
    b_good_bodies := ((fun_mk (st := s_good_bodies) l8 c8 k8).binds (fun _ _ _ _ _ _ => el1 fun _ => rfl)),
    m_acts_of := PySem.W.mg_of X G a9,
    F_acts_of := fun_mk (st := s_acts_of) l9 c9 k9,
    b_acts_of := ((fun_mk (st := s_acts_of) l9 c9 k9).binds (fun _ _ _ _ _ _ => el1 fun _ => rfl)),
    m_book_of := PySem.W.mg_of X G a10,
    F_book_of := fun_mk (st := s_book_of) l10 c10 k10,
    b_book_of := ((fun_mk (st := s_book_of) l10 c10 k10).binds (fun _ _ _ _ _ _ => el1 fun _ => rfl)),
    m_l_cell_at := PySem.W.mg_of X G a11,
    F_l_cell_at := fun_mk (st := s_l_cell_at) l11 c11 k11,
    b_l_cell_at := ((fun_mk (st := s_l_cell_at) l11 c11 k11).binds (fun _ _ _ _ _ _ => el2 fun _ _ => rfl)),
    m_l_mixed := PySem.W.mg_of X G a12,
    F_l_mixed := fun_mk (st := s_l_mixed) l12 c12 k12,
    b_l_mixed := ((fun_mk (st := s_l_mixed) l12 c12 k12).binds (fun _ _ _ _ _ _ => el2 fun _ _ => rfl)),
    m_l_whole := PySem.W.mg_of X G a13,
    F_l_whole := fun_mk (st := s_l_whole) l13 c13 k13,
    b_l_whole := ((fun_mk (st := s_l_whole) l13 c13 k13).binds (fun _ _ _ _ _ _ => el2 fun _ _ => rfl)),
    m_l_sign_by := PySem.W.mg_of X G a14,
    F_l_sign_by := fun_mk (st := s_l_sign_by) l14 c14 k14,
    b_l_sign_by := ((fun_mk (st := s_l_sign_by) l14 c14 k14).binds (fun _ _ _ _ _ _ => el1 fun _ => rfl)),
    m_l_text_by := PySem.W.mg_of X G a15,
    F_l_text_by := fun_mk (st := s_l_text_by) l15 c15 k15,
    b_l_text_by := ((fun_mk (st := s_l_text_by) l15 c15 k15).binds (fun _ _ _ _ _ _ => el3 fun _ _ _ => rfl)),
    m_l_act_by := PySem.W.mg_of X G a16,
    F_l_act_by := fun_mk (st := s_l_act_by) l16 c16 k16,
    b_l_act_by := ((fun_mk (st := s_l_act_by) l16 c16 k16).binds (fun _ _ _ _ _ _ => el1 fun _ => rfl)),
    m_l_line := PySem.W.mg_of X G a17,
    F_l_line := fun_mk (st := s_l_line) l17 c17 k17,
    b_l_line := ((fun_mk (st := s_l_line) l17 c17 k17).binds (fun _ _ _ _ _ _ => el2 fun _ _ => rfl)),
    m_l_lines_of := PySem.W.mg_of X G a18,
    F_l_lines_of := fun_mk (st := s_l_lines_of) l18 c18 k18,
    b_l_lines_of := ((fun_mk (st := s_l_lines_of) l18 c18 k18).binds (fun _ _ _ _ _ _ => el1 fun _ => rfl)),
    m_l_begun := PySem.W.mg_of X G a19,
    F_l_begun := fun_mk (st := s_l_begun) l19 c19 k19,
    b_l_begun := ((fun_mk (st := s_l_begun) l19 c19 k19).binds (fun _ _ _ _ _ _ => el2 fun _ _ => rfl)),
    m_l_same := PySem.W.mg_of X G a20,
    F_l_same := fun_mk (st := s_l_same) l20 c20 k20,
    b_l_same := ((fun_mk (st := s_l_same) l20 c20 k20).binds (fun _ _ _ _ _ _ => el2 fun _ _ => rfl)),
    m_l_changed := PySem.W.mg_of X G a21,
    F_l_changed := fun_mk (st := s_l_changed) l21 c21 k21,
    b_l_changed := ((fun_mk (st := s_l_changed) l21 c21 k21).binds (fun _ _ _ _ _ _ => el3 fun _ _ _ => rfl)),
    m_l_spoiled := PySem.W.mg_of X G a22,
    F_l_spoiled := fun_mk (st := s_l_spoiled) l22 c22 k22,
    b_l_spoiled := ((fun_mk (st := s_l_spoiled) l22 c22 k22).binds (fun _ _ _ _ _ _ => el4 fun _ _ _ _ => rfl)),
    m_l_broken := PySem.W.mg_of X G a23,
    F_l_broken := fun_mk (st := s_l_broken) l23 c23 k23,
    b_l_broken := ((fun_mk (st := s_l_broken) l23 c23 k23).binds (fun _ _ _ _ _ _ => el2 fun _ _ => rfl)),
    m_l_refused := PySem.W.mg_of X G a24,
    F_l_refused := fun_mk (st := s_l_refused) l24 c24 k24,
    b_l_refused := ((fun_mk (st := s_l_refused) l24 c24 k24).binds (fun _ _ _ _ _ _ => el2 fun _ _ => rfl)),
    m_law := PySem.W.mg_of X G a25,
    F_law := fun_mk (st := s_law) l25 c25 k25,
    b_law := ((fun_mk (st := s_law) l25 c25 k25).binds (fun _ _ _ _ _ _ => el1 fun _ => rfl)),
    cl_Book := ⟨pg_Book, hd_Book, po_Book, sa_Book⟩,
    mg_Book := PySem.W.mg_of X G aC_Book,
    k_Book := ⟨mk_Book, a5, i5, kc_Book⟩,
    no_Book_lines := no_Book_lines,
    mg_BadWord := PySem.W.mg_of X G aC_BadWord,
    mg_Broken := PySem.W.mg_of X G aC_Broken,
    mg_CellarError := PySem.W.mg_of X G aC_CellarError,
    mg_Doubled := PySem.W.mg_of X G aC_Doubled,
    mg_NoSuch := PySem.W.mg_of X G aC_NoSuch,
    x_Broken := ⟨xx_Broken, kc_Broken, sa_Broken, ga_Broken, gn_Broken, hd_Broken⟩,
    xi_Broken := a1,
    xf_Broken := i1,
    no_Broken_line := no_Broken_line,
    em_Broken_Broken := em_Broken_Broken,
    xs_Broken := ⟨xq_Broken, xr, xt⟩,
    ki_Broken_BadWord := ki_Broken_BadWord,
    ki_Broken_CellarError := ki_Broken_CellarError,
    ki_Broken_Doubled := ki_Broken_Doubled,
    ki_Broken_NoSuch := ki_Broken_NoSuch,
    ki_Broken_ValueError := ki_Broken_ValueError,
    n_ValueError := PySem.W.mg_none_of X G z_ValueError,
    n_bool := PySem.W.mg_none_of X G z_bool,
    n_enumerate := PySem.W.mg_none_of X G z_enumerate,
    n_int := PySem.W.mg_none_of X G z_int,
    n_isinstance := PySem.W.mg_none_of X G z_isinstance,
    n_len := PySem.W.mg_none_of X G z_len,
    n_list := PySem.W.mg_none_of X G z_list,
    n_ord := PySem.W.mg_none_of X G z_ord,
    n_range := PySem.W.mg_none_of X G z_range,
    n_str := PySem.W.mg_none_of X G z_str,
    n_tuple := PySem.W.mg_none_of X G z_tuple,
    c_HEAD_SIGNS := ⟨_, PySem.W.mg_of X G g_HEAD_SIGNS, ⟨_, rfl⟩⟩,
    bl_law := fun s u => .of_eq rfl }⟩
theorem walk {l : PySem.W.OpenLaw} {q : Program} {loose : List Str} {XP : (Str → Option Value) → Heap → Prop} {YP : World → Heap → Prop} {d : DefRec} {K : Params → PySem.W.Frag} (hn : l.most = some 63) (hdf : d.params.defaults = [])
    (hY : ∀ (w : World) (h : Heap), YP w h → (K w.params).In h)
    (F : ∀ (w : World) (mg : Str → Option Value) (fa : Addr) (h : Heap), (K w.params).In h → h.Ns mainGlobals mg → mg d.name = some (.ref fa) →
      ∃ fd : FuncData, (∀ (s : Shared) (u : Value), BindsTo s fd ⟨[u], []⟩ [("_law_script", u)]) ∧ ∀ base : Heap, (K w.params).In base → base.Ns mainGlobals mg → FnOk l.prog w (K w.params) mg base CX0 9 fa fd ["_law_script"] (sp_law (K w.params))) :
    PySem.W.WalkO q loose XP YP l.row.toRowW d [] (fun f vs => PySem.call f vs) :=
  L2.walk_of (n := 63) (k := 9) (x := "_law_script") (CX := fun _ => CX0) (sp := fun w => sp_law (K w.params)) hn (by decide) hdf ⟨rfl, by decide, by decide⟩ hY F (fun _ _ a ns hl _ hS => ⟨a, ns, rfl, hS, hl, fun _ => rfl⟩) fun _ _ _ _ _ z => z
end K17
def PySem.W.Fast.tw18224630427440497775 : Unit := ()
def PySem.W.Fast.tw7086376415614116922 : Unit := ()
def PySem.W.Fast.tw8856429016257647332 : Unit := ()
def PySem.W.Fast.tw6512070107623360511 : Unit := ()
def PySem.W.Fast.tw10299441655372670808 : Unit := ()
def PySem.W.Fast.tw14457487842889056699 : Unit := ()
def PySem.W.Fast.tw11544387342258493605 : Unit := ()
def PySem.W.Fast.tw6748768264334050071 : Unit := ()
def PySem.W.Fast.tw13513473859428128283 : Unit := ()
def PySem.W.Fast.tw11399161936875440869 : Unit := ()
def PySem.W.Fast.tw6675888836315937149 : Unit := ()
def PySem.W.Fast.tw17064348741325805748 : Unit := ()
def PySem.W.Fast.tw4515461967112145060 : Unit := ()
def PySem.W.Fast.tw15070234656986674421 : Unit := ()
def PySem.W.Fast.tw8029649231384586038 : Unit := ()
def PySem.W.Fast.tw8702837601379723336 : Unit := ()
def PySem.W.Fast.tw16426863921687729770 : Unit := ()
def PySem.W.Fast.tw2469891646931107713 : Unit := ()
def PySem.W.Fast.tw13980856999090439130 : Unit := ()
def PySem.W.Fast.tw5726401637109842898 : Unit := ()
def PySem.W.Fast.tw12608119453614992800 : Unit := ()
def PySem.W.Fast.tw156757888282174123 : Unit := ()
def PySem.W.Fast.tw16163938267421003008 : Unit := ()
def PySem.W.Fast.tw6364275601927790381 : Unit := ()

open PySem PySem.W PyProof.Rows
set_option maxRecDepth 100000 in
set_option maxHeartbeats 0 in
theorem PySem.Challenge.cw_lettercell_k17_lines_spoiled_amid_holds : PySem.Challenge.rw_lettercell_k17_lines_spoiled_amid.Holds := by
  w_on; o_law; k_head; (case hw => w_witness2)
  k_fill
  refine K17.walk (l := PySem.Challenge.rw_lettercell_k17_lines_spoiled_amid) rfl rfl (fun w h Y => PySem.W.kIn_of Y) ?F
  case F =>
    intro w mg fa h KX G hmg
    have T : ∃ t, K17.Txt (L2.KOf KX) mg t := by
      dsimp only [L2.KOf]
      refine' K17.txt_mk KX G ?a1 ?i1 ?l1 ?c1 ?k1 ?a2 ?l2 ?c2 ?k2 ?a3 ?l3 ?c3 ?k3 ?a4 ?l4 ?c4 ?k4 ?a5 ?i5 ?l5 ?c5 ?k5 ?a6 ?i6 ?l6 ?c6 ?k6 ?a7 ?l7 ?c7 ?k7 ?a8 ?l8 ?c8 ?k8 ?a9 ?l9 ?c9 ?k9 ?a10 ?l10 ?c10 ?k10 ?a11 ?l11 ?c11 ?k11 ?a12 ?l12 ?c12 ?k12 ?a13 ?l13 ?c13 ?k13 ?a14 ?l14 ?c14 ?k14 ?a15 ?l15 ?c15 ?k15 ?a16 ?l16 ?c16 ?k16 ?a17 ?l17 ?c17 ?k17 ?a18 ?l18 ?c18 ?k18 ?a19 ?l19 ?c19 ?k19 ?a20 ?l20 ?c20 ?k20 ?a21 ?l21 ?c21 ?k21 ?a22 ?l22 ?c22 ?k22 ?a23 ?l23 ?c23 ?k23 ?a24 ?l24 ?c24 ?k24 ?a25 ?l25 ?c25 ?k25 ?aC_Book ?pg_Book ?hd_Book ?po_Book ?sa_Book ?mk_Book ?kc_Book ?no_Book_lines ?aC_BadWord ?aC_Broken ?aC_CellarError ?aC_Doubled ?aC_NoSuch ?xx_Broken ?kc_Broken ?sa_Broken ?ga_Broken ?gn_Broken ?hd_Broken ?no_Broken_line ?em_Broken_Broken ?xq_Broken ?xr ?xt ?ki_Broken_BadWord ?ki_Broken_CellarError ?ki_Broken_Doubled ?ki_Broken_NoSuch ?ki_Broken_ValueError ?z_ValueError ?z_bool ?z_enumerate ?z_int ?z_isinstance ?z_len ?z_list ?z_ord ?z_range ?z_str ?z_tuple ?g_HEAD_SIGNS
      (case aC_NoSuch => k_is)
      (case aC_Doubled => k_is)
      (case aC_CellarError => k_is)
      (case aC_Broken => k_is)
      (case aC_BadWord => k_is)
      (case aC_Book => k_is)
      (case a1 => k_is)
      (case i1 => k_is)
      (case l1 => k_is)
      (case c1 => k_is)
      (case k1 => k_is)
      (case a2 => k_is)
      (case l2 => k_is)
      (case c2 => k_is)
      (case k2 => k_is)
      (case a3 => k_is)
      (case l3 => k_is)
      (case c3 => k_is)
      (case k3 => k_is)
      (case a4 => k_is)
      (case l4 => k_is)
      (case c4 => k_is)
      (case k4 => k_is)
      (case a5 => k_is)
      (case i5 => k_is)
      (case l5 => k_is)
      (case c5 => k_is)
      (case k5 => k_is)
      (case a6 => k_is)
      (case i6 => k_is)
      (case l6 => k_is)
      (case c6 => k_is)
      (case k6 => k_is)
      (case a7 => k_is)
      (case l7 => k_is)
      (case c7 => k_is)
      (case k7 => k_is)
      (case a8 => k_is)
      (case l8 => k_is)
      (case c8 => k_is)
      (case k8 => k_is)
      (case a9 => k_is)
      (case l9 => k_is)
      (case c9 => k_is)
      (case k9 => k_is)
      (case a10 => k_is)
      (case l10 => k_is)
      (case c10 => k_is)
      (case k10 => k_is)
      (case a11 => k_is)
      (case l11 => k_is)
      (case c11 => k_is)
      (case k11 => k_is)
      (case a12 => k_is)
      (case l12 => k_is)
      (case c12 => k_is)
      (case k12 => k_is)
      (case a13 => k_is)
      (case l13 => k_is)
      (case c13 => k_is)
      (case k13 => k_is)
      (case a14 => k_is)
      (case l14 => k_is)
      (case c14 => k_is)
      (case k14 => k_is)
      (case a15 => k_is)
      (case l15 => k_is)
      (case c15 => k_is)
      (case k15 => k_is)
      (case a16 => k_is)
      (case l16 => k_is)
      (case c16 => k_is)
      (case k16 => k_is)
      (case a17 => k_is)
      (case l17 => k_is)
      (case c17 => k_is)
      (case k17 => k_is)
      (case a18 => k_is)
      (case l18 => k_is)
      (case c18 => k_is)
      (case k18 => k_is)
      (case a19 => k_is)
      (case l19 => k_is)
      (case c19 => k_is)
      (case k19 => k_is)
      (case a20 => k_is)
      (case l20 => k_is)
      (case c20 => k_is)
      (case k20 => k_is)
      (case a21 => k_is)
      (case l21 => k_is)
      (case c21 => k_is)
      (case k21 => k_is)
      (case a22 => k_is)
      (case l22 => k_is)
      (case c22 => k_is)
      (case k22 => k_is)
      (case a23 => k_is)
      (case l23 => k_is)
      (case c23 => k_is)
      (case k23 => k_is)
      (case a24 => k_is)
      (case l24 => k_is)
      (case c24 => k_is)
      (case k24 => k_is)
      (case a25 => k_is)
      (case l25 => k_is)
      (case c25 => k_is)
      (case k25 => k_is)
      (case pg_Book => k_is)
      (case hd_Book => k_is)
      (case po_Book => k_is)
      (case sa_Book => k_is)
      (case mk_Book => k_is)
      (case kc_Book => k_is)
      (case no_Book_lines => k_is)
      (case xx_Broken => kernel_rfl)
      (case kc_Broken => k_is)
      (case sa_Broken => k_is)
      (case ga_Broken => k_is)
      (case gn_Broken => k_is)
      (case hd_Broken => k_is)
      (case no_Broken_line => k_is)
      (case em_Broken_Broken => kernel_rfl)
      (case xq_Broken => k_is)
      (case xr => k_is)
      (case xt => k_is)
      (case ki_Broken_BadWord => kernel_rfl)
      (case ki_Broken_CellarError => kernel_rfl)
      (case ki_Broken_Doubled => kernel_rfl)
      (case ki_Broken_NoSuch => kernel_rfl)
      (case ki_Broken_ValueError => kernel_rfl)
      (case z_ValueError => k_is)
      (case z_bool => k_is)
      (case z_enumerate => k_is)
      (case z_int => k_is)
      (case z_isinstance => k_is)
      (case z_len => k_is)
      (case z_list => k_is)
      (case z_ord => k_is)
      (case z_range => k_is)
      (case z_str => k_is)
      (case z_tuple => k_is)
      (case g_HEAD_SIGNS => k_is)
    obtain ⟨t, T⟩ := T
    have e0 := hmg.symm.trans T.m_law
    cases e0
    exact ⟨_, T.bl_law, fun base kb nb => K17.ok_law T⟩
#print axioms PySem.Challenge.cw_lettercell_k17_lines_spoiled_amid_holds

