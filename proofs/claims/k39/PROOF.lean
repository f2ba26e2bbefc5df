import PyProof.Rows.All
import Wide.All
import OpenK.AllK
import Wide.FinOn
import Lean
import PyProof.EqAt
import PyProof.EqKinds
import PyProof.TupleCall
import KE.KRevIter
import PyProof.StationsW
import PyProof.ExcBaseAll.ValueError
import PyProof.ExcInit
import PyProof.InstStoreFacts
import KE.KTryMore
import PyProof.NsDelKeeps
import KE.KIsAll
import KE.KDictSum
import KE.KDictList
import PyProof.Rows.SeqMore
import PyProof.Rows.SortShell
import KE.KEqDict
import PyProof.Rows.SortStr
import PySem.Challenge.RW_lettercell_k39_whole_lending
set_option Elab.async false
set_option linter.all false
set_option maxRecDepth 100000
namespace L2
open PySem PySem.Spec PyProof.Rows

abbrev Key:=Sum Int Str
def keyIs:Key→Value→Bool
  | .inl k,v=>Value.isInt k v
  | .inr x,v=>Value.isStrOf x v
def keyH (w:World):Key→Int
  | .inl k=>hashInt k
  | .inr x=>hashStr w x
theorem keyIs_shape:∀ {k:Key} {v:Value},keyIs k v=true→(∃ i t,k=Sum.inl i∧v=Value.int i t)∨(∃ x t,k=Sum.inr x∧v=Value.str x t)
  | .inl i,v,h=>by
    obtain ⟨t,e⟩:=Value.isInt_shape (k:=i) (v:=v) h
    exact .inl ⟨i,t,rfl,e⟩
  | .inr x,v,h=>by
    obtain ⟨t,e⟩:=Value.isStrOf_shape (x:=x) (v:=v) h
    exact .inr ⟨x,t,rfl,e⟩
theorem keyIs_int (i:Int) (t:Tok):keyIs (.inl i) (.int i t)=true:=by simp [keyIs,Value.isInt]
theorem keyIs_str (x:Str) (t:Tok):keyIs (.inr x) (.str x t)=true:=by simp [keyIs,Value.isStrOf]
theorem key_ll (a b:Int):decide ((Sum.inl a:Key)=Sum.inl b)=(a == b):=by
  by_cases e:a=b
  · subst e;simp
  · have h:¬ (Sum.inl a:Key)=Sum.inl b:=fun q=>e (Sum.inl.inj q)
    rw [decide_eq_false h]
    exact (beq_eq_false_iff_ne.mpr e).symm
theorem key_rr (a b:Str):decide ((Sum.inr a:Key)=Sum.inr b)=decide (a=b):=by
  by_cases e:a=b
  · subst e;simp
  · have h:¬ (Sum.inr a:Key)=Sum.inr b:=fun q=>e (Sum.inr.inj q)
    rw [decide_eq_false h,decide_eq_false e]
theorem key_lr (a:Int) (b:Str):decide ((Sum.inl a:Key)=Sum.inr b)=false:=decide_eq_false (fun q=>nomatch q)
theorem key_rl (a:Str) (b:Int):decide ((Sum.inr a:Key)=Sum.inl b)=false:=decide_eq_false (fun q=>nomatch q)

def mixKind (prog:Program) (w:World):PySem.KeyKind prog w Key where
  is:=keyIs
  hash:=keyH w
  inj:=fun v a b ha hb=>by
    rcases keyIs_shape ha with ⟨i,t,rfl,rfl⟩ | ⟨x,t,rfl,rfl⟩
    · rcases keyIs_shape hb with ⟨j,u,rfl,e⟩ | ⟨y,u,rfl,e⟩
      · injection e with e1 _;rw [e1]
      · exact nomatch e
    · rcases keyIs_shape hb with ⟨j,u,rfl,e⟩ | ⟨y,u,rfl,e⟩
      · exact nomatch e
      · injection e with e1 _;rw [e1]
  byValue:=fun k v h=>by
    rcases keyIs_shape h with ⟨i,t,rfl,rfl⟩ | ⟨x,t,rfl,rfl⟩<;>rfl
  pyHash:=fun hv h=>by
    rcases keyIs_shape hv with ⟨i,t,rfl,rfl⟩ | ⟨x,t,rfl,rfl⟩
    · exact wpAny_pyHash_int h
    · exact wpAny_pyHash_str h
  eqBool:=fun hu hv h=>by
    rcases keyIs_shape hu with ⟨i,t,rfl,rfl⟩ | ⟨x,t,rfl,rfl⟩
    · rcases keyIs_shape hv with ⟨j,u,rfl,rfl⟩ | ⟨y,u,rfl,rfl⟩
      · rw [key_ll] at h;exact wpAny_eqBool_int h
      · rw [key_lr] at h;exact SeqAt.EqAt.int_str i t y u _ _ _ _ h
    · rcases keyIs_shape hv with ⟨j,u,rfl,rfl⟩ | ⟨y,u,rfl,rfl⟩
      · rw [key_rl] at h;exact SeqAt.EqAt.str_int x t j u _ _ _ _ h
      · rw [key_rr] at h;exact wpAny_eqBool_str h
  «strs»:=fun k x t v h=>by
    rcases keyIs_shape h with ⟨i,u,rfl,e⟩ | ⟨y,u,rfl,e⟩
    · exact nomatch e
    · injection e with e1 _
      subst e1
      cases v<;>rfl

theorem mixKind_int (prog:Program) (w:World) (i:Int) (t:Tok):(mixKind prog w).is (.inl i) (.int i t)=true:=keyIs_int i t
theorem mixKind_str (prog:Program) (w:World) (x:Str) (t:Tok):(mixKind prog w).is (.inr x) (.str x t)=true:=keyIs_str x t
end L2

namespace L2
open PySem PySem.Spec PyProof.Rows

inductive V where
  | non | bl (b:Bool) | int (i:Int) | str (x:Str) | byt (b:Array UInt8) | flt (b:UInt64) | ref (a:Addr) | ty (n:String)
  deriving DecidableEq

def RelV:V→Value→Prop
  | .non,u=>u=Value.none
  | .bl b,u=>u=Value.bool b
  | .int i,u=>∃ t,u=Value.int i t
  | .str x,u=>∃ t,u=Value.str x t
  | .byt b,u=>∃ t,u=Value.bytes b t
  | .flt b,u=>∃ t,u=Value.float b t
  | .ref a,u=>u=Value.ref a
  | .ty n,u=>u=Value.type n

abbrev Vals:List V→List Value→Prop:=Paired RelV
theorem Vals.length {xs:List V} {us:List Value} (r:Vals xs us):xs.length=us.length:=Paired.length r
theorem Vals.get:∀ {xs:List V} {us:List Value} {i:Nat} {x:V},Vals xs us→xs[i]?=some x→∃ u,us[i]?=some u∧RelV x u
  | _,_,_,_,.nil,e=>by simp at e
  | _,_,0,_,.cons r _,e=>by simp at e;subst e;exact ⟨_,rfl,r⟩
  | _,_,i+1,x,.cons _ t,e=>by
    obtain ⟨u,h1,h2⟩:=Vals.get (i:=i) (x:=x) t (by simpa using e)
    exact ⟨u,by simpa using h1,h2⟩
theorem Vals.set {x:V} {u:Value} (r:RelV x u):∀ {xs:List V} {us:List Value} (i:Nat),Vals xs us→Vals (xs.set i x) (us.set i u)
  | _,_,_,.nil=>.nil
  | _,_,0,.cons _ t=>.cons r t
  | _,_,i+1,.cons q t=>.cons q (Vals.set r i t)
theorem Vals.append:∀ {xs ys:List V} {us ws:List Value},Vals xs us→Vals ys ws→Vals (xs++ys) (us++ws)
  | _,_,_,_,.nil,s=>s
  | _,_,_,_,.cons r t,s=>.cons r (Vals.append t s)
theorem Vals.take:∀ {xs:List V} {us:List Value} (n:Nat),Vals xs us→Vals (xs.take n) (us.take n)
  | _,_,0,_=>.nil
  | _,_,_+1,.nil=>.nil
  | _,_,n+1,.cons r t=>.cons r (Vals.take n t)
theorem Vals.drop:∀ {xs:List V} {us:List Value} (n:Nat),Vals xs us→Vals (xs.drop n) (us.drop n)
  | _,_,0,r=>r
  | _,_,_+1,.nil=>.nil
  | _,_,n+1,.cons _ t=>Vals.drop n t
theorem Vals.none_of:∀ {xs:List V} {us:List Value} {i:Nat},Vals xs us→xs[i]?=none→us[i]?=none:=fun {xs us i} r e=>by
  have h1:=r.length
  have h2:xs.length≤i:=List.getElem?_eq_none_iff.mp e
  exact List.getElem?_eq_none_iff.mpr (by omega)

def RelO:Option V→Option Value→Prop
  | some v,some u=>RelV v u
  | none,none=>True
  | _,_=>False
def KV {κ:Type}:List (κ×V)→List (κ×Value)→Prop:=Paired fun (p:κ×V) (q:κ×Value)=>p.1=q.1∧RelV p.2 q.2

def kV:Key→V
  | .inl i=>.int i
  | .inr x=>.str x

inductive HO where
  /-- a list -/
  | lst (xs:List V)
  /-- a tuple (never changes) -/
  | tup (xs:List V)
  /-- a dict whose keys are ints and texts;one whose keys are tuples of ints and texts (the empty one is both) -/
  | dK (kvs:List (Key×V)) | dT (kvs:List (List Key×V))
  /-- a set of ints: its members,its size -/
  | set (S:Int→Bool) (n:Nat)
  /-- an instance of the class at C,its dict at dx,its attributes -/
  | ins (C dx:Addr) (fs:List (Str×V))
  /-- the dict of the instance at x -/
  | own (x:Addr)
  /-- the dict of an exception -/
  | xd (fs:List (Str×V))
  /-- a bound method,f of x -/
  | met (f x:Addr)
  /-- a range object lo,lo+1,.. below hi -/
  | rng (lo hi:Int)
  /-- a thing that is known to the object (the script;a dict while a loop walks it): read,never written while it is so -/
  | frz (o:Obj) (u:HO)
  /-- a code object's table -/
  | tbl (ps:Array Value)
  /-- any other thing,by what is true of its one object (a def of one's own: SetO a S n:=HO.ext fun h=>..) -/
  | ext (φ:Heap→Prop)

abbrev Hp:=Addr→Option HO
def upd (H:Hp) (a:Addr) (o:HO):Hp:=fun b=>if b=a then some o else H b
theorem upd_same {H:Hp} {a:Addr} {o:HO}:upd H a o a=some o:=by unfold upd;rw [if_pos rfl]
theorem upd_ne {H:Hp} {a b:Addr} {o:HO} (h:b≠a):upd H a o b=H b:=by unfold upd;rw [if_neg h]
theorem upd_upd {H:Hp} {a:Addr} {o u:HO}:upd (upd H a o) a u=upd H a u:=by
  funext b;unfold upd;split<;>rfl
theorem ne_of {H:Hp} {a b:Addr} {o u:HO} (h:H a=some o) (h':H b=some u) (d:o≠u):a≠b:=by
  intro e;subst e;rw [h] at h';exact d (Option.some.inj h')
theorem ne_of_none {H:Hp} {a b:Addr} {o:HO} (h:H a=some o) (h':H b=none):a≠b:=by
  intro e;subst e;rw [h] at h';cases h'

section
variable (P:Program) (w:World)
def ObjOk (H:Hp) (h:Heap) (a:Addr):HO→Prop
  | .lst xs=>xs.length≤sizeLine∧∃ (its:List Value) (n:Nat),Vals xs its∧h.get? a=some { cls:=.type "list",data:=.seq its.toArray n }
  | .tup xs=>xs.length≤sizeLine∧∃ its:List Value,Vals xs its∧IsTup h a its.toArray
  | .dK kvs=>kvs.length≤sizeLine∧(a == sysModules)=false∧∃ vs,KV kvs vs∧h.DictOf (mixKind P w) a vs
  | .dT kvs=>kvs.length≤sizeLine∧(a == sysModules)=false∧∃ xs:List (List Key×Addr×Value),
      Paired (fun (p:List Key×V) (q:List Key×Addr×Value)=>p.1=q.1∧H q.2.1=some (.tup (p.1.map kV))∧RelV p.2 q.2.2) kvs xs ∧
      ∃ o es ep,h.get? a=some o∧o.ExactDict∧o.data=.dict es ep∧es.toList=xs.map (entryOfKey (tupleKind (mixKind P w)))∧(xs.map (·.1)).Nodup
  | .set S n=>h.SetOf (intKind P w) a S n
  | .ins C dx fs=>H dx=some (.own a)∧fs.length≤1000∧dx≠a∧h.get? a=some (PySem.W.instObj C dx) ∧
      ∃ mA,h.Ns1 dx mA∧(∀ f,RelO (fs.lookup f) (mA f))∧PySem.Within mA (fs.map (·.1))
  | .own _=>∃ o,h.get? a=some o
  | .xd fs=>∃ mA,h.Ns1 a mA∧∀ f,RelO (fs.lookup f) (mA f)
  | .rng lo hi=>∃ t u v,h.get? a=some { cls:=.type "range",data:=.fields #[.int lo t,.int hi u,.int 1 v] }
  | .frz o u=>h.get? a=some o∧ObjOk H h a u
  | .tbl ps=>h.get? a=some { cls:=.none,data:=.fields ps }
  | .met f x=>h.get? a=some (PySem.W.methodObj (.ref f) (.ref x))
  | .ext φ=>φ h∧(∃ o,h.get? a=some o)∧∀ h1 h2:Heap,φ h1→(∀ o,h1.get? a=some o→h2.get? a=some o)→φ h2
def HOk (H:Hp) (h:Heap):Prop:=∀ a o,H a=some o→ObjOk P w H h a o
end

section
variable {P:Program} {w:World} {H H':Hp} {h h':Heap} {a:Addr} {o:HO}
theorem ObjOk.lt (x:ObjOk P w H h a o):a < h.objs.size:=by
  cases o with
  | lst xs=>obtain ⟨_,_,_,_,e⟩:=x;exact Heap.lt_size e
  | tup xs=>obtain ⟨_,_,_,p⟩:=x;exact p.lt
  | dK kvs=>obtain ⟨_,_,_,_,o,_,_,e,_⟩:=x;exact Heap.lt_size e
  | dT kvs=>obtain ⟨_,_,_,_,o,_,_,e,_⟩:=x;exact Heap.lt_size e
  | set S n=>obtain ⟨o,_,_,_,e,_⟩:=x;exact Heap.lt_size e
  | ins C dx fs=>obtain ⟨_,_,_,e,_⟩:=x;exact Heap.lt_size e
  | own y=>obtain ⟨_,e⟩:=x;exact Heap.lt_size e
  | xd fs=>obtain ⟨_,⟨_,_,_,e,_⟩,_⟩:=x;exact Heap.lt_size e
  | rng lo hi=>obtain ⟨_,_,_,e⟩:=x;exact Heap.lt_size e
  | frz ob u=>obtain ⟨e,_⟩:=x;exact Heap.lt_size e
  | tbl ps=>exact Heap.lt_size (show h.get? a=some _ from x)
  | met f y=>exact Heap.lt_size (show h.get? a=some _ from x)
  | ext φ=>obtain ⟨_,⟨_,e⟩,_⟩:=x;exact Heap.lt_size e
theorem Paired.mapP {α β:Type} {F G:α→β→Prop}:∀ {l₁:List α} {l₂:List β},Paired F l₁ l₂→(∀ a b,F a b→G a b)→Paired G l₁ l₂
  | _,_,.nil,_=>.nil
  | _,_,.cons r t,f=>.cons (f _ _ r) (Paired.mapP t f)
theorem ObjOk.stay (x:ObjOk P w H h a o) (k:∀ b u,(b=a∨H b=some (.own a))→h.get? b=some u→h'.get? b=some u)
    (ho:∀ b,H b=some (.own a)→H' b=some (.own a)) (ht:∀ b xs,H b=some (.tup xs)→H' b=some (.tup xs)):ObjOk P w H' h' a o:=by
  induction o with
  | lst xs=>obtain ⟨z,its,n,r,e⟩:=x;exact ⟨z,its,n,r,k _ _ (.inl rfl) e⟩
  | tup xs=>obtain ⟨z,its,r,ob,e,c⟩:=x;exact ⟨z,its,r,ob,k _ _ (.inl rfl) e,c⟩
  | dK kvs=>obtain ⟨z,y,vs,r,ob,es,ep,e,c⟩:=x;exact ⟨z,y,vs,r,ob,es,ep,k _ _ (.inl rfl) e,c⟩
  | dT kvs =>
    obtain ⟨z,y,xs,r,ob,es,ep,e,c⟩:=x
    exact ⟨z,y,xs,Paired.mapP r fun p q z=>⟨z.1,ht _ _ z.2.1,z.2.2⟩,ob,es,ep,k _ _ (.inl rfl) e,c⟩
  | set S n=>obtain ⟨ob,es,ep,t,e,c⟩:=x;exact ⟨ob,es,ep,t,k _ _ (.inl rfl) e,c⟩
  | ins C dx fs =>
    obtain ⟨d,z,ne,e,mA,⟨od,es,ep,e2,c⟩,r⟩:=x
    exact ⟨ho _ d,z,ne,k _ _ (.inl rfl) e,mA,⟨od,es,ep,k _ _ (.inr d) e2,c⟩,r⟩
  | own y=>obtain ⟨ob,e⟩:=x;exact ⟨ob,k _ _ (.inl rfl) e⟩
  | xd fs=>obtain ⟨mA,⟨od,es,ep,e,c⟩,r⟩:=x;exact ⟨mA,⟨od,es,ep,k _ _ (.inl rfl) e,c⟩,r⟩
  | rng lo hi=>obtain ⟨t,u,v,e⟩:=x;exact ⟨t,u,v,k _ _ (.inl rfl) e⟩
  | frz ob u ih=>obtain ⟨e,q⟩:=x;exact ⟨k _ _ (.inl rfl) e,ih q⟩
  | tbl ps =>
    have e:h.get? a=some { cls:=.none,data:=.fields ps }:=x
    show h'.get? a=some { cls:=.none,data:=.fields ps }
    exact k a _ (.inl rfl) e
  | met f y =>
    have e:h.get? a=some (PySem.W.methodObj (.ref f) (.ref y)):=x
    show h'.get? a=some (PySem.W.methodObj (.ref f) (.ref y))
    exact k a _ (.inl rfl) e
  | ext φ=>obtain ⟨p,⟨o,e⟩,st⟩:=x;exact ⟨st _ _ p fun o q=>k _ _ (.inl rfl) q,⟨o,k _ _ (.inl rfl) e⟩,st⟩
theorem HOk.lt (x:HOk P w H h) (e:H a=some o):a < h.objs.size:=(x a o e).lt
theorem HOk.fresh (x:HOk P w H h) (e:h.objs.size≤a):H a=none:=by
  cases q:H a with
  | none=>rfl
  | some u=>exact absurd (Nat.lt_of_lt_of_le (x.lt q) e) (Nat.lt_irrefl _)
theorem HOk.kept (x:HOk P w H h) (k:∀ b u,h.get? b=some u→h'.get? b=some u):HOk P w H h':=fun a o e =>
  (x a o e).stay (fun b u _ q=>k b u q) (fun _ q=>q) fun _ _ q=>q
theorem HOk.laid (x:HOk P w H h) (k:∀ b u,h.get? b=some u→h'.get? b=some u) (hp:h.objs.size≤a) (new:ObjOk P w (upd H a o) h' a o):HOk P w (upd H a o) h':=fun b u e=>by
  have hn:=x.fresh hp
  by_cases hb:b=a
  · subst hb;rw [upd_same] at e;cases e;exact new
  · rw [upd_ne hb] at e
    exact (x b u e).stay (fun c v _ q=>k c v q) (fun c q=>by rw [upd_ne (ne_of_none q hn)];exact q) fun c xs q=>by rw [upd_ne (ne_of_none q hn)];exact q
end

def Rd (H:Hp) (a:Addr) (u:HO):Prop:=H a=some u∨∃ o,H a=some (.frz o u)
theorem Rd.of {H:Hp} {a:Addr} {u:HO} (h:H a=some u):Rd H a u:=.inl h
theorem Rd.ok {P:Program} {w:World} {H:Hp} {h:Heap} {a:Addr} {u:HO} (r:Rd H a u) (x:HOk P w H h):ObjOk P w H h a u:=by
  rcases r with r | ⟨o,r⟩
  · exact x a u r
  · obtain ⟨_,q⟩:=x a _ r
    exact q
def Mut:Option HO→Prop
  | some (.lst _)=>True
  | some (.dK _)=>True
  | some (.dT _)=>True
  | some (.set _ _)=>True
  | some (.ins _ _ _)=>True
  | some (.ext _)=>True
  | _=>False
section
variable {P:Program} {w:World} {H:Hp} {h h':Heap} {x e:Addr} {o':HO}
theorem HOk.write (ok:HOk P w H h) (mu:Mut (H x)) (he:e=x∨H e=some (.own x)) (k:∀ b u,b≠e→h.get? b=some u→h'.get? b=some u) (heo:∃ u,h'.get? e=some u)
    (new:ObjOk P w (upd H x o') h' x o'):HOk P w (upd H x o') h':=fun b u q=>by
  have nown:∀ c y,H c=some (.own y)→c≠x:=fun c y r z=>by subst z;rw [r] at mu;exact mu
  have ntup:∀ c xs,H c=some (.tup xs)→c≠x:=fun c xs r z=>by subst z;rw [r] at mu;exact mu
  by_cases hb:b=x
  · subst hb;rw [upd_same] at q;cases q;exact new
  · rw [upd_ne hb] at q
    by_cases hbe:b=e
    · have q':H b=some (.own x):=by
        rcases he with z | z
        · exact absurd (hbe.trans z) hb
        · rw [hbe];exact z
      rw [q] at q';cases q'
      obtain ⟨v,hv⟩:=heo
      exact ⟨v,by rw [hbe];exact hv⟩
    · refine (ok b u q).stay (fun c v hc r=>k c v ?_ r) (fun c r=>by rw [upd_ne (nown c b r)];exact r) fun c xs r=>by rw [upd_ne (ntup c xs r)];exact r
      rcases hc with rfl | hc
      · exact hbe
      · rintro rfl
        rcases he with z | z
        · exact nown c b hc z
        · rw [hc] at z;cases z;exact hb rfl
end

structure Un (fs ex:List Addr) (H H':Hp) (h h':Heap):Prop where
  keep:∀ b o,h.get? b=some o→H b=none→b∉fs→b∉ex→h'.get? b=some o
  slot:∀ b o,h.get? b=some o→H b=none→b∈fs→b∉ex→∃ sl,h'.get? b=some { o with slots:=sl }
  free:∀ b o,h.get? b=some o→H b=none→b∉ex→H' b=none
  there:∀ b o,h.get? b=some o→b∉ex→∃ o',h'.get? b=some o'
  tups:∀ b xs,H b=some (.tup xs)→H' b=some (.tup xs)
  frzs:∀ b o u,H b=some (.frz o u)→H' b=some (.frz o u)
  tbls:∀ b ps,H b=some (.tbl ps)→∃ more,H' b=some (.tbl (ps++more))
section
variable {fs fs' ex ex':List Addr} {H H1 H2:Hp} {h h1 h2 h':Heap} {a x e:Addr} {o:HO}
theorem Un.any (u:Un fs ex H H1 h h1) {b:Addr} {ob:Obj} (q:h.get? b=some ob) (n:H b=none) (hx:b∉ex):∃ sl,h1.get? b=some { ob with slots:=sl }:=by
  by_cases hb:b∈fs
  · exact u.slot b ob q n hb hx
  · exact ⟨ob.slots,u.keep b ob q n hb hx⟩
theorem Un.trans (a:Un fs ex H H1 h h1) (b:Un fs ex H1 H2 h1 h2):Un fs ex H H2 h h2 where
  keep:=fun c ob q n hc hx=>b.keep c ob (a.keep c ob q n hc hx) (a.free c ob q n hx) hc hx
  slot:=fun c ob q n hc hx=>by
    obtain ⟨sl,e1⟩:=a.slot c ob q n hc hx
    obtain ⟨sl',e2⟩:=b.slot c _ e1 (a.free c ob q n hx) hc hx
    exact ⟨sl',e2⟩
  free:=fun c ob q n hx=>by
    obtain ⟨o',e1⟩:=a.there c ob q hx
    exact b.free c o' e1 (a.free c ob q n hx) hx
  there:=fun c ob q hx=>by
    obtain ⟨o',e1⟩:=a.there c ob q hx
    exact b.there c o' e1 hx
  tups:=fun c xs q=>b.tups c xs (a.tups c xs q)
  frzs:=fun c ob xs q=>b.frzs c ob xs (a.frzs c ob xs q)
  tbls:=fun c ps q=>by
    obtain ⟨m1,e1⟩:=a.tbls c ps q
    obtain ⟨m2,e2⟩:=b.tbls c _ e1
    exact ⟨m1++m2,by rw [e2,Array.append_assoc]⟩
theorem Un.kept (k:∀ b u,h.get? b=some u→h'.get? b=some u):Un fs ex H H h h' :=
  ⟨fun b ob q _ _ _=>k b ob q,fun b ob q _ _ _=>⟨ob.slots,k b ob q⟩,fun _ _ _ n _=>n,fun b ob q _=>⟨ob,k b ob q⟩,fun _ _ q=>q,fun _ _ _ q=>q,fun _ ps q=>⟨#[],by rw [q];simp⟩⟩
theorem Un.refl:Un fs ex H H h h:=Un.kept fun _ _ q=>q
theorem Un.laid (k:∀ b u,h.get? b=some u→h'.get? b=some u) (hp:h.objs.size≤a) (hn:H a=none):Un fs ex H (upd H a o) h h' where
  keep:=fun b u q _ _ _=>k b u q
  slot:=fun b u q _ _ _=>⟨u.slots,k b u q⟩
  free:=fun b u q n _=>by rw [upd_ne (Nat.ne_of_lt (Nat.lt_of_lt_of_le (Heap.lt_size q) hp))];exact n
  there:=fun b u q _=>⟨u,k b u q⟩
  tups:=fun b xs q=>by rw [upd_ne (ne_of_none q hn)];exact q
  frzs:=fun b u xs q=>by rw [upd_ne (ne_of_none q hn)];exact q
  tbls:=fun b ps q=>⟨#[],by rw [upd_ne (ne_of_none q hn),q];simp⟩
theorem Un.write (mu:Mut (H x)) (he:e=x∨H e=some (.own x)) (k:∀ b u,b≠e→h.get? b=some u→h'.get? b=some u) (heo:∃ u,h'.get? e=some u):Un fs ex H (upd H x o) h h':=by
  have hx:∀ b,H b=none→b≠x:=fun b n z=>by subst z;rw [n] at mu;exact mu
  have hb:∀ b,H b=none→b≠e:=fun b n z=>by
    subst z
    rcases he with r | r
    · exact hx b n r
    · rw [n] at r;cases r
  have hm:∀ b u,H b=some u→¬ Mut (some u)→b≠x:=fun b u q nm z=>by subst z;rw [q] at mu;exact nm mu
  refine ⟨fun b u q n _ _=>k b u (hb b n) q,fun b u q n _ _=>⟨u.slots,k b u (hb b n) q⟩,fun b u q n _=>by rw [upd_ne (hx b n)];exact n,fun b u q _=>?_,
    fun b xs q=>by rw [upd_ne (hm b _ q fun z=>z)];exact q,fun b u xs q=>by rw [upd_ne (hm b _ q fun z=>z)];exact q,fun b ps q=>⟨#[],by rw [upd_ne (hm b _ q fun z=>z),q];simp⟩⟩
  by_cases hbe:b=e
  · subst hbe;exact heo
  · exact ⟨u,k b u hbe q⟩
theorem Un.mono (u:Un fs ex H H1 h h1) (hs:∀ b∈fs,b∈fs') (hx:∀ b∈ex,b∈ex'):Un fs' ex' H H1 h h1 :=
  ⟨fun b ob q n hb he=>u.keep b ob q n (fun z=>hb (hs b z)) fun z=>he (hx b z),fun _ _ q n _ he=>u.any q n fun z=>he (hx _ z),fun b ob q n he=>u.free b ob q n fun z=>he (hx b z),fun b ob q he=>u.there b ob q fun z=>he (hx b z),u.tups,u.frzs,u.tbls⟩
end

def trk (h:Heap) (H:Hp):List Addr:=(List.range h.objs.size).filter fun a=>(H a).isSome
def hidT (h:Heap) (H:Hp):Heap:=PySem.W.hideAll h (trk h H)
theorem hidT_size (h:Heap) (H:Hp):(hidT h H).objs.size=h.objs.size:=PySem.W.hideAll_size _ _
theorem hidT_get {h:Heap} {H:Hp} {b:Addr} {o:Obj} (e:h.get? b=some o) (n:H b=none):(hidT h H).get? b=some o :=
  PySem.W.hideAll_get _ e fun hm=>by
    have q:(H b).isSome=true:=(List.mem_filter.mp hm).2
    rw [n] at q;simp at q
theorem of_hidT {h:Heap} {H:Hp} {b:Addr} {o:Obj} (e:(hidT h H).get? b=some o):h.get? b=some o∧H b=none:=by
  have e':h.get? b=some o:=PySem.W.of_hideAll (trk h H) e
  refine ⟨e',?_⟩
  cases q:H b with
  | none=>rfl
  | some x =>
    have hm:b∈trk h H:=List.mem_filter.mpr ⟨List.mem_range.mpr (Heap.lt_size e'),by simp [q]⟩
    have z:(hidT h H).get? b=none:=PySem.W.hideAll_none (trk h H) hm
    rw [z] at e;cases e

def allNews (g h:Heap) (L:Addr):List (Addr×Obj):=(List.range h.objs.size).filterMap fun a=>if a=L∨(g.get? a).isSome=true then none else (h.get? a).map fun o=>(a,o)
def rest (g h:Heap) (L d:Addr):List (Addr×Obj):=(allNews g h L).filter fun p=>decide (p.1≠d)
end L2

namespace L2
open PySem PySem.Spec PyProof.Rows

structure Mod (K:PySem.W.Frag) (mg:Str→Option Value) (base:Heap):Prop where
  kin:K.In base
  glob:base.Ns mainGlobals mg
  blt:∃ mb,base.Ns builtinsNs mb∧∀ x:Str,x ≠ "__name__" → mb x=bootBuiltins x
  nolimit:base.NoLimit

structure Cx where
  prog:Program
  w:World
  K:PySem.W.Frag
  mg:Str→Option Value
  base:Heap
  A:Around
  N:List Str
  s₀:Shared
  H₀:Hp
  env:Env
  outer:List Env
  stack:List Env
  ex:List Addr
  fn:Str→Bool
  calm:Bool
  pn:List (Addr×Obj)
  xe:Value→Shared→Prop
def frs (l:List Env):List Addr:=l.filterMap (·.frame)
abbrev Cx.fs (X:Cx):List Addr:=frs X.outer

def Vis (sc:Scope) (x:Str):Prop:=sc.names.lookup x=some .local∨sc.names.lookup x=some .cell∨sc.names.lookup x=some .free
def Loc (sc:Scope) (x:Str):Prop:=sc.names.lookup x=some .local∨sc.names.lookup x=some .cell
def Look (env:Env) (h:Heap) (m:Str→Option Value) (x:Str) (u:Value):Prop :=
  (env.kindOf x=some .local∧m x=some u)∨((env.kindOf x=some .cell∨env.kindOf x=some .free)∧∃ c,env.cells.lookup x=some c∧h.IsCell c (some u))

structure Cx.Ok (X:Cx):Prop where
  mod:Mod X.K X.mg X.base
  kind:X.env.scope.kind=.function
  glob:X.env.globals=mainGlobals
  blt:X.env.builtins=builtinsNs
  above:X.s₀.heap.objs.size≤X.env.locals
  inj:∀ x y c,X.env.cells.lookup x=some c→X.env.cells.lookup y=some c→x=y
  has:∀ x,(X.env.kindOf x=some .cell∨X.env.kindOf x=some .free)→∃ c,X.env.cells.lookup x=some c
  cab:∀ x c,X.fn x=true→X.env.cells.lookup x=some c→X.s₀.heap.objs.size≤c
  hd:X.calm=true→X.A.handled=none
  frames:X.A.frames=some X.stack
  stk:X.stack=X.outer∨(X.stack=X.env::X.outer∧X.env.frame=some X.env.locals)
  exf:∀ b∈X.ex,b≠X.env.locals∧∀ x c,X.env.cells.lookup x=some c→c≠b
  bs:∀ b o,X.base.get? b=some o→X.s₀.heap.get? b=some o∧X.H₀ b=none
  bsz:X.base.objs.size≤X.s₀.heap.objs.size
  noex:∀ b o,X.base.get? b=some o→b∉X.ex
  exfs:∀ b∈X.ex,b∉X.fs
  funs:X.s₀.heap.FunFrames X.base X.outer
  frf:∀ b∈X.fs,X.H₀ b=none

structure Inv (X:Cx) (pins:List (Addr×Obj)) (σ:List (Option V)) (H:Hp) (s:Shared):Prop where
  ok:X.Ok
  os:s.os=X.s₀.os
  bare:AllBare s.gens
  base:Un X.fs X.ex X.H₀ H X.s₀.heap s.heap
  loc:∃ m,s.heap.Ns X.env.locals m∧∀ (i:Nat) (x:Str) (v:V),X.N[i]?=some x→σ[i]?=some (some v)→Vis X.env.scope x→∃ u,RelV v u∧Look X.env s.heap m x u
  cell:∀ x c,X.env.cells.lookup x=some c→∃ v,s.heap.IsCell c v
  free:H X.env.locals=none
  freeC:∀ x c,X.env.cells.lookup x=some c→H c=none
  pin:∀ p∈X.pn++pins,s.heap.get? p.1=some p.2∧H p.1=none∧p.1≠X.env.locals∧p.1∉X.fs∧∀ v,p.2.data≠.cell v
  hok:HOk X.prog X.w H s.heap
  len:σ.length=X.N.length

section
variable {X:Cx} {pins:List (Addr×Obj)} {σ:List (Option V)} {H H':Hp} {s:Shared} {h':Heap}

theorem Cx.Ok.nofr (ok:X.Ok) {b:Addr} {o:Obj} (e:X.base.get? b=some o):b∉X.fs:=fun hb=>by
  have:=(ok.funs.mem hb).1
  rw [e] at this;cases this
theorem Inv.bs (I:Inv X pins σ H s):∀ b o,X.base.get? b=some o→s.heap.get? b=some o∧H b=none:=fun b o e =>
  ⟨I.base.keep b o (I.ok.bs b o e).1 (I.ok.bs b o e).2 (I.ok.nofr e) (I.ok.noex b o e),I.base.free b o (I.ok.bs b o e).1 (I.ok.bs b o e).2 (I.ok.noex b o e)⟩
theorem Inv.bk (I:Inv X pins σ H s):∀ b o,X.base.get? b=some o→s.heap.get? b=some o:=fun b o e=>(I.bs b o e).1
theorem Inv.mod (I:Inv X pins σ H s):Mod X.K X.mg X.base:=I.ok.mod
theorem Inv.kIn (I:Inv X pins σ H s):X.K.In s.heap:=I.ok.mod.kin.keeps I.bk
theorem Inv.nolimit (I:Inv X pins σ H s):s.heap.NoLimit:=I.ok.mod.nolimit.keeps I.bk
theorem Inv.fr (I:Inv X pins σ H s):∃ m,Fr X.base X.env.locals s.heap m :=
  let ⟨m,hn,_⟩:=I.loc
  ⟨m,hn,I.bk,Nat.le_trans I.ok.bsz I.ok.above⟩
theorem Inv.lt (I:Inv X pins σ H s):X.env.locals < s.heap.objs.size:=let ⟨_,hn,_⟩:=I.loc;hn.lt
theorem Inv.sz (I:Inv X pins σ H s):X.s₀.heap.objs.size≤s.heap.objs.size:=Nat.le_trans I.ok.above (Nat.le_of_lt I.lt)
theorem Inv.nofs (I:Inv X pins σ H s) {a:Addr} (h:s.heap.objs.size≤a):a∉X.fs:=fun hb=>by
  obtain ⟨_,o,ho,_⟩:=I.ok.funs.mem hb
  exact absurd (Nat.lt_of_lt_of_le (Heap.lt_size ho) (Nat.le_trans I.sz h)) (Nat.lt_irrefl _)
theorem Inv.cne (I:Inv X pins σ H s):∀ x c,X.env.cells.lookup x=some c→c≠X.env.locals:=fun x c e z=>by
  obtain ⟨v,o,ho,hd⟩:=I.cell x c e
  obtain ⟨m,⟨o',es,ep,ho',hd',_⟩,_⟩:=I.loc
  rw [z,ho'] at ho;cases ho;rw [hd'] at hd;cases hd
theorem Inv.funs (I:Inv X pins σ H s):s.heap.FunFrames X.base X.outer:=by
  have all:∀ (l:List Env),(∀ b∈frs l,b∈X.fs)→X.s₀.heap.FunFrames X.base l→s.heap.FunFrames X.base l:=by
    intro l
    induction l with
    | nil=>intro _ _;trivial
    | cons env r ih =>
      intro hs hl
      obtain ⟨hk,⟨L,o,hf,hn,ho,hd⟩,hr⟩:=hl
      have hL:L∈X.fs:=hs L (by unfold frs;rw [List.filterMap_cons,hf];exact List.mem_cons_self)
      obtain ⟨sl,e⟩:=I.base.slot L o ho (I.ok.frf L hL) hL fun z=>I.ok.exfs L z hL
      exact ⟨hk,⟨L,_,hf,hn,e,hd⟩,ih (fun b hb=>hs b (by unfold frs;rw [List.filterMap_cons,hf];exact List.mem_cons_of_mem _ hb)) hr⟩
  exact all X.outer (fun _ hb=>hb) I.ok.funs

theorem Inv.stack (I:Inv X pins σ H s):s.heap.FunFrames X.base X.stack:=by
  rcases I.ok.stk with e | ⟨e,hf⟩
  · rw [e];exact I.funs
  · rw [e]
    obtain ⟨m,hn,_⟩:=I.loc
    refine .cons (by rw [I.ok.kind];decide) hf hn ?_ I.funs
    exact Heap.get?_none_of_le (Nat.le_trans I.ok.bsz I.ok.above)
theorem Inv.stkSub (I:Inv X pins σ H s):∀ b∈frs X.stack,b∈X.env.locals::X.fs:=fun b hb=>by
  rcases I.ok.stk with e | ⟨e,hf⟩
  · rw [e] at hb;exact List.mem_cons_of_mem _ hb
  · rw [e] at hb
    unfold frs at hb
    rw [List.filterMap_cons,hf] at hb
    exact hb
theorem Inv.stkFree (I:Inv X pins σ H s):∀ b∈frs X.stack,H b=none:=fun b hb=>by
  rcases List.mem_cons.mp (I.stkSub b hb) with e | hb
  · rw [e];exact I.free
  · obtain ⟨_,o,ho,_⟩:=I.ok.funs.mem hb
    exact I.base.free b o ho (I.ok.frf b hb) fun z=>I.ok.exfs b z hb

theorem Inv.step {g':Array GenState} {t':Nat} {d':Drawn} {ch:List Addr} (I:Inv X pins σ H s)
    (hch:∀ b∈ch,(b∈X.ex∨X.s₀.heap.objs.size≤b)∧b≠X.env.locals∧(∀ x c,X.env.cells.lookup x=some c→c≠b)∧∀ p∈X.pn++pins,p.1≠b)
    (keep:∀ b o,b≠X.env.locals→b∉X.fs→b∉ch→s.heap.get? b=some o→H b=none→h'.get? b=some o)
    (slot:∀ b o,b≠X.env.locals→b∈X.fs→b∉ch→s.heap.get? b=some o→H b=none→∃ sl,h'.get? b=some { o with slots:=sl }) (free:∀ b o,b∉ch→s.heap.get? b=some o→H b=none→H' b=none)
    (there:∀ b o,b∉ch→s.heap.get? b=some o→∃ o',h'.get? b=some o')
    (tups:∀ b xs,H b=some (.tup xs)→H' b=some (.tup xs)) (frzs:∀ b o u,H b=some (.frz o u)→H' b=some (.frz o u)) (tbls:∀ b ps,H b=some (.tbl ps)→∃ more,H' b=some (.tbl (ps++more)))
    (ns:∀ m,s.heap.Ns X.env.locals m→h'.Ns X.env.locals m) (hok:HOk X.prog X.w H' h') (hg:AllBare g') :
    Inv X pins σ H' { s with heap:=h',gens:=g',drawn:=d',toks:=t' }:=by
  have neL:∀ b o,X.s₀.heap.get? b=some o→b≠X.env.locals:=fun b o e=>Nat.ne_of_lt (Nat.lt_of_lt_of_le (Heap.lt_size e) I.ok.above)
  have neC:∀ b o,X.s₀.heap.get? b=some o→b∉X.ex→b∉ch:=fun b o e hx hb=>by
    rcases (hch b hb).1 with z | z
    · exact hx z
    · exact absurd (Nat.lt_of_lt_of_le (Heap.lt_size e) z) (Nat.lt_irrefl _)
  have cellK:∀ x c,X.env.cells.lookup x=some c→∀ v,s.heap.IsCell c v→h'.IsCell c v:=fun x c e v ⟨o,ho,hd⟩=>by
    have nch:c∉ch:=fun z=>(hch c z).2.2.1 x c e rfl
    by_cases hc:c∈X.fs
    · obtain ⟨sl,q⟩:=slot c o (I.cne x c e) hc nch ho (I.freeC x c e)
      exact ⟨_,q,hd⟩
    · exact ⟨o,keep c o (I.cne x c e) hc nch ho (I.freeC x c e),hd⟩
  refine ⟨I.ok,I.os,hg,⟨fun b o e n hb hx=>?_,fun b o e n hb hx=>?_,fun b o e n hx=>?_,fun b o e hx=>?_,fun b xs e=>tups b xs (I.base.tups b xs e),fun b o xs e=>frzs b o xs (I.base.frzs b o xs e),fun b ps e=>?_⟩,?_,fun x c e=>?_,?_,fun x c e=>?_,fun p hp=>?_,hok,I.len⟩
  · exact keep b o (neL b o e) hb (neC b o e hx) (I.base.keep b o e n hb hx) (I.base.free b o e n hx)
  · obtain ⟨sl,e1⟩:=I.base.slot b o e n hb hx
    obtain ⟨sl',e2⟩:=slot b _ (neL b o e) hb (neC b o e hx) e1 (I.base.free b o e n hx)
    exact ⟨sl',e2⟩
  · obtain ⟨o',e1⟩:=I.base.there b o e hx
    exact free b o' (neC b o e hx) e1 (I.base.free b o e n hx)
  · obtain ⟨o',e1⟩:=I.base.there b o e hx
    exact there b o' (neC b o e hx) e1
  · obtain ⟨m1,e1⟩:=I.base.tbls b ps e
    obtain ⟨m2,e2⟩:=tbls b _ e1
    exact ⟨m1++m2,by rw [e2,Array.append_assoc]⟩
  · obtain ⟨m,hn,hl⟩:=I.loc
    refine ⟨m,ns m hn,fun i x v e1 e2 e3=>?_⟩
    obtain ⟨u,r,l⟩:=hl i x v e1 e2 e3
    refine ⟨u,r,?_⟩
    rcases l with l | ⟨k,c,e,z⟩
    · exact .inl l
    · exact .inr ⟨k,c,e,cellK x c e _ z⟩
  · obtain ⟨v,z⟩:=I.cell x c e
    exact ⟨v,cellK x c e v z⟩
  · obtain ⟨m,⟨o,_,_,ho,_⟩,_⟩:=I.loc
    exact free _ o (fun z=>(hch _ z).2.1 rfl) ho I.free
  · obtain ⟨v,o,ho,hd⟩:=I.cell x c e
    exact free c o (fun z=>(hch c z).2.2.1 x c e rfl) ho (I.freeC x c e)
  · obtain ⟨e,n,ne,nf,d⟩:=I.pin p hp
    have nch:p.1∉ch:=fun z=>(hch p.1 z).2.2.2 p hp rfl
    exact ⟨keep p.1 p.2 ne nf nch e n,free p.1 p.2 nch e n,ne,nf,d⟩
theorem Inv.un {t':Nat} (I:Inv X pins σ H s) (u:Un X.fs [] H H' s.heap h') (hok:HOk X.prog X.w H' h'):Inv X pins σ H' { s with heap:=h',toks:=t' }:=by
  obtain ⟨m,⟨o,es,ep,ho,r⟩,_⟩:=id I.loc
  obtain ⟨sl,hL⟩:=u.any ho I.free (by simp)
  exact I.step (g':=s.gens) (d':=s.drawn) (ch:=[]) (fun _ z=>nomatch z) (fun b o _ hb _ e n=>u.keep b o e n hb (by simp)) (fun b o _ hb _ e n=>u.slot b o e n hb (by simp)) (fun b o _ e n=>u.free b o e n (by simp)) (fun b o _ e=>u.there b o e (by simp)) u.tups u.frzs u.tbls (fun m' hm=>by
    obtain ⟨o',es',ep',ho',r'⟩:=hm
    rw [ho] at ho';cases ho'
    exact ⟨_,es',ep',hL,r'⟩) hok I.bare
theorem Inv.call {g':Array GenState} {t':Nat} {d':Drawn} {ch:List Addr} (I:Inv X pins σ H s) (u:Un (frs X.stack) ch H H' s.heap h') (hok:HOk X.prog X.w H' h') (hg:AllBare g')
    (hch:∀ b∈ch,(b∈X.ex∨X.s₀.heap.objs.size≤b)∧b≠X.env.locals∧(∀ x c,X.env.cells.lookup x=some c→c≠b)∧∀ p∈X.pn++pins,p.1≠b) :
    Inv X pins σ H' { s with heap:=h',gens:=g',drawn:=d',toks:=t' }:=by
  obtain ⟨m,⟨o,es,ep,ho,r⟩,_⟩:=id I.loc
  obtain ⟨sl,hL⟩:=u.any ho I.free fun z=>(hch _ z).2.1 rfl
  exact I.step (ch:=ch) hch (fun b o hL hb hc e n=>u.keep b o e n (fun z=>(List.mem_cons.mp (I.stkSub b z)).elim hL hb) hc) (fun b o _ _ hc e n=>u.any e n hc) (fun b o hc e n=>u.free b o e n hc) (fun b o hc e=>u.there b o e hc) u.tups u.frzs u.tbls (fun m' hm=>by
    obtain ⟨o',es',ep',ho',r'⟩:=hm
    rw [ho] at ho';cases ho'
    exact ⟨_,es',ep',hL,r'⟩) hok hg
theorem Inv.turned {t':Nat} {it:Addr} (I:Inv X pins σ H s) (k:∀ b o,b≠it→s.heap.get? b=some o→h'.get? b=some o) (hn:H it=none) (hL:it≠X.env.locals)
    (h1:it∈X.ex∨X.s₀.heap.objs.size≤it) (h2:∀ x c,X.env.cells.lookup x=some c→c≠it) (h3:∀ p∈X.pn++pins,p.1≠it):Inv X pins σ H { s with heap:=h',toks:=t' }:=by
  have nit:∀ b u,H b=some u→b≠it:=fun b u e z=>by rw [z,hn] at e;cases e
  refine I.step (g':=s.gens) (d':=s.drawn) (ch:=[it]) (fun b hb=>?_) (fun b o _ _ hc e _=>k b o (fun z=>hc (by simp [z])) e) (fun b o _ _ hc e _=>⟨o.slots,k b o (fun z=>hc (by simp [z])) e⟩) (fun _ _ _ _ n=>n)
    (fun b o hc e=>⟨o,k b o (fun z=>hc (by simp [z])) e⟩) (fun _ _ e=>e) (fun _ _ _ e=>e) (fun b ps e=>⟨#[],by rw [e];simp⟩) (fun m hm=>?_) (fun b u e=>?_) I.bare
  · have e:b=it:=by simpa using hb
    subst e
    exact ⟨h1,hL,h2,h3⟩
  · obtain ⟨o,es,ep,ho,r⟩:=hm
    exact ⟨o,es,ep,k _ o (Ne.symm hL) ho,r⟩
  · refine (I.hok b u e).stay (fun c v hc q=>k c v ?_ q) (fun _ q=>q) fun _ _ q=>q
    rcases hc with z | z
    · rw [z];exact nit b u e
    · exact nit c _ z
theorem Inv.tok (I:Inv X pins σ H s) (t:Nat):Inv X pins σ H { s with toks:=t }:=I.un (h':=s.heap) (t':=t) Un.refl I.hok
theorem Inv.kept {t':Nat} (I:Inv X pins σ H s) (k:∀ b u,s.heap.get? b=some u→h'.get? b=some u):Inv X pins σ H { s with heap:=h',toks:=t' }:=I.un (Un.kept k) (I.hok.kept k)
theorem Inv.laid {a:Addr} {o:HO} {t':Nat} (I:Inv X pins σ H s) (k:∀ b u,s.heap.get? b=some u→h'.get? b=some u) (hp:s.heap.objs.size≤a) (new:ObjOk X.prog X.w (upd H a o) h' a o) :
    Inv X pins σ (upd H a o) { s with heap:=h',toks:=t' }:=I.un (Un.laid k hp (I.hok.fresh hp)) (I.hok.laid k hp new)
theorem Inv.write {x e:Addr} {o:HO} {t':Nat} (I:Inv X pins σ H s) (mu:Mut (H x)) (he:e=x∨H e=some (.own x)) (k:∀ b u,b≠e→s.heap.get? b=some u→h'.get? b=some u) (heo:∃ u,h'.get? e=some u)
    (new:ObjOk X.prog X.w (upd H x o) h' x o):Inv X pins σ (upd H x o) { s with heap:=h',toks:=t' }:=I.un (Un.write mu he k heo) (I.hok.write mu he k heo new)
theorem Inv.pins_of {pins':List (Addr×Obj)} (I:Inv X pins σ H s) (h:∀ p∈pins',s.heap.get? p.1=some p.2∧H p.1=none∧p.1≠X.env.locals∧p.1∉X.fs∧∀ v,p.2.data≠.cell v):Inv X pins' σ H s :=
  ⟨I.ok,I.os,I.bare,I.base,I.loc,I.cell,I.free,I.freeC,fun p hp=>(List.mem_append.mp hp).elim (fun z=>I.pin p (List.mem_append_left _ z)) (h p),I.hok,I.len⟩

theorem nodup_ix {N:List Str} (hN:N.Nodup) {i j:Nat} {x:Str} (a:N[i]?=some x) (b:N[j]?=some x):i=j:=by
  obtain ⟨h1,e1⟩:=List.getElem?_eq_some_iff.mp a
  obtain ⟨h2,e2⟩:=List.getElem?_eq_some_iff.mp b
  exact (List.getElem_inj hN).mp (e1.trans e2.symm)

theorem store_ok2 {M:Model} {A:Around} {E:Value→Shared→Prop} {i:Nat} {x:Str} {v:V} {u:Value} {Q:Unit→Shared→Prop} (I:Inv X pins σ H s) (hN:X.N.Nodup) (hi:X.N[i]?=some x) (hx:Loc X.env.scope x) (r:RelV v u)
    (h:∀ s',Inv X pins (σ.set i (some v)) H s'→(∃ a,Heap.SameBut a s.heap s'.heap∧(a=X.env.locals∨X.env.cells.lookup x=some a))→Q () s') (hf:X.fn x=true∨X.env.scope.names.lookup x=some .local:=by first | exact .inl rfl | exact .inr rfl | assumption):wpAny M A (storeName X.env x u) Q E s:=by
  obtain ⟨m,hn,hl⟩:=id I.loc
  have hcls:(X.env.scope.kind == .class || (X.env.scope.kind == .module && X.env.locals != X.env.globals))=false:=by rw [I.ok.kind];rfl
  have hiσ:i < σ.length:=by rw [I.len];exact (List.getElem?_eq_some_iff.mp hi).1
  have cne:=I.cne
  have tracked:∀ {a:Addr} {h':Heap},(∃ o,s.heap.get? a=some o∧H a=none)→Heap.SameBut a s.heap h'→HOk X.prog X.w H h':=fun {a h'} ha hs b ob e=>by
    obtain ⟨_,_,hfree⟩:=ha
    refine (I.hok b ob e).stay (fun c w' hc q=>(hs.2 c ?_).trans q) (fun _ q=>q) fun _ _ q=>q
    rintro rfl
    rcases hc with rfl | hc
    · rw [hfree] at e;cases e
    · rw [hfree] at hc;cases hc
  rcases hx with hk | hk
  · refine wpAny_storeName_local hk hn (fun h' hn' hs=>?_) hcls
    obtain ⟨oL,_,_,hoL,_⟩:=id hn
    refine h _ ⟨I.ok,I.os,I.bare,⟨fun b o e n hb hx=>?_,fun b o e n hb hx=>?_,I.base.free,fun b o e hx=>?_,I.base.tups,I.base.frzs,I.base.tbls⟩,⟨_,hn',fun j y v' e1 e2 e3=>?_⟩,fun y c e=>?_,I.free,I.freeC,fun p hp=>?_,tracked ⟨oL,hoL,I.free⟩ hs,by simpa using I.len⟩ ⟨_,hs,.inl rfl⟩
    · exact (hs.2 b (Nat.ne_of_lt (Nat.lt_of_lt_of_le (Heap.lt_size e) I.ok.above))).trans (I.base.keep b o e n hb hx)
    · obtain ⟨sl,e1⟩:=I.base.slot b o e n hb hx
      exact ⟨sl,(hs.2 b (Nat.ne_of_lt (Nat.lt_of_lt_of_le (Heap.lt_size e) I.ok.above))).trans e1⟩
    · obtain ⟨o',e1⟩:=I.base.there b o e hx
      exact ⟨o',(hs.2 b (Nat.ne_of_lt (Nat.lt_of_lt_of_le (Heap.lt_size e) I.ok.above))).trans e1⟩
    · by_cases hj:j=i
      · subst hj
        rw [hi] at e1;cases e1
        rw [List.getElem?_set_self hiσ] at e2
        cases e2
        exact ⟨u,r,.inl ⟨hk,by simp⟩⟩
      · rw [List.getElem?_set_ne (Ne.symm hj)] at e2
        obtain ⟨u',r',q⟩:=hl j y v' e1 e2 e3
        refine ⟨u',r',?_⟩
        rcases q with ⟨k,e⟩ | ⟨k,c,e,z⟩
        · refine .inl ⟨k,?_⟩
          have:y≠x:=fun e=>hj (nodup_ix hN e1 (e▸hi))
          simp [this,e]
        · exact .inr ⟨k,c,e,z.sameBut hs (cne y c e)⟩
    · obtain ⟨w',z⟩:=I.cell y c e
      exact ⟨w',z.sameBut hs (cne y c e)⟩
    · obtain ⟨e,n,ne,nf,d⟩:=I.pin p hp
      exact ⟨(hs.2 p.1 ne).trans e,n,ne,nf,d⟩
  · have hfn:X.fn x=true:=by
      rcases hf with z | z
      · exact z
      · rw [z] at hk;cases hk
    obtain ⟨c,hc⟩:=I.ok.has x (.inl hk)
    obtain ⟨w',z⟩:=I.cell x c hc
    refine wpAny_storeName_cell I.ok.kind hk hc z (fun h' hc' hs=>?_)
    obtain ⟨oc,hoc,hocd⟩:=id z
    refine h { s with heap:=h' } ⟨I.ok,I.os,I.bare,⟨fun b o e n hb hx=>?_,fun b o e n hb hx=>?_,I.base.free,fun b o e hx=>?_,I.base.tups,I.base.frzs,I.base.tbls⟩,⟨m,hn.sameBut hs (Ne.symm (cne x c hc)),fun j y v' e1 e2 e3=>?_⟩,fun y c' e=>?_,I.free,I.freeC,fun p hp=>?_,tracked ⟨oc,hoc,I.freeC x c hc⟩ hs,by simpa using I.len⟩ ⟨c,hs,.inr hc⟩
    · exact (hs.2 b (Nat.ne_of_lt (Nat.lt_of_lt_of_le (Heap.lt_size e) (I.ok.cab x c hfn hc)))).trans (I.base.keep b o e n hb hx)
    · obtain ⟨sl,e1⟩:=I.base.slot b o e n hb hx
      exact ⟨sl,(hs.2 b (Nat.ne_of_lt (Nat.lt_of_lt_of_le (Heap.lt_size e) (I.ok.cab x c hfn hc)))).trans e1⟩
    · obtain ⟨o',e1⟩:=I.base.there b o e hx
      exact ⟨o',(hs.2 b (Nat.ne_of_lt (Nat.lt_of_lt_of_le (Heap.lt_size e) (I.ok.cab x c hfn hc)))).trans e1⟩
    · by_cases hj:j=i
      · subst hj
        rw [hi] at e1;cases e1
        rw [List.getElem?_set_self hiσ] at e2
        cases e2
        exact ⟨u,r,.inr ⟨.inl hk,c,hc,hc'⟩⟩
      · rw [List.getElem?_set_ne (Ne.symm hj)] at e2
        obtain ⟨u',r',q⟩:=hl j y v' e1 e2 e3
        refine ⟨u',r',?_⟩
        rcases q with q | ⟨k,c',e,z'⟩
        · exact .inl q
        · refine .inr ⟨k,c',e,z'.sameBut hs ?_⟩
          rintro rfl
          exact hj (nodup_ix hN e1 (I.ok.inj _ _ _ e hc▸hi))
    · by_cases hcc:c'=c
      · subst hcc;exact ⟨_,hc'⟩
      · obtain ⟨w2,z2⟩:=I.cell y c' e
        exact ⟨w2,z2.sameBut hs hcc⟩
    · obtain ⟨e,n,ne,nf,d⟩:=I.pin p hp
      refine ⟨(hs.2 p.1 ?_).trans e,n,ne,nf,d⟩
      intro q
      rw [q,hoc] at e
      have q':oc=p.2:=Option.some.inj e
      exact d w' (by rw [← q'];exact hocd)
theorem store_ok {M:Model} {A:Around} {E:Value→Shared→Prop} {i:Nat} {x:Str} {v:V} {u:Value} {Q:Unit→Shared→Prop} (I:Inv X pins σ H s) (hN:X.N.Nodup) (hi:X.N[i]?=some x) (hx:Loc X.env.scope x) (r:RelV v u)
    (h:∀ s',Inv X pins (σ.set i (some v)) H s'→Q () s') (hf:X.fn x=true∨X.env.scope.names.lookup x=some .local:=by first | exact .inl rfl | exact .inr rfl | assumption):wpAny M A (storeName X.env x u) Q E s :=
  store_ok2 I hN hi hx r (fun s' I' _=>h s' I') hf
theorem Inv.call' {s':Shared} {ch:List Addr} (I:Inv X pins σ H s) (ho:s'.os=s.os) (u:Un (frs X.stack) ch H H' s.heap s'.heap) (hok:HOk X.prog X.w H' s'.heap) (hg:AllBare s'.gens)
    (hch:∀ b∈ch,(b∈X.ex∨X.s₀.heap.objs.size≤b)∧b≠X.env.locals∧(∀ x c,X.env.cells.lookup x=some c→c≠b)∧∀ p∈X.pn++pins,p.1≠b):Inv X pins σ H' s':=by
  obtain ⟨h',g',d',t',o'⟩:=s'
  have e:o'=s.os:=ho
  subst e
  exact I.call (g':=g') (t':=t') (d':=d') u hok hg hch
end

abbrev XK:=Value→Option Addr→Hp→Prop
abbrev St:=List (Option V)
abbrev VK:=V→Hp→Prop
abbrev TE:=St→Hp→VK→Prop
abbrev TT:=St→Hp→(Bool→Hp→Prop)→Prop
abbrev TA:=St→Hp→(List V→Hp→Prop)→Prop
structure Ends where
  nx:St→Hp→Prop
  rt:VK
  bk:St→Hp→Prop:=fun _ _=>False
  ct:St→Hp→Prop:=fun _ _=>False
abbrev TS:=Ends→St→Hp→Prop

def EP (X:Cx) (pins:List (Addr×Obj)) (σ:St) (Q:VK) (u:Value) (s':Shared):Prop:=∃ v H',Inv X pins σ H' s'∧RelV v u∧Q v H'
def TP (X:Cx) (pins:List (Addr×Obj)) (σ:St) (Q:Bool→Hp→Prop) (b:Bool) (s':Shared):Prop:=∃ H',Inv X pins σ H' s'∧Q b H'
def AP (X:Cx) (pins:List (Addr×Obj)) (σ:St) (Q:List V→Hp→Prop) (us:List Value) (s':Shared):Prop:=∃ vs H',Inv X pins σ H' s'∧Vals vs us∧Q vs H'
def SP (X:Cx) (pins:List (Addr×Obj)) (D:Ends) (f:Flow) (s':Shared):Prop :=
  match f with
  | .next=>∃ σ' H',Inv X pins σ' H' s'∧D.nx σ' H'
  | .brk=>∃ σ' H',Inv X pins σ' H' s'∧D.bk σ' H'
  | .cont=>∃ σ' H',Inv X pins σ' H' s'∧D.ct σ' H'
  | .ret u=>∃ v σ' H',Inv X pins σ' H' s'∧RelV v u∧D.rt v H'

def PE (X:Cx) (e:Expr) (t:TE):Prop :=
  ∀ (pins:List (Addr×Obj)) (s:Shared) (σ:St) (H:Hp) (Q:VK),Inv X pins σ H s→t σ H Q→wpAny (model X.prog X.w) X.A (eval e X.env) (EP X pins σ Q) X.xe s
def PT (X:Cx) (e:Expr) (t:TT):Prop :=
  ∀ (pins:List (Addr×Obj)) (s:Shared) (σ:St) (H:Hp) (Q:Bool→Hp→Prop),Inv X pins σ H s→t σ H Q→wpAny (model X.prog X.w) X.A (isTrue e X.env (eval e X.env)) (TP X pins σ Q) X.xe s
def PW (X:Cx) (e:Expr) (t:TT):Prop :=
  ∀ (whole:Sem Value) (pins:List (Addr×Obj)) (s:Shared) (σ:St) (H:Hp) (Q:Bool→Hp→Prop),Inv X pins σ H s→t σ H Q→wpAny (model X.prog X.w) X.A (isTrue e X.env whole) (TP X pins σ Q) X.xe s
theorem PW.pt {X:Cx} {e:Expr} {t:TT} (h:PW X e t):PT X e t:=h _
def PA (X:Cx) (es:List Expr) (t:TA):Prop :=
  ∀ (pos:Pos) (pins:List (Addr×Obj)) (s:Shared) (σ:St) (H:Hp) (Q:List V→Hp→Prop),Inv X pins σ H s→t σ H Q→wpAny (model X.prog X.w) X.A (spliced (backTo pos (starEach es X.env))) (AP X pins σ Q) X.xe s
def PS (X:Cx) (st:Stmt) (t:TS):Prop :=
  ∀ (pins:List (Addr×Obj)) (s:Shared) (σ:St) (H:Hp) (D:Ends),Inv X pins σ H s→t D σ H→wpAny (model X.prog X.w) X.A (exec st X.env) (SP X pins D) X.xe s
def PSs (X:Cx) (st:List Stmt) (t:TS):Prop :=
  ∀ (pins:List (Addr×Obj)) (s:Shared) (σ:St) (H:Hp) (D:Ends),Inv X pins σ H s→t D σ H→wpAny (model X.prog X.w) X.A (execs st X.env) (SP X pins D) X.xe s
theorem thn {α:Type} {t:Sem α} {Q Q':α→Shared→Prop} {M:Model} {A:Around} {E:Value→Shared→Prop} {s:Shared} (h:wpAny M A t Q E s) (hQ:∀ a s,Q a s→Q' a s):wpAny M A t Q' E s:=wpAny_mono h hQ fun _ _ x=>x
end L2

namespace L2
open PySem PySem.Spec PyProof.Rows
section
variable {X:Cx}

def onR (x:V) (R:Addr→Prop):Prop:=match x with | .ref a=>R a | _=>False
theorem onRr {a:Addr} {R:Addr→Prop}:onR (.ref a) R=R a:=rfl
theorem onRx {x:V} {R:Addr→Prop}:onR x R=∃ a,x=.ref a∧R a:=by
  cases x<;>simp [onR]
theorem onR_ex {x:V} {R:Addr→Prop} (h:onR x R):∃ a,x=.ref a∧R a:=onRx▸h
def onB (x:V) (R:Bool→Prop):Prop:=match x with | .bl a=>R a | _=>False
theorem onBb {a:Bool} {R:Bool→Prop}:onB (.bl a) R=R a:=rfl
theorem onBx {x:V} {R:Bool→Prop}:onB x R=∃ a,x=.bl a∧R a:=by
  cases x<;>simp [onB]
theorem onB_ex {x:V} {R:Bool→Prop} (h:onB x R):∃ a,x=.bl a∧R a:=onBx▸h
theorem mapC {α β:Type _} {f:α→β} {a:α} {l:List α}:List.map f (a::l)=f a::List.map f l:=rfl
theorem mapN {α β:Type _} {f:α→β}:List.map f []=[]:=rfl
def tVar:Nat→St→Hp→VK→Prop
  | 0,some v::_,H,Q=>Q v H
  | 0,none::_,_,_=>False
  | n+1,_::r,H,Q=>tVar n r H Q
  | _,[],_,_=>False
theorem tV0 {v:V} {r:St} {H:Hp} {Q:VK}:tVar 0 (some v::r) H Q=Q v H:=rfl
theorem tVs {n:Nat} {x:Option V} {r:St} {H:Hp} {Q:VK}:tVar (n+1) (x::r) H Q=tVar n r H Q:=rfl
theorem tVar_ex:∀ {i:Nat} {σ:St} {H:Hp} {Q:VK},tVar i σ H Q→∃ v,σ[i]?=some (some v)∧Q v H
  | 0,some v::_,_,_,h=>⟨v,rfl,h⟩
  | 0,none::_,_,_,h=>h.elim
  | n+1,_::r,_,_,h=>let ⟨v,e,q⟩:=tVar_ex (i:=n) (σ:=r) h;⟨v,by simpa using e,q⟩
  | 0,[],_,_,h=>h.elim
  | _+1,[],_,_,h=>h.elim
def tC (v:V):TE:=fun _ H Q=>Q v H
theorem pe_var {i:Nat} {x:Str} {pos:Pos} (hN:X.N[i]?=some x) (hv:Vis X.env.scope x) (hd:(x == ("__debug__" : Str))=false:=by decide) (hcd:(x == ("__classdict__" : Str))=false:=by decide):PE X (.Name x pos) (tVar i):=by
  intro pins s σ H Q I h
  obtain ⟨v,e,h⟩:=tVar_ex h
  obtain ⟨m,hn,hl⟩:=I.loc
  obtain ⟨u,r,l⟩:=hl i x v hN e hv
  have fin:EP X pins σ Q u s:=⟨v,H,I,r,h⟩
  rcases l with ⟨hk,hm⟩ | ⟨hk,c,hc,hcell⟩
  · exact wpAny_Name (wpAny_loadName_local I.ok.kind hk hn hm fin) hd
  · rcases hk with hk | hk
    · exact wpAny_Name (wpAny_loadName_cell I.ok.kind hk hc hcell fin) hd
    · exact wpAny_Name (wpAny_loadName_free I.ok.kind hk hc hcell fin hcd) hd
theorem pe_int {i j pos}:PE X (.Constant (.int i) j pos) (tC (.int i)):=fun _ _ _ H _ I h=>wpAny_Constant_int ⟨.int i,H,I.tok _,⟨_,rfl⟩,h⟩
theorem pe_bl {b j pos}:PE X (.Constant (.bool b) j pos) (tC (.bl b)):=fun _ _ _ H _ I h=>Constant_bool ⟨.bl b,H,I,rfl,h⟩
theorem pe_non {j pos}:PE X (.Constant .none j pos) (tC .non):=fun _ _ _ H _ I h=>Constant_none ⟨.non,H,I,rfl,h⟩
theorem pe_str {x j pos}:PE X (.Constant (.str x) j pos) (tC (.str x)):=fun _ _ _ H _ I h=>Calls.Constant_str ⟨.str x,H,I.tok _,⟨_,rfl⟩,h⟩

def Gl (X:Cx) (x:Str):Prop:=X.env.kindOf x=some .globalImplicit
theorem ld_glob {E:Value→Shared→Prop} {pins:List (Addr×Obj)} {s:Shared} {σ:St} {H:Hp} {x:Str} {u:Value} {pos:Pos} {Q:Value→Shared→Prop} (I:Inv X pins σ H s) (hg:Gl X x) (hm:X.mg x=some u) (h:Q u s)
    (hd:(x == ("__debug__" : Str))=false:=by decide):wpAny (model X.prog X.w) X.A (eval (.Name x pos) X.env) Q E s :=
  Calls.Name_function_global I.ok.kind hg (Calls.loadGlobal_global (by rw [I.ok.glob];exact I.mod.glob.keeps I.bk) hm h) hd
theorem ld_blt {E:Value→Shared→Prop} {pins:List (Addr×Obj)} {s:Shared} {σ:St} {H:Hp} {x:Str} {u:Value} {pos:Pos} {Q:Value→Shared→Prop} (I:Inv X pins σ H s) (hg:Gl X x) (hm:X.mg x=none) (hv:bootBuiltins x=some u) (h:Q u s)
    (hn:x ≠ "__name__" := by decide) (hd:(x == ("__debug__" : Str))=false:=by decide):wpAny (model X.prog X.w) X.A (eval (.Name x pos) X.env) Q E s:=by
  obtain ⟨mb,h1,h2⟩:=I.mod.blt
  exact Calls.Name_function_global I.ok.kind hg (Calls.loadGlobal_builtin (by rw [I.ok.glob];exact I.mod.glob.keeps I.bk) hm (by rw [I.ok.blt];exact h1.keeps I.bk) ((h2 x hn).trans hv) h) hd
theorem pe_bltn {x:Str} {v:V} {u:Value} {pos:Pos} (hg:Gl X x) (hm:X.mg x=none) (hv:bootBuiltins x=some u) (r:RelV v u) (hn:x ≠ "__name__" := by decide) (hd:(x == ("__debug__" : Str))=false:=by decide):PE X (.Name x pos) (tC v) :=
  fun _ _ _ H _ I h=>ld_blt I hg hm hv ⟨v,H,I,r,h⟩ hn hd

variable {a b:Expr} {ta tb:TE} {pos:Pos}
def PC (X:Cx) (op:CmpOp) (a b:Expr) (t:TE):Prop :=
  ∀ (pins:List (Addr×Obj)) (s:Shared) (σ:St) (H:Hp) (Q:VK),Inv X pins σ H s→t σ H Q →
    wpAny (model X.prog X.w) X.A (eval a X.env) (fun v s₁=>wpAny (model X.prog X.w) X.A (eval b X.env) (fun u s₂=>wpAny (model X.prog X.w) X.A (compareOp op v u) (EP X pins σ Q) X.xe s₂) X.xe s₁) X.xe s
theorem nobehind (b:Expr) {op:CmpOp} (h:op≠.In) (h2:op≠.NotIn):behindInMarks op b=false:=by
  have e1:(op == CmpOp.In)=false:=by cases op<;>first | rfl | exact absurd rfl h
  have e2:(op == CmpOp.NotIn)=false:=by cases op<;>first | rfl | exact absurd rfl h2
  cases b<;>simp [behindInMarks,e1,e2]
def tIsN (ta:TE):TE:=fun σ H Q=>ta σ H fun x H1=>Q (.bl (decide (x=.non))) H1
def tNotN (ta:TE):TE:=fun σ H Q=>ta σ H fun x H1=>Q (.bl (!decide (x=.non))) H1
theorem RelV.none_iff {x:V} {v:Value} (r:RelV x v):(v == Value.none)=decide (x=.non):=by
  cases x with
  | non=>cases r;rfl
  | bl _=>cases r;rfl
  | int _=>obtain ⟨t,rfl⟩:=r;rfl
  | str _=>obtain ⟨t,rfl⟩:=r;rfl
  | byt _=>obtain ⟨t,rfl⟩:=r;rfl
  | flt _=>obtain ⟨t,rfl⟩:=r;rfl
  | ref _=>cases r;rfl
  | ty _=>cases r;rfl
theorem pc_isN {j pos'} (ha:PE X a ta):PC X .Is a (.Constant .none j pos') (tIsN ta):=by
  intro pins s σ H Q I h
  refine thn (ha pins s σ H _ I h) fun v s1 ⟨x,H1,I1,r1,q1⟩=>?_
  exact Constant_none (is_none_gen ⟨.bl _,H1,I1,by rw [r1.none_iff];rfl,q1⟩)
theorem pc_notN {j pos'} (ha:PE X a ta):PC X .IsNot a (.Constant .none j pos') (tNotN ta):=by
  intro pins s σ H Q I h
  refine thn (ha pins s σ H _ I h) fun v s1 ⟨x,H1,I1,r1,q1⟩=>?_
  exact Constant_none (isnot_none_gen ⟨.bl _,H1,I1,by rw [r1.none_iff];rfl,q1⟩)
def tB (t:TE):TT:=fun σ H Q=>t σ H fun x H1=>∃ c,x=.bl c∧Q c H1
theorem pe_cmp {op:CmpOp} {t:TE} (h:PC X op a b t) (h1:behindInMarks op b=false:=by first | exact nobehind _ (by decide) (by decide) | rfl):PE X (.Compare a [op] [b] pos) t:=fun pins s σ H Q I hw=>wpAny_Compare1 (h pins s σ H Q I hw) h1
theorem pt_cmp {op:CmpOp} {t:TE} (h:PC X op a b t) (h1:behindInMarks op b=false:=by first | exact nobehind _ (by decide) (by decide) | rfl):PT X (.Compare a [op] [b] pos) (tB t):=by
  intro pins s σ H Q I hw
  refine wpAny_isTrue_Compare1 (thn (h pins s σ H _ I hw) fun v s1 h1=>thn h1 fun u s2 h2=>thn h2 fun c s3 ⟨x,H1,I1,r1,q1⟩=>?_) h1
  obtain ⟨d,rfl,q⟩:=q1
  cases r1
  exact wpAny_truthy_bool ⟨H1,I1,q⟩
variable {tA tB':TT} {rest:List Expr}
def tAnd (t u:TT):TT:=fun σ H Q=>t σ H fun c H1=>if c=true then u σ H1 Q else Q false H1
def tOr (t u:TT):TT:=fun σ H Q=>t σ H fun c H1=>if c=true then Q true H1 else u σ H1 Q
def tNot (t:TT):TT:=fun σ H Q=>t σ H fun c H1=>Q (!c) H1
theorem pw_and1 (ha:PT X a tA):PW X (.BoolOp .And [a] pos) tA:=by
  intro wh pins s σ H Q I h
  refine isTrue_and (thn (ha pins s σ H Q I h) fun c s1 e=>?_)
  cases c with
  | true=>exact isTrue_and_nil e
  | false=>exact e
theorem pw_or1 (ha:PT X a tA):PW X (.BoolOp .Or [a] pos) tA:=by
  intro wh pins s σ H Q I h
  refine isTrue_or (thn (ha pins s σ H Q I h) fun c s1 e=>?_)
  cases c with
  | false=>exact isTrue_or_nil e
  | true=>exact e
theorem pw_and (ha:PT X a tA) (hb:PW X (.BoolOp .And (b::rest) pos) tB'):PW X (.BoolOp .And (a::b::rest) pos) (tAnd tA tB'):=by
  intro wh pins s σ H Q I h
  refine isTrue_and (thn (ha pins s σ H _ I h) fun c s1 ⟨H1,I1,q1⟩=>?_)
  cases c with
  | true=>exact hb wh pins s1 σ H1 Q I1 q1
  | false=>exact ⟨H1,I1,q1⟩
theorem pw_or (ha:PT X a tA) (hb:PW X (.BoolOp .Or (b::rest) pos) tB'):PW X (.BoolOp .Or (a::b::rest) pos) (tOr tA tB'):=by
  intro wh pins s σ H Q I h
  refine isTrue_or (thn (ha pins s σ H _ I h) fun c s1 ⟨H1,I1,q1⟩=>?_)
  cases c with
  | true=>exact ⟨H1,I1,q1⟩
  | false=>exact hb wh pins s1 σ H1 Q I1 q1
theorem pt_not (ha:PT X a tA):PT X (.UnaryOp .Not a pos) (tNot tA):=by
  intro pins s σ H Q I h
  exact isTrue_not (ha pins s σ H (fun c H1=>Q (!c) H1) I h)
def tAndV (ta tb:TE):TE:=fun σ H Q=>ta σ H fun x H1=>∃ c,x=.bl c∧if c=true then tb σ H1 Q else Q (.bl false) H1
def tOrV (ta tb:TE):TE:=fun σ H Q=>ta σ H fun x H1=>∃ c,x=.bl c∧if c=true then Q (.bl true) H1 else tb σ H1 Q
def tNotV (ta:TE):TE:=fun σ H Q=>ta σ H fun x H1=>∃ c,x=.bl c∧Q (.bl (!c)) H1
theorem pe_one {op} {t:TE} (h:PE X a t):PE X (.BoolOp op [a] pos) t:=fun pins s σ H Q I hw=>BoolOp_one (h pins s σ H Q I hw)
theorem pe_and (ha:PE X a ta) (hb:PE X (.BoolOp .And (b::rest) pos) tb):PE X (.BoolOp .And (a::b::rest) pos) (tAndV ta tb):=by
  intro pins s σ H Q I h
  refine BoolOp_and (thn (ha pins s σ H _ I h) fun v s1 ⟨x,H1,I1,r1,q1⟩=>?_)
  obtain ⟨c,rfl,q1⟩:=q1
  cases r1
  refine wpAny_truthy_bool ?_
  cases c with
  | true=>exact hb pins s1 σ H1 Q I1 q1
  | false=>exact ⟨.bl false,H1,I1,rfl,q1⟩
theorem pe_not (ha:PE X a ta):PE X (.UnaryOp .Not a pos) (tNotV ta):=by
  intro pins s σ H Q I h
  refine UnaryOp_ (thn (ha pins s σ H _ I h) fun v s1 ⟨x,H1,I1,r1,q1⟩=>?_)
  obtain ⟨c,rfl,q1⟩:=q1
  cases r1
  exact not_of (wpAny_truthy_bool ⟨.bl (!c),H1,I1,rfl,q1⟩)
def tIf (t:TT) (ta tb:TE):TE:=fun σ H Q=>t σ H fun c H1=>if c=true then ta σ H1 Q else tb σ H1 Q
theorem pe_ifExp {c:Expr} (hc:PT X c tA) (ha:PE X a ta) (hb:PE X b tb):PE X (.IfExp c a b pos) (tIf tA ta tb):=by
  intro pins s σ H Q I h
  refine wpAny_IfExp (thn (hc pins s σ H _ I h) fun d s1 ⟨H1,I1,q1⟩=>?_)
  cases d with
  | true=>exact ha pins s1 σ H1 Q I1 q1
  | false=>exact hb pins s1 σ H1 Q I1 q1
end
end L2

namespace L2
open PySem PySem.Spec PyProof.Rows

def SqL (K:PySem.W.Frag) (H:Hp) (a:Addr) (xs:List V):Prop :=
  Rd H a (.lst xs) ∨
    ∃ (o:Obj) (its:Array Value) (n:Nat),K.lookup a=some o∧o.cls=.type "list" ∧ o.dict=none∧o.data=.seq its n∧its.size≤sizeLine∧Vals xs its.toList
def SqT (K:PySem.W.Frag) (H:Hp) (a:Addr) (xs:List V):Prop :=
  Rd H a (.tup xs) ∨
    ∃ (o:Obj) (its:Array Value) (n:Nat),K.lookup a=some o∧o.cls=.type "tuple" ∧ o.data=.seq its n∧its.size≤sizeLine∧Vals xs its.toList
def absV:Value→Option V
  | .none=>some .non
  | .bool b=>some (.bl b)
  | .int i _=>some (.int i)
  | .str x _=>some (.str x)
  | .bytes b _=>some (.byt b)
  | .float b _=>some (.flt b)
  | .ref a=>some (.ref a)
  | .type n=>some (.ty n)
  | _=>none
theorem RelV.abs {x:V} {u:Value} (r:RelV x u):absV u=some x:=by
  cases x with
  | non=>cases r;rfl
  | bl _=>cases r;rfl
  | int _=>obtain ⟨t,rfl⟩:=r;rfl
  | str _=>obtain ⟨t,rfl⟩:=r;rfl
  | byt _=>obtain ⟨t,rfl⟩:=r;rfl
  | flt _=>obtain ⟨t,rfl⟩:=r;rfl
  | ref _=>cases r;rfl
  | ty _=>cases r;rfl
theorem RelV.inj {x y:V} {u:Value} (r:RelV x u) (q:RelV y u):x=y:=Option.some.inj (r.abs.symm.trans q.abs)
theorem Vals.inj:∀ {xs ys:List V} {us:List Value},Vals xs us→Vals ys us→xs=ys
  | _,_,_,.nil,.nil=>rfl
  | _,_,_,.cons r t,.cons r' t'=>by rw [r.inj r',Vals.inj t t']
section
variable {X:Cx} {pins:List (Addr×Obj)} {σ:St} {H:Hp} {s:Shared} {a:Addr} {xs ys:List V}
theorem SqL.of {K:PySem.W.Frag} (h:H a=some (.lst xs)):SqL K H a xs:=.inl (.inl h)
theorem SqT.of {K:PySem.W.Frag} (h:H a=some (.tup xs)):SqT K H a xs:=.inl (.inl h)
theorem Inv.list (I:Inv X pins σ H s) (h:SqL X.K H a xs):∃ its:List Value,Vals xs its∧PlainL s.heap a its.toArray∧xs.length≤sizeLine:=by
  rcases h with h | ⟨o,its,n,hk,hc,hd,hs,hz,r⟩
  · obtain ⟨z,its,n,r,e⟩:=h.ok I.hok
    exact ⟨its,r,⟨_,n,e,rfl,rfl,rfl⟩,z⟩
  · refine ⟨its.toList,r,⟨o,n,I.kIn a o hk,hc,hd,by simpa using hs⟩,?_⟩
    have e:=r.length
    simp only [Array.length_toList] at e
    omega
theorem Inv.tuple (I:Inv X pins σ H s) (h:SqT X.K H a xs):∃ its:List Value,Vals xs its∧IsTup s.heap a its.toArray∧xs.length≤sizeLine:=by
  rcases h with h | ⟨o,its,n,hk,hc,hs,hz,r⟩
  · obtain ⟨z,its,r,p⟩:=h.ok I.hok
    exact ⟨its,r,p,z⟩
  · refine ⟨its.toList,r,⟨o,I.kIn a o hk,hc,n,by simpa using hs⟩,?_⟩
    have e:=r.length
    simp only [Array.length_toList] at e
    omega
theorem Inv.list_inj (I:Inv X pins σ H s) (h:SqL X.K H a xs) (h':SqL X.K H a ys):xs=ys:=by
  obtain ⟨its,r,⟨o,n,e,_,_,d⟩,_⟩:=I.list h
  obtain ⟨its',r',⟨o',n',e',_,_,d'⟩,_⟩:=I.list h'
  rw [e] at e';cases e'
  rw [d] at d'
  injection d' with d1 _
  have:its=its':=by simpa using congrArg Array.toList d1
  subst this
  exact r.inj r'
theorem Inv.tuple_inj (I:Inv X pins σ H s) (h:SqT X.K H a xs) (h':SqT X.K H a ys):xs=ys:=by
  obtain ⟨its,r,⟨o,e,_,n,d⟩,_⟩:=I.tuple h
  obtain ⟨its',r',⟨o',e',_,n',d'⟩,_⟩:=I.tuple h'
  rw [e] at e';cases e'
  rw [d] at d'
  injection d' with d1 _
  have:its=its':=by simpa using congrArg Array.toList d1
  subst this
  exact r.inj r'
end

abbrev Cx.wish (X:Cx) (E:Value→Shared→Prop):Cx:={ X with xe:=E }
abbrev Cx.nox (X:Cx):Cx:=X.wish fun _ _=>False
theorem Cx.Ok.wish {X:Cx} (ok:X.Ok) (E:Value→Shared→Prop):(X.wish E).Ok :=
  ⟨ok.mod,ok.kind,ok.glob,ok.blt,ok.above,ok.inj,ok.has,ok.cab,ok.hd,ok.frames,ok.stk,ok.exf,ok.bs,ok.bsz,ok.noex,ok.exfs,ok.funs,ok.frf⟩
theorem Cx.Ok.unwish {X:Cx} {E:Value→Shared→Prop} (ok:(X.wish E).Ok):X.Ok :=
  ⟨ok.mod,ok.kind,ok.glob,ok.blt,ok.above,ok.inj,ok.has,ok.cab,ok.hd,ok.frames,ok.stk,ok.exf,ok.bs,ok.bsz,ok.noex,ok.exfs,ok.funs,ok.frf⟩
section
variable {X:Cx} {pins:List (Addr×Obj)} {σ:St} {H:Hp} {s:Shared} {E:Value→Shared→Prop}
theorem Inv.wish (I:Inv X pins σ H s) (E:Value→Shared→Prop):Inv (X.wish E) pins σ H s:=⟨I.ok.wish E,I.os,I.bare,I.base,I.loc,I.cell,I.free,I.freeC,I.pin,I.hok,I.len⟩
theorem Inv.unwish (I:Inv (X.wish E) pins σ H s):Inv X pins σ H s:=⟨I.ok.unwish,I.os,I.bare,I.base,I.loc,I.cell,I.free,I.freeC,I.pin,I.hok,I.len⟩
theorem SP.unwish {D:Ends} {f:Flow} {s':Shared} (h:SP (X.wish E) pins D f s'):SP X pins D f s':=by
  cases f with
  | next=>obtain ⟨σ',H',I,q⟩:=h;exact ⟨σ',H',I.unwish,q⟩
  | brk=>obtain ⟨σ',H',I,q⟩:=h;exact ⟨σ',H',I.unwish,q⟩
  | cont=>obtain ⟨σ',H',I,q⟩:=h;exact ⟨σ',H',I.unwish,q⟩
  | ret u=>obtain ⟨v,σ',H',I,r,q⟩:=h;exact ⟨v,σ',H',I.unwish,r,q⟩
theorem PE.nox {e:Expr} {t:TE} (h:PE X.nox e t):PE X e t:=fun pins s σ H Q I hw =>
  wpAny_mono (h pins s σ H Q (I.wish _) hw) (fun _ _ ⟨v,H',I',r,q⟩=>⟨v,H',I'.unwish,r,q⟩) fun _ _ z=>False.elim z
theorem PT.nox {e:Expr} {t:TT} (h:PT X.nox e t):PT X e t:=fun pins s σ H Q I hw =>
  wpAny_mono (h pins s σ H Q (I.wish _) hw) (fun _ _ ⟨H',I',q⟩=>⟨H',I'.unwish,q⟩) fun _ _ z=>False.elim z
theorem PSs.nox {st:List Stmt} {t:TS} (h:PSs X.nox st t):PSs X st t:=fun pins s σ H D I hw =>
  wpAny_mono (h pins s σ H D (I.wish _) hw) (fun _ _ q=>q.unwish) fun _ _ z=>False.elim z
end

section
variable {X:Cx} {st:Stmt} {rest:List Stmt} {t u:TS} {e:Expr} {te:TE} {pos:Pos}
def tNext:TS:=fun D σ H=>D.nx σ H
def tSeq (t u:TS):TS:=fun D σ H=>t { D with nx:=u D } σ H
theorem pss_nil:PSs X [] tNext:=fun _ _ σ H _ I h=>wpAny_execs_nil ⟨σ,H,I,h⟩
theorem pss_cons (h1:PS X st t) (h2:PSs X rest u):PSs X (st::rest) (tSeq t u):=by
  intro pins s σ H D I h
  refine wpAny_execs_cons (thn (h1 pins s σ H { D with nx:=u D } I h) fun f s1 q=>?_)
  cases f with
  | next =>
    obtain ⟨σ',H',I',q⟩:=q
    exact h2 pins s1 σ' H' D I' q
  | ret v=>exact q
  | brk=>exact q
  | cont=>exact q
theorem pss_one (h1:PS X st t):PSs X [st] t:=by
  intro pins s σ H D I h
  refine wpAny_execs_cons (thn (h1 pins s σ H D I h) fun f s1 q=>?_)
  cases f with
  | next=>exact wpAny_execs_nil q
  | ret v=>exact q
  | brk=>exact q
  | cont=>exact q
def tBreak:TS:=fun D σ H=>D.bk σ H
def tCont:TS:=fun D σ H=>D.ct σ H
theorem ps_break:PS X (.Break pos) tBreak:=fun _ _ σ H _ I h=>wpAny_Break ⟨σ,H,I,h⟩
theorem ps_continue:PS X (.Continue pos) tCont:=fun _ _ σ H _ I h=>wpAny_Continue ⟨σ,H,I,h⟩
theorem Inv.quiet {pins:List (Addr×Obj)} {σ:St} {H:Hp} {s:Shared} (I:Inv X pins σ H s):interactive X.env=false:=by simp [interactive,I.ok.kind]
def tDrop (te:TE):TS:=fun D σ H=>te σ H fun _ H1=>D.nx σ H1
theorem ps_expr (he:PE X e te) (hs:swapsWith e none pos.line X.env=pure false:=by rfl):PS X (.Expr e pos) (tDrop te):=by
  intro pins s σ H D I h
  exact wpAny_Expr_any (thn (he pins s σ H _ I h) fun v s1 ⟨x,H1,I1,r1,q1⟩=>⟨σ,H1,I1,q1⟩) I.quiet hs
def tRet (te:TE):TS:=fun D σ H=>te σ H D.rt
theorem ps_ret (he:PE X e te):PS X (.Return (some e) pos) (tRet te):=by
  intro pins s σ H D I h
  exact wpAny_Return_some (thn (he pins s σ H _ I h) fun v s1 ⟨x,H1,I1,r1,q1⟩=>⟨x,σ,H1,I1,r1,q1⟩)
def tRetN:TS:=fun D _ H=>D.rt .non H
def tIfS (c:TT) (t u:TS):TS:=fun D σ H=>c σ H fun b H1=>if b=true then t D σ H1 else u D σ H1
theorem ps_if {c:Expr} {a b:List Stmt} {tc:TT} (hc:PT X c tc) (ha:PSs X a t) (hb:PSs X b u):PS X (.If c a b pos) (tIfS tc t u):=by
  intro pins s σ H D I h
  refine wpAny_If (thn (hc pins s σ H _ I h) fun d s1 ⟨H1,I1,q1⟩=>?_)
  cases d with
  | true=>exact ha pins s1 σ H1 D I1 q1
  | false=>exact hb pins s1 σ H1 D I1 q1
end

abbrev TG:=V→St→Hp→(St→Hp→Prop)→Prop
abbrev TGs:=List V→St→Hp→(St→Hp→Prop)→Prop
def PG (X:Cx) (target:Expr) (t:TG):Prop :=
  ∀ (pins:List (Addr×Obj)) (s:Shared) (σ:St) (H:Hp) (v:V) (u:Value) (Q:St→Hp→Prop),Inv X pins σ H s→RelV v u→t v σ H Q →
    wpAny (model X.prog X.w) X.A (assign target X.env u) (fun _ s'=>∃ σ' H',Inv X pins σ' H' s'∧Q σ' H') X.xe s
def PGs (X:Cx) (ts:List Expr) (t:TGs):Prop :=
  ∀ (pins:List (Addr×Obj)) (s:Shared) (σ:St) (H:Hp) (vs:List V) (us:List Value) (Q:St→Hp→Prop),Inv X pins σ H s→Vals vs us→t vs σ H Q →
    wpAny (model X.prog X.w) X.A (assignInOrder ((assignEach ts X.env).map (·.2)) us) (fun _ s'=>∃ σ' H',Inv X pins σ' H' s'∧Q σ' H') X.xe s
abbrev TSet:=V→V→V→Hp→(Hp→Prop)→Prop
def PSet (X:Cx) (t:TSet):Prop :=
  ∀ (pins:List (Addr×Obj)) (s:Shared) (σ:St) (H:Hp) (o i v:V) (ov iv u:Value) (Q:Hp→Prop),Inv X pins σ H s→RelV o ov→RelV i iv→RelV v u→t o i v H Q →
    wpAny (model X.prog X.w) X.A (setItem ov iv u) (fun _ s'=>∃ H',Inv X pins σ H' s'∧Q H') X.xe s
section
variable {X:Cx} {pos:Pos}
def gName (i:Nat):TG:=fun v σ H Q=>Q (σ.set i (some v)) H
theorem pg_name {i:Nat} {x:Str} (hN:X.N.Nodup) (hi:X.N[i]?=some x) (hx:Loc X.env.scope x) (hf:X.fn x=true∨X.env.scope.names.lookup x=some .local:=by first | exact .inl rfl | exact .inr rfl | assumption):PG X (.Name x pos) (gName i):=by
  intro pins s σ H v u Q I r h
  exact wpAny_assign_Name (store_ok I hN hi hx r (fun s' I'=>⟨_,H,I',h⟩) hf)
def gNil:TGs:=fun vs σ H Q=>vs=[]∧Q σ H
def gCons (t:TG) (u:TGs):TGs:=fun vs σ H Q=>∃ v r,vs=v::r∧t v σ H fun σ' H'=>u r σ' H' Q
theorem pgs_nil:PGs X [] gNil:=by
  intro pins s σ H vs us Q I r h
  obtain ⟨e,h⟩:=h
  subst e
  cases r
  exact assignInOrder_nil ⟨σ,H,I,h⟩
theorem pgs_cons {e:Expr} {es:List Expr} {t:TG} {u:TGs} (h1:PG X e t) (h2:PGs X es u)
    (hs:(assignEach (e::es) X.env).map (·.2)=assign e X.env::(assignEach es X.env).map (·.2):=by rfl):PGs X (e::es) (gCons t u):=by
  intro pins s σ H vs us Q I r h
  obtain ⟨v,vr,e1,h⟩:=h
  subst e1
  cases r with
  | cons r rr =>
    rw [hs]
    refine assignInOrder_cons (thn (h1 pins s σ H _ _ _ I r h) fun _ s1 ⟨σ1,H1,I1,q1⟩=>?_)
    exact h2 pins s1 σ1 H1 _ _ Q I1 rr q1
def gTup (K:PySem.W.Frag) (n:Nat) (t:TGs):TG:=fun v σ H Q=>∃ a xs,v=.ref a∧SqT K H a xs∧xs.length=n∧t xs σ H Q
theorem pg_tup {es:List Expr} {k:Nat} {t:TGs} {n:Nat} (hc:X.calm=true) (h:PGs X es t)
    (hn:(assignEach es X.env).length=n:=by rfl) (hst:(assignEach es X.env).findIdx? (·.1)=none:=by rfl):PG X (.Tuple es k pos) (gTup X.K n t):=by
  intro pins s σ H v u Q I r hw
  obtain ⟨a,xs,e1,hq,hl,hw⟩:=hw
  subst e1
  cases r
  obtain ⟨its,rv,ht,hz⟩:=I.tuple hq
  refine assign_Tuple_tuple (I.ok.hd hc) ht (by simp [hn,← hl,rv.length]) hst fun h' hx=>?_
  have I1:Inv X pins σ H { s with heap:=h' }:=I.kept (t':=s.toks) fun b o e=>hx b o (Nat.ne_of_lt (Heap.lt_size e)) e
  exact h pins _ σ H xs _ Q I1 (by simpa using rv) hw
def gSub (to ti:TE) (t:TSet):TG:=fun v σ H Q=>to σ H fun o H1=>ti σ H1 fun i H2=>t o i v H2 fun H3=>Q σ H3
theorem pg_sub {o i:Expr} {to ti:TE} {t:TSet} (ho:PE X o to) (hi:PE X i ti) (hs:PSet X t)
    (ha:∀ v,assign (.Subscript o i pos) X.env v=(do
      let ov ← holding [v] (eval o X.env)
      let iv ← holding [v,ov] (eval i X.env)
      standAt pos
      holding [v,ov,iv] (setItem ov iv v)
      release [v,ov,iv] []):=by intro _;rfl):PG X (.Subscript o i pos) (gSub to ti t):=by
  intro pins s σ H v u Q I r h
  rw [ha]
  refine wpAny_bind (wpAny_holding (thn (ho pins s σ H _ I h) fun ov s1 ⟨x,H1,I1,r1,q1⟩=>?_))
  refine wpAny_bind (wpAny_holding (thn (hi pins s1 σ H1 _ I1 q1) fun iv s2 ⟨y,H2,I2,r2,q2⟩=>?_))
  refine wpAny_bind (wpAny_standAt (wpAny_bind (wpAny_holding (thn (hs pins s2 σ H2 x y v ov iv u _ I2 r1 r2 r q2) fun _ s3 ⟨H3,I3,q3⟩=>?_))))
  exact wpAny_release ⟨σ,H3,I3,q3⟩
def tAsg (te:TE) (g:TG):TS:=fun D σ H=>te σ H fun x H1=>g x σ H1 D.nx
theorem ps_asg {tg e:Expr} {te:TE} {g:TG} (he:PE X e te) (hg:PG X tg g) (hs:swapsWithSole [tg] e pos.line X.env=pure false:=by rfl) (hw:swappedStores [tg] e X.env=pure none:=by rfl)
    (h1:(assignEach [tg] X.env).map (·.2)=[assign tg X.env]:=by rfl):PS X (.Assign [tg] e pos) (tAsg te g):=by
  intro pins s σ H D I h
  refine wpAny_Assign_stores (thn (he pins s σ H _ I h) fun v s1 ⟨x,H1,I1,r1,q1⟩=>?_) hs hw
  rw [h1]
  exact thn (hg pins s1 σ H1 x v _ I1 r1 q1) fun _ s2 q=>q
theorem ps_set {i:Nat} {x:Str} {e:Expr} {te:TE} {pos':Pos} (hN:X.N.Nodup) (hi:X.N[i]?=some x) (hx:Loc X.env.scope x) (he:PE X e te) (hs:swapsWith e (some (.Name x pos')) pos.line X.env=pure false:=by rfl) (hf:X.fn x=true∨X.env.scope.names.lookup x=some .local:=by first | exact .inl rfl | exact .inr rfl | assumption) :
    PS X (.Assign [.Name x pos'] e pos) (tAsg te (gName i)):=by
  intro pins s σ H D I h
  refine wpAny_Assign_Name (thn (he pins s σ H _ I h) fun v s1 ⟨y,H1,I1,r1,q1⟩=>?_) hs
  exact store_ok I1 hN hi hx r1 (fun s2 I2=>⟨_,H1,I2,q1⟩) hf
end

section
variable {X:Cx} {pos:Pos}
end

structure It where
  go:Nat→Hp→Prop
  yld:Nat→Hp→V→Hp→Prop
  stop:Nat→Hp→Prop
def FpOk (X:Cx) (pins:List (Addr×Obj)) (H:Hp) (b:Addr):Prop :=
  H b=none∧b≠X.env.locals∧b∉X.fs∧(b∈X.ex∨X.s₀.heap.objs.size≤b)∧(∀ x c,X.env.cells.lookup x=some c→c≠b)∧∀ p∈X.pn++pins,p.1≠b
theorem Inv.fpOk {X:Cx} {pins:List (Addr×Obj)} {σ:St} {H H':Hp} {s:Shared} {b:Addr} (I:Inv X pins σ H s) (hb:s.heap.objs.size≤b) (hn:H' b=none):FpOk X pins H' b:=by
  refine ⟨hn,Nat.ne_of_gt (Nat.lt_of_lt_of_le I.lt hb),I.nofs hb,.inr (Nat.le_trans I.sz hb),fun x c e z=>?_,fun p hp z=>?_⟩
  · obtain ⟨v,q⟩:=I.cell x c e
    exact absurd (Nat.lt_of_lt_of_le q.lt (by rw [z];exact hb)) (Nat.lt_irrefl _)
  · exact absurd (Nat.lt_of_lt_of_le (Heap.lt_size (I.pin p hp).1) (by rw [z];exact hb)) (Nat.lt_irrefl _)
structure Turn (P:Program) (w:World) (K:PySem.W.Frag) (tg:Expr) (J:It) (fp:List Addr) (it:Addr) (tn:Nat→Heap→Prop):Prop where
  mem:it∈fp
  obj:∀ i h,tn i h→∀ b∈fp,∃ o,h.get? b=some o∧∀ v,o.data≠.cell v
  keep:∀ i h h',tn i h→(∀ b∈fp,∀ o,h.get? b=some o→h'.get? b=some o)→tn i h'
  item:∀ (X:Cx),X.prog=P→X.w=w→X.K=K→X.calm=true→∀ (i:Nat) (pins:List (Addr×Obj)) (s:Shared) (σ:St) (H:Hp) (E:Value→Shared→Prop),Inv X pins σ H s→(∀ b∈fp,FpOk X pins H b)→tn i s.heap→J.go i H →
    wpAny (model P w) X.A (pyNext (.ref it)) (fun r s1=>∃ u,r=some u ∧
      wpAny (model P w) X.A (letOwnedTupleGo tg (.ref it) u) (fun _ s2=>∃ x H',Inv X pins σ H' s2∧RelV x u∧J.yld i H x H'∧tn (i+1) s2.heap∧∀ b∈fp,H' b=none) E s1) E s
  done:∀ (X:Cx),X.prog=P→X.w=w→X.K=K→X.calm=true→∀ (i:Nat) (pins:List (Addr×Obj)) (s:Shared) (σ:St) (H:Hp) (E:Value→Shared→Prop),Inv X pins σ H s→(∀ b∈fp,FpOk X pins H b)→tn i s.heap→J.stop i H →
    wpAny (model P w) X.A (pyNext (.ref it)) (fun r s1=>r=none∧Inv X pins σ H s1) E s
  self:∀ (A:Around) (i:Nat) (s:Shared) (Q:Value→Shared→Prop) (E:Value→Shared→Prop),tn i s.heap→Q (.ref it) s→wpAny (model P w) A (pyIter (.ref it)) Q E s
abbrev TI:=St→Hp→(It→Hp→Prop)→Prop
def PIE (X:Cx) (pins:List (Addr×Obj)) (σ:St) (tg:Expr) (R:It→Hp→Prop) (itv:Value) (s2:Shared):Prop :=
  ∃ (it:Addr) (fp:List Addr) (tn:Nat→Heap→Prop) (J:It) (H':Hp),itv=.ref it∧Inv X pins σ H' s2∧Turn X.prog X.w X.K tg J fp it tn∧tn 0 s2.heap∧(∀ b∈fp,FpOk X pins H' b)∧R J H'
def PI (X:Cx) (tg iter:Expr) (wi:TI):Prop :=
  ∀ (pins:List (Addr×Obj)) (s:Shared) (σ:St) (H:Hp) (R:It→Hp→Prop),Inv X pins σ H s→wi σ H R →
    wpAny (model X.prog X.w) X.A (eval iter X.env) (fun v s1=>wpAny (model X.prog X.w) X.A (pyIter v) (PIE X pins σ tg R) X.xe s1) X.xe s

theorem go_of {M:Model} {A:Around} {E:Value→Shared→Prop} {s:Shared} {tg:Expr} {it:Addr} {u:Value} {o:Obj} {n:String} {vs:Array Value} {Q:Unit→Shared→Prop} (ho:s.heap.get? it=some o) (hc:o.cls=.type n) (hd:o.data=.fields vs)
    (hn:["enumerate", "zip", "dict_itemiterator", "dict_reverseitemiterator", "odict_iterator", "itertools.zip_longest", "itertools.pairwise"].contains n=false) (hQ:Q () s):wpAny M A (letOwnedTupleGo tg (.ref it) u) Q E s:=by
  unfold letOwnedTupleGo
  cases tg<;>first
    | exact wpAny_pure hQ
    | (cases u<;>first
        | exact wpAny_pure hQ
        | (refine wpAny_bind (wpAny_load ho ?_)
           rw [hc,hd]
           show wpAny M A (if (["enumerate", "zip", "dict_itemiterator", "dict_reverseitemiterator", "odict_iterator", "itertools.zip_longest", "itertools.pairwise"].contains n && vs[0]? == some (rawInt _))=true then _ else _) Q E s
           rw [if_neg (by intro h;rw [hn,Bool.false_and] at h;cases h)]
           exact wpAny_pure hQ))

def Itl (K:PySem.W.Frag) (a:Addr):It :=
  ⟨fun i H=>∃ xs x,SqL K H a xs∧xs[i]?=some x,fun i H x H'=>H'=H∧∀ xs,SqL K H a xs→xs[i]?=some x,fun i H=>∃ xs,SqL K H a xs∧xs.length≤i⟩
def Itt (K:PySem.W.Frag) (a:Addr):It :=
  ⟨fun i H=>∃ xs x,SqT K H a xs∧xs[i]?=some x,fun i H x H'=>H'=H∧∀ xs,SqT K H a xs→xs[i]?=some x,fun i H=>∃ xs,SqT K H a xs∧xs.length≤i⟩
def Itr (lo:Int) (n:Nat):It:=⟨fun i _=>i < n,fun i H x H'=>H'=H∧x=.int (lo+i),fun i _=>n≤i⟩
theorem turn_list {P:Program} {w:World} {K:PySem.W.Frag} {tg:Expr} (a it:Addr):Turn P w K tg (Itl K a) [it] it (fun i h=>h.IsListIter it a i) where
  mem:=by simp
  obj:=fun i h st b hb=>by
    have e:b=it:=by simpa using hb
    subst e
    obtain ⟨o,e,c,d⟩:=st
    exact ⟨o,e,fun v z=>by rw [d] at z;cases z⟩
  keep:=fun i h h' st k=>st.at fun o e=>k it (by simp) o e
  item:=by
    intro X hP hw hK hc i pins s σ H E I hf st hg
    subst hP hw hK
    obtain ⟨xs,x,hq,hx⟩:=hg
    obtain ⟨its,rv,p,hz⟩:=I.list hq
    obtain ⟨u,hu,ru⟩:=rv.get hx
    obtain ⟨f0,f1,f2,f3,f4,f5⟩:=hf it (by simp)
    refine wpAny_pyNext_list_item st p.isList (x:=u) (by simpa using hu) fun h' st' sb=>?_
    have I1:Inv X pins σ H { s with heap:=h' }:=I.turned (t':=s.toks) (fun b o hb e=>(sb.2 b hb).trans e) f0 f1 f3 f4 f5
    obtain ⟨o,e,c,d⟩:=id st'
    exact ⟨u,rfl,go_of (s:={ s with heap:=h' }) e c d (by decide) ⟨x,H,I1,ru,⟨rfl,fun ys hy=>by rw [I.list_inj hy hq];exact hx⟩,st',fun b hb=>(hf b hb).1⟩⟩
  done:=by
    intro X hP hw hK hc i pins s σ H E I hf st hg
    subst hP hw hK
    obtain ⟨xs,hq,hx⟩:=hg
    obtain ⟨its,rv,p,hz⟩:=I.list hq
    obtain ⟨f0,f1,f2,f3,f4,f5⟩:=hf it (by simp)
    have hl:=rv.length
    exact wpAny_pyNext_list_end (I.ok.hd hc) st p.isList (by simp;omega) fun h' eb=>⟨rfl,I.turned (t':=s.toks) (fun b o hb e=>eb b o hb e) f0 f1 f3 f4 f5⟩
  self:=fun _ _ _ _ _ st h=>wpAny_pyIter_listiter st h
theorem turn_tuple {P:Program} {w:World} {K:PySem.W.Frag} {tg:Expr} (a it:Addr):Turn P w K tg (Itt K a) [it] it (fun i h=>h.IsTupleIter it a i) where
  mem:=by simp
  obj:=fun i h st b hb=>by
    have e:b=it:=by simpa using hb
    subst e
    obtain ⟨o,e,c,d⟩:=st
    exact ⟨o,e,fun v z=>by rw [d] at z;cases z⟩
  keep:=fun i h h' st k=>st.at fun o e=>k it (by simp) o e
  item:=by
    intro X hP hw hK hc i pins s σ H E I hf st hg
    subst hP hw hK
    obtain ⟨xs,x,hq,hx⟩:=hg
    obtain ⟨its,rv,p,hz⟩:=I.tuple hq
    obtain ⟨u,hu,ru⟩:=rv.get hx
    obtain ⟨f0,f1,f2,f3,f4,f5⟩:=hf it (by simp)
    refine wpAny_pyNext_tuple_item st (show s.heap.IsTuple a its.toArray from p) (x:=u) (by simpa using hu) fun h' st' sb=>?_
    have I1:Inv X pins σ H { s with heap:=h' }:=I.turned (t':=s.toks) (fun b o hb e=>(sb.2 b hb).trans e) f0 f1 f3 f4 f5
    obtain ⟨o,e,c,d⟩:=id st'
    exact ⟨u,rfl,go_of (s:={ s with heap:=h' }) e c d (by decide) ⟨x,H,I1,ru,⟨rfl,fun ys hy=>by rw [I.tuple_inj hy hq];exact hx⟩,st',fun b hb=>(hf b hb).1⟩⟩
  done:=by
    intro X hP hw hK hc i pins s σ H E I hf st hg
    subst hP hw hK
    obtain ⟨xs,hq,hx⟩:=hg
    obtain ⟨its,rv,p,hz⟩:=I.tuple hq
    obtain ⟨f0,f1,f2,f3,f4,f5⟩:=hf it (by simp)
    have hl:=rv.length
    exact wpAny_pyNext_tuple_end (I.ok.hd hc) st (show s.heap.IsTuple a its.toArray from p) (by simp;omega) fun h' eb=>⟨rfl,I.turned (t':=s.toks) (fun b o hb e=>eb b o hb e) f0 f1 f3 f4 f5⟩
  self:=fun _ _ _ _ _ st h=>wpAny_pyIter_tupleiter st h
theorem turn_range {P:Program} {w:World} {K:PySem.W.Frag} {tg:Expr} (it:Addr) (lo:Int) (n:Nat):Turn P w K tg (Itr lo n) [it] it (fun i h=>IsRangeIter h it (lo+(i:Nat) * 1) ((n:Int) - (i:Nat)) 1) where
  mem:=by simp
  obj:=fun i h st b hb=>by
    have e:b=it:=by simpa using hb
    subst e
    exact ⟨_,st,fun v z=>by
      have z':Data.fields _=Data.cell v:=z
      cases z'⟩
  keep:=fun i h h' st k=>k it (by simp) _ st
  item:=by
    intro X hP hw hK hc i pins s σ H E I hf st hg
    subst hP hw hK
    obtain ⟨f0,f1,f2,f3,f4,f5⟩:=hf it (by simp)
    have W:=Walks.range (prog:=X.prog) (w:=X.w) (I.ok.hd hc) it lo 1 n
    refine W.item i s _ _ hg st fun v h' tk hv st' kk=>?_
    obtain ⟨t,rfl⟩:=hv
    have I1:Inv X pins σ H { s with heap:=h',toks:=tk }:=I.turned (fun b o hb e=>kk b o (by simpa using hb) e) f0 f1 f3 f4 f5
    refine ⟨_,rfl,go_of (s:={ s with heap:=h',toks:=tk }) (n := "range_iterator") st' rfl rfl (by decide) ⟨.int (lo+i),H,I1,⟨t,?_⟩,⟨rfl,rfl⟩,st',fun b hb=>(hf b hb).1⟩⟩
    rw [Int.mul_one]
  done:=by
    intro X hP hw hK hc i pins s σ H E I hf st hg
    subst hP hw hK
    obtain ⟨f0,f1,f2,f3,f4,f5⟩:=hf it (by simp)
    exact wpAny_pyNext_range_end (I.ok.hd hc) st (by have:n≤i:=hg;omega) fun h' eb=>⟨rfl,I.turned (t':=s.toks) (fun b o hb e=>eb b o hb e) f0 f1 f3 f4 f5⟩
  self:=fun _ _ _ _ _ st h=>wpAny_pyIter_rangeiter st h
end L2

namespace L2
open PySem PySem.Spec PyProof.Rows
section
variable {X:Cx} {tg:Expr}
theorem range_it {pins:List (Addr×Obj)} {σ:St} {H:Hp} {s:Shared} {R:It→Hp→Prop} {E:Value→Shared→Prop} {lo hi:Int} {t u v:Tok} {tk:Nat} (I:Inv X pins σ H s) (h1:-(2 ^ 62)≤lo) (h2:lo < 2 ^ 62) (h3:-(2 ^ 62)≤hi) (h4:hi < 2 ^ 62)
    (q:R (Itr lo (hi - lo).toNat) H):wpAny (model X.prog X.w) X.A (pyIter (.ref s.heap.objs.size)) (PIE X pins σ tg R) E { s with heap:=s.heap.push { cls:=.type "range",data:=.fields #[.int lo t,.int hi u,.int 1 v] },toks:=tk }:=by
  refine wpAny_pyIter_range (IsRange.new ..) (small_one h1 h2 h3 h4) ?_
  have I1:Inv X pins σ H { s with heap:=s.heap.push { cls:=.type "range",data:=.fields #[.int lo t,.int hi u,.int 1 v] },toks:=tk }:=I.kept fun b o e=>Heap.get?_push_of_some _ e
  refine ⟨(s.heap.push { cls:=.type "range",data:=.fields #[.int lo t,.int hi u,.int 1 v] }).objs.size,[(s.heap.push { cls:=.type "range",data:=.fields #[.int lo t,.int hi u,.int 1 v] }).objs.size],_,_,H,rfl,
    I1.kept (t':=tk) fun b o e=>Heap.get?_push_of_some _ e,turn_range _ lo (hi - lo).toNat,?_,fun b hb=>?_,q⟩
  · have e1:lo+((0:Nat):Int) * 1=lo:=by simp
    have e2:(((hi - lo).toNat:Nat):Int) - ((0:Nat):Int)=Builtin.Range.rangeSize lo hi 1:=by rw [rangeSize_one];split<;>omega
    show IsRangeIter _ _ (lo+((0:Nat):Int) * 1) ((((hi - lo).toNat:Nat):Int) - ((0:Nat):Int)) 1
    rw [e1,e2]
    exact Heap.get?_push_size _ rfl
  · have e:b=(s.heap.push { cls:=.type "range",data:=.fields #[.int lo t,.int hi u,.int 1 v] }).objs.size:=by simpa using hb
    subst e
    exact I1.fpOk (Nat.le_refl _) (I1.hok.fresh (Nat.le_refl _))
def iRng1 (ta:TA):TI:=fun σ H R=>ta σ H fun vs H1=>∃ j:Int,vs=[.int j]∧-(2 ^ 62)≤j∧j < 2 ^ 62∧R (Itr 0 j.toNat) H1
def iRng2 (ta:TA):TI:=fun σ H R=>ta σ H fun vs H1=>∃ i j:Int,vs=[.int i,.int j]∧(-(2 ^ 62)≤i∧i < 2 ^ 62∧-(2 ^ 62)≤j∧j < 2 ^ 62)∧R (Itr i (j - i).toNat) H1
theorem pi_range1 {a:Expr} {ta:TA} {p pos:Pos} (hg:Gl X "range") (hm:X.mg "range" = none) (ha:PA X [a] ta) (hs:starEach [a] X.env=[(false,eval a X.env)]:=by rfl):PI X tg (.Call (.Name "range" p) [a] [] pos) (iRng1 ta):=by
  intro pins s σ H R I h
  refine Call_ (ld_blt I hg hm boot_range (PyProof.Rows.callWith_type1 (thn (ha pos pins s σ H _ I h) fun us s1 ⟨vs,H1,I1,r1,q1⟩=>?_) hs rfl))
  obtain ⟨j,e,q1,q2,q⟩:=q1
  subst e
  cases r1 with
  | cons r rr =>
    cases rr
    obtain ⟨t,rfl⟩:=r
    exact call_range_1 (range_it I1 (by omega) (by omega) q1 q2 (by simpa using q))
theorem pi_range2 {a b:Expr} {ta:TA} {p pos:Pos} (hg:Gl X "range") (hm:X.mg "range" = none) (ha:PA X [a,b] ta) (hs:starEach [a,b] X.env=[(false,eval a X.env),(false,eval b X.env)]:=by rfl) (hs2:starEach [b] X.env=[(false,eval b X.env)]:=by rfl) :
    PI X tg (.Call (.Name "range" p) [a,b] [] pos) (iRng2 ta):=by
  intro pins s σ H R I h
  refine Call_ (ld_blt I hg hm boot_range (PyProof.Rows.callWith_type1 (thn (ha pos pins s σ H _ I h) fun us s1 ⟨vs,H1,I1,r1,q1⟩=>?_) (by rw [hs,hs2]) (by rw [hs2];rfl)))
  obtain ⟨i,j,e,⟨q1,q2,q3,q4⟩,q⟩:=q1
  subst e
  cases r1 with
  | cons r rr =>
    cases rr with
    | cons r' rr =>
      cases rr
      obtain ⟨t,rfl⟩:=r
      obtain ⟨t',rfl⟩:=r'
      exact call_range_2 (range_it I1 q1 q2 q3 q4 q)

def tFor (wi:TI) (g:TG) (tb:TS):TS:=fun D σ H=>wi σ H fun J H1=>∃ W:Nat→Nat→St→Hp→Prop,(∃ m,W 0 m σ H1)∧∀ i m σ H,W i m σ H →
  (J.stop i H∧D.nx σ H)∨(J.go i H∧∃ N:St→Hp→Prop,(∀ σ' H',N σ' H'→∃ m',m' < m∧W (i+1) m' σ' H')∧∀ x H',J.yld i H x H'→g x σ H' fun σ2 H2=>tb { D with nx:=N,ct:=N,bk:=D.nx } σ2 H2)
def pinsAt (fp:List Addr) (h:Heap):List (Addr×Obj):=fp.filterMap fun b=>(h.get? b).map fun o=>(b,o)
theorem mem_pinsAt {fp:List Addr} {h:Heap} {b:Addr} {o:Obj} (hb:b∈fp) (e:h.get? b=some o):(b,o)∈pinsAt fp h:=List.mem_filterMap.mpr ⟨b,hb,by rw [e];rfl⟩
theorem of_pinsAt {fp:List Addr} {h:Heap} {p:Addr×Obj} (hp:p∈pinsAt fp h):p.1∈fp∧h.get? p.1=some p.2:=by
  obtain ⟨b,hb,e⟩:=List.mem_filterMap.mp hp
  cases q:h.get? b with
  | none=>rw [q] at e;cases e
  | some o =>
    rw [q] at e
    have e':(b,o)=p:=Option.some.inj e
    subst e'
    exact ⟨hb,q⟩
theorem Inv.pinned {pins:List (Addr×Obj)} {σ:St} {H:Hp} {s:Shared} {fp:List Addr} (I:Inv X pins σ H s) (hf:∀ b∈fp,FpOk X pins H b) (ho:∀ b∈fp,∃ o,s.heap.get? b=some o∧∀ v,o.data≠.cell v):Inv X (pins++pinsAt fp s.heap) σ H s :=
  I.pins_of fun p hp=>(List.mem_append.mp hp).elim (fun z=>I.pin p (List.mem_append_right _ z)) fun z=>by
    obtain ⟨hb,e⟩:=of_pinsAt z
    obtain ⟨f0,f1,f2,_⟩:=hf p.1 hb
    obtain ⟨o,e',d⟩:=ho p.1 hb
    rw [e] at e';cases e'
    exact ⟨e,f0,f1,f2,d⟩
theorem Inv.unpinned {pins pl:List (Addr×Obj)} {σ:St} {H:Hp} {s:Shared} (I:Inv X (pins++pl) σ H s):Inv X pins σ H s:=I.pins_of fun p hp=>I.pin p (List.mem_append_right _ (List.mem_append_left _ hp))
theorem ps_for {iter:Expr} {body:List Stmt} {wi:TI} {g:TG} {tb:TS} {pos:Pos} (hp:PassesOwn (model X.prog X.w) X.A X.env X.xe) (hc:X.calm=true) (hi:PI X tg iter wi) (hg:PG X tg g) (hb:PSs X body tb)
    (hs:∀ x,foldedSetIterable iter X.env x=pure x:=by intro _;rfl):PS X (.For tg iter body [] pos) (tFor wi g tb):=by
  intro pins s σ H D I h
  refine wpAny_For (thn (hi pins s σ H _ I h) fun v s1 h1=>thn h1 fun itv s2 h2=>?_) hs
  obtain ⟨it,fp,tn,J,H2,e,I2,T,st2,f2,W,⟨m0,w0⟩,turn⟩:=h2
  subst e
  have stat:∀ {H':Hp},(∀ b∈fp,H' b=none)→∀ b∈fp,FpOk X pins H' b:=fun hn b hb=>⟨hn b hb,(f2 b hb).2⟩
  refine codeAny_forLoop_any (fun n s'=>∃ i σ' H',Inv X pins σ' H' s'∧tn i s'.heap∧(∀ b∈fp,H' b=none)∧W i n σ' H') ?_ m0 ⟨0,σ,H2,I2,st2,fun b hb=>(f2 b hb).1,w0⟩
  rintro n s3 ⟨i,σ3,H3,I3,st3,fr3,w3⟩
  rcases turn i n σ3 H3 w3 with ⟨stop,qn⟩ | ⟨go,N,hN,step⟩
  · refine wpAny_passesOwn hp (thn (T.done X rfl rfl rfl hc i pins s3 σ3 H3 X.xe I3 (stat fr3) st3 stop) fun r s4 ⟨hr,I4⟩=>?_)
    subst hr
    exact wpAny_execs_nil ⟨σ3,H3,I4,qn⟩
  · refine wpAny_passesOwn hp (thn (T.item X rfl rfl rfl hc i pins s3 σ3 H3 X.xe I3 (stat fr3) st3 go) fun r s4 ⟨u,hr,h4⟩=>?_)
    subst hr
    refine wpAny_passesOwn hp (thn h4 fun _ s5 ⟨x,H5,I5,r5,y5,st5,fr5⟩=>?_)
    have I5':=I5.pinned (stat fr5) (T.obj _ _ st5)
    refine wpAny_passesOwn hp (thn (hg _ s5 σ3 H5 x u _ I5' r5 (step x H5 y5)) fun _ s6 ⟨σ6,H6,I6,q6⟩=>?_)
    refine wpAny_passesOwn hp (thn (hb _ s6 σ6 H6 _ I6 q6) fun f s7 q7=>?_)
    have again:∀ {σ7:St} {H7:Hp},Inv X (pins++pinsAt fp s5.heap) σ7 H7 s7→N σ7 H7→∃ m,m < n∧∃ i σ' H',Inv X pins σ' H' s7∧tn i s7.heap∧(∀ b∈fp,H' b=none)∧W i m σ' H':=fun {σ7 H7} I7 n7=>by
      obtain ⟨m',hm,w7⟩:=hN σ7 H7 n7
      refine ⟨m',hm,i+1,σ7,H7,I7.unpinned,T.keep _ _ _ st5 fun b hb o e=>(I7.pin (b,o) (List.mem_append_right _ (List.mem_append_right _ (mem_pinsAt hb e)))).1,fun b hb=>?_,w7⟩
      obtain ⟨o,e,d⟩:=T.obj _ _ st5 b hb
      exact (I7.pin (b,o) (List.mem_append_right _ (List.mem_append_right _ (mem_pinsAt hb e)))).2.1
    cases f with
    | next=>obtain ⟨σ7,H7,I7,n7⟩:=q7;exact again I7 n7
    | cont=>obtain ⟨σ7,H7,I7,n7⟩:=q7;exact again I7 n7
    | brk=>obtain ⟨σ7,H7,I7,q7⟩:=q7;exact ⟨σ7,H7,I7.unpinned,q7⟩
    | ret v=>obtain ⟨x7,σ7,H7,I7,r7,q7⟩:=q7;exact ⟨x7,σ7,H7,I7.unpinned,r7,q7⟩
end

theorem for_list {K:PySem.W.Frag} {a:Addr} {xs:List V} {g:TG} {tb:TS} {D:Ends} {σ:St} {H:Hp} (Pv:Nat→St→Hp→Prop) (h0:Pv 0 σ H) (hl:∀ i σ H,i≤xs.length→Pv i σ H→SqL K H a xs)
    (hs:∀ i x σ H,xs[i]?=some x→Pv i σ H→g x σ H fun σ2 H2=>tb { D with nx:=Pv (i+1),ct:=Pv (i+1),bk:=D.nx } σ2 H2) (hd:∀ σ H,Pv xs.length σ H→D.nx σ H) :
    ∃ W:Nat→Nat→St→Hp→Prop,(∃ m,W 0 m σ H)∧∀ i m σ H,W i m σ H →
      ((Itl K a).stop i H∧D.nx σ H)∨((Itl K a).go i H∧∃ N:St→Hp→Prop,(∀ σ' H',N σ' H'→∃ m',m' < m∧W (i+1) m' σ' H')∧∀ x H',(Itl K a).yld i H x H'→g x σ H' fun σ2 H2=>tb { D with nx:=N,ct:=N,bk:=D.nx } σ2 H2):=by
  refine ⟨fun i m σ H=>m=xs.length - i∧i≤xs.length∧Pv i σ H,⟨xs.length,by simp,Nat.zero_le _,h0⟩,?_⟩
  rintro i m σ H ⟨rfl,hi,p⟩
  have q:=hl i σ H hi p
  by_cases hlt:i < xs.length
  · refine .inr ⟨⟨xs,xs[i],q,by simp [hlt]⟩,Pv (i+1),fun σ' H' p'=>⟨xs.length - (i+1),by omega,rfl,hlt,p'⟩,fun x H' y=>?_⟩
    obtain ⟨e,y⟩:=y
    subst e
    exact hs i x σ _ (y xs q) p
  · have e:i=xs.length:=by omega
    subst e
    exact .inl ⟨⟨xs,q,Nat.le_refl _⟩,hd σ H p⟩
theorem for_range {lo:Int} {n:Nat} {g:TG} {tb:TS} {D:Ends} {σ:St} {H:Hp} (Pv:Nat→St→Hp→Prop) (h0:Pv 0 σ H)
    (hs:∀ i σ H,i < n→Pv i σ H→g (.int (lo+i)) σ H fun σ2 H2=>tb { D with nx:=Pv (i+1),ct:=Pv (i+1),bk:=D.nx } σ2 H2) (hd:∀ σ H,Pv n σ H→D.nx σ H) :
    ∃ W:Nat→Nat→St→Hp→Prop,(∃ m,W 0 m σ H)∧∀ i m σ H,W i m σ H →
      ((Itr lo n).stop i H∧D.nx σ H)∨((Itr lo n).go i H∧∃ N:St→Hp→Prop,(∀ σ' H',N σ' H'→∃ m',m' < m∧W (i+1) m' σ' H')∧∀ x H',(Itr lo n).yld i H x H'→g x σ H' fun σ2 H2=>tb { D with nx:=N,ct:=N,bk:=D.nx } σ2 H2):=by
  refine ⟨fun i m σ H=>m=n - i∧i≤n∧Pv i σ H,⟨n,by simp,Nat.zero_le _,h0⟩,?_⟩
  rintro i m σ H ⟨rfl,hi,p⟩
  by_cases hlt:i < n
  · refine .inr ⟨hlt,Pv (i+1),fun σ' H' p'=>⟨n - (i+1),by omega,rfl,hlt,p'⟩,fun x H' y=>?_⟩
    obtain ⟨e,y⟩:=y
    subst e y
    exact hs i σ _ hlt p
  · have e:i=n:=by omega
    subst e
    exact .inl ⟨Nat.le_refl _,hd σ H p⟩
end L2

namespace L2
open PySem PySem.Spec PyProof.Rows

abbrev R2:=V→V→Hp→VK→Prop
def OpR (X:Cx) (f:Value→Value→Sem Value) (r:R2):Prop :=
  ∀ (pins:List (Addr×Obj)) (s:Shared) (σ:St) (H:Hp) (x y:V) (v u:Value) (Q:VK),Inv X pins σ H s→RelV x v→RelV y u→r x y H Q →
    wpAny (model X.prog X.w) X.A (f v u) (EP X pins σ Q) X.xe s
def UnR (X:Cx) (f:Value→Sem Value) (r:V→Hp→VK→Prop):Prop :=
  ∀ (pins:List (Addr×Obj)) (s:Shared) (σ:St) (H:Hp) (x:V) (v:Value) (Q:VK),Inv X pins σ H s→RelV x v→r x H Q →
    wpAny (model X.prog X.w) X.A (f v) (EP X pins σ Q) X.xe s
def CallR (X:Cx) (f:Value) (r:List V→Hp→VK→Prop):Prop :=
  ∀ (pins:List (Addr×Obj)) (s:Shared) (σ:St) (H:Hp) (xs:List V) (us:List Value) (Q:VK),Inv X pins σ H s→Vals xs us→r xs H Q →
    wpAny (model X.prog X.w) X.A (call f us) (EP X pins σ Q) X.xe s
def TruR (X:Cx) (r:V→Hp→(Bool→Hp→Prop)→Prop):Prop :=
  ∀ (pins:List (Addr×Obj)) (s:Shared) (σ:St) (H:Hp) (x:V) (v:Value) (Q:Bool→Hp→Prop),Inv X pins σ H s→RelV x v→r x H Q →
    wpAny (model X.prog X.w) X.A (truthy v) (TP X pins σ Q) X.xe s

def tOp (r:R2) (ta tb:TE):TE:=fun σ H Q=>ta σ H fun x H1=>tb σ H1 fun y H2=>r x y H2 Q
def tUn (r:V→Hp→VK→Prop) (ta:TE):TE:=fun σ H Q=>ta σ H fun x H1=>r x H1 Q
def rI (C:Int→Int→Prop) (g:Int→Int→V):R2:=fun x y H Q=>∃ i j,x=.int i∧y=.int j∧C i j∧Q (g i j) H
def rI0 (g:Int→Int→V):R2:=fun x y H Q=>∃ i j,x=.int i∧y=.int j∧Q (g i j) H
def rU (g:Int→V):V→Hp→VK→Prop:=fun x H Q=>∃ i,x=.int i∧Q (g i) H

section
variable {X:Cx} {a b c:Expr} {ta tb tc:TE} {pos:Pos}

theorem binT (ha:PE X a ta) (hb:PE X b tb) {pins:List (Addr×Obj)} {s:Shared} {σ:St} {H:Hp} {R:V→V→Hp→Prop} (I:Inv X pins σ H s)
    (h:ta σ H fun x H1=>tb σ H1 fun y H2=>R x y H2) {Q:Value→Shared→Prop} {f:Value→Value→Sem Value}
    (hf:∀ v u s2 x y H2,Inv X pins σ H2 s2→RelV x v→RelV y u→R x y H2→wpAny (model X.prog X.w) X.A (f v u) Q X.xe s2) :
    wpAny (model X.prog X.w) X.A (eval a X.env) (fun v s₁=>wpAny (model X.prog X.w) X.A (eval b X.env) (fun u s₂=>wpAny (model X.prog X.w) X.A (f v u) Q X.xe s₂) X.xe s₁) X.xe s:=by
  refine thn (ha pins s σ H _ I h) fun v s1 ⟨x,H1,I1,r1,q1⟩=>?_
  refine thn (hb pins s1 σ H1 _ I1 q1) fun u s2 ⟨y,H2,I2,r2,q2⟩=>?_
  exact hf v u s2 x y H2 I2 r1 r2 q2

theorem pe_op {op:Operator} {r:R2} (ho:OpR X (binaryOp op) r) (ha:PE X a ta) (hb:PE X b tb):PE X (.BinOp a op b pos) (tOp r ta tb):=by
  intro pins s σ H Q I h
  exact wpAny_BinOp (binT ha hb I h fun v u s2 x y H2 I2 rx ry q=>ho pins s2 σ H2 x y v u Q I2 rx ry q)
theorem pe_un {op:UnaryOp} {r:V→Hp→VK→Prop} (ho:UnR X (unaryOp op) r) (ha:PE X a ta):PE X (.UnaryOp op a pos) (tUn r ta):=by
  intro pins s σ H Q I h
  exact UnaryOp_ (thn (ha pins s σ H _ I h) fun v s1 ⟨x,H1,I1,r1,q1⟩=>ho pins s1 σ H1 x v Q I1 r1 q1)
theorem opI {f:Value→Value→Sem Value} {C:Int→Int→Prop} {g:Int→Int→Int}
    (rule:∀ (i j:Int) (t u:Tok) (s:Shared) (Q:Value→Shared→Prop) (E:Value→Shared→Prop),C i j→Q (.int (g i j) s.toks) { s with toks:=s.toks+1 }→wpAny (model X.prog X.w) X.A (f (.int i t) (.int j u)) Q E s) :
    OpR X f (rI C fun i j=>.int (g i j)):=by
  intro pins s σ H x y v u Q I rx ry h
  obtain ⟨i,j,rfl,rfl,hc,q⟩:=h
  obtain ⟨t,rfl⟩:=rx
  obtain ⟨t',rfl⟩:=ry
  exact rule i j t t' s _ _ hc ⟨.int (g i j),H,I.tok _,⟨_,rfl⟩,q⟩
theorem opI0 {f:Value→Value→Sem Value} {g:Int→Int→Int}
    (rule:∀ (i j:Int) (t u:Tok) (s:Shared) (Q:Value→Shared→Prop) (E:Value→Shared→Prop),Q (.int (g i j) s.toks) { s with toks:=s.toks+1 }→wpAny (model X.prog X.w) X.A (f (.int i t) (.int j u)) Q E s) :
    OpR X f (rI0 fun i j=>.int (g i j)):=by
  intro pins s σ H x y v u Q I rx ry h
  obtain ⟨i,j,rfl,rfl,q⟩:=h
  obtain ⟨t,rfl⟩:=rx
  obtain ⟨t',rfl⟩:=ry
  exact rule i j t t' s _ _ ⟨.int (g i j),H,I.tok _,⟨_,rfl⟩,q⟩
theorem opB0 {f:Value→Value→Sem Value} {g:Int→Int→Bool}
    (rule:∀ (i j:Int) (t u:Tok) (s:Shared) (Q:Value→Shared→Prop) (E:Value→Shared→Prop),Q (.bool (g i j)) s→wpAny (model X.prog X.w) X.A (f (.int i t) (.int j u)) Q E s) :
    OpR X f (rI0 fun i j=>.bl (g i j)):=by
  intro pins s σ H x y v u Q I rx ry h
  obtain ⟨i,j,rfl,rfl,q⟩:=h
  obtain ⟨t,rfl⟩:=rx
  obtain ⟨t',rfl⟩:=ry
  exact rule i j t t' s _ _ ⟨.bl (g i j),H,I,rfl,q⟩

def CDiv (i j:Int):Prop:=0 < j∧j < 1073741824
def CPow (i j:Int):Prop:=0≤j∧j≤1000000∧i.natAbs < 2 ^ 64
def CMul (i j:Int):Prop:=(-(2 ^ 64) < i∧i < 2 ^ 64)∨(-(2 ^ 64) < j∧j < 2 ^ 64)
theorem CMul.ok {i j:Int} (h:CMul i j):IntMulOk i j:=by
  rcases h with ⟨h1,h2⟩ | ⟨h1,h2⟩
  · exact .of_left (intBits_le_64 h1 h2)
  · exact .of_right (intBits_le_64 h1 h2)
theorem op_add:OpR X (binaryOp .Add) (rI0 fun i j=>.int (i+j)):=opI0 fun _ _ _ _ _ _ _ q=>add_int q
theorem op_sub:OpR X (binaryOp .Sub) (rI0 fun i j=>.int (i - j)):=opI0 fun _ _ _ _ _ _ _ q=>sub_int q
theorem op_mul:OpR X (binaryOp .Mult) (rI CMul fun i j=>.int (i * j)):=opI fun _ _ _ _ _ _ _ hc q=>mul_int q hc.ok
theorem op_fdiv:OpR X (binaryOp .FloorDiv) (rI CDiv fun i j=>.int (i / j)):=opI fun i j _ _ _ _ _ hc q=>by
  have h1:(0:Int) < j:=hc.1
  have h2:j < 1073741824:=hc.2
  exact floordiv_int (by omega) (by rw [Int.fdiv_eq_ediv_of_nonneg i (by omega)];exact q) (.inl (PyProof.noPylong_small (by omega)))
theorem op_mod:OpR X (binaryOp .Mod) (rI (fun _ j=>0 < j) fun i j=>.int (i % j)):=opI fun i j _ _ _ _ _ hc q=>by
  have h1:(0:Int) < j:=hc
  exact mod_int' (by omega) (by rw [Int.fmod_eq_emod_of_nonneg i (by omega)];exact q)
theorem unI {f:Value→Sem Value} {g:Int→Int}
    (rule:∀ (i:Int) (t:Tok) (s:Shared) (Q:Value→Shared→Prop) (E:Value→Shared→Prop),Q (.int (g i) s.toks) { s with toks:=s.toks+1 }→wpAny (model X.prog X.w) X.A (f (.int i t)) Q E s) :
    UnR X f (rU fun i=>.int (g i)):=by
  intro pins s σ H x v Q I rx h
  obtain ⟨i,rfl,q⟩:=h
  obtain ⟨t,rfl⟩:=rx
  exact rule i t s _ _ ⟨.int (g i),H,I.tok _,⟨_,rfl⟩,q⟩
theorem un_neg:UnR X (unaryOp .USub) (rU fun i=>.int (-i)):=unI fun _ _ _ _ _ q=>neg_int q
end

def scal:V→V→Bool
  | .non,.non=>true | .non,.int _=>true | .int _,.non=>true | .non,.bl _=>true | .bl _,.non=>true | .non,.str _=>true | .str _,.non=>true
  | .int _,.int _=>true | .bl _,.bl _=>true | .str _,.str _=>true | .byt _,.byt _=>true
  | .int _,.str _=>true | .str _,.int _=>true | .bl _,.str _=>true | .str _,.bl _=>true
  | _,_=>false
def rEq:R2:=fun x y H Q=>scal x y=true∧Q (.bl (decide (x=y))) H
def rNe:R2:=fun x y H Q=>scal x y=true∧Q (.bl (!decide (x=y))) H

theorem dec_int {i j:Int}:decide (V.int i=V.int j)=(i == j):=by
  rw [Bool.eq_iff_iff]
  simp
theorem dec_bl {i j:Bool}:decide (V.bl i=V.bl j)=(i == j):=by
  rw [Bool.eq_iff_iff]
  simp
theorem dec_str {i j:Str}:decide (V.str i=V.str j)=(i == j):=by
  rw [Bool.eq_iff_iff]
  simp
theorem dec_byt {i j:Array UInt8}:decide (V.byt i=V.byt j)=(i.toList == j.toList):=by
  rw [Bool.eq_iff_iff]
  cases i
  cases j
  simp

section
variable {X:Cx} {a b c:Expr} {ta tb tc:TE} {pos:Pos}
theorem fin_bl {pins:List (Addr×Obj)} {σ:St} {H:Hp} {s:Shared} {Q:VK} {k k':Bool} (I:Inv X pins σ H s) (q:Q (.bl k) H) (e:k=k'):EP X pins σ Q (.bool k') s:=by
  subst e
  exact ⟨.bl k,H,I,rfl,q⟩
theorem op_eq:OpR X (compareOp .Eq) rEq:=by
  intro pins s σ H x y v u Q I rx ry h
  obtain ⟨hs,q⟩:=h
  cases x with
  | non =>
    cases rx
    cases y with
    | non=>cases ry;exact PySem.EqNone.eq_none_none (fin_bl I q (by simp))
    | bl j=>cases ry;exact PySem.EqNone.eq_none_bool (fin_bl I q (by simp))
    | int j=>obtain ⟨t',rfl⟩:=ry;exact PySem.EqNone.eq_none_int (fin_bl I q (by simp))
    | str j=>obtain ⟨t',rfl⟩:=ry;exact PySem.EqNone.eq_none_str (fin_bl I q (by simp))
    | _=>exact absurd (show false=true from hs) Bool.false_ne_true
  | bl i =>
    cases rx
    cases y with
    | non=>cases ry;exact PySem.EqNone.eq_bool_none (fin_bl I q (by simp))
    | bl j=>cases ry;exact eq_bool (fin_bl I q dec_bl)
    | str j=>obtain ⟨t',rfl⟩:=ry;exact PySem.EqMixed.eq_bool_str (fin_bl I q (by simp))
    | _=>exact absurd (show false=true from hs) Bool.false_ne_true
  | int i =>
    obtain ⟨t,rfl⟩:=rx
    cases y with
    | non=>cases ry;exact PySem.EqNone.eq_int_none (fin_bl I q (by simp))
    | int j=>obtain ⟨t',rfl⟩:=ry;exact eq_int (fin_bl I q dec_int)
    | str j=>obtain ⟨t',rfl⟩:=ry;exact PySem.EqMixed.eq_int_str (fin_bl I q (by simp))
    | _=>exact absurd (show false=true from hs) Bool.false_ne_true
  | str i =>
    obtain ⟨t,rfl⟩:=rx
    cases y with
    | non=>cases ry;exact PySem.EqNone.eq_str_none (fin_bl I q (by simp))
    | bl j=>cases ry;exact PySem.EqMixed.eq_str_bool (fin_bl I q (by simp))
    | int j=>obtain ⟨t',rfl⟩:=ry;exact PySem.EqMixed.eq_str_int (fin_bl I q (by simp))
    | str j=>obtain ⟨t',rfl⟩:=ry;exact eq_str (fin_bl I q dec_str)
    | _=>exact absurd (show false=true from hs) Bool.false_ne_true
  | byt i =>
    obtain ⟨t,rfl⟩:=rx
    cases y with
    | byt j=>obtain ⟨t',rfl⟩:=ry;exact PySem.W.eq_bytes (fin_bl I q dec_byt)
    | _=>exact absurd (show false=true from hs) Bool.false_ne_true
  | _=>cases y<;>exact absurd (show false=true from hs) Bool.false_ne_true
theorem op_ne:OpR X (compareOp .NotEq) rNe:=by
  intro pins s σ H x y v u Q I rx ry h
  obtain ⟨hs,q⟩:=h
  cases x with
  | non =>
    cases rx
    cases y with
    | non=>cases ry;exact PySem.EqNone.ne_none_none (fin_bl I q (by simp))
    | bl j=>cases ry;exact PySem.EqNone.ne_none_bool (fin_bl I q (by simp))
    | int j=>obtain ⟨t',rfl⟩:=ry;exact PySem.EqNone.ne_none_int (fin_bl I q (by simp))
    | str j=>obtain ⟨t',rfl⟩:=ry;exact PySem.EqNone.ne_none_str (fin_bl I q (by simp))
    | _=>exact absurd (show false=true from hs) Bool.false_ne_true
  | bl i =>
    cases rx
    cases y with
    | non=>cases ry;exact PySem.EqNone.ne_bool_none (fin_bl I q (by simp))
    | bl j=>cases ry;exact ne_bool (fin_bl I q (congrArg not dec_bl))
    | str j=>obtain ⟨t',rfl⟩:=ry;exact PySem.EqMixed.ne_bool_str (fin_bl I q (by simp))
    | _=>exact absurd (show false=true from hs) Bool.false_ne_true
  | int i =>
    obtain ⟨t,rfl⟩:=rx
    cases y with
    | non=>cases ry;exact PySem.EqNone.ne_int_none (fin_bl I q (by simp))
    | int j=>obtain ⟨t',rfl⟩:=ry;exact ne_int (fin_bl I q (congrArg not dec_int))
    | str j=>obtain ⟨t',rfl⟩:=ry;exact PySem.EqMixed.ne_int_str (fin_bl I q (by simp))
    | _=>exact absurd (show false=true from hs) Bool.false_ne_true
  | str i =>
    obtain ⟨t,rfl⟩:=rx
    cases y with
    | non=>cases ry;exact PySem.EqNone.ne_str_none (fin_bl I q (by simp))
    | bl j=>cases ry;exact PySem.EqMixed.ne_str_bool (fin_bl I q (by simp))
    | int j=>obtain ⟨t',rfl⟩:=ry;exact PySem.EqMixed.ne_str_int (fin_bl I q (by simp))
    | str j=>obtain ⟨t',rfl⟩:=ry;exact ne_str (fin_bl I q (congrArg not dec_str))
    | _=>exact absurd (show false=true from hs) Bool.false_ne_true
  | byt i =>
    obtain ⟨t,rfl⟩:=rx
    cases y with
    | byt j=>obtain ⟨t',rfl⟩:=ry;exact PySem.W.ne_bytes (fin_bl I q (congrArg not dec_byt))
    | _=>exact absurd (show false=true from hs) Bool.false_ne_true
  | _=>cases y<;>exact absurd (show false=true from hs) Bool.false_ne_true

theorem op_lt:OpR X (compareOp .Lt) (rI0 fun i j=>.bl (decide (i < j))):=opB0 fun _ _ _ _ _ _ _ q=>lt_int q
theorem op_le:OpR X (compareOp .LtE) (rI0 fun i j=>.bl (decide (i≤j))):=opB0 fun _ _ _ _ _ _ _ q=>le_int q
theorem op_gt:OpR X (compareOp .Gt) (rI0 fun i j=>.bl (decide (j < i))):=opB0 fun _ _ _ _ _ _ _ q=>gt_int q
theorem op_ge:OpR X (compareOp .GtE) (rI0 fun i j=>.bl (decide (j≤i))):=opB0 fun _ _ _ _ _ _ _ q=>ge_int q
theorem op_in_str:OpR X (compareOp .In) (fun x y H Q=>∃ i j,x=.str i∧y=.str j∧Q (.bl (!(Builtin.Str.occurrences j i 0 j.length 1).isEmpty)) H):=by
  intro pins s σ H x y v u Q I rx ry h
  obtain ⟨i,j,rfl,rfl,q⟩:=h
  obtain ⟨t,rfl⟩:=rx
  obtain ⟨t',rfl⟩:=ry
  exact in_str (fin_bl I q rfl)

theorem OpR.or {f:Value→Value→Sem Value} {r r':R2} (h:OpR X f r) (h':OpR X f r'):OpR X f (fun x y H Q=>r x y H Q∨r' x y H Q):=by
  intro pins s σ H x y v u Q I rx ry q
  rcases q with q | q
  · exact h pins s σ H x y v u Q I rx ry q
  · exact h' pins s σ H x y v u Q I rx ry q

theorem nomark (b:Expr) {op:CmpOp} (h:op≠.In:=by decide) (h2:op≠.NotIn:=by decide):behindInMarks op b=false:=by
  have e1:(op == CmpOp.In)=false:=by cases op<;>first | rfl | exact absurd rfl h
  have e2:(op == CmpOp.NotIn)=false:=by cases op<;>first | rfl | exact absurd rfl h2
  cases b<;>simp [behindInMarks,e1,e2]
theorem pe_cmpR {op:CmpOp} {r:R2} (ho:OpR X (compareOp op) r) (ha:PE X a ta) (hb:PE X b tb) (hm:behindInMarks op b=false):PE X (.Compare a [op] [b] pos) (tOp r ta tb):=by
  intro pins s σ H Q I h
  exact wpAny_Compare1 (binT ha hb I h fun v u s2 x y H2 I2 rx ry q=>ho pins s2 σ H2 x y v u Q I2 rx ry q) hm
def tTest (t:TE):TT:=fun σ H Q=>t σ H fun x H'=>onB x fun k=>Q k H'
theorem pt_cmpR {op:CmpOp} {r:R2} (ho:OpR X (compareOp op) r) (ha:PE X a ta) (hb:PE X b tb) (hm:behindInMarks op b=false):PT X (.Compare a [op] [b] pos) (tTest (tOp r ta tb)):=by
  intro pins s σ H Q I h
  refine wpAny_isTrue_Compare1 (thn (ha pins s σ H _ I h) fun v s1 ⟨x,H1,I1,r1,q1⟩=>thn (hb pins s1 σ H1 _ I1 q1) fun u s2 ⟨y,H2,I2,r2,q2⟩ =>
    thn (ho pins s2 σ H2 x y v u _ I2 r1 r2 q2) fun c s3 ⟨z,H3,I3,r3,q0⟩=>?_) hm
  obtain ⟨k,e,q3⟩:=onB_ex q0
  subst e
  cases r3
  exact wpAny_truthy_bool ⟨H3,I3,q3⟩
def tChain (r r':R2) (ta tb tc:TE):TE:=fun σ H Q=>ta σ H fun x H1=>tb σ H1 fun y H2=>r x y H2 fun z H3=>onB z fun k =>
  (if k=true then tc σ H3 fun w' H4=>r' y w' H4 Q else Q (.bl false) H3)
theorem pt_chain {op op':CmpOp} {r r':R2} (ho:OpR X (compareOp op) r) (ho':OpR X (compareOp op') r') (ha:PE X a ta) (hb:PE X b tb) (hc:PE X c tc)
    (hm:lastMarks [op,op'] [b,c]=false:=by with_unfolding_all rfl):PT X (.Compare a [op,op'] [b,c] pos) (tTest (tChain r r' ta tb tc)):=by
  intro pins s σ H Q I h
  refine isTrue_chain (thn (ha pins s σ H _ I h) fun v s1 ⟨x,H1,I1,r1,q1⟩=>test_link (thn (hb pins s1 σ H1 _ I1 q1) fun u s2 ⟨y,H2,I2,r2,q2⟩ =>
    thn (ho pins s2 σ H2 x y v u _ I2 r1 r2 q2) fun d s3 ⟨z,H3,I3,r3,q0⟩=>?_)) hm
  obtain ⟨k,e,q3⟩:=onB_ex q0
  subst e
  cases r3
  refine wpAny_truthy_bool ?_
  cases k with
  | false =>
    obtain ⟨k',e',q'⟩:=onB_ex (x:=.bl false) (R:=fun k=>Q k H3) q3
    cases e'
    exact ite_ff ⟨H3,I3,q'⟩
  | true =>
    refine ite_tt (test_last (thn (hc pins s3 σ H3 _ I3 q3) fun w' s4 ⟨z',H4,I4,r4,q4⟩=>thn (ho' pins s4 σ H4 y z' u w' _ I4 r2 r4 q4) fun d' s5 ⟨z2,H5,I5,r5,q0⟩=>?_))
    obtain ⟨k2,e2,q5⟩:=onB_ex q0
    subst e2
    cases r5
    exact wpAny_truthy_bool ⟨H5,I5,q5⟩

def TruV (K:PySem.W.Frag) (x:V) (H:Hp) (k:Bool):Prop :=
  match x with
  | .non=>k=false
  | .bl b=>k=b
  | .int i=>k=(i != 0)
  | .str y=>y.length≤sizeLine∧k=((y.length:Int) != 0)
  | .byt y=>y.size≤sizeLine∧k=((y.size:Int) != 0)
  | .ref p=>(∃ xs,SqL K H p xs∧k=!xs.isEmpty)∨(∃ xs,SqT K H p xs∧k=!xs.isEmpty)∨∃ kvs,H p=some (.dK kvs)∧k=!kvs.isEmpty
  | _=>False
theorem isEmpty_kv {κ:Type} {kvs:List (κ×V)} {vs:List (κ×Value)} (r:KV kvs vs):(!vs.isEmpty)=!kvs.isEmpty:=by
  cases r<;>rfl
theorem isEmpty_of {xs:List V} {its:List Value} (r:Vals xs its):(!its.toArray.isEmpty)=!xs.isEmpty:=by
  cases r<;>simp
theorem line63:(sizeLine:Nat) < 2 ^ 63:=by rw [sizeLine_eq];decide
theorem tru_ok:TruR X (fun x H Q=>∃ k,TruV X.K x H k∧Q k H):=by
  intro pins s σ H x v Q I rx h
  obtain ⟨k,e,q⟩:=h
  have hl:=line63
  have hs:sizeLine=16777216:=sizeLine_eq
  cases x with
  | non =>
    cases rx
    have e':k=false:=e
    subst e'
    exact truthy_none ⟨H,I,q⟩
  | bl b =>
    cases rx
    have e':k=b:=e
    subst e'
    exact wpAny_truthy_bool ⟨H,I,q⟩
  | int i =>
    obtain ⟨t,rfl⟩:=rx
    have e':k=(i != 0):=e
    subst e'
    exact PySem.P.truthy_int ⟨H,I,q⟩
  | str y =>
    obtain ⟨t,rfl⟩:=rx
    obtain ⟨hy,e'⟩:y.length≤sizeLine∧k=((y.length:Int) != 0):=e
    subst e'
    exact PySem.P.truthy_str (by omega) ⟨H,I.tok _,q⟩
  | byt y =>
    obtain ⟨t,rfl⟩:=rx
    obtain ⟨hy,e'⟩:y.size≤sizeLine∧k=((y.size:Int) != 0):=e
    subst e'
    exact PySem.W.truthy_bytes (by omega) ⟨H,I.tok _,q⟩
  | ref p =>
    cases rx
    have e':(∃ xs,SqL X.K H p xs∧k=!xs.isEmpty)∨(∃ xs,SqT X.K H p xs∧k=!xs.isEmpty)∨∃ kvs,H p=some (.dK kvs)∧k=!kvs.isEmpty:=e
    rcases e' with ⟨xs,hx,e'⟩ | ⟨xs,hx,e'⟩ | ⟨kvs,hx,e'⟩
    · subst e'
      obtain ⟨its,r,pl,hz⟩:=I.list hx
      have hlen:=r.length
      exact wpAny_truthy_list pl.isList (by simp only [List.size_toArray];omega) ⟨H,I.tok _,by rw [isEmpty_of r];exact q⟩
    · subst e'
      obtain ⟨its,r,pl,hz⟩:=I.tuple hx
      have hlen:=r.length
      exact truthy_tuple pl (by simp only [List.size_toArray];omega) ⟨H,I.tok _,by rw [isEmpty_of r];exact q⟩
    · subst e'
      obtain ⟨hz,hS,vs,r,m⟩:kvs.length≤sizeLine∧(p == sysModules)=false∧∃ vs,KV kvs vs∧s.heap.DictOf (mixKind X.prog X.w) p vs:=I.hok p _ hx
      have hlen:kvs.length=vs.length:=Paired.length r
      exact wpAny_truthy_dict hS m (by omega) ⟨H,I.tok _,by rw [isEmpty_kv r];exact q⟩
  | _=>exact (show False from e).elim
theorem pt_truth (ha:PE X a ta) (he:∀ whole,isTrue a X.env whole=(do let v ← whole;standAt a.pos;holding [v] (truthy v))) :
    PT X a (fun σ H Q=>ta σ H fun x H'=>∃ k,TruV X.K x H' k∧Q k H'):=by
  intro pins s σ H Q I h
  exact isTrue_plain (thn (ha pins s σ H _ I h) fun v s1 ⟨x,H1,I1,r1,q1⟩=>tru_ok pins s1 σ H1 x v Q I1 r1 q1) (he _)

theorem op_add_str:OpR X (binaryOp .Add) (fun x y H Q=>∃ i j,x=.str i∧y=.str j∧i.length+j.length≤sizeLine∧Q (.str (i++j)) H):=by
  intro pins s σ H x y v u Q I rx ry h
  obtain ⟨i,j,rfl,rfl,hz,q⟩:=h
  obtain ⟨t,rfl⟩:=rx
  obtain ⟨t',rfl⟩:=ry
  exact add_str (fun t' tk=>⟨.str (i++j),H,I.tok _,⟨_,rfl⟩,q⟩) hz
theorem vals1 {x:V} {us:List Value} (r:Vals [x] us):∃ u,us=[u]∧RelV x u:=by
  cases r with
  | cons r1 r2=>cases r2;exact ⟨_,rfl,r1⟩
theorem vals2 {x y:V} {us:List Value} (r:Vals [x,y] us):∃ u w',us=[u,w']∧RelV x u∧RelV y w':=by
  cases r with
  | cons r1 r2 =>
    cases r2 with
    | cons r3 r4=>cases r4;exact ⟨_,_,rfl,r1,r3⟩
theorem call_max2 (hc:X.calm=true):CallR X (.builtin "max") (fun xs H Q=>∃ i j,xs=[.int i,.int j]∧Q (.int (if j > i then j else i)) H):=by
  intro pins s σ H xs us Q I r h
  obtain ⟨i,j,rfl,q⟩:=h
  obtain ⟨u,w',rfl,⟨t,rfl⟩,⟨t',rfl⟩⟩:=vals2 r
  refine max_two_ints (I.ok.hd hc) fun h' tk k=>⟨_,H,I.kept k,?_,q⟩
  by_cases hj:j > i
  · rw [if_pos hj,if_pos hj];exact ⟨_,rfl⟩
  · rw [if_neg hj,if_neg hj];exact ⟨_,rfl⟩
theorem call_min2 (hc:X.calm=true):CallR X (.builtin "min") (fun xs H Q=>∃ i j,xs=[.int i,.int j]∧Q (.int (if j < i then j else i)) H):=by
  intro pins s σ H xs us Q I r h
  obtain ⟨i,j,rfl,q⟩:=h
  obtain ⟨u,w',rfl,⟨t,rfl⟩,⟨t',rfl⟩⟩:=vals2 r
  refine min_two_ints (I.ok.hd hc) fun h' tk k=>⟨_,H,I.kept k,?_,q⟩
  by_cases hj:j < i
  · rw [if_pos hj,if_pos hj];exact ⟨_,rfl⟩
  · rw [if_neg hj,if_neg hj];exact ⟨_,rfl⟩
theorem call_int1:CallR X (.type "int") (fun xs H Q=>(∃ i,xs=[.int i]∧Q (.int i) H)∨∃ k,xs=[.bl k]∧Q (.int (if k then 1 else 0)) H):=by
  intro pins s σ H xs us Q I r h
  rcases h with ⟨i,rfl,q⟩ | ⟨k,rfl,q⟩
  · obtain ⟨u,rfl,t,rfl⟩:=vals1 r
    exact call_int_int ⟨.int i,H,I,⟨_,rfl⟩,q⟩
  · obtain ⟨u,rfl,r1⟩:=vals1 r
    cases r1
    exact call_int_bool ⟨.int (if k then 1 else 0),H,I.tok _,⟨_,rfl⟩,q⟩
theorem call_str_int:CallR X (.type "str") (fun xs H Q=>∃ i,xs=[.int i]∧i.natAbs.log2 < 1920∧Q (.str (toString i)) H):=by
  intro pins s σ H xs us Q I r h
  obtain ⟨i,rfl,hz,q⟩:=h
  obtain ⟨u,rfl,t,rfl⟩:=vals1 r
  exact PySem.P.str_of_int hz ⟨.str _,H,I.tok _,⟨_,rfl⟩,q⟩
end
end L2

namespace L2
open PySem PySem.Spec PyProof.Rows

structure ObjM (h:Heap) (x dx C:Addr) (mA:Str→Option Value):Prop where
  obj:h.get? x=some (PySem.W.instObj C dx)
  ns:h.Ns1 dx mA
  ne:dx≠x

theorem lookIn_ns {h:Heap} {dx:Addr} {mA:Str→Option Value} (n:h.Ns1 dx mA):∃ od,h.get? dx=some od∧∀ name,PySem.W.lookIn name od=some (mA name):=by
  obtain ⟨o,es,ep,ho,hd,hk,_,hm⟩:=n
  refine ⟨o,ho,fun name=>?_⟩
  have e:=hm name
  unfold nsFind findBy at e
  rw [← Array.find?_toList] at e
  unfold PySem.W.lookIn
  rw [hd]
  dsimp only
  split
  · rename_i y q
    rw [q] at e
    exact congrArg some e
  · rename_i q
    rw [q] at e
    have a:es.toList.any (·.refKey)=false:=by
      rw [List.any_eq_false]
      intro y hy
      obtain ⟨z,t,hkey⟩:=hk y (Array.mem_toList_iff.mp hy)
      simp [DictEntry.refKey,hkey]
    have a':¬ es.toList.any (·.refKey)=true:=by rw [a];exact Bool.false_ne_true
    rw [if_neg a']
    exact congrArg some e

theorem ObjM.look {h:Heap} {x dx C:Addr} {mA:Str→Option Value} (I:ObjM h x dx C mA):∃ od,PySem.W.InstAt h x (PySem.W.instObj C dx) C (some od)∧∀ name,PySem.W.lookIn name od=some (mA name) :=
  let ⟨od,ho,hl⟩:=lookIn_ns I.ns
  ⟨od,⟨I.obj,rfl,rfl,ho⟩,hl⟩

section
variable {prog:Program} {w:World} {A:Around} {E:Value→Shared→Prop} {s:Shared} {K:PySem.W.Frag} {x dx C f:Addr} {mA:Str→Option Value} {name:Str} {v:Value}

theorem get_map {expr:Bool} {Q:Value→Shared→Prop} (X:K.In s.heap) (I:ObjM s.heap x dx C mA) (hg:PySem.W.plainGet K C name=true) (hh:PySem.W.hasDictIn K C=true)
    (ha:PySem.W.findIn K (.ref C) name=some none) (hv:mA name=some v) (hv':PySem.W.handedIn v=true) (h:Q v { s with toks:=s.toks+1 }) :
    wpAny (model prog w) A (getAttr (.ref x) name expr) Q E s:=by
  obtain ⟨od,J,hl⟩:=I.look
  exact PySem.W.get_value X J (PySem.W.plainGet_of hg).1 (PySem.W.findObj_own hh ha rfl (by rw [hl,hv])) hv' h

theorem get_meth {pl:Sem Bool} {Q:Value×List Value→Shared→Prop} (X:K.In s.heap) (I:ObjM s.heap x dx C mA) (hg:PySem.W.plainGet K C name=true)
    (hf:PySem.W.findIn K (.ref C) name=some (some (.ref f))) (ht:PySem.W.isFn K (.ref f)=true) (hv:mA name=none) (h:Q (.ref f,[.ref x]) s) :
    wpAny (model prog w) A (getMethod (.ref x) name pl) Q E s:=by
  obtain ⟨od,J,hl⟩:=I.look
  exact PySem.W.method_fn X J (PySem.W.plainGet_of hg).1 (PySem.W.plainGet_of hg).2 hf (beq_iff_eq.mp ht) (by show (PySem.W.lookIn name od).map (·.isSome)=some false;rw [hl,hv];rfl) h

theorem set_map {ns:List Str} {Q:Unit→Shared→Prop} (X:K.In s.heap) (I:ObjM s.heap x dx C mA)
    (hs:PySem.W.findIn K (.ref C) "__setattr__" = some (some (.builtin "object.__setattr__"))) (hp:PySem.W.plainOver K C=true) (ht:PySem.W.takerIn K C name=some none) (hh:PySem.W.hasDictIn K C=true)
    (hw:PySem.Within mA ns) (hsz:ns.length≤sizeLine)
    (h:∀ h',ObjM h' x dx C (fun y=>if y=name then some v else mA y)→Heap.SameBut dx s.heap h'→Q () { s with heap:=h',toks:=s.toks+2 }) :
    wpAny (model prog w) A (setAttr (.ref x) name v) Q E s:=by
  obtain ⟨od,J,hl⟩:=I.look
  refine PySem.W.set_plain X J hs (PySem.W.osa_open (s:={ s with toks:=s.toks+1 }) (r:=none) X J hp ht fun b=>?_)
  obtain ⟨cd,hc,hd'⟩:=PySem.W.any_some hh
  have hx:s.heap.get? x=some ⟨.ref C,some dx,.plain,#[]⟩:=I.obj
  refine wpAny_bind (wpAny_pure (wpAny_bind (wpAny_bind (wpAny_loadPart hx (wpAny_bind (PySem.W.Looks.here (s:={ s with toks:=s.toks+1 }) (PySem.W.looks_clsIn X hc) ?_))))))
  rw [hd']
  refine wpAny_pure (a:=some dx) (wpAny_bind (wpAny_pure (wpAny_bind ?_)))
  refine wpAny_nsSet1 (s:={ s with toks:=s.toks+1 }) I.ns fun h' hn2 hs2=>?_
  obtain ⟨oD,esD,epD,hoD,hdD,hcD⟩:=hn2.count (PySem.Within.cons name v hw)
  refine wpAny_bind (wpAny_lookBehind hoD (by rw [hdD];exact pastItsLine_dict (Nat.le_trans hcD (by rw [List.length_cons];omega))) ?_)
  exact wpAny_pure (h _ ⟨(hs2.2 _ (Ne.symm I.ne)).trans I.obj,hn2,I.ne⟩ hs2)

theorem make_map {R:Result→Shared→Prop} {vs:List Value} {kw:List (Str×Value)} (X:K.In s.heap) (hm:PySem.W.makesIn K C=true)
    (hi:PySem.W.findIn K (.ref C) "__init__" = some (some (.ref f))) (hf:PySem.W.typeIn K (.ref f)=some (.type "function"))
    (h:codeAny (model prog w) (A.under (.builtin "type.__call__" ⟨.ref C::vs,kw⟩)) (.call (.ref f) ⟨.ref (s.heap.objs.size+1)::vs,kw⟩) (PySem.W.InitBack (s.heap.objs.size+1) R)
      { s with heap:=(s.heap.push PySem.W.emptyDict).push (PySem.W.instObj C s.heap.objs.size) }) :
    codeAny (model prog w) A (.call (.ref C) ⟨vs,kw⟩) R s:=by
  obtain ⟨hh,g,d,t,os⟩:=s
  exact PySem.W.make_core (PySem.W.makes_of X hm) (PySem.W.looks_findIn X hi) (fun self=>PySem.W.bind_fn X self hf) (.inl rfl) h
end

def putF (f:Str) (v:V):List (Str×V)→List (Str×V)
  | []=>[(f,v)]
  | (g,x)::r=>if g=f then (g,v)::r else (g,x)::putF f v r
theorem lookup_putF (f g:Str) (v:V):∀ fs:List (Str×V),(putF f v fs).lookup g=if g=f then some v else fs.lookup g
  | []=>by
    show List.lookup g [(f,v)]=_
    by_cases h:g=f
    · have hb:(g == f)=true:=beq_iff_eq.mpr h
      simp only [List.lookup,hb,if_pos h]
    · have hb:(g == f)=false:=beq_eq_false_iff_ne.mpr h
      simp only [List.lookup,hb,if_neg h]
  | (k,x)::r=>by
    have ih:=lookup_putF f g v r
    rw [show putF f v ((k,x)::r)=(if k=f then (k,v)::r else (k,x)::putF f v r) from rfl]
    by_cases hk:k=f
    · rw [if_pos hk]
      by_cases h:g=k
      · have hb:(g == k)=true:=beq_iff_eq.mpr h
        simp only [List.lookup,hb,if_pos (h.trans hk)]
      · have hb:(g == k)=false:=beq_eq_false_iff_ne.mpr h
        simp only [List.lookup,hb,if_neg (fun e:g=f=>h (e.trans hk.symm))]
    · rw [if_neg hk]
      by_cases h:g=k
      · have hb:(g == k)=true:=beq_iff_eq.mpr h
        simp only [List.lookup,hb,if_neg (fun e:g=f=>hk (h.symm.trans e))]
      · have hb:(g == k)=false:=beq_eq_false_iff_ne.mpr h
        simp only [List.lookup,hb]
        exact ih
theorem keys_putF (f:Str) (v:V):∀ fs:List (Str×V),f∈(putF f v fs).map (·.1)∧∀ g,g∈fs.map (·.1)→g∈(putF f v fs).map (·.1)
  | []=>⟨by simp [putF],fun g h=>by simp at h⟩
  | (k,x)::r=>by
    obtain ⟨i1,i2⟩:=keys_putF f v r
    rw [show putF f v ((k,x)::r)=(if k=f then (k,v)::r else (k,x)::putF f v r) from rfl]
    by_cases hk:k=f
    · rw [if_pos hk]
      subst hk
      exact ⟨by simp,fun g h=>by simpa using h⟩
    · rw [if_neg hk]
      refine ⟨?_,fun g h=>?_⟩
      · rw [List.map_cons]
        exact List.mem_cons_of_mem _ i1
      · rw [List.map_cons] at h ⊢
        rcases List.mem_cons.mp h with e | e
        · exact List.mem_cons.mpr (.inl e)
        · exact List.mem_cons_of_mem _ (i2 g e)
theorem length_putF (f:Str) (v:V):∀ fs:List (Str×V),(putF f v fs).length≤fs.length+1
  | []=>by simp [putF]
  | (k,x)::r=>by
    have ih:=length_putF f v r
    rw [show putF f v ((k,x)::r)=(if k=f then (k,v)::r else (k,x)::putF f v r) from rfl]
    by_cases hk:k=f
    · rw [if_pos hk,List.length_cons,List.length_cons];omega
    · rw [if_neg hk,List.length_cons,List.length_cons];omega

theorem RelO.some_of {v:V} {o:Option Value} (r:RelO (some v) o):∃ u,o=some u∧RelV v u:=by
  cases o with
  | none=>exact (show False from r).elim
  | some u=>exact ⟨u,rfl,r⟩
theorem RelO.none_of {o:Option Value} (r:RelO none o):o=none:=by
  cases o with
  | none=>rfl
  | some u=>exact (show False from r).elim
theorem handed_of {v:V} {u:Value} (r:RelV v u):PySem.W.handedIn u=true:=by
  cases v with
  | non=>cases (show u=Value.none from r);rfl
  | bl b=>cases (show u=Value.bool b from r);rfl
  | int i=>obtain ⟨t,e⟩:=(show ∃ t,u=Value.int i t from r);cases e;rfl
  | str x=>obtain ⟨t,e⟩:=(show ∃ t,u=Value.str x t from r);cases e;rfl
  | byt b=>obtain ⟨t,e⟩:=(show ∃ t,u=Value.bytes b t from r);cases e;rfl
  | flt b=>obtain ⟨t,e⟩:=(show ∃ t,u=Value.float b t from r);cases e;rfl
  | ref a=>cases (show u=Value.ref a from r);rfl
  | ty n=>cases (show u=Value.type n from r);rfl

section
variable {P:Program} {w:World} {H H':Hp} {h h':Heap} {a C dx:Addr} {fs fs':List (Str×V)}
theorem ins_get (hok:HOk P w H h) (e:H a=some (.ins C dx fs)):∃ mA,ObjM h a dx C mA∧(∀ f,RelO (fs.lookup f) (mA f))∧PySem.Within mA (fs.map (·.1))∧fs.length≤1000∧H dx=some (.own a):=by
  obtain ⟨d,z,ne,ob,mA,n,r,q⟩:=(show ObjOk P w H h a (.ins C dx fs) from hok a _ e)
  exact ⟨mA,⟨ob,n,ne⟩,r,q,z,d⟩
end

structure Cls (K:PySem.W.Frag) (C:Addr):Prop where
  pg:PySem.W.plainGet K C Str.empty=true
  hd:PySem.W.hasDictIn K C=true
  po:PySem.W.plainOver K C=true
  sa:PySem.W.findIn K (.ref C) "__setattr__" = some (some (.builtin "object.__setattr__"))
theorem Cls.get {K:PySem.W.Frag} {C:Addr} (c:Cls K C) (f:Str):PySem.W.plainGet K C f=true:=c.pg
def NoAttr (K:PySem.W.Frag) (C:Addr) (f:Str):Prop:=PySem.W.findIn K (.ref C) f=some none
theorem NoAttr.taker {K:PySem.W.Frag} {C:Addr} {f:Str} (n:NoAttr K C f):PySem.W.takerIn K C f=some none:=by
  unfold PySem.W.takerIn
  rw [show PySem.W.findIn K (.ref C) f=some none from n]
  rfl
structure Con (K:PySem.W.Frag) (C:Addr) (f:Str) (v:V) (u:Value):Prop where
  at_:PySem.W.findIn K (.ref C) f=some (some u)
  rel:RelV v u
  get:PySem.W.specialIn K u "__get__" = some none
  cp:PySem.W.copiedNames.contains f=false
structure Meth (K:PySem.W.Frag) (C:Addr) (m:Str) (f:Addr):Prop where
  at_:PySem.W.findIn K (.ref C) m=some (some (.ref f))
  fn:PySem.W.isFn K (.ref f)=true
  kp:PySem.W.keepIn K (.ref f)=true

section
variable {X:Cx} {pins:List (Addr×Obj)} {σ:St} {H:Hp} {s:Shared} {a C dx:Addr} {fs:List (Str×V)} {f:Str} {v:V} {A:Around} {E:Value→Shared→Prop}

theorem getattr_ok {b:Bool} {Q:Value→Shared→Prop} (I:Inv X pins σ H s) (e:H a=some (.ins C dx fs)) (c:Cls X.K C) (n:NoAttr X.K C f) (l:fs.lookup f=some v)
    (h:∀ u s',Inv X pins σ H s'→RelV v u→Q u s'):wpAny (model X.prog X.w) A (getAttr (.ref a) f b) Q E s:=by
  obtain ⟨mA,O,r,_,_,_⟩:=ins_get I.hok e
  obtain ⟨u,hu,ru⟩:=RelO.some_of (v:=v) (o:=mA f) (by rw [← l];exact r f)
  exact get_map I.kIn O (c.get f) c.hd n hu (handed_of ru) (h u _ (I.tok _) ru)

theorem getmeth_ok {m:Str} {g:Addr} {pl:Sem Bool} {Q:Value×List Value→Shared→Prop} (I:Inv X pins σ H s) (e:H a=some (.ins C dx fs)) (c:Cls X.K C) (k:Meth X.K C m g) (l:fs.lookup m=none)
    (h:Q (.ref g,[.ref a]) s):wpAny (model X.prog X.w) A (getMethod (.ref a) m pl) Q E s:=by
  obtain ⟨mA,O,r,_,_,_⟩:=ins_get I.hok e
  have hn:mA m=none:=RelO.none_of (by rw [← l];exact r m)
  exact get_meth I.kIn O (c.get m) k.at_ k.fn hn h

theorem setattr_ok {y:V} {u:Value} {Q:Unit→Shared→Prop} (I:Inv X pins σ H s) (e:H a=some (.ins C dx fs)) (c:Cls X.K C) (n:NoAttr X.K C f) (hl:fs.length < 1000) (ry:RelV y u)
    (h:∀ s',Inv X pins σ (upd H a (.ins C dx (putF f y fs))) s'→Q () s'):wpAny (model X.prog X.w) A (setAttr (.ref a) f u) Q E s:=by
  obtain ⟨mA,O,r,wi,_,ho⟩:=ins_get I.hok e
  have hz:(fs.map (·.1)).length≤sizeLine:=by rw [List.length_map,sizeLine_eq];omega
  refine set_map I.kIn O c.sa c.po n.taker c.hd wi hz fun h' O' sb=>h _ ?_
  have hd:∃ o,h'.get? dx=some o:=let ⟨o,_,_,e',_⟩:=O'.ns;⟨o,e'⟩
  refine I.write (x:=a) (e:=dx) (by rw [e];exact True.intro) (.inr ho) (fun b q hb z=>(sb.2 b hb).trans z) hd ?_
  refine ⟨by rw [upd_ne O.ne];exact ho,?_,O.ne,O'.obj,_,O'.ns,fun g=>?_,fun g hg=>?_⟩
  · have:=length_putF f y fs;omega
  · show RelO ((putF f y fs).lookup g) (if g=f then some u else mA g)
    rw [lookup_putF]
    by_cases q:g=f
    · rw [if_pos q,if_pos q];exact ry
    · rw [if_neg q,if_neg q];exact r g
  · by_cases q:g=f
    · rw [q];exact (keys_putF f y fs).1
    · refine (keys_putF f y fs).2 g (wi g fun z=>hg ?_)
      show (if g=f then some u else mA g)=none
      rw [if_neg q];exact z

theorem Inv.made (I:Inv X pins σ H s):Inv X pins σ (upd (upd H s.heap.objs.size (.own (s.heap.objs.size+1))) (s.heap.objs.size+1) (.ins C s.heap.objs.size []))
    { s with heap:=(s.heap.push PySem.W.emptyDict).push (PySem.W.instObj C s.heap.objs.size) }:=by
  have e1:(s.heap.push PySem.W.emptyDict).get? s.heap.objs.size=some PySem.W.emptyDict:=Heap.get?_push_size s.heap rfl
  have e2:((s.heap.push PySem.W.emptyDict).push (PySem.W.instObj C s.heap.objs.size)).get? (s.heap.objs.size+1)=some (PySem.W.instObj C s.heap.objs.size):=by
    have:=Heap.get?_push_size (s.heap.push PySem.W.emptyDict) (o:=PySem.W.instObj C s.heap.objs.size) rfl
    rwa [Heap.size_push] at this
  have e3:(s.heap.push PySem.W.emptyDict).Ns s.heap.objs.size (fun _=>none):=⟨PySem.W.emptyDict,#[],_,e1,rfl,(fun e he=>absurd he (by simp)),fun _=>rfl⟩
  have I1:=I.laid (a:=s.heap.objs.size) (o:=.own (s.heap.objs.size+1)) (h':=s.heap.push PySem.W.emptyDict) (t':=s.toks) (fun b u q=>Heap.get?_push_of_some _ q) (Nat.le_refl _) ⟨_,e1⟩
  refine I1.laid (a:=s.heap.objs.size+1) (o:=.ins C s.heap.objs.size []) (t':=s.toks) (fun b u q=>Heap.get?_push_of_some _ q) (Nat.le_of_eq (Heap.size_push _ _)) ?_
  have ne:s.heap.objs.size≠s.heap.objs.size+1:=Nat.ne_of_lt (Nat.lt_succ_self _)
  refine ⟨by rw [upd_ne ne,upd_same],Nat.zero_le _,ne,e2,fun _=>none,(Heap.Ns1.of_empty e3).at fun o q=>Heap.get?_push_of_some _ q,fun _=>True.intro,fun y hy=>absurd rfl hy⟩

theorem attr_of {prog:Program} {w:World} {env:Env} {e:Expr} {f:Str} {pos:Pos} {s:Shared} {Q:Value→Shared→Prop} (hb:attributeBase e f env (eval e env)=eval e env)
    (h:wpAny (model prog w) A (eval e env) (fun o s₁=>wpAny (model prog w) A (getAttr o f true) Q E s₁) E s):wpAny (model prog w) A (eval (.Attribute e f pos) env) Q E s :=
  Attribute_any_ h (by rw [arm_eval_Attribute,hb])
end

def tFld (K:PySem.W.Frag) (ta:TE) (f:Str):TE:=fun σ H Q=>ta σ H fun x H1=>onR x fun a=>∃ C dx fs,H1 a=some (.ins C dx fs)∧Cls K C∧NoAttr K C f∧∃ v,fs.lookup f=some v∧Q v H1
def sFld (K:PySem.W.Frag) (ta tv:TE) (f:Str):TS:=fun D σ H=>tv σ H fun y H1=>ta σ H1 fun x H2=>onR x fun a=>∃ C dx fs,H2 a=some (.ins C dx fs)∧Cls K C∧NoAttr K C f∧fs.length < 1000 ∧
  D.nx σ (upd H2 a (.ins C dx (putF f y fs)))
section
variable {X:Cx} {o e value:Expr} {f:Str} {pos pos' tpos:Pos} {ta tv:TE}
theorem pe_fld (he:PE X e ta) (hb:attributeBase e f X.env (eval e X.env)=eval e X.env):PE X (.Attribute e f pos) (tFld X.K ta f):=by
  intro pins s σ H Q I h
  refine attr_of hb (thn (he pins s σ H _ I h) fun u s1 ⟨x,H1,I1,rx,q0⟩=>?_)
  obtain ⟨a,ex,C,dx,fs,ea,c,n,v,l,q⟩:=onR_ex q0
  subst ex
  obtain rfl:u=Value.ref a:=rx
  exact getattr_ok I1 ea c n l fun u' s2 I2 ru=>⟨v,H1,I2,ru,q⟩
theorem ps_fld (ha:PE X o ta) (hv:PE X value tv) (hs:swapsWith value (some (.Attribute o f pos')) pos.line X.env=pure false):PS X (.Assign [.Attribute o f pos'] value pos) (sFld X.K ta tv f):=by
  intro pins s σ H D I h
  refine plainObj_wpAny_Assign_Attribute (thn (hv pins s σ H _ I h) fun u s1 ⟨y,H1,I1,ry,q⟩=>thn (ha pins s1 σ H1 _ I1 q) fun ov s2 ⟨x,H2,I2,rx,q0⟩=>?_) hs
  obtain ⟨a,ex,C,dx,fs,ea,c,n,l,q2⟩:=onR_ex q0
  subst ex
  obtain rfl:ov=Value.ref a:=rx
  exact setattr_ok I2 ea c n l ry fun s3 I3=>⟨σ,_,I3,q2⟩
end

section
variable {X:Cx} {pins:List (Addr×Obj)} {σ:St} {H:Hp} {s:Shared} {A:Around} {E:Value→Shared→Prop} {Q:Value→Shared→Prop} {c:Value} {b:Bool}
inductive TyOf (K:PySem.W.Frag) (H:Hp):V→Value→Prop where
  | non:TyOf K H .non (.type "NoneType")
  | bl (x:Bool):TyOf K H (.bl x) (.type "bool")
  | int (i:Int):TyOf K H (.int i) (.type "int")
  | str (x:Str):TyOf K H (.str x) (.type "str")
  | flt (x:UInt64):TyOf K H (.flt x) (.type "float")
  | lst {a:Addr} {xs:List V} (e:H a=some (.lst xs)):TyOf K H (.ref a) (.type "list")
  | frz {a:Addr} {o:Obj} {xs:List V} (e:H a=some (.frz o (.lst xs))):TyOf K H (.ref a) (.type "list")
  | tup {a:Addr} {xs:List V} (e:H a=some (.tup xs)):TyOf K H (.ref a) (.type "tuple")
  | dK {a:Addr} {kvs:List (Key×V)} (e:H a=some (.dK kvs)):TyOf K H (.ref a) (.type "dict")
  | dT {a:Addr} {kvs:List (List Key×V)} (e:H a=some (.dT kvs)):TyOf K H (.ref a) (.type "dict")
  | ins {a C dx:Addr} {fs:List (Str×V)} (e:H a=some (.ins C dx fs)) (cl:Cls K C) (ha:PySem.W.findIn K (.ref C) "__class__" = some (some (.builtin "object.__class__")))
      (hn:PySem.W.specialIn K (.builtin "object.__class__") "__get__" = some (some (.builtin "getset_descriptor.__get__"))) (htk:PySem.W.takesIn K (.builtin "object.__class__")=some true)
      (hm:PySem.W.mroIn K C (.type "object")=some true):TyOf K H (.ref a) (.ref C)
theorem isinst_ok {x:V} {u t:Value} (I:Inv X pins σ H s) (rx:RelV x u) (ty:TyOf X.K H x t) (e:PySem.W.kitOne X.K t c=some b) (h:∀ tk,Q (.bool b) { s with toks:=tk }) :
    wpAny (model X.prog X.w) A (call (.builtin "isinstance") [u,c]) Q E s:=by
  cases ty with
  | non=>cases (show u=Value.none from rx);exact PySem.W.kia_one PySem.W.kitx_none I.kIn True.intro e (fun z=>nomatch z) h
  | bl y=>cases (show u=Value.bool y from rx);exact PySem.W.kia_one PySem.W.kitx_bool I.kIn True.intro e (fun z=>nomatch z) h
  | int i=>obtain ⟨t,q⟩:=(show ∃ t,u=Value.int i t from rx);cases q;exact PySem.W.kia_one PySem.W.kitx_int I.kIn True.intro e (fun z=>nomatch z) h
  | str y=>obtain ⟨t,q⟩:=(show ∃ t,u=Value.str y t from rx);cases q;exact PySem.W.kia_one PySem.W.kitx_str I.kIn True.intro e (fun z=>nomatch z) h
  | flt y=>obtain ⟨t,q⟩:=(show ∃ t,u=Value.float y t from rx);cases q;exact PySem.W.kia_one PySem.W.kitx_float I.kIn True.intro e (fun z=>nomatch z) h
  | @lst a xs ea =>
    cases (show u=Value.ref a from rx)
    obtain ⟨_,_,n,_,h1⟩:=(show ObjOk X.prog X.w H s.heap a (.lst xs) from I.hok a _ ea)
    exact PySem.W.kia_one PySem.W.kitx_list I.kIn ⟨_,h1,rfl⟩ e (fun z=>nomatch z) h
  | @frz a ob xs ea =>
    cases (show u=Value.ref a from rx)
    obtain ⟨_,_,_,n,_,h1⟩:=(show ObjOk X.prog X.w H s.heap a (.frz ob (.lst xs)) from I.hok a _ ea)
    exact PySem.W.kia_one PySem.W.kitx_list I.kIn ⟨_,h1,rfl⟩ e (fun z=>nomatch z) h
  | @tup a xs ea =>
    cases (show u=Value.ref a from rx)
    obtain ⟨_,_,_,p⟩:=(show ObjOk X.prog X.w H s.heap a (.tup xs) from I.hok a _ ea)
    obtain ⟨o,h1,h2,_⟩:=p
    exact PySem.W.kia_one PySem.W.kitx_tuple I.kIn ⟨o,h1,h2⟩ e (fun z=>nomatch z) h
  | @dK a kvs ea =>
    cases (show u=Value.ref a from rx)
    obtain ⟨_,_,vs,_,p⟩:=(show ObjOk X.prog X.w H s.heap a (.dK kvs) from I.hok a _ ea)
    obtain ⟨o,es,ep,h1,h2,_⟩:=p
    exact PySem.W.kia_one PySem.W.kitx_dict I.kIn ⟨o,h1,h2.1⟩ e (fun z=>nomatch z) h
  | @dT a kvs ea =>
    cases (show u=Value.ref a from rx)
    obtain ⟨_,_,xs,_,o,es,ep,h1,h2,_⟩:=(show ObjOk X.prog X.w H s.heap a (.dT kvs) from I.hok a _ ea)
    exact PySem.W.kia_one PySem.W.kitx_dict I.kIn ⟨o,h1,h2.1⟩ e (fun z=>nomatch z) h
  | @ins a C dx fs ea cl ha hn htk hm =>
    cases (show u=Value.ref a from rx)
    obtain ⟨mA,O,_⟩:=ins_get I.hok ea
    obtain ⟨od,J,_⟩:=O.look
    exact PySem.W.kia_one (PySem.W.kitx_own (cl.get _) cl.hd ha hn htk hm) I.kIn J e (fun z=>nomatch z) h
end
end L2

namespace L2
open PySem PySem.Spec PyProof.Rows

structure Room (k:Nat) (A:Around):Prop where
  hd:A.handled=none
  dp:A.depth+3 * k+5 < recursionLimit
  un:A.units+16 * k+200 < cLine
theorem Room.mono {j k:Nat} {A:Around} (r:Room k A) (h:j≤k):Room j A:=⟨r.hd,by have:=r.dp;omega,by have:=r.un;omega⟩
theorem Room.deeper {k:Nat} {A:Around} (r:Room (k+1) A) (env:Env):Room k (A.deeper env) :=
  ⟨r.hd,by have:=r.dp;show A.depth+1+3 * k+5 < _;omega,by have:=r.un;show A.units+3+16 * k+200 < _;omega⟩
theorem Room.in1 {k:Nat} {A:Around} (r:Room (k+1) A):Room k A.in1 :=
  ⟨r.hd,by have:=r.dp;show A.depth+3 * k+5 < _;omega,by have:=r.un;show A.units+1+16 * k+200 < _;omega⟩
theorem make_depth {A:Around} {C:Addr} {us:List Value} {kw:List (Str×Value)}:(A.under (.builtin "type.__call__" ⟨.ref C::us,kw⟩)).depth=A.depth+1:=by
  first | rfl | simp [Around.under,Code.weight,Code.isCreation,Code.isGuard,Code.isCaller,Code.frames,Code.isFrame,guardIds]
theorem make_units {A:Around} {C:Addr} {us:List Value} {kw:List (Str×Value)}:(A.under (.builtin "type.__call__" ⟨.ref C::us,kw⟩)).units=A.units+1:=by
  first | rfl | simp [Around.under,Code.cUnits,Code.frames,Code.isFrame]
theorem Room.make {k:Nat} {A:Around} (r:Room (k+1) A) (C:Addr) (us:List Value) (kw:List (Str×Value)):Room k (A.under (.builtin "type.__call__" ⟨.ref C::us,kw⟩)) :=
  ⟨r.hd,by have:=r.dp;rw [make_depth];omega,by have:=r.un;rw [make_units];omega⟩
theorem Room.depth {k:Nat} {A:Around} (r:Room k A):A.depth < recursionLimit:=by have:=r.dp;omega
theorem Room.units {k:Nat} {A:Around} (r:Room k A):A.units+64 < cLine:=by have:=r.un;omega
def tNil:TA:=fun _ H Q=>Q [] H
def tCons (ta:TE) (tr:TA):TA:=fun σ H Q=>ta σ H fun x H1=>tr σ H1 fun xs H2=>Q (x::xs) H2
section
variable {X:Cx} {e:Expr} {es:List Expr} {te:TE} {t:TA} {pos:Pos}
theorem pa_nil:PA X [] tNil:=fun _ _ _ _ H Q I h=>Calls.spliced_nil ⟨[],H,I,.nil,h⟩
theorem pa_cons (ha:PE X e te) (hr:PA X es t) (hs:starEach (e::es) X.env=(false,eval e X.env)::starEach es X.env:=by rfl):PA X (e::es) (tCons te t):=by
  intro pos pins s σ H Q I h
  rw [hs]
  show wpAny _ _ (spliced ((false,eval e X.env)::backTo pos (starEach es X.env))) _ _ s
  refine Calls.spliced_cons (thn (ha pins s σ H _ I h) fun u s1 ⟨x,H1,I1,r1,q1⟩=>?_)
  exact thn (hr pos pins s1 σ H1 _ I1 q1) fun us s2 ⟨xs,H2,I2,r2,q2⟩=>⟨x::xs,H2,I2,.cons r1 r2,q2⟩

def tTup (t:TA):TE:=fun σ H Q=>t σ H fun xs H1=>xs.length≤sizeLine∧∀ p,H1 p=none→Q (.ref p) (upd H1 p (.tup xs))
def tLst (t:TA):TE:=fun σ H Q=>t σ H fun xs H1=>xs.length≤sizeLine∧∀ p,H1 p=none→Q (.ref p) (upd H1 p (.lst xs))
theorem pe_tup {x1} (h:PA X es t):PE X (.Tuple es x1 pos) (tTup t):=by
  intro pins s σ H Q I hq
  refine wpAny_Tuple_spliced (thn (h pos pins s σ H _ I hq) fun us s1 ⟨xs,H1,I1,r,z,q⟩=>⟨by rw [← r.length];exact z,?_⟩)
  have hf:H1 s1.heap.objs.size=none:=I1.hok.fresh (Nat.le_refl _)
  refine ⟨.ref s1.heap.objs.size,upd H1 s1.heap.objs.size (.tup xs),I1.laid (t':=s1.toks) (fun b u e=>Heap.get?_push_of_some _ e) (Nat.le_refl _) ?_,rfl,q _ hf⟩
  exact ⟨z,us,r,⟨_,Heap.get?_push_size _ rfl,rfl,_,rfl⟩⟩
theorem pe_lst (h:PA X es t):PE X (.List es pos) (tLst t):=by
  intro pins s σ H Q I hq
  refine wpAny_List_spliced (thn (h pos pins s σ H _ I hq) fun us s1 ⟨xs,H1,I1,r,z,q⟩=>⟨by rw [← r.length];exact z,?_⟩)
  have hf:H1 s1.heap.objs.size=none:=I1.hok.fresh (Nat.le_refl _)
  refine ⟨.ref s1.heap.objs.size,upd H1 s1.heap.objs.size (.lst xs),I1.laid (t':=s1.toks) (fun b u e=>Heap.get?_push_of_some _ e) (Nat.le_refl _) ?_,rfl,q _ hf⟩
  exact ⟨z,us,0,r,Heap.get?_push_size _ rfl⟩
end

abbrev Sp:=List V→Hp→VK→XK→Prop
abbrev CXT:=List Env→Hp→Shared→XK→Value→Shared→Prop

structure Env0 (P:Program) (w:World) (K:PySem.W.Frag) (mg:Str→Option Value) (base:Heap) (A:Around) (outer:List Env) (s:Shared) (H:Hp):Prop where
  frames:A.frames=some outer
  mod:Mod K mg base
  bs:∀ b o,base.get? b=some o→s.heap.get? b=some o∧H b=none
  bsz:base.objs.size≤s.heap.objs.size
  funs:s.heap.FunFrames base outer
  frf:∀ b∈frs outer,H b=none
  hok:HOk P w H s.heap
  bare:AllBare s.gens
def CE (outer:List Env) (P:Program) (w:World) (H:Hp) (s:Shared) (Q:VK) (u:Value) (s':Shared):Prop :=
  ∃ v H',s'.os=s.os∧AllBare s'.gens∧Un (frs outer) [] H H' s.heap s'.heap∧HOk P w H' s'.heap∧RelV v u∧Q v H'
def CR (CX:CXT) (outer:List Env) (P:Program) (w:World) (H:Hp) (s:Shared) (Q:VK) (E:XK) (r:Result) (s':Shared):Prop :=
  match r with
  | .ok (.ret u)=>CE outer P w H s Q u s'
  | .ok _=>False
  | .error e=>CX outer H s E e s'
structure FnOk (P:Program) (w:World) (K:PySem.W.Frag) (mg:Str→Option Value) (base:Heap) (CX:CXT) (k:Nat) (f:Addr) (fd:FuncData) (ps:List Str) (sp:Sp):Prop where
  len:∀ vs H Q E,sp vs H Q E→vs.length=ps.length
  run:∀ (A:Around) (outer:List Env) (s:Shared) (H:Hp) (args:Args) (us:List Value) (vs:List V) (Q:VK) (E:XK),Room k A→Env0 P w K mg base A outer s H→BindsTo s fd args (ps.zip us)→Vals vs us→sp vs H Q E →
    codeAny (model P w) A (.call (.ref f) args) (CR CX outer P w H s Q E) s
theorem FnOk.mono {P:Program} {w:World} {K:PySem.W.Frag} {mg:Str→Option Value} {base:Heap} {CX:CXT} {j k:Nat} {f:Addr} {fd:FuncData} {ps:List Str} {sp:Sp} (F:FnOk P w K mg base CX j f fd ps sp) (h:j≤k) :
    FnOk P w K mg base CX k f fd ps sp:=⟨F.len,fun A outer s H args us vs Q E hr=>F.run A outer s H args us vs Q E (hr.mono h)⟩
theorem FnOk.imp {P:Program} {w:World} {K:PySem.W.Frag} {mg:Str→Option Value} {base:Heap} {CX:CXT} {k:Nat} {f:Addr} {fd:FuncData} {ps:List Str} {sp sp':Sp} (F:FnOk P w K mg base CX k f fd ps sp)
    (h:∀ vs H Q E,sp' vs H Q E→sp vs H Q E):FnOk P w K mg base CX k f fd ps sp' :=
  ⟨fun vs H Q E q=>F.len vs H Q E (h _ _ _ _ q),fun A outer s H args us vs Q E hr he hb hv hs=>F.run A outer s H args us vs Q E hr he hb hv (h _ _ _ _ hs)⟩

theorem Env0.make {P:Program} {w:World} {K:PySem.W.Frag} {mg:Str→Option Value} {base:Heap} {A:Around} {outer:List Env} {s:Shared} {H:Hp} (e:Env0 P w K mg base A outer s H) (C:Addr) (us:List Value) (kw:List (Str×Value)) :
    Env0 P w K mg base (A.under (.builtin "type.__call__" ⟨.ref C::us,kw⟩)) outer s H:=⟨by first | exact e.frames | (simpa [Around.under,Code.envs,Code.isFrame,pushEnvs] using e.frames),e.mod,e.bs,e.bsz,e.funs,e.frf,e.hok,e.bare⟩
theorem Env0.in1 {P:Program} {w:World} {K:PySem.W.Frag} {mg:Str→Option Value} {base:Heap} {A:Around} {outer:List Env} {s:Shared} {H:Hp} (e:Env0 P w K mg base A outer s H) :
    Env0 P w K mg base A.in1 outer s H:=⟨e.frames,e.mod,e.bs,e.bsz,e.funs,e.frf,e.hok,e.bare⟩

section
variable {X:Cx} {pins:List (Addr×Obj)} {σ:St} {H:Hp} {s s':Shared}
theorem Inv.env0 (I:Inv X pins σ H s):Env0 X.prog X.w X.K X.mg X.base X.A X.stack s H :=
  ⟨I.ok.frames,I.ok.mod,I.bs,Nat.le_trans I.ok.bsz I.sz,I.stack,I.stkFree,I.hok,I.bare⟩
theorem Inv.after {Q:VK} {u:Value} (I:Inv X pins σ H s) (h:CE X.stack X.prog X.w H s Q u s'):EP X pins σ Q u s':=by
  obtain ⟨v,H',os,bare,un,hok,r,q⟩:=h
  obtain ⟨hh,g,d,t,os'⟩:=s'
  obtain rfl:os'=s.os:=os
  exact ⟨v,H',I.call (h':=hh) (g':=g) (d':=d) (t':=t) (ch:=[]) un hok bare (fun b z=>absurd z (by simp)),r,q⟩
end

def tCall (sp:Sp) (dvs:List V) (E:XK) (t:TA):TE:=fun σ H Q=>t σ H fun vs H1=>sp (vs++dvs) H1 Q E
def tMeth (C:Addr) (m:Str) (sp:Sp) (dvs:List V) (E:XK) (ta:TE) (t:TA):TE:=fun σ H Q=>ta σ H fun x H1=>onR x fun a=>∃ dx fs,H1 a=some (.ins C dx fs)∧fs.lookup m=none ∧
  t σ H1 fun vs H2=>sp (x::(vs++dvs)) H2 Q E
def tMake (C:Addr) (sp:Sp) (dvs:List V) (E:XK) (t:TA):TE:=fun σ H Q=>t σ H fun vs H1=>∀ x dx,H1 x=none→H1 dx=none→dx≠x →
  sp (.ref x::(vs++dvs)) (upd (upd H1 dx (.own x)) x (.ins C dx [])) (fun v H2=>v=.non∧Q (.ref x) H2) E

def Binds (K:PySem.W.Frag) (fd:FuncData) (ps:List Str) (ds:List Value):Prop :=
  ∀ (s:Shared) (us:List Value),K.In s.heap→(us++ds).length=ps.length→BindsTo s fd ⟨us,[]⟩ (ps.zip (us++ds))
theorem Binds.all {K:PySem.W.Frag} {fd:FuncData} {ps:List Str} (h:∀ us:List Value,us.length=ps.length→bindArgs fd ⟨us,[]⟩=pure (ps.zip us)):Binds K fd ps []:=fun s us _ hl=>by
  rw [List.append_nil] at hl ⊢
  exact .of_eq (h us hl)

def Passes (CX:CXT) (X:Cx) (E:XK):Prop:=∀ (pins:List (Addr×Obj)) (σ:St) (H:Hp) (s:Shared) (e:Value) (s':Shared),Inv X pins σ H s→CX X.stack H s E e s'→X.xe e s'

section
variable {X:Cx} {CX:CXT} {k:Nat} {f C:Addr} {fd:FuncData} {ps:List Str} {sp:Sp} {dvs:List V} {ds:List Value} {E:XK} {x m:Str} {p pos apos:Pos} {e o:Expr} {es:List Expr} {ta:TE} {t:TA}

theorem run_fn {pins:List (Addr×Obj)} {σ:St} {H:Hp} {s:Shared} {Q:VK} {us:List Value} {vs:List V} (F:FnOk X.prog X.w X.K X.mg X.base CX k f fd ps sp) (hr:Room k X.A) (hb:Binds X.K fd ps ds) (hd:Vals dvs ds) (hx:Passes CX X E)
    (I:Inv X pins σ H s) (r:Vals vs us) (h:sp (vs++dvs) H Q E):wpAny (model X.prog X.w) X.A (call (.ref f) us) (EP X pins σ Q) X.xe s:=by
  have r2:Vals (vs++dvs) (us++ds):=r.append hd
  have hl:(us++ds).length=ps.length:=by rw [← r2.length];exact F.len _ _ _ _ h
  refine wpAny_call (codeAny_mono (F.run X.A X.stack s H ⟨us,[]⟩ (us++ds) (vs++dvs) Q E hr I.env0 (hb s us I.kIn hl) r2 h) fun r s' hq=>?_)
  cases r with
  | error e=>exact hx pins σ H s e s' I hq
  | ok fl =>
    cases fl with
    | ret u=>exact I.after hq
    | next=>exact False.elim hq
    | brk=>exact False.elim hq
    | cont=>exact False.elim hq

theorem pe_call (F:FnOk X.prog X.w X.K X.mg X.base CX k f fd ps sp) (hr:Room k X.A) (hg:Gl X x) (hm:X.mg x=some (.ref f)) (hk:PySem.W.keepIn X.K (.ref f)=true) (hb:Binds X.K fd ps ds) (hd:Vals dvs ds) (hx:Passes CX X E)
    (ha:PA X (e::es) t) (hdb:(x == ("__debug__" : Str))=false:=by decide) (he:starEach (e::es) X.env=(false,eval e X.env)::starEach es X.env:=by rfl) (hpl:(backTo pos (starEach es X.env)).any (·.1)=false:=by rfl) :
    PE X (.Call (.Name x p) (e::es) [] pos) (tCall sp dvs E t):=by
  intro pins s σ H Q I h
  refine wpAny_Call_Name_kw (ld_glob I hg hm ?_ hdb)
  refine PySem.W.callWith_K (h₀:=X.base) I.ok.mod.kin hk (thn (ha pos pins s σ H _ I h) fun us s1 ⟨vs,H1,I1,r,q⟩=>⟨I1.kIn,?_⟩) he hpl
  exact run_fn F hr hb hd hx I1 r q
theorem pe_meth {pl:Sem Bool} (he:PE X o ta) (c:Cls X.K C) (hm:Meth X.K C m f) (F:FnOk X.prog X.w X.K X.mg X.base CX k f fd ps sp) (hr:Room k X.A) (hb:Binds X.K fd ps ds) (hd:Vals dvs ds) (hx:Passes CX X E) (ha:PA X (e::es) t)
    (hst:starEach (e::es) X.env=(false,eval e X.env)::starEach es X.env:=by rfl) (hpl:(backTo pos (starEach es X.env)).any (·.1)=false:=by rfl)
    (ht:eval (.Call (.Attribute o m apos) (e::es) [] pos) X.env=(do
      let ov ← eval o X.env
      standAt apos.atName
      let (f,first) ← holding [ov] (getMethod ov m pl)
      callWith pos f first (backTo pos (starEach (e::es) X.env)) (backToKw pos (keywordEach [] X.env))):=by rfl) :
    PE X (.Call (.Attribute o m apos) (e::es) [] pos) (tMeth C m sp dvs E ta t):=by
  intro pins s σ H Q I h
  refine PySem.W.methodCall_KW (pl:=pl) (thn (he pins s σ H _ I h) fun u s1 ⟨x,H1,I1,rx,q0⟩=>?_) ht
  obtain ⟨a,ex,dx,fs,ea,l,q⟩:=onR_ex q0
  subst ex
  obtain rfl:u=Value.ref a:=rx
  refine getmeth_ok I1 ea c hm l ?_
  refine PySem.W.callWith_K (first:=[.ref a]) (h₀:=X.base) I.ok.mod.kin hm.kp (thn (ha pos pins s1 σ H1 _ I1 q) fun us s2 ⟨vs,H2,I2,r,q2⟩=>⟨I2.kIn,?_⟩) hst hpl
  exact run_fn (us:=.ref a::us) (vs:=.ref a::vs) F hr hb hd hx I2 (.cons rfl r) q2
theorem pe_meth0 {pl:Sem Bool} (he:PE X o ta) (c:Cls X.K C) (hm:Meth X.K C m f) (F:FnOk X.prog X.w X.K X.mg X.base CX k f fd ps sp) (hr:Room k X.A) (hb:Binds X.K fd ps ds) (hd:Vals dvs ds) (hx:Passes CX X E)
    (ht:eval (.Call (.Attribute o m apos) [] [] pos) X.env=(do
      let ov ← eval o X.env
      standAt apos.atName
      let (f,first) ← holding [ov] (getMethod ov m pl)
      callWith pos f first (backTo pos (starEach [] X.env)) (backToKw pos (keywordEach [] X.env))):=by rfl) :
    PE X (.Call (.Attribute o m apos) [] [] pos) (tMeth C m sp dvs E ta tNil):=by
  intro pins s σ H Q I h
  refine PySem.W.methodCall_KW (pl:=pl) (thn (he pins s σ H _ I h) fun u s1 ⟨x,H1,I1,rx,q0⟩=>?_) ht
  obtain ⟨a,ex,dx,fs,ea,l,q⟩:=onR_ex q0
  subst ex
  obtain rfl:u=Value.ref a:=rx
  refine getmeth_ok I1 ea c hm l ?_
  exact PySem.W.callWith_K0 (first:=[.ref a]) I1.kIn hm.kp (run_fn (us:=[.ref a]) (vs:=[.ref a]) F hr hb hd hx I1 (.cons rfl .nil) q)

structure Mk (K:PySem.W.Frag) (C f:Addr):Prop where
  makes:PySem.W.makesIn K C=true
  init:PySem.W.findIn K (.ref C) "__init__" = some (some (.ref f))
  fn:PySem.W.isFn K (.ref f)=true
  kp:PySem.W.keepIn K (.ref C)=true

theorem run_make {pins:List (Addr×Obj)} {σ:St} {H:Hp} {s:Shared} {Q:VK} {us:List Value} {vs:List V} (M:Mk X.K C f) (F:FnOk X.prog X.w X.K X.mg X.base CX k f fd ps sp) (hr:Room (k+1) X.A) (hb:Binds X.K fd ps ds) (hd:Vals dvs ds)
    (hx:Passes CX X E) (I:Inv X pins σ H s) (r:Vals vs us)
    (h:∀ x dx,H x=none→H dx=none→dx≠x→sp (.ref x::(vs++dvs)) (upd (upd H dx (.own x)) x (.ins C dx [])) (fun v H2=>v=.non∧Q (.ref x) H2) E) :
    wpAny (model X.prog X.w) X.A (call (.ref C) us) (EP X pins σ Q) X.xe s:=by
  have hq:=h (s.heap.objs.size+1) s.heap.objs.size (I.hok.fresh (Nat.le_succ _)) (I.hok.fresh (Nat.le_refl _)) (Nat.ne_of_lt (Nat.lt_succ_self _))
  have I2:=Inv.made (C:=C) I
  have r2:Vals (V.ref (s.heap.objs.size+1)::(vs++dvs)) (Value.ref (s.heap.objs.size+1)::(us++ds)):=.cons rfl (r.append hd)
  have hl:(Value.ref (s.heap.objs.size+1)::us++ds).length=ps.length:=by
    have e:=r2.length
    rw [F.len _ _ _ _ hq] at e
    exact e.symm
  refine wpAny_call (make_map (f:=f) I.kIn M.makes M.init (beq_iff_eq.mp M.fn) (codeAny_mono (F.run _ X.stack _ _ ⟨Value.ref (s.heap.objs.size+1)::us,[]⟩ (Value.ref (s.heap.objs.size+1)::(us++ds)) _ _ E (hr.make C us [])
    (I2.env0.make C us []) (hb _ (Value.ref (s.heap.objs.size+1)::us) I2.kIn hl) r2 hq) fun r s' hq'=>?_))
  cases r with
  | error e=>exact hx pins σ _ _ e s' I2 hq'
  | ok fl =>
    cases fl with
    | ret u =>
      obtain ⟨v,H',I3,rv,ev,q3⟩:=I2.after hq'
      subst ev
      exact ⟨rv,⟨V.ref (s.heap.objs.size+1),H',I3,rfl,q3⟩⟩
    | next=>exact False.elim hq'
    | brk=>exact False.elim hq'
    | cont=>exact False.elim hq'
theorem pe_make (M:Mk X.K C f) (F:FnOk X.prog X.w X.K X.mg X.base CX k f fd ps sp) (hr:Room (k+1) X.A) (hg:Gl X x) (hm:X.mg x=some (.ref C)) (hb:Binds X.K fd ps ds) (hd:Vals dvs ds) (hx:Passes CX X E)
    (ha:PA X (e::es) t) (hdb:(x == ("__debug__" : Str))=false:=by decide) (he:starEach (e::es) X.env=(false,eval e X.env)::starEach es X.env:=by rfl) (hpl:(backTo pos (starEach es X.env)).any (·.1)=false:=by rfl) :
    PE X (.Call (.Name x p) (e::es) [] pos) (tMake C sp dvs E t):=by
  intro pins s σ H Q I h
  refine wpAny_Call_Name_kw (ld_glob I hg hm ?_ hdb)
  refine PySem.W.callWith_K (h₀:=X.base) I.ok.mod.kin M.kp (thn (ha pos pins s σ H _ I h) fun us s1 ⟨vs,H1,I1,r,q⟩=>⟨I1.kIn,?_⟩) he hpl
  exact run_make M F hr hb hd hx I1 r q
theorem pe_make0 (M:Mk X.K C f) (F:FnOk X.prog X.w X.K X.mg X.base CX k f fd ps sp) (hr:Room (k+1) X.A) (hg:Gl X x) (hm:X.mg x=some (.ref C)) (hb:Binds X.K fd ps ds) (hd:Vals dvs ds) (hx:Passes CX X E)
    (hdb:(x == ("__debug__" : Str))=false:=by decide):PE X (.Call (.Name x p) [] [] pos) (tMake C sp dvs E tNil):=by
  intro pins s σ H Q I h
  refine wpAny_Call_Name_kw (ld_glob I hg hm ?_ hdb)
  exact PySem.W.callWith_K0 I.kIn M.kp (run_make (us:=[]) M F hr hb hd hx I .nil h)
end

section
variable {X:Cx} {CX:CXT} {k:Nat} {f C:Addr} {fd:FuncData} {ps ks:List Str} {sp:Sp} {E:XK} {x m:Str} {p pos apos kpos:Pos} {e o:Expr} {es:List Expr} {kws:List Keyword} {te ta:TE} {t tk:TA} {nm:Option Str}
structure KBinds (K:PySem.W.Frag) (fd:FuncData) (ps ks:List Str) (g:List Value→List Value→List Value) (gV:List V→List V→List V):Prop where
  to:∀ (s:Shared) (us ws:List Value),K.In s.heap→(g us ws).length=ps.length→BindsTo s fd ⟨us,ks.zip ws⟩ (ps.zip (g us ws))
  rel:∀ {vs:List V} {us:List Value} {zs:List V} {ws:List Value},Vals vs us→Vals zs ws→Vals (gV vs zs) (g us ws)
variable {g:List Value→List Value→List Value} {gV:List V→List V→List V}
end

structure FnScope (N P:List Str) (sc:Scope):Prop where
  kind:sc.kind=.function
  co:sc.isCoroutine=false
  gen:sc.isGenerator=false
  nd:N.Nodup
  pre:N.take P.length=P
  par:∀ x∈P,sc.names.lookup x=some .local∨sc.names.lookup x=some .cell
  nofree:∀ y∈sc.names,y.2≠.free

theorem bindL_out {kindOf:Str→Option NameKind} {x:Str}:∀ {binds:List (Str×Value)} {m:Str→Option Value},(∀ v,(x,v)∉binds)→bindL kindOf binds m x=m x
  | [],_,_=>rfl
  | (n,v)::r,m,h=>by
    unfold bindL
    rw [bindL_out fun w hw=>h w (List.mem_cons_of_mem _ hw)]
    split
    · have:x≠n:=by rintro rfl;exact h v List.mem_cons_self
      simp [this]
    · rfl
theorem bindC_out {kindOf:Str→Option NameKind} {x:Str}:∀ {binds:List (Str×Value)} {m:Str→Option Value},(∀ v,(x,v)∉binds)→bindC kindOf binds m x=m x
  | [],_,_=>rfl
  | (n,v)::r,m,h=>by
    unfold bindC
    rw [bindC_out fun w hw=>h w (List.mem_cons_of_mem _ hw)]
    split
    · rfl
    · have:x≠n:=by rintro rfl;exact h v List.mem_cons_self
      simp [this]
theorem bindL_get {kindOf:Str→Option NameKind} {x:Str} {v:Value}:∀ {P:List Str} {vs:List Value} {i:Nat} {m:Str→Option Value},P.Nodup→P[i]?=some x→vs[i]?=some v→kindOf x=some .local →
    bindL kindOf (P.zip vs) m x=some v
  | [],_,_,_,_,h,_,_=>by simp at h
  | _::_,[],_,_,_,_,h,_=>by simp at h
  | p::P,w::vs,0,m,nd,h1,h2,hk=>by
    simp at h1 h2;subst h1;subst h2
    show bindL kindOf ((p,w)::P.zip vs) m p=_
    unfold bindL
    rw [bindL_out fun v hv=>(List.nodup_cons.mp nd).1 (List.of_mem_zip hv).1,if_pos hk]
    simp
  | p::P,w::vs,i+1,m,nd,h1,h2,hk=>by
    show bindL kindOf ((p,w)::P.zip vs) m x=_
    unfold bindL
    exact bindL_get (i:=i) (List.nodup_cons.mp nd).2 (by simpa using h1) (by simpa using h2) hk
theorem bindC_get {kindOf:Str→Option NameKind} {x:Str} {v:Value}:∀ {P:List Str} {vs:List Value} {i:Nat} {m:Str→Option Value},P.Nodup→P[i]?=some x→vs[i]?=some v→kindOf x≠some .local →
    bindC kindOf (P.zip vs) m x=some v
  | [],_,_,_,_,h,_,_=>by simp at h
  | _::_,[],_,_,_,_,h,_=>by simp at h
  | p::P,w::vs,0,m,nd,h1,h2,hk=>by
    simp at h1 h2;subst h1;subst h2
    show bindC kindOf ((p,w)::P.zip vs) m p=_
    unfold bindC
    rw [bindC_out fun v hv=>(List.nodup_cons.mp nd).1 (List.of_mem_zip hv).1,if_neg hk]
    simp
  | p::P,w::vs,i+1,m,nd,h1,h2,hk=>by
    show bindC kindOf ((p,w)::P.zip vs) m x=_
    unfold bindC
    exact bindC_get (i:=i) (List.nodup_cons.mp nd).2 (by simpa using h1) (by simpa using h2) hk

def start (N:List Str) (vs:List V):St:=vs.map some++List.replicate (N.length - vs.length) none

def cxOf (CX:CXT) (P:Program) (w:World) (K:PySem.W.Frag) (mg:Str→Option Value) (base:Heap) (N:List Str) (qual:Str) (scope:Scope) (f:Addr) (cd:Value) (A:Around) (outer:List Env) (s:Shared) (H:Hp) (E:XK):Cx where
  prog:=P
  w:=w
  K:=K
  mg:=mg
  base:=base
  A:=A.deeper (envOfC qual scope s.heap.objs.size f cd)
  N:=N
  s₀:=s
  H₀:=H
  env:=envOfC qual scope s.heap.objs.size f cd
  outer:=outer
  stack:=envOfC qual scope s.heap.objs.size f cd::outer
  ex:=[]
  calm:=true
  fn:=fun _=>true
  pn:=[]
  xe:=fun e s'=>wpAny (model P w) (A.deeper (envOfC qual scope s.heap.objs.size f cd)) (leaving (envOfC qual scope s.heap.objs.size f cd) e) (fun _ s''=>CX outer H s E e s'') (fun e' s''=>CX outer H s E e' s'') s'

theorem cell_has {sc:Scope} {n:Nat} {x:Str} (h:sc.names.lookup x=some .cell):∃ c,(cellsFrom n sc.names []).lookup x=some c:=by
  have q:=PySem.W.cellsFrom_some sc.names n [] (.inl h)
  exact Option.isSome_iff_exists.mp q

theorem inv_start {CX:CXT} {P:Program} {w:World} {K:PySem.W.Frag} {mg:Str→Option Value} {base:Heap} {N ps:List Str} {qual:Str} {scope:Scope} {f:Addr} {cd:Value} {A:Around} {outer:List Env} {s s1:Shared} {H:Hp} {E:XK} {us:List Value} {vs:List V}
    (S:FnScope N ps scope) (hd:A.handled=none) (e0:Env0 P w K mg base A outer s H) (hl:vs.length=ps.length) (r:Vals vs us)
    (x:InCallC s s.heap.objs.size (bindL (envOfC qual scope s.heap.objs.size f cd).kindOf (ps.zip us) fun _=>none) (cellsFrom (s.heap.objs.size+1) scope.names []) (bindC (envOfC qual scope s.heap.objs.size f cd).kindOf (ps.zip us) fun _=>none) s1) :
    Inv (cxOf CX P w K mg base N qual scope f cd A outer s H E) [] (start N vs) H s1:=by
  have hpl:ps.length≤N.length:=by have:=congrArg List.length S.pre;rw [List.length_take] at this;omega
  obtain ⟨h1,tk,rfl,hk⟩:=x.done
  have noA:∀ b:Addr,b∉(cxOf CX P w K mg base N qual scope f cd A outer s H E).ex:=fun b z=>absurd (show b∈([]:List Addr) from z) (by simp)
  refine ⟨⟨e0.mod,S.kind,rfl,rfl,Nat.le_refl _,fun y z c h1 h2=>?_,fun y hy=>?_,fun y c _ h=>?_,fun _=>hd,Around.frames_deeper e0.frames,.inr ⟨rfl,rfl⟩,fun b z=>absurd z (noA b),e0.bs,e0.bsz,fun b _ _=>noA b,fun b z=>absurd z (noA b),e0.funs,e0.frf⟩,
    rfl,e0.bare,Un.kept hk,⟨_,x.toInCall.ns,fun i y v h1 h2 h3=>?_⟩,fun y c h=>⟨_,x.cell y c h⟩,e0.hok.fresh (Nat.le_refl _),fun y c h=>?_,fun p hp=>absurd (show p∈([]:List (Addr×Obj)) from hp) (by simp),e0.hok.kept hk,?_⟩
  · exact name_of_addr x.apart (PySem.mem_of_lookup h1) (PySem.mem_of_lookup h2)
  · have hy:scope.names.lookup y=some .cell∨scope.names.lookup y=some .free:=hy
    rcases hy with hy | hy
    · exact cell_has hy
    · exact absurd rfl (S.nofree _ (PySem.mem_of_lookup hy))
  · exact Nat.le_of_lt (x.above y c (PySem.mem_of_lookup h))
  · have hi:i < vs.length:=by
      unfold start at h2
      by_cases hi:i < vs.length
      · exact hi
      · rw [List.getElem?_append_right (by simpa using hi)] at h2
        rw [List.getElem?_replicate] at h2
        split at h2<;>cases h2
    have ha:vs[i]?=some v:=by
      unfold start at h2
      rw [List.getElem?_append_left (by simpa using hi),List.getElem?_map] at h2
      cases e:vs[i]? with
      | none=>rw [e] at h2;cases h2
      | some a=>rw [e] at h2;cases h2;rfl
    obtain ⟨u,hu,rv⟩:=r.get ha
    have hp:ps[i]?=some y:=by
      rw [← S.pre,List.getElem?_take_of_lt (by omega)];exact h1
    have ndP:ps.Nodup:=by rw [← S.pre];exact S.nd.sublist (List.take_sublist _ _)
    refine ⟨u,rv,?_⟩
    rcases S.par y (List.mem_of_getElem? hp) with k | k
    · exact .inl ⟨k,bindL_get ndP hp hu k⟩
    · obtain ⟨c,e⟩:=cell_has (n:=s.heap.objs.size+1) k
      refine .inr ⟨.inl k,c,e,?_⟩
      have q:=x.cell y c e
      rw [bindC_get ndP hp hu (by show scope.names.lookup y≠_;rw [k];decide)] at q
      exact q
  · exact e0.hok.fresh (Nat.le_of_lt (x.above y c (PySem.mem_of_lookup h)))
  · unfold start
    show _=N.length
    rw [List.length_append,List.length_map,List.length_replicate]
    omega

theorem fn_of {CX:CXT} {P:Program} {w:World} {K:PySem.W.Frag} {mg:Str→Option Value} {base:Heap} {k:Nat} {f:Addr} {name qual:Str} {params:Arguments} {body:List Stmt} {scope:Scope} {dV kV doc pm cdv ct oc:Value} {an od:Option Addr}
    {osl:Array (Option Value)} {N ps:List Str} {sp:Sp} (lk:K.lookup f=some ⟨oc,od,.func (PySem.W.fnOf name qual params body scope dV kV doc pm an cdv ct),osl⟩) (hcd:PySem.W.codeIn K cdv qual=true) (S:FnScope N ps scope)
    (len:∀ vs H Q E,sp vs H Q E→vs.length=ps.length)
    (hbody:∀ (A:Around) (outer:List Env) (s:Shared) (H:Hp) (vs:List V) (Q:VK) (E:XK),Room k (A.deeper (envOfC qual scope s.heap.objs.size f cdv))→sp vs H Q E →
      ∃ t,PSs (cxOf CX P w K mg base N qual scope f cdv A outer s H E) body t∧t { nx:=fun _ H'=>Q .non H',rt:=Q } (start N vs) H) :
    FnOk P w K mg base CX (k+1) f (PySem.W.fnOf name qual params body scope dV kV doc pm an cdv ct) ps sp:=by
  refine ⟨len,fun A outer s H args us vs Q E hr e0 hb r hsp=>?_⟩
  have hl:=len _ _ _ _ hsp
  have KX:K.In s.heap:=e0.mod.kin.keeps fun b o e=>(e0.bs b o e).1
  have lim:s.heap.NoLimit:=e0.mod.nolimit.keeps fun b o e=>(e0.bs b o e).1
  have hkind:∀ y∈ps.zip us,scope.names.lookup y.1=some .local∨(scope.names.lookup y.1=some .cell∧((cellsFrom (s.heap.objs.size+1) scope.names []).lookup y.1).isSome=true):=fun ⟨n,v⟩ hy=>by
    rcases S.par n (List.of_mem_zip hy).1 with q | q
    · exact .inl q
    · exact .inr ⟨q,PySem.W.cellsFrom_some _ _ _ (.inl q)⟩
  refine codeAny_call_function hr.depth (KX _ _ lk) rfl S.co S.gen rfl (PySem.W.codeRec_of KX hcd) (hb _ _ _ _ ?_)
  refine wpAny_newFunctionEnv_cells S.kind hkind fun env he s1 x=>?_
  subst he
  refine ⟨lim.keeps x.toInCall.keep,codeAny_func ?_⟩
  obtain ⟨t,ht,hq⟩:=hbody A outer s H vs Q E (hr.deeper _) hsp
  have I:Inv (cxOf CX P w K mg base N qual scope f cdv A outer s H E) [] (start N vs) H s1:=inv_start S hr.hd e0 hl r x
  refine wpAny_mono (ht [] s1 (start N vs) H _ I hq) (fun fl s' hs=>?_) fun e s' hs=>hs
  have fin:∀ {σ':St} {H':Hp} {v:V} {u:Value},Inv (cxOf CX P w K mg base N qual scope f cdv A outer s H E) [] σ' H' s'→RelV v u→Q v H'→CE outer P w H s Q u s' :=
    fun {σ' H' v u} J rv q=>⟨v,H',J.os,J.bare,J.base,J.hok,rv,q⟩
  cases fl with
  | ret u =>
    obtain ⟨v,σ',H',J,rv,q⟩:=hs
    exact fin J rv q
  | next =>
    obtain ⟨σ',H',J,q⟩:=hs
    exact fin (v:=V.non) (u:=Value.none) J rfl q
  | brk =>
    obtain ⟨_,_,_,q⟩:=hs
    exact False.elim q
  | cont =>
    obtain ⟨_,_,_,q⟩:=hs
    exact False.elim q
end L2

namespace L2
open PySem PySem.Spec PyProof.Rows
section
variable {X:Cx} {x:Str} {p pos:Pos} {e:Expr} {es:List Expr} {t:TA} {id T:String} {r:List V→Hp→VK→Prop}

def tCB (r:List V→Hp→VK→Prop) (t:TA):TE:=fun σ H Q=>t σ H fun vs H1=>r vs H1 Q
theorem pe_callB (hc:CallR X (.builtin id) r) (hg:Gl X x) (hm:X.mg x=none) (hv:bootBuiltins x=some (.builtin id)) (ha:PA X (e::es) t) (hn:x ≠ "__name__" := by decide) (hdb:(x == ("__debug__" : Str))=false:=by decide)
    (he:starEach (e::es) X.env=(false,eval e X.env)::starEach es X.env:=by rfl) (hpl:(backTo pos (starEach es X.env)).any (·.1)=false:=by rfl):PE X (.Call (.Name x p) (e::es) [] pos) (tCB r t):=by
  intro pins s σ H Q I h
  refine wpAny_Call_Name_kw (ld_blt I hg hm hv ?_ hn hdb)
  exact PyProof.Rows.callWith_builtin1 (thn (ha pos pins s σ H _ I h) fun us s1 ⟨vs,H1,I1,r1,q1⟩=>hc pins s1 σ H1 vs us Q I1 r1 q1) he hpl
theorem pe_callTy (hc:CallR X (.type T) r) (hg:Gl X x) (hm:X.mg x=none) (hv:bootBuiltins x=some (.type T)) (ha:PA X (e::es) t) (hn:x ≠ "__name__" := by decide) (hdb:(x == ("__debug__" : Str))=false:=by decide)
    (he:starEach (e::es) X.env=(false,eval e X.env)::starEach es X.env:=by rfl) (hpl:(backTo pos (starEach es X.env)).any (·.1)=false:=by rfl):PE X (.Call (.Name x p) (e::es) [] pos) (tCB r t):=by
  intro pins s σ H Q I h
  refine wpAny_Call_Name_kw (ld_blt I hg hm hv ?_ hn hdb)
  exact PyProof.Rows.callWith_type1 (thn (ha pos pins s σ H _ I h) fun us s1 ⟨vs,H1,I1,r1,q1⟩=>hc pins s1 σ H1 vs us Q I1 r1 q1) he hpl
end
end L2

namespace HT
open PySem PyProof.Rows

section
open PySem.SeqAt
open PySem.AutoSeq1 (wpAny_loadPart')
open PySem.MeetsSeq PySem.MeetsSeq2 PySem.MeetsSeq3

end

section
variable {prog:Program} {w:World} {A:Around} {E:Value→Shared→Prop} {s:Shared}

def sIx (n d:Nat):Option Int→Nat
  | none=>d
  | some v=>if v < 0 then (v+(n:Int)).toNat else min v.toNat n
end
end HT

namespace L2
open PySem PySem.Spec PyProof.Rows

abbrev TO:=St→Hp→(Option Int→Hp→Prop)→Prop
def PO (X:Cx) (e:Option Expr) (t:TO):Prop :=
  ∀ (pins:List (Addr×Obj)) (s:Shared) (σ:St) (H:Hp) (Q:Option Int→Hp→Prop),Inv X pins σ H s→t σ H Q →
    wpAny (model X.prog X.w) X.A (evalPart e X.env) (fun u s'=>∃ o H',Inv X pins σ H' s'∧IsPart u o∧Q o H') X.xe s
def tNoPart:TO:=fun _ H Q=>Q none H
def tPart (t:TE):TO:=fun σ H Q=>t σ H fun x H1=>∃ i,x=.int i∧Q (some i) H1

theorem intsAre_of {ns:List Int}:∀ {us:List Value},Vals (ns.map V.int) us→IntsAre us ns:=by
  induction ns with
  | nil=>intro us r;rw [List.map_nil] at r;cases r;exact .nil
  | cons n ns ih =>
    intro us r
    rw [List.map_cons] at r
    cases r with
    | cons r1 r2 =>
      obtain ⟨t,e⟩:=r1
      subst e
      exact .cons n t (ih r2)

section
variable {X:Cx} {e:Expr} {te:TE} {lo hi:Option Expr} {tl th:TO} {pos p2:Pos}

def SlR (X:Cx) (r:V→Option Int→Option Int→Hp→VK→Prop):Prop :=
  ∀ (pins:List (Addr×Obj)) (s:Shared) (σ:St) (H:Hp) (x:V) (v vl vu:Value) (lo hi:Option Int) (sl:Addr) (Q:VK),Inv X pins σ H s→RelV x v→s.heap.IsSliceOf sl vl vu .none→IsPart vl lo→IsPart vu hi→r x lo hi H Q →
    ∃ T id,typeLookup (.type T) "__getitem__" = pure (some (.builtin id))∧s.TypeIs v T∧wpAny (model X.prog X.w) X.A (getItem v (.ref sl)) (EP X pins σ Q) X.xe s
theorem SlR.or {r r':V→Option Int→Option Int→Hp→VK→Prop} (h:SlR X r) (h':SlR X r'):SlR X (fun x lo hi H Q=>r x lo hi H Q∨r' x lo hi H Q):=by
  intro pins s σ H x v vl vu lo hi sl Q I rx hs pl pu q
  rcases q with q | q
  · exact h pins s σ H x v vl vu lo hi sl Q I rx hs pl pu q
  · exact h' pins s σ H x v vl vu lo hi sl Q I rx hs pl pu q
def tSl (r:V→Option Int→Option Int→Hp→VK→Prop) (te:TE) (tl th:TO):TE:=fun σ H Q=>te σ H fun x H1=>tl σ H1 fun l H2=>th σ H2 fun u H3=>r x l u H3 Q
def cutV (xs:List V) (lo hi:Option Int):List V:=(xs.drop (HT.sIx xs.length 0 lo)).take (HT.sIx xs.length xs.length hi - HT.sIx xs.length 0 lo)
end
end L2

namespace L2
open PySem PySem.Spec PyProof.Rows

def ixN (n:Nat) (i:Int):Option Nat:=if 0≤i then (if i < n then some i.toNat else none) else if -(n:Int)≤i then some (i+n).toNat else none
def atI {α:Type} (xs:List α) (i:Int):Option α:=(ixN xs.length i).bind fun j=>xs[j]?
theorem ixN_seq {n:Nat} {i:Int} {j:Nat} (h:ixN n i=some j):seqIndex? i n=some j∧j < n∧-(n:Int)≤i∧i < n:=by
  unfold ixN at h
  by_cases h0:0≤i
  · rw [if_pos h0] at h
    by_cases h1:i < n
    · rw [if_pos h1] at h
      have e:i.toNat=j:=Option.some.inj h
      exact ⟨by rw [seqIndex_of h0 h1,e],by omega,by omega,h1⟩
    · rw [if_neg h1] at h;cases h
  · rw [if_neg h0] at h
    by_cases h1:-(n:Int)≤i
    · rw [if_pos h1] at h
      have e:(i+n).toNat=j:=Option.some.inj h
      exact ⟨by rw [seqIndex_neg (by omega) h1,e],by omega,h1,by omega⟩
    · rw [if_neg h1] at h;cases h
theorem atI_get {α:Type} {xs:List α} {i:Int} {v:α} (h:atI xs i=some v):∃ j,seqIndex? i xs.length=some j∧xs[j]?=some v∧j < xs.length∧-(xs.length:Int)≤i∧i < xs.length:=by
  unfold atI at h
  cases e:ixN xs.length i with
  | none=>rw [e] at h;cases h
  | some j =>
    rw [e] at h
    obtain ⟨h1,h2,h3,h4⟩:=ixN_seq e
    exact ⟨j,h1,h,h2,h3,h4⟩
theorem atI_nat {α:Type} {xs:List α} {j:Nat} {v:α} (h:xs[j]?=some v):atI xs (j:Int)=some v:=by
  have hj:j < xs.length:=(List.getElem?_eq_some_iff.mp h).1
  have e:ixN xs.length (j:Int)=some j:=by
    unfold ixN
    rw [if_pos (by omega),if_pos (by omega)];simp
  unfold atI;rw [e];exact h
def PlainIx (b:Expr):Prop:=∀ o i,subscripted b false o i=operate [o,i] (getItem o i)
def IxR (X:Cx) (r:R2):Prop :=
  ∀ (value slice:Expr) (pins:List (Addr×Obj)) (s:Shared) (σ:St) (H:Hp) (x y:V) (v u:Value) (Q:VK),Inv X pins σ H s→RelV x v→RelV y u→r x y H Q →
    subscripted slice false v u=operate [v,u] (getItem v u)→wpAny (model X.prog X.w) X.A (subscriptTail value slice v u) (EP X pins σ Q) X.xe s
def MtR (X:Cx) (id:String) (r:V→List V→Hp→VK→Prop):Prop :=
  ∀ (pins:List (Addr×Obj)) (s:Shared) (σ:St) (H:Hp) (x:V) (xs:List V) (v:Value) (us:List Value) (Q:VK),Inv X pins σ H s→RelV x v→Vals xs us→r x xs H Q →
    wpAny (model X.prog X.w) X.A (call (.builtin id) (v::us)) (EP X pins σ Q) X.xe s
section
variable {X:Cx} {a b:Expr} {ta tb:TE} {pos:Pos}
theorem IxR.or {r r':R2} (h:IxR X r) (h':IxR X r'):IxR X (fun x y H Q=>r x y H Q∨r' x y H Q):=by
  intro value slice pins s σ H x y v u Q I rx ry q hs
  rcases q with q | q
  · exact h value slice pins s σ H x y v u Q I rx ry q hs
  · exact h' value slice pins s σ H x y v u Q I rx ry q hs
theorem MtR.or {id:String} {r r':V→List V→Hp→VK→Prop} (h:MtR X id r) (h':MtR X id r'):MtR X id (fun x xs H Q=>r x xs H Q∨r' x xs H Q):=by
  intro pins s σ H x xs v us Q I rx rs q
  rcases q with q | q
  · exact h pins s σ H x xs v us Q I rx rs q
  · exact h' pins s σ H x xs v us Q I rx rs q
theorem pe_ix {r:R2} (hr:IxR X r) (ha:PE X a ta) (hb:PE X b tb) (hs:PlainIx b):PE X (.Subscript a b pos) (tOp r ta tb):=by
  intro pins s σ H Q I h
  exact Subscript_ (binT ha hb I h fun v u s2 x y H2 I2 rx ry q=>hr a b pins s2 σ H2 x y v u Q I2 rx ry q (hs _ _))

def rIxL (K:PySem.W.Frag):R2:=fun x y H Q=>∃ p xs i v,x=.ref p∧y=.int i∧SqL K H p xs∧atI xs i=some v∧Q v H
def rIxT (K:PySem.W.Frag):R2:=fun x y H Q=>∃ p xs i v,x=.ref p∧y=.int i∧SqT K H p xs∧atI xs i=some v∧Q v H
def rIxS:R2:=fun x y H Q=>∃ z i c,x=.str z∧y=.int i∧z.length≤sizeLine∧atI z.cps.toList i=some c∧Q (.str ⟨#[c]⟩) H
theorem ix_list:IxR X (rIxL X.K):=by
  intro value slice pins s σ H x y v u Q I rx ry h hs
  obtain ⟨p,xs,i,z,rfl,rfl,hq,he,q⟩:=h
  cases rx
  obtain ⟨t,rfl⟩:=ry
  obtain ⟨its,r,pl,hz⟩:=I.list hq
  obtain ⟨j,h1,h2,h3,h4,h5⟩:=atI_get he
  obtain ⟨w,ew,rw'⟩:=r.get h2
  have hl:=r.length
  have hn:=line63
  have fin:EP X pins σ Q w s:=⟨z,H,I,rw',q⟩
  by_cases h0:0≤i
  · have hj:i.toNat=j:=by
      rw [seqIndex_of h0 h5] at h1
      exact Option.some.inj h1
    exact item_listR pl.isList h0 (by omega) (by rw [hj];simpa using ew) fin hs
  · have hj:(i+(its.toArray.size:Int)).toNat=j:=by
      rw [seqIndex_neg (by omega) h4] at h1
      rw [List.size_toArray,← hl]
      exact Option.some.inj h1
    exact subscriptTail_builtinR (x:=w) pl.isList.typeIs slot_list_getitem.lookup
      (wpAny_getItem_list_neg (Q:=fun r s'=>r=w∧EP X pins σ Q r s') pl.isList (by omega) (by rw [List.size_toArray]<;>omega) (by omega) (by rw [hj];simpa using ew) ⟨rfl,fin⟩) hs
theorem ix_tup:IxR X (rIxT X.K):=by
  intro value slice pins s σ H x y v u Q I rx ry h hs
  obtain ⟨p,xs,i,z,rfl,rfl,hq,he,q⟩:=h
  cases rx
  obtain ⟨t,rfl⟩:=ry
  obtain ⟨its,r,pl,hz⟩:=I.tuple hq
  obtain ⟨j,h1,h2,h3,h4,h5⟩:=atI_get he
  obtain ⟨w,ew,rw'⟩:=r.get h2
  have hl:=r.length
  have hn:=line63
  have fin:EP X pins σ Q w s:=⟨z,H,I,rw',q⟩
  exact subscriptTail_builtinR (x:=w) pl.typeIs slot_tuple_getitem.lookup
    (getItem_tuple (j:=j) (Q:=fun r s'=>r=w∧EP X pins σ Q r s') pl (by omega) (by omega) (by rw [List.size_toArray,← hl];exact h1) (by simpa using ew) ⟨rfl,fin⟩) hs
theorem ix_str:IxR X rIxS:=by
  intro value slice pins s σ H x y v u Q I rx ry h hs
  obtain ⟨z,i,c,rfl,rfl,hz,he,q⟩:=h
  obtain ⟨t,rfl⟩:=rx
  obtain ⟨t',rfl⟩:=ry
  obtain ⟨j,h1,h2,h3,h4,h5⟩:=atI_get he
  have hl:z.cps.toList.length=z.length:=by simp [Str.length]
  rw [hl] at h1 h4 h5
  have hn:=line63
  exact tail_any (typeIs_str s z t) slot_str_getitem.lookup (getItem_str (c:=c) (by
    have e1:decide (i < -(2 ^ 63:Int))=false:=decide_eq_false (by omega)
    have e2:decide (i≥2 ^ 63)=false:=decide_eq_false (by omega)
    rw [e1,e2,Bool.or_false]) (by rw [h1];simpa using h2) ⟨.str ⟨#[c]⟩,H,I.tok _,⟨_,rfl⟩,q⟩) hs
theorem mapSeq_set (its:List Value) (n j:Nat) (u:Value):Obj.mapSeq (·.setIfInBounds j u) { cls:=.type "list",data:=.seq its.toArray n }={ cls:=.type "list",data:=.seq (its.set j u).toArray n }:=by
  simp [Obj.mapSeq]
theorem Inv.lst {pins:List (Addr×Obj)} {σ:St} {H:Hp} {s:Shared} {p:Addr} {xs:List V} (I:Inv X pins σ H s) (h:H p=some (.lst xs)) :
    ∃ (its:List Value) (n:Nat),Vals xs its∧s.heap.get? p=some { cls:=.type "list",data:=.seq its.toArray n }∧xs.length≤sizeLine:=by
  obtain ⟨z,its,n,r,e⟩:=I.hok p _ h
  exact ⟨its,n,r,e,z⟩
theorem Inv.lstUpd {pins:List (Addr×Obj)} {σ:St} {H:Hp} {s:Shared} {p:Addr} {xs ys:List V} {its its':List Value} {n n':Nat} {f:Obj→Obj} (I:Inv X pins σ H s) (h:H p=some (.lst xs))
    (ho:s.heap.get? p=some { cls:=.type "list",data:=.seq its.toArray n }) (hf:f { cls:=.type "list",data:=.seq its.toArray n }={ cls:=.type "list",data:=.seq its'.toArray n' }) (r:Vals ys its') (hz:ys.length≤sizeLine) (t:Nat) :
    Inv X pins σ (upd H p (.lst ys)) { s with heap:=s.heap.update p f,toks:=t }:=by
  have e:(s.heap.update p f).get? p=some { cls:=.type "list",data:=.seq its'.toArray n' }:=by
    rw [Heap.get?_update_self f ho (by rw [hf]<;>rfl),hf]
  refine I.write (x:=p) (e:=p) (by rw [h];trivial) (.inl rfl) (fun b u hb q=>(Heap.get?_update_other _ _ (Ne.symm hb)).trans q) ⟨_,e⟩ ?_
  exact ⟨hz,its',n',r,e⟩
def rSetL:V→V→V→Hp→(Hp→Prop)→Prop:=fun o i v H Q=>∃ p xs k j,o=.ref p∧i=.int k∧H p=some (.lst xs)∧ixN xs.length k=some j∧Q (upd H p (.lst (xs.set j v)))
theorem set_list:PSet X rSetL:=by
  intro pins s σ H o i v ov iv u Q I ro ri rv h
  obtain ⟨p,xs,k,j,rfl,rfl,hp,hj,q⟩:=h
  cases ro
  obtain ⟨t,rfl⟩:=ri
  obtain ⟨its,n,r,ho,hz⟩:=I.lst hp
  obtain ⟨h1,h2,h3,h4⟩:=ixN_seq hj
  have hl:=r.length
  have hn:=line63
  have I':Inv X pins σ (upd H p (.lst (xs.set j v))) { s with heap:=s.heap.update p (Obj.mapSeq (·.setIfInBounds j u)) } :=
    I.lstUpd hp ho (mapSeq_set its n j u) (r.set rv j) (by rw [List.length_set];exact hz) s.toks
  by_cases h0:0≤k
  · have hk:k.toNat=j:=by
      rw [seqIndex_of h0 h4] at h1
      exact Option.some.inj h1
    exact PySem.W.ki_setAt ho h0 (by omega) (by rw [List.size_toArray,← hl];exact h4) (by rw [hk];exact ⟨_,I',q⟩)
  · have hk:(k+(its.toArray.size:Int)).toNat=j:=by
      rw [seqIndex_neg (by omega) h3] at h1
      rw [List.size_toArray,← hl]
      exact Option.some.inj h1
    exact PySem.W.ki_setBack ho (by omega) (by rw [List.size_toArray,← hl];exact h3) (by omega) (by rw [hk];exact ⟨_,I',q⟩)

def rSlL (K:PySem.W.Frag):V→Option Int→Option Int→Hp→VK→Prop:=fun x lo hi H Q=>∃ a xs,x=.ref a∧SqL K H a xs∧∀ p,H p=none→Q (.ref p) (upd H p (.lst (cutV xs lo hi)))
def flatV:V→Bool
  | .non=>true
  | .bl _=>true
  | .int _=>true
  | .str _=>true
  | _=>false
def eqV:V→V→Bool
  | .non,.non=>true
  | .bl a,.bl b=>a == b
  | .bl a,.int b=>(if a then 1 else 0) == b
  | .int a,.bl b=>a == (if b then 1 else 0)
  | .int a,.int b=>a == b
  | .str a,.str b=>a == b
  | _,_=>false
theorem eqAt_V {A:Around} {s:Shared} {y x:V} {u v:Value} (ry:RelV y u) (rx:RelV x v) (fy:flatV y=true) (fx:flatV x=true):SeqAt.EqAt A s u v (eqV y x):=by
  cases y with
  | non =>
    cases ry
    cases x with
    | non=>cases rx;exact SeqAt.EqAt.same _
    | bl b=>cases rx;exact SeqAt.EqAt.none_bool b
    | int b=>obtain ⟨t,rfl⟩:=rx;exact SeqAt.EqAt.none_int b t
    | str b=>obtain ⟨t,rfl⟩:=rx;exact SeqAt.EqAt.none_str b t
    | _=>exact absurd (show false=true from fx) Bool.false_ne_true
  | bl a =>
    cases ry
    cases x with
    | non=>cases rx;exact SeqAt.EqAt.bool_none a
    | bl b=>cases rx;exact SeqAt.EqAt.bool_bool a b
    | int b=>obtain ⟨t,rfl⟩:=rx;exact SeqAt.EqAt.bool_int a b t
    | str b=>obtain ⟨t,rfl⟩:=rx;exact SeqAt.EqAt.bool_str a b t
    | _=>exact absurd (show false=true from fx) Bool.false_ne_true
  | int a =>
    obtain ⟨t',rfl⟩:=ry
    cases x with
    | non=>cases rx;exact SeqAt.EqAt.int_none a t'
    | bl b=>cases rx;exact SeqAt.EqAt.int_bool a t' b
    | int b=>obtain ⟨t,rfl⟩:=rx;exact SeqAt.EqAt.int_int a t' b t
    | str b=>obtain ⟨t,rfl⟩:=rx;exact SeqAt.EqAt.int_str a t' b t
    | _=>exact absurd (show false=true from fx) Bool.false_ne_true
  | str a =>
    obtain ⟨t',rfl⟩:=ry
    cases x with
    | non=>cases rx;exact SeqAt.EqAt.str_none a t'
    | bl b=>cases rx;exact SeqAt.EqAt.str_bool a t' b
    | int b=>obtain ⟨t,rfl⟩:=rx;exact SeqAt.EqAt.str_int a t' b t
    | str b=>obtain ⟨t,rfl⟩:=rx;exact SeqAt.EqAt.str_str a t' b t
    | _=>exact absurd (show false=true from fx) Bool.false_ne_true
  | _=>exact absurd (show false=true from fy) Bool.false_ne_true
def eqU (x:V) (u:Value):Bool:=match u with
  | .none=>eqV .non x
  | .bool b=>eqV (.bl b) x
  | .int i _=>eqV (.int i) x
  | .str z _=>eqV (.str z) x
  | _=>false
theorem eqU_of {x y:V} {u:Value} (r:RelV y u) (f:flatV y=true):eqU x u=eqV y x:=by
  cases y with
  | non=>cases r;rfl
  | bl b=>cases r;rfl
  | int i=>obtain ⟨t,rfl⟩:=r;rfl
  | str z=>obtain ⟨t,rfl⟩:=r;rfl
  | _=>exact absurd (show false=true from f) Bool.false_ne_true
theorem any_eqU {x:V}:∀ {xs:List V} {us:List Value},Vals xs us→xs.all flatV=true→us.any (eqU x)=xs.any fun y=>eqV y x
  | _,_,.nil,_=>rfl
  | y::xs,u::us,.cons r t,f=>by
    rw [List.all_cons,Bool.and_eq_true] at f
    rw [List.any_cons,List.any_cons,eqU_of r f.1,any_eqU t f.2]
theorem mem_eqAt {A:Around} {s:Shared} {x:V} {v:Value} (rx:RelV x v) (fx:flatV x=true):∀ {xs:List V} {us:List Value},Vals xs us→xs.all flatV=true→∀ u∈us,SeqAt.EqAt A s u v (eqU x u)
  | _,_,.nil,_=>fun u hu=>by cases hu
  | y::xs,u::us,.cons r t,f=>fun u' hu=>by
    rw [List.all_cons,Bool.and_eq_true] at f
    rcases List.mem_cons.mp hu with rfl | hu
    · rw [eqU_of r f.1];exact eqAt_V r rx f.1 fx
    · exact mem_eqAt rx fx t f.2 u' hu
def inV (x:V) (xs:List V):Bool:=xs.any fun y=>eqV y x
def rIn (K:PySem.W.Frag) (neg:Bool):R2:=fun x y H Q=>∃ p xs,y=.ref p∧(SqL K H p xs∨SqT K H p xs)∧flatV x=true∧xs.all flatV=true∧Q (.bl (if neg then !inV x xs else inV x xs)) H
theorem op_in_seq:OpR X (compareOp .In) (rIn X.K false):=by
  intro pins s σ H x y v u Q I rx ry h
  obtain ⟨p,xs,rfl,hq,fx,fs,q⟩:=h
  cases ry
  rcases hq with hq | hq
  · obtain ⟨its,r,pl,hz⟩:=I.list hq
    refine SeqAt.in_listAt (eqU x) pl.isList (fun w hw=>mem_eqAt rx fx r fs w (by simpa using hw)) ⟨.bl _,H,I,rfl,?_⟩
    rw [show its.toArray.any (eqU x)=its.any (eqU x) by simp,any_eqU r fs]
    exact q
  · obtain ⟨its,r,pl,hz⟩:=I.tuple hq
    refine SeqAt.in_tupleAt (eqU x) pl (fun w hw=>mem_eqAt rx fx r fs w (by simpa using hw)) ⟨.bl _,H,I,rfl,?_⟩
    rw [show its.toArray.any (eqU x)=its.any (eqU x) by simp,any_eqU r fs]
    exact q
theorem op_notIn_seq:OpR X (compareOp .NotIn) (rIn X.K true):=by
  intro pins s σ H x y v u Q I rx ry h
  obtain ⟨p,xs,rfl,hq,fx,fs,q⟩:=h
  cases ry
  rcases hq with hq | hq
  · obtain ⟨its,r,pl,hz⟩:=I.list hq
    refine SeqAt.notIn_listAt (eqU x) pl.isList (fun w hw=>mem_eqAt rx fx r fs w (by simpa using hw)) ⟨.bl _,H,I,rfl,?_⟩
    rw [show its.toArray.any (eqU x)=its.any (eqU x) by simp,any_eqU r fs]
    exact q
  · obtain ⟨its,r,pl,hz⟩:=I.tuple hq
    refine SeqAt.notIn_tupleAt (eqU x) pl (fun w hw=>mem_eqAt rx fx r fs w (by simpa using hw)) ⟨.bl _,H,I,rfl,?_⟩
    rw [show its.toArray.any (eqU x)=its.any (eqU x) by simp,any_eqU r fs]
    exact q
theorem op_notIn_str:OpR X (compareOp .NotIn) (fun x y H Q=>∃ i j,x=.str i∧y=.str j∧Q (.bl (!(!(Builtin.Str.occurrences j i 0 j.length 1).isEmpty))) H):=by
  intro pins s σ H x y v u Q I rx ry h
  obtain ⟨i,j,rfl,rfl,q⟩:=h
  obtain ⟨t,rfl⟩:=rx
  obtain ⟨t',rfl⟩:=ry
  exact notIn_str ⟨.bl _,H,I,rfl,q⟩

theorem call_len_seq:CallR X (.builtin "len") (fun xs H Q=>∃ p ys,xs=[.ref p]∧(SqL X.K H p ys∨SqT X.K H p ys)∧Q (.int ys.length) H):=by
  intro pins s σ H xs us Q I r h
  obtain ⟨p,ys,rfl,hq,q⟩:=h
  obtain ⟨u,rfl,rx⟩:=vals1 r
  cases rx
  have hn:=line63
  rcases hq with hq | hq
  · obtain ⟨its,r',pl,hz⟩:=I.list hq
    have hlen:=r'.length
    exact Calls.call_len_list pl.isList (by simp only [List.size_toArray]<;>omega) ⟨.int ys.length,H,I.tok _,⟨s.toks+1,by rw [List.size_toArray,hlen]⟩,q⟩
  · obtain ⟨its,r',pl,hz⟩:=I.tuple hq
    have hlen:=r'.length
    exact len_tuple pl (by simp only [List.size_toArray]<;>omega) ⟨.int ys.length,H,I.tok _,⟨s.toks+1,by rw [List.size_toArray,hlen]⟩,q⟩
theorem call_len_str:CallR X (.builtin "len") (fun xs H Q=>∃ z,xs=[.str z]∧z.length≤sizeLine∧Q (.int z.length) H):=by
  intro pins s σ H xs us Q I r h
  obtain ⟨z,rfl,hz,q⟩:=h
  obtain ⟨u,rfl,t,rfl⟩:=vals1 r
  have hn:=line63
  exact len_str (by omega) ⟨.int z.length,H,I.tok _,⟨_,rfl⟩,q⟩
theorem CallR.or {f:Value} {r r':List V→Hp→VK→Prop} (h:CallR X f r) (h':CallR X f r'):CallR X f (fun xs H Q=>r xs H Q∨r' xs H Q):=by
  intro pins s σ H xs us Q I rs q
  rcases q with q | q
  · exact h pins s σ H xs us Q I rs q
  · exact h' pins s σ H xs us Q I rs q
theorem call_list_of:CallR X (.type "list") (fun xs H Q=>∃ p ys,xs=[.ref p]∧(SqL X.K H p ys∨SqT X.K H p ys)∧∀ l,H l=none→Q (.ref l) (upd H l (.lst ys))):=by
  intro pins s σ H xs us Q I r h
  obtain ⟨p,ys,rfl,hq,q⟩:=h
  obtain ⟨u,rfl,rx⟩:=vals1 r
  cases rx
  have fin:∀ (its:List Value),Vals ys its→ys.length≤sizeLine→∀ (h':Heap) (c':Nat),(∀ b o',s.heap.get? b=some o'→h'.get? b=some o') →
      h'.get? s.heap.objs.size=some { cls:=.type "list",dict:=none,data:=.seq its.toArray c',slots:=#[] }→EP X pins σ Q (.ref s.heap.objs.size) { s with heap:=h' }:=fun its r' hz h' c' kp e =>
    ⟨.ref s.heap.objs.size,_,I.laid (t':=s.toks) kp (Nat.le_refl _) (show ObjOk X.prog X.w _ h' _ (.lst ys) from ⟨hz,its,c',r',e⟩),rfl,q _ (I.hok.fresh (Nat.le_refl _))⟩
  rcases hq with hq | hq
  · obtain ⟨its,r',pl,hz⟩:=I.list hq
    have hlen:=r'.length
    obtain ⟨o,ho,hc,n,hd⟩:=pl.isList
    exact call_list_seq p (.inl rfl) ho hc hd (fun h' c' kp e=>fin its r' hz h' c' kp e) (by simp only [List.size_toArray]<;>omega)
  · obtain ⟨its,r',pl,hz⟩:=I.tuple hq
    have hlen:=r'.length
    obtain ⟨o,ho,hc,n,hd⟩:=pl
    exact call_list_seq p (.inr rfl) ho hc hd (fun h' c' kp e=>fin its r' hz h' c' kp e) (by simp only [List.size_toArray]<;>omega)
def tyV (K:PySem.W.Frag) (T:String) (x:V) (H:Hp):Prop:=match x with
  | .str _=>T = "str"
  | .int _=>T = "int"
  | .ref p=>(T = "list" ∧ ∃ xs,SqL K H p xs)∨(T = "tuple" ∧ ∃ o,K.lookup p=some o∧o.cls=.type "tuple" ∧ o.dict=none) ∨
      (T = "dict" ∧ ((∃ kvs,H p=some (.dK kvs))∨∃ kvs,H p=some (.dT kvs)))∨(T = "set" ∧ ∃ S n,H p=some (.set S n))
  | _=>False
theorem tyV_is {pins:List (Addr×Obj)} {σ:St} {H:Hp} {s:Shared} {T:String} {x:V} {v:Value} (I:Inv X pins σ H s) (r:RelV x v) (ty:tyV X.K T x H) :
    s.TypeIs v T∧∀ a,v=.ref a→∃ ob,s.heap.get? a=some ob∧ob.dict=none:=by
  cases x with
  | str z =>
    obtain ⟨t,rfl⟩:=r
    cases (show T = "str" from ty)
    exact ⟨typeIs_str s z t,fun _ e=>nomatch e⟩
  | int i =>
    obtain ⟨t,rfl⟩:=r
    cases (show T = "int" from ty)
    exact ⟨typeIs_int s i t,fun _ e=>nomatch e⟩
  | ref p =>
    cases r
    rcases ty with ⟨rfl,xs,hq⟩ | ⟨rfl,o,hk,hc,hd⟩ | ⟨rfl,hk⟩ | ⟨rfl,S,n,hk⟩
    · obtain ⟨its,_,pl,_⟩:=I.list hq
      refine ⟨pl.isList.typeIs,fun a e=>?_⟩
      cases e
      obtain ⟨o,n,e,c,hd,_⟩:=pl
      exact ⟨o,e,hd⟩
    · refine ⟨⟨o,I.kIn p o hk,hc⟩,fun a e=>?_⟩
      cases e
      exact ⟨o,I.kIn _ o hk,hd⟩
    · have z:∃ o,s.heap.get? p=some o∧o.ExactDict:=by
        rcases hk with ⟨kvs,hk⟩ | ⟨kvs,hk⟩
        · obtain ⟨_,_,_,_,o,_,_,e,ex,_⟩:=I.hok p _ hk
          exact ⟨o,e,ex⟩
        · obtain ⟨_,_,_,_,o,_,_,e,ex,_⟩:=I.hok p _ hk
          exact ⟨o,e,ex⟩
      obtain ⟨o,e,ex⟩:=z
      refine ⟨⟨o,e,ex.1⟩,fun a e2=>?_⟩
      cases e2
      exact ⟨o,e,ex.2.1⟩
    · obtain ⟨o,_,_,_,e,ex,_⟩:=I.hok p _ hk
      refine ⟨⟨o,e,ex.1⟩,fun a e2=>?_⟩
      cases e2
      exact ⟨o,e,ex.2.1⟩
  | _=>exact False.elim ty
def tBM0 (K:PySem.W.Frag) (T:String) (r:V→List V→Hp→VK→Prop) (to:TE):TE:=fun σ H Q=>to σ H fun x H1=>tyV K T x H1∧r x [] H1 Q
def tBM (K:PySem.W.Frag) (T:String) (r:V→List V→Hp→VK→Prop) (to:TE) (t:TA):TE:=fun σ H Q=>to σ H fun x H1=>tyV K T x H1∧t σ H1 fun xs H2=>r x xs H2 Q
variable {o e:Expr} {es:List Expr} {to:TE} {t:TA} {name:Str} {apos cpos:Pos} {T id:String} {r:V→List V→Hp→VK→Prop}
theorem pe_bm (pa:PlainAttrs T) (slot:Slot T name id) (hty:typeOf (.builtin id)=pure (.type "method_descriptor")) (hm:MtR X id r) (ho:PE X o to) (ha:PA X (e::es) t)
    (hbase:attributeBase o name X.env (eval o X.env)=eval o X.env:=by rfl)
    (hfew:((backTo cpos (starEach (e::es) X.env)).all (fun x=>!x.1) && (backToKw cpos (keywordEach [] X.env)).all (fun x=>x.1.isSome)
      && decide ((e::es).length+([]:List Keyword).length+(if ([]:List Keyword).isEmpty then 0 else 1) < 30))=true:=by rfl)
    (hline:(apos.endLine == cpos.line)=true:=by rfl) (hs:starEach (e::es) X.env=(false,eval e X.env)::starEach es X.env:=by rfl) (hplain:(backTo cpos (starEach es X.env)).any (·.1)=false:=by rfl) :
    PE X (.Call (.Attribute o name apos) (e::es) [] cpos) (tBM X.K T r to t):=by
  intro pins s σ H Q I h
  refine wpAny_Call_method_late hbase hfew hline rfl (thn (ho pins s σ H _ I h) fun v s1 ⟨x,H1,I1,r1,ty,q1⟩=>?_)
  obtain ⟨h1,h2⟩:=tyV_is I1 r1 ty
  refine ⟨T,id,pa,slot,hty,h1,h2,?_⟩
  have hA:=ha cpos pins s1 σ H1 _ I1 q1
  rw [hs] at hA ⊢
  refine Calls.callWith_builtin (by show (false || (backTo cpos (starEach es X.env)).any (·.1))=false;rw [hplain]<;>rfl) (Calls.evalArgs_plain ?_)
  exact thn hA fun us s2 ⟨vs,H2,I2,r2,q2⟩=>hm pins s2 σ H2 x vs v us Q I2 r1 r2 q2
end
end L2

namespace L2
open PySem PySem.Spec PyProof.Rows

def MtM (X:Cx) (id:String) (r:V→List V→Hp→VK→Prop):Prop :=
  ∀ (pins:List (Addr×Obj)) (s:Shared) (σ:St) (H:Hp) (x:V) (xs:List V) (v:Value) (us:List Value) (Q:VK),Inv X pins σ H s→RelV x v→Vals xs us→r x xs H Q →
    wpAny (model X.prog X.w) X.A (call (.builtin id) (v::us)) (EP X pins σ Q) X.xe s

theorem Vals.one:∀ {x:V} {us:List Value},Vals [x] us→∃ u,us=[u]∧RelV x u
  | _,_,.cons r .nil=>⟨_,rfl,r⟩
theorem Vals.two:∀ {x y:V} {us:List Value},Vals [x,y] us→∃ u v,us=[u,v]∧RelV x u∧RelV y v
  | _,_,_,.cons r (.cons q .nil)=>⟨_,_,rfl,r,q⟩
theorem Vals.zero:∀ {us:List Value},Vals [] us→us=[]
  | _,.nil=>rfl
theorem Vals.reverse {xs:List V} {us:List Value} (h:Vals xs us):Vals xs.reverse us.reverse:=by
  induction h with
  | nil=>exact .nil
  | cons r t ih=>rw [List.reverse_cons,List.reverse_cons];exact Vals.append ih (.cons r .nil)
section
variable {X:Cx} {pins:List (Addr×Obj)} {σ:St} {H:Hp} {s:Shared} {l b:Addr} {xs ys zs:List V}

theorem Inv.lset {its its':List Value} {n:Nat} {f:Array Value→Array Value} {t':Nat} (I:Inv X pins σ H s) (hH:H l=some (.lst xs))
    (e:s.heap.get? l=some { cls:=.type "list",data:=.seq its.toArray n }) (hf:f its.toArray=its'.toArray) (hv:Vals ys its') (hz:ys.length≤sizeLine) :
    Inv X pins σ (upd H l (.lst ys)) { s with heap:=s.heap.update l (Obj.mapSeq f),toks:=t' }:=by
  have q:=PySem.IsL.update e f
  rw [hf] at q
  refine I.write (x:=l) (e:=l) (by rw [hH];exact trivial) (.inl rfl) (fun b' u hb hu=>(Heap.get?_update_other s.heap (Obj.mapSeq f) (Ne.symm hb)).trans hu) ⟨_,q⟩ ?_
  exact ⟨hz,its',_,hv,q⟩
theorem Inv.lnew {its:List Value} {t':Nat} (I:Inv X pins σ H s) (hv:Vals ys its) (hz:ys.length≤sizeLine) :
    Inv X pins σ (upd H s.heap.objs.size (.lst ys)) { s with heap:=s.heap.push { cls:=.type "list",data:=.seq its.toArray },toks:=t' } :=
  I.laid (fun _ _ q=>Heap.get?_push_of_some _ q) (Nat.le_refl _) ⟨hz,its,0,hv,Heap.get?_push_size _ rfl⟩
theorem Inv.fresh (I:Inv X pins σ H s):H s.heap.objs.size=none:=I.hok.fresh (Nat.le_refl _)
theorem Inv.lstM (I:Inv X pins σ H s) (hH:H l=some (.lst xs)):xs.length≤sizeLine∧∃ (its:List Value) (n:Nat),Vals xs its∧xs.length=its.length∧s.heap.get? l=some { cls:=.type "list",data:=.seq its.toArray n }:=by
  obtain ⟨z,its,n,r,e⟩:=I.hok l _ hH
  exact ⟨z,its,n,r,r.length,e⟩

end

section
variable {X:Cx}

def rAppend:V→List V→Hp→VK→Prop:=fun x vs H Q=>∃ l xs y,x=.ref l∧vs=[y]∧H l=some (.lst xs)∧xs.length < sizeLine∧Q .non (upd H l (.lst (xs++[y])))
theorem mt_append:MtM X "list.append" rAppend:=by
  intro pins s σ H x vs v us Q I rx rv h
  obtain ⟨l,xs,y,rfl,rfl,hH,hz,q⟩:=h
  cases rx
  obtain ⟨u,rfl,ru⟩:=rv.one
  obtain ⟨z,its,n,r,hl,e⟩:=I.lstM hH
  refine call_meets F.slot_list_append ⟨_,e,rfl⟩ F.entry_list_append (F.args_list_append_2 _ _) (PySem.list_append l its.toArray n u (by rw [List.size_toArray];omega)) ⟨e,?_⟩
  refine ⟨.non,_,I.lset (its':=its++[u]) hH e (by simp) (r.append (.cons ru .nil)) ?_,rfl,q⟩
  rw [List.length_append,List.length_singleton]
  omega

end

section
variable {prog:Program} {w:World} {A:Around} {E:Value→Shared→Prop} {s:Shared}
end

section
variable {X:Cx}
end
end L2

namespace Att
open PySem PySem.W PySem.Calls PyProof.Rows

theorem ints_of_wellAll {P:Params} {h:Heap}:∀ (ns:List Int) (vs:List Value),WellAll P h vs (ns.map WData.int)→IntsAre vs ns:=by
  intro ns
  induction ns with
  | nil =>
    intro vs w
    rw [List.map_nil] at w
    cases w
    exact .nil
  | cons n ns ih =>
    intro vs w
    rw [List.map_cons] at w
    cases w with
    | cons a b =>
      cases a
      exact .cons _ _ (ih _ b)

theorem script_of {l:OpenLaw} {n:Nat} (hn:l.most=some n) {P:Params} {h:Heap} {args:List WData} {vals:List Value}
    (hpre:l.row.toRowW.claim.pre args=true) (hwl:WellAll P h vals args) :
    ∃ a vs ns,vals=[Value.ref a]∧args=[WData.list (ns.map WData.int)]∧h.get? a=some { cls:=.type "list",data:=.seq vs.toArray }∧IntsAre vs ns∧ns.length≤n:=by
  have hsh:WShape.hasAll [] args [.list .int]=true:=(pre_splitW hpre).1
  have hc:l.pre.holds [] { args:=args }=true:=(pre_splitW hpre).2
  obtain ⟨d,r,rfl,h1,h2⟩:=hasAllW_cons hsh
  obtain rfl:=hasAllW_nil h2
  obtain ⟨xs,rfl,h3⟩:=hasW_list h1
  obtain ⟨ns,rfl⟩:=items_int h3
  have hlen:ns.length≤n:=by
    unfold OpenLaw.pre at hc
    have h4:(WTm.not (.lt (.lit (.int (n:Int))) (.len (.arg 0)))).holds [] { args:=[.list (ns.map .int)] }=true:=by
      have h4:=(holds_andW hc).1
      rw [hn] at h4
      exact h4
    have h5:=condW_of h4 (w_not (w_lt w_lit (w_len_list (w_arg rfl))))
    rw [List.length_map] at h5
    refine Nat.le_of_not_lt fun q=>?_
    have q':(n:Int) < ((ns.length:Nat):Int):=by omega
    first
      | (rw [decide_eq_true q'] at h5;exact absurd h5 (by decide))
      | (simp at h5;omega)
  cases hwl with
  | cons w1 w2 =>
    cases w2
    cases w1 with
    | list ho hall=>exact ⟨_,_,ns,rfl,rfl,ho,ints_of_wellAll ns _ hall,hlen⟩

theorem post_true (l:OpenLaw) (args:List WData):l.row.toRowW.claim.post args (.bool true) args=true :=
  postW_of (r:=l.row.toRowW) (X:=(true == true))
    (show WShape.has [] (.bool true) .bool=true by first | rfl | decide | simp [WShape.has,WShape.arms,WShape.armsAll])
    (show (WTm.eq .res (.lit (.bool true))).value [] { args:=args,res:=some (.bool true),after:=args }=some (.bool (true == true)) from w_eq_bool (w_res rfl) w_lit) rfl

theorem attach_call {l:OpenLaw} {n:Nat} {q:Program} {loose:List Str} {XP:(Str→Option Value)→Heap→Prop} {YP:World→Heap→Prop} {d:DefRec}
    (hn:l.most=some n) (hdf:d.params.defaults=[])
    (call:∀ (w:World) (s₀ s₁:Shared) (mg mb:Str→Option Value) (fa:Addr) (o:Obj) (pm cd doc:Value) (a:Addr) (vs:List Value) (ns:List Int),
      Ground q loose [] XP w s₀ mg mb s₁.heap→YP w s₁.heap →
      s₁.heap.get? fa=some o→o.data=.func (docDef d.name d.params d.body d.scope pm cd doc)→s₁.heap.CodeRec cd d.name→mg d.name=some (.ref fa) →
      s₁.heap.get? a=some { cls:=.type "list",data:=.seq vs.toArray }→IntsAre vs ns→ns.length≤n→s₁.gens=#[] →
      codeAny (model l.prog w) callerA (.call (.ref fa) ⟨[.ref a],[]⟩) (fun r s'=>r=.ok (.ret (.bool true))∧OldK s₁.heap s'.heap∧s'.os=s₁.os∧AllBare s'.gens) s₁) :
    WalkO q loose XP YP l.row.toRowW d [] (fun f vs=>PySem.call f vs):=by
  intro w s₀ s₁ mg mb G Y fa o pm cd doc dV kV ho hd hcd hD hmg hg args vals as hpre hlay hrd hwl hlo
  obtain rfl:dV=.none:=Dflts.none hD hdf
  obtain rfl:kV=.none:=Dflts.noKw hD
  obtain ⟨a,vs,ns,rfl,rfl,hobj,hints,hlen⟩:=script_of hn hpre hwl
  refine enter_call (codeAny_mono (call w s₀ s₁ mg mb fa o pm cd doc a vs ns G Y ho (fd_plain hd) hcd hmg hobj hints hlen hg) fun r s' hq=>?_)
  obtain ⟨rfl,h2,h3,h4⟩:=hq
  exact ⟨.inl ⟨.bool true,.bool true,[],rfl,fun _=>rfl,.bool true,post_true l _,fun _=>⟨List.Pairwise.nil,fun _ hm=>(nomatch hm)⟩⟩,h2,h3,h4⟩

section
variable {prog:Program} {w:World} {A:Around} {E:Value→Shared→Prop} {s:Shared} {K:Frag}

def ledger (h:Heap) (L d:Addr):List (Addr×Obj):=(List.range h.objs.size).filterMap fun a=>if a=L∨a=d then none else (h.get? a).map fun o=>(a,o)
end
end Att

namespace L2
open PySem PySem.Spec PyProof.Rows

theorem vals_ints:∀ {vs:List Value} {ns:List Int},IntsAre vs ns→Vals (ns.map V.int) vs
  | _,_,.nil=>.nil
  | _,_,.cons n t h=>.cons ⟨t,rfl⟩ (vals_ints h)

def Only (H:Hp):Prop:=∀ b,H b=none∨∃ o xs,H b=some (.frz o (.lst xs))

theorem law_call {P:Program} {w:World} {K:PySem.W.Frag} {mg mb:Str→Option Value} {CX:CXT} {k:Nat} {fa a:Addr} {fd:FuncData} {x:Str} {sp:Sp} {s₁:Shared} {vs:List Value} {ns:List Int}
    (KX:K.In s₁.heap) (hns:s₁.heap.Ns mainGlobals mg) (hb:s₁.heap.Ns builtinsNs mb) (hbb:∀ x:Str,x ≠ "__name__" → mb x=bootBuiltins x) (hlim:s₁.heap.NoLimit) (hg:s₁.gens=#[])
    (ha:s₁.heap.get? a=some { cls:=.type "list",data:=.seq vs.toArray }) (hi:IntsAre vs ns) (hl:ns.length≤sizeLine) (hr:Room k callerA)
    (F:∀ base:Heap,K.In base→base.Ns mainGlobals mg→FnOk P w K mg base CX k fa fd [x] sp) (hbind:∀ (s:Shared) (u:Value),BindsTo s fd ⟨[u],[]⟩ [(x,u)])
    (hsp:∀ H:Hp,Only H→SqL K H a (ns.map V.int)→sp [.ref a] H (fun v _=>v=.bl true) fun _ _ _=>False)
    (hCX:∀ H e s',CX [] H s₁ (fun _ _ _=>False) e s'→False) :
    codeAny (model P w) callerA (.call (.ref fa) ⟨[.ref a],[]⟩) (fun r s'=>r=.ok (.ret (.bool true))∧OldK s₁.heap s'.heap∧s'.os=s₁.os∧AllBare s'.gens) s₁:=by
  have rv:=vals_ints hi
  have lenV:=hi.length
  have core:∀ H:Hp,Only H→SqL K H a (ns.map V.int)→HOk P w H s₁.heap→(∀ b,H b≠none→b=a)→(H a≠none→K.lookup a=none) →
      codeAny (model P w) callerA (.call (.ref fa) ⟨[.ref a],[]⟩) (fun r s'=>r=.ok (.ret (.bool true))∧OldK s₁.heap s'.heap∧s'.os=s₁.os∧AllBare s'.gens) s₁:=by
    intro H hO hS hok hA hK
    have base_of:∀ {b:Addr} {o:Obj},s₁.heap.get? b=some o→H b=none→(hidT s₁.heap H).get? b=some o:=fun e n=>hidT_get e n
    have noA:∀ {b:Addr} {o:Obj} {es:Array DictEntry} {ep:Nat},s₁.heap.get? b=some o→o.data=.dict es ep→H b=none:=fun {b o es ep} e d=>by
      cases q:H b with
      | none=>rfl
      | some u =>
        have e':b=a:=hA b (by rw [q];simp)
        subst e'
        rw [ha] at e;cases e
        have d':Data.seq vs.toArray _=Data.dict es ep:=d
        cases d'
    have nsK:∀ {b:Addr} {m:Str→Option Value},s₁.heap.Ns b m→(hidT s₁.heap H).Ns b m:=fun {b m} ⟨o,es,ep,e,d,r⟩=>⟨o,es,ep,base_of e (noA e d),d,r⟩
    have hKb:K.In (hidT s₁.heap H):=fun b o e=>base_of (KX b o e) (by
      cases q:H b with
      | none=>rfl
      | some u =>
        have e':b=a:=hA b (by rw [q];simp)
        subst e'
        rw [hK (by rw [q];simp)] at e;cases e)
    have hM:Mod K mg (hidT s₁.heap H):=⟨hKb,nsK hns,⟨mb,nsK hb,hbb⟩,let ⟨mc,h1,h2⟩:=hlim;⟨mc,nsK h1,h2⟩⟩
    have e0:Env0 P w K mg (hidT s₁.heap H) callerA [] s₁ H:=⟨rfl,hM,fun b o e=>of_hidT e,Nat.le_of_eq (hidT_size _ _),trivial,fun b hb=>absurd (show b∈([]:List Addr) from hb) (by simp),hok,.of_eq hg⟩
    refine codeAny_mono ((F _ hKb (nsK hns)).run callerA [] s₁ H ⟨[.ref a],[]⟩ [.ref a] [.ref a] _ _ hr e0 (hbind s₁ (.ref a)) (.cons rfl .nil) (hsp H hO hS)) fun r s' h=>?_
    cases r with
    | error e=>exact (hCX H e s' h).elim
    | ok fl =>
      cases fl with
      | next=>exact False.elim h
      | brk=>exact False.elim h
      | cont=>exact False.elim h
      | ret u =>
        obtain ⟨v,H',os,bare,un,hok',r',q⟩:=h
        have q':v=.bl true:=q
        subst q'
        obtain rfl:u=Value.bool true:=r'
        refine ⟨rfl,OldK.of_keep fun b o e=>?_,os,bare⟩
        cases q:H b with
        | none=>exact un.keep b o e q (by intro z;exact absurd (show b∈([]:List Addr) from z) (by simp)) (by simp)
        | some u =>
          rcases hO b with z | ⟨ob,xs,z⟩
          · rw [q] at z;cases z
          · have z2:=un.frzs b ob _ z
            obtain ⟨e1,_⟩:=hok b _ z
            obtain ⟨e2,_⟩:=hok' b _ z2
            rw [e] at e1;cases e1
            exact e2
  cases hk:K.lookup a with
  | some o =>
    have e:=KX a o hk
    rw [ha] at e
    cases e
    refine core (fun _=>none) (fun _=>.inl rfl) (.inr ⟨_,vs.toArray,_,hk,rfl,rfl,rfl,by rw [List.size_toArray,lenV];exact hl,by simpa using rv⟩) (fun b u z=>by have z':(none:Option HO)=some u:=z;cases z') (fun b z=>absurd rfl z) fun z=>absurd rfl z
  | none =>
    refine core (fun b=>if b=a then some (.frz { cls:=.type "list",data:=.seq vs.toArray } (.lst (ns.map V.int))) else none) (fun b=>?_) (.inl (.inr ⟨{ cls:=.type "list",data:=.seq vs.toArray },if_pos rfl⟩)) (fun b u z=>?_) (fun b z=>?_) fun _=>hk
    · by_cases hb:b=a
      · exact .inr ⟨_,_,if_pos hb⟩
      · exact .inl (if_neg hb)
    · by_cases hb:b=a
      · have z':=(if_pos hb).symm.trans z
        cases z'
        subst hb
        exact ⟨ha,by rw [List.length_map];exact hl,vs,_,rv,ha⟩
      · have z':=(if_neg hb).symm.trans z
        cases z'
    · by_cases hb:b=a
      · exact hb
      · exact absurd (if_neg hb) z
end L2

namespace L2
open PySem PySem.Spec PyProof.Rows

abbrev KOf {K:PySem.W.Frag} {h:Heap} (_:K.In h):PySem.W.Frag:=K

theorem walk_of {l:PySem.W.OpenLaw} {n k:Nat} {q:Program} {loose:List Str} {XP:(Str→Option Value)→Heap→Prop} {YP:World→Heap→Prop} {d:DefRec} {K:Params→PySem.W.Frag} {CX:World→CXT} {sp:World→Sp} {x:Str}
    (hn:l.most=some n) (hn2:n≤sizeLine) (hdf:d.params.defaults=[]) (hr:Room k callerA)
    (hY:∀ (w:World) (h:Heap),YP w h→(K w.params).In h)
    (F:∀ (w:World) (mg:Str→Option Value) (fa:Addr) (h:Heap),(K w.params).In h→h.Ns mainGlobals mg→mg d.name=some (.ref fa) →
      ∃ fd:FuncData,(∀ (s:Shared) (u:Value),BindsTo s fd ⟨[u],[]⟩ [(x,u)]) ∧
        ∀ base:Heap,(K w.params).In base→base.Ns mainGlobals mg→FnOk l.prog w (K w.params) mg base (CX w) k fa fd [x] (sp w))
    (hsp:∀ (w:World) (H:Hp) (a:Addr) (ns:List Int),ns.length≤n→Only H→SqL (K w.params) H a (ns.map V.int)→sp w [.ref a] H (fun v _=>v=.bl true) fun _ _ _=>False)
    (hCX:∀ (w:World) (H:Hp) (s:Shared) (e:Value) (s':Shared),CX w [] H s (fun _ _ _=>False) e s'→False) :
    PySem.W.WalkO q loose XP YP l.row.toRowW d [] (fun f vs=>PySem.call f vs):=by
  refine Att.attach_call hn hdf fun w s₀ s₁ mg mb fa o pm cd doc a vs ns G Y ho hd hcd hmg hobj hints hlen hg=>?_
  have KX:=hY w _ Y
  obtain ⟨fd,hb,hF⟩:=F w mg fa _ KX G.T.g hmg
  exact law_call KX G.T.g G.T.b G.T.builtins G.T.nolimit hg hobj hints (Nat.le_trans hlen hn2) hr hF hb (fun H hO hS=>hsp w H a ns hlen hO hS) fun H e s'=>hCX w H s₁ e s'
end L2


namespace L2
open PySem PySem.Spec PyProof.Rows

def inClass (s:Stmt) (j:Nat):Stmt:=match s with
  | .ClassDef _ _ _ body _ _ _ _ _ _ _=>body.getD j (.Pass ⟨0,0,0,0⟩)
  | _=>.Pass ⟨0,0,0,0⟩
def defArgs (s:Stmt):Arguments:=match s with
  | .FunctionDef _ a _ _ _ _ _ _ _ _=>a
  | _=>{ posonlyargs:=[],args:=[],vararg:=none,kwonlyargs:=[],kw_defaults:=[],kwarg:=none,defaults:=[] }
def defBody (s:Stmt):List Stmt:=match s with
  | .FunctionDef _ _ b _ _ _ _ _ _ _=>b
  | _=>[]
def defScope (s:Stmt):Scope:=match s with
  | .FunctionDef _ _ _ _ _ _ sc _ _ _=>sc
  | _=>{ kind:=.function,names:=[],isGenerator:=false,isCoroutine:=false }

abbrev CX0:CXT:=fun _ _ _ _ _ _=>False
abbrev E0:XK:=fun _ _ _=>False
theorem pass0 {X:Cx}:Passes CX0 X E0:=fun _ _ _ _ _ _ _ h=>h.elim

structure Fun (K:PySem.W.Frag) (x qual:Str) (st:Stmt) (f:Addr) (fd:FuncData):Prop where
  ex:∃ (oc:Value) (od:Option Addr) (kV doc pm:Value) (an:Option Addr) (cdv ct:Value) (osl:Array (Option Value)),
    fd=PySem.W.fnOf x qual (defArgs st) (defBody st) (defScope st) .none kV doc pm an cdv ct∧K.lookup f=some ⟨oc,od,.func fd,osl⟩∧PySem.W.codeIn K cdv qual=true
  kp:PySem.W.keepIn K (.ref f)=true
section
variable {P:Program} {w:World} {K:PySem.W.Frag} {mg:Str→Option Value} {base:Heap}
theorem Fun.ok {x qual:Str} {st:Stmt} {f:Addr} {fd:FuncData} {N ps:List Str} {k:Nat} {sp:Sp} (F:Fun K x qual st f fd) (S:FnScope N ps (defScope st)) (len:∀ vs H Q E,sp vs H Q E→vs.length=ps.length)
    (hbody:∀ (cdv:Value) (A:Around) (outer:List Env) (s:Shared) (H:Hp) (vs:List V) (Q:VK) (E:XK),Room k (A.deeper (envOfC qual (defScope st) s.heap.objs.size f cdv))→sp vs H Q E →
      ∃ t,PSs (cxOf CX0 P w K mg base N qual (defScope st) f cdv A outer s H E).nox (defBody st) t∧t { nx:=fun _ H'=>Q .non H',rt:=Q } (start N vs) H):FnOk P w K mg base CX0 (k+1) f fd ps sp:=by
  obtain ⟨oc,od,kV,doc,pm,an,cdv,ct,osl,rfl,lk,hcd⟩:=F.ex
  refine fn_of lk hcd S len fun A outer s H vs Q E hr hsp=>?_
  obtain ⟨t,h,q⟩:=hbody cdv A outer s H vs Q E hr hsp
  exact ⟨t,h.nox,q⟩
theorem Fun.binds {x qual:Str} {st:Stmt} {f:Addr} {fd:FuncData} {ps:List Str} (F:Fun K x qual st f fd)
    (h:∀ (kV doc pm:Value) (an:Option Addr) (cdv ct:Value) (us:List Value),us.length=ps.length→bindArgs (PySem.W.fnOf x qual (defArgs st) (defBody st) (defScope st) .none kV doc pm an cdv ct) ⟨us,[]⟩=pure (ps.zip us)):Binds K fd ps []:=by
  obtain ⟨oc,od,kV,doc,pm,an,cdv,ct,osl,rfl,lk,hcd⟩:=F.ex
  exact .all (h kV doc pm an cdv ct)
theorem fun_mk {x qual:Str} {st:Stmt} {f:Addr} {oc:Value} {od an:Option Addr} {osl:Array (Option Value)} {kV doc pm cdv ct:Value} (l:K.lookup f=some ⟨oc,od,.func (PySem.W.fnOf x qual (defArgs st) (defBody st) (defScope st) .none kV doc pm an cdv ct),osl⟩)
    (c:PySem.W.codeIn K cdv qual=true) (k:PySem.W.keepIn K (.ref f)=true):Fun K x qual st f (PySem.W.fnOf x qual (defArgs st) (defBody st) (defScope st) .none kV doc pm an cdv ct):=⟨⟨oc,od,kV,doc,pm,an,cdv,ct,osl,rfl,l,c⟩,k⟩
end
theorem hu_of {A:Around} {k:Nat} (hr:Room k A):A.units+1 < cLine:=Nat.lt_of_le_of_lt (Nat.add_le_add_left (by decide:1≤64) _) hr.units
section
variable {X:Cx}
theorem pv (i:Nat) {x:Str} {pos:Pos} (hN:X.N[i]?=some x:=by rfl) (hv:Vis X.env.scope x:=by first | exact Or.inl rfl | exact Or.inr (Or.inl rfl) | exact Or.inr (Or.inr rfl)) (hd:(x == ("__debug__" : Str))=false:=by decide)
    (hcd:(x == ("__classdict__" : Str))=false:=by decide):PE X (.Name x pos) (tVar i):=pe_var hN hv hd hcd
end

theorem ite2 {c A B:Prop} [Decidable c] (h1:c→A) (h2:¬ c→B):if c then A else B:=by
  by_cases h:c
  · rw [if_pos h]
    exact h1 h
  · rw [if_neg h]
    exact h2 h
def Same (H H':Hp):Prop:=∀ b o,H b=some o→H' b=some o
theorem Same.refl (H:Hp):Same H H:=fun _ _ h=>h
theorem Same.trans {H H1 H2:Hp} (a:Same H H1) (b:Same H1 H2):Same H H2:=fun c o h=>b c o (a c o h)
theorem Same.free {H H':Hp} (e:Same H H') {l:Addr} (h:H' l=Option.none):H l=Option.none:=by
  cases q:H l with
  | none=>rfl
  | some o =>
    rw [e l o q] at h
    cases h
theorem Same.seq {K:PySem.W.Frag} {H H':Hp} {a:Addr} {xs:List V} (e:Same H H') (h:SqL K H a xs):SqL K H' a xs:=by
  rcases h with (h | ⟨o,h⟩) | h
  · exact .inl (.inl (e _ _ h))
  · exact .inl (.inr ⟨o,e _ _ h⟩)
  · exact .inr h

end L2

set_option Elab.async false
set_option linter.all false
set_option maxRecDepth 100000
namespace L2
open PySem PySem.Spec PyProof.Rows

end L2

namespace L2
open PySem PySem.Spec PyProof.Rows

section
variable (P:Program) (w:World)
end

section
variable {P:Program} {w:World} {H H':Hp} {h h':Heap} {a:Addr} {o:HO}
end

section
variable {P:Program} {w:World} {H:Hp} {h h':Heap} {x e:Addr} {o':HO}
end

section
variable {fs fs' ex ex':List Addr} {H H1 H2:Hp} {h h1 h2 h':Heap} {a x e:Addr} {o:HO}
end

end L2

namespace L2
open PySem PySem.Spec PyProof.Rows

section
variable {X:Cx} {pins:List (Addr×Obj)} {σ:List (Option V)} {H H':Hp} {s:Shared} {h':Heap}

end

end L2

namespace L2
open PySem PySem.Spec PyProof.Rows
section
variable {X:Cx}

variable {a b:Expr} {ta tb:TE} {pos:Pos}
variable {tA tB':TT} {rest:List Expr}
end
end L2

namespace L2
open PySem PySem.Spec PyProof.Rows

section
variable {X:Cx} {pins:List (Addr×Obj)} {σ:St} {H:Hp} {s:Shared} {a:Addr} {xs ys:List V}
end

section
variable {X:Cx} {pins:List (Addr×Obj)} {σ:St} {H:Hp} {s:Shared} {E:Value→Shared→Prop}
end

section
variable {X:Cx} {st:Stmt} {rest:List Stmt} {t u:TS} {e:Expr} {te:TE} {pos:Pos}
end

section
variable {X:Cx} {pos:Pos}
end

section
variable {X:Cx} {pos:Pos}
end

end L2

namespace L2
open PySem PySem.Spec PyProof.Rows
section
variable {X:Cx} {tg:Expr}
end

end L2

namespace L2
open PySem PySem.Spec PyProof.Rows

section
variable {X:Cx} {a b c:Expr} {ta tb tc:TE} {pos:Pos}

end

section
variable {X:Cx} {a b c:Expr} {ta tb tc:TE} {pos:Pos}
end
end L2

namespace L2
open PySem PySem.Spec PyProof.Rows

section
variable {prog:Program} {w:World} {A:Around} {E:Value→Shared→Prop} {s:Shared} {K:PySem.W.Frag} {x dx C f:Addr} {mA:Str→Option Value} {name:Str} {v:Value}

end

section
variable {P:Program} {w:World} {H H':Hp} {h h':Heap} {a C dx:Addr} {fs fs':List (Str×V)}
end

section
variable {X:Cx} {pins:List (Addr×Obj)} {σ:St} {H:Hp} {s:Shared} {a C dx:Addr} {fs:List (Str×V)} {f:Str} {v:V} {A:Around} {E:Value→Shared→Prop}

end

section
variable {X:Cx} {o e value:Expr} {f:Str} {pos pos' tpos:Pos} {ta tv:TE}
end

section
variable {X:Cx} {pins:List (Addr×Obj)} {σ:St} {H:Hp} {s:Shared} {A:Around} {E:Value→Shared→Prop} {Q:Value→Shared→Prop} {c:Value} {b:Bool}
end
end L2

namespace L2
open PySem PySem.Spec PyProof.Rows

section
variable {X:Cx} {e:Expr} {es:List Expr} {te:TE} {t:TA} {pos:Pos}
end

section
variable {X:Cx} {pins:List (Addr×Obj)} {σ:St} {H:Hp} {s s':Shared}
end

section
variable {X:Cx} {CX:CXT} {k:Nat} {f C:Addr} {fd:FuncData} {ps:List Str} {sp:Sp} {dvs:List V} {ds:List Value} {E:XK} {x m:Str} {p pos apos:Pos} {e o:Expr} {es:List Expr} {ta:TE} {t:TA}

end

section
variable {X:Cx} {CX:CXT} {k:Nat} {f C:Addr} {fd:FuncData} {ps ks:List Str} {sp:Sp} {E:XK} {x m:Str} {p pos apos kpos:Pos} {e o:Expr} {es:List Expr} {kws:List Keyword} {te ta:TE} {t tk:TA} {nm:Option Str}
variable {g:List Value→List Value→List Value} {gV:List V→List V→List V}
end

end L2

namespace L2
open PySem PySem.Spec PyProof.Rows
section
variable {X:Cx} {x:Str} {p pos:Pos} {e:Expr} {es:List Expr} {t:TA} {id T:String} {r:List V→Hp→VK→Prop}

end
end L2

namespace L2
open PySem PySem.Spec PyProof.Rows

section
variable {κ:Type} [DecidableEq κ]
def valV (kvs:List (κ×V)) (k:κ):Option V:=(kvs.find? fun kv=>decide (kv.1=k)).map (·.2)
def putK (kvs:List (κ×V)) (k:κ) (v:V):List (κ×V) :=
  if (kvs.any fun kv=>decide (kv.1=k))=true then kvs.map (fun kv=>if kv.1=k then (kv.1,v) else kv) else kvs++[(k,v)]
def dropK (kvs:List (κ×V)) (k:κ):List (κ×V):=kvs.filter fun kv=>decide (kv.1≠k)

theorem valV_nil {k:κ}:valV ([]:List (κ×V)) k=none:=rfl
theorem valV_pos {p:κ×V} {r:List (κ×V)} {k:κ} (e:p.1=k):valV (p::r) k=some p.2:=by simp [valV,List.find?_cons,e]
theorem valV_neg {p:κ×V} {r:List (κ×V)} {k:κ} (e:¬ p.1=k):valV (p::r) k=valV r k:=by simp [valV,List.find?_cons,e]
theorem valV_any (k:κ):∀ kvs:List (κ×V),(kvs.any fun kv=>decide (kv.1=k))=(valV kvs k).isSome
  | []=>rfl
  | p::r=>by
    rw [List.any_cons]
    by_cases e:p.1=k
    · simp only [valV_pos e,decide_eq_true e,Bool.true_or,Option.isSome_some]
    · rw [valV_neg e,decide_eq_false e,Bool.false_or];exact valV_any k r
theorem valV_map (k j:κ) (y:V):∀ kvs:List (κ×V),valV (kvs.map fun kv=>if kv.1=k then (kv.1,y) else kv) j=(valV kvs j).map fun x=>if j=k then y else x
  | []=>rfl
  | p::r=>by
    have ih:=valV_map k j y r
    rw [List.map_cons]
    by_cases h:p.1=k
    · rw [if_pos h]
      by_cases e:p.1=j
      · rw [valV_pos (p:=(p.1,y)) e,valV_pos e,Option.map_some,if_pos (e.symm.trans h)]
      · rw [valV_neg (p:=(p.1,y)) e,valV_neg e,ih]
    · rw [if_neg h]
      by_cases e:p.1=j
      · rw [valV_pos (p:=p) e,valV_pos e,Option.map_some,if_neg (fun z=>h (e.trans z))]
      · rw [valV_neg (p:=p) e,valV_neg e,ih]
theorem valV_snoc (k j:κ) (y:V):∀ kvs:List (κ×V),valV kvs k=none→valV (kvs++[(k,y)]) j=if j=k then some y else valV kvs j
  | [],_=>by
    by_cases e:k=j
    · rw [if_pos e.symm];exact valV_pos (p:=(k,y)) e
    · rw [if_neg (fun z=>e z.symm)];exact valV_neg (p:=(k,y)) e
  | p::r,hn=>by
    rw [List.cons_append]
    have hk:¬ p.1=k:=fun z=>by rw [valV_pos z] at hn;cases hn
    rw [valV_neg hk] at hn
    have ih:=valV_snoc k j y r hn
    by_cases e:p.1=j
    · rw [valV_pos e,valV_pos e,if_neg (fun z=>hk (e.trans z))]
    · rw [valV_neg e,valV_neg e,ih]
theorem valV_put (kvs:List (κ×V)) (k j:κ) (y:V):valV (putK kvs k y) j=if j=k then some y else valV kvs j:=by
  unfold putK
  by_cases a:(kvs.any fun kv=>decide (kv.1=k))=true
  · rw [if_pos a,valV_map]
    rw [valV_any] at a
    by_cases e:j=k
    · obtain ⟨x,hx⟩:=Option.isSome_iff_exists.mp a
      rw [if_pos e,e,hx,Option.map_some,if_pos rfl]
    · rw [if_neg e]
      cases valV kvs j with
      | none=>rfl
      | some x=>rw [Option.map_some,if_neg e]
  · rw [if_neg a]
    refine valV_snoc k j y kvs ?_
    rw [valV_any] at a
    cases q:valV kvs k with
    | none=>rfl
    | some x=>rw [q] at a;exact (a rfl).elim
theorem length_putK (kvs:List (κ×V)) (k:κ) (v:V):(putK kvs k v).length≤kvs.length+1:=by
  unfold putK
  split
  · rw [List.length_map];omega
  · rw [List.length_append,List.length_cons,List.length_nil];omega
theorem RelO.isSome_eq {o:Option V} {u:Option Value} (r:RelO o u):o.isSome=u.isSome:=by
  cases o with
  | none=>cases u with
    | none=>rfl
    | some _=>exact (show False from r).elim
  | some _=>cases u with
    | none=>exact (show False from r).elim
    | some _=>rfl
theorem RelO.getD {o:Option V} {u:Option Value} {d:V} {d':Value} (r:RelO o u) (rd:RelV d d'):RelV (o.getD d) (u.getD d'):=by
  cases o with
  | none=>cases u with
    | none=>exact rd
    | some _=>exact (show False from r).elim
  | some _=>cases u with
    | none=>exact (show False from r).elim
    | some _=>exact r

theorem KV.val {kvs:List (κ×V)} {vs:List (κ×Value)} (r:KV kvs vs) (k:κ):RelO (valV kvs k) (valueAt vs k):=by
  unfold KV at r
  induction r with
  | nil=>exact True.intro
  | @cons p q ps qs h t ih =>
    obtain ⟨h1,h2⟩:=h
    by_cases e:p.1=k
    · have e':q.1=k:=h1.symm.trans e
      have b:valueAt (q::qs) k=some q.2:=by simp [valueAt,List.find?_cons,e']
      rw [valV_pos e,b];exact h2
    · have e':¬ q.1=k:=fun z=>e (h1.trans z)
      have b:valueAt (q::qs) k=valueAt qs k:=by simp [valueAt,List.find?_cons,e']
      rw [valV_neg e,b];exact ih
theorem KV.any {kvs:List (κ×V)} {vs:List (κ×Value)} (r:KV kvs vs) (k:κ):(kvs.any fun kv=>decide (kv.1=k))=vs.any fun kv=>decide (kv.1=k):=by
  unfold KV at r
  induction r with
  | nil=>rfl
  | cons h t ih=>rw [List.any_cons,List.any_cons,ih,h.1]
theorem KV.repl {kvs:List (κ×V)} {vs:List (κ×Value)} (r:KV kvs vs) (k:κ) {y:V} {u:Value} (ry:RelV y u) :
    KV (kvs.map fun kv=>if kv.1=k then (kv.1,y) else kv) (vs.map fun kv=>if kv.1=k then (kv.1,u) else kv):=by
  unfold KV at r ⊢
  induction r with
  | nil=>exact .nil
  | @cons p q ps qs h t ih =>
    rw [List.map_cons,List.map_cons]
    refine .cons ?_ ih
    obtain ⟨h1,h2⟩:=h
    by_cases e:p.1=k
    · rw [if_pos e,if_pos (h1.symm.trans e)];exact ⟨h1,ry⟩
    · rw [if_neg e,if_neg (fun z=>e (h1.trans z))];exact ⟨h1,h2⟩
theorem KV.put {kvs:List (κ×V)} {vs:List (κ×Value)} (r:KV kvs vs) (k:κ) {y:V} {u:Value} (ry:RelV y u):KV (putK kvs k y) (stored vs k u):=by
  unfold putK stored
  rw [r.any k]
  by_cases e:(vs.any fun kv=>decide (kv.1=k))=true
  · rw [if_pos e,if_pos e];exact r.repl k ry
  · rw [if_neg e,if_neg e];exact Paired.snoc r ⟨rfl,ry⟩
theorem KV.drop {kvs:List (κ×V)} {vs:List (κ×Value)} (r:KV kvs vs) (k:κ):KV (dropK kvs k) (without vs k):=by
  unfold KV at r ⊢
  unfold dropK without
  induction r with
  | nil=>exact .nil
  | @cons p q ps qs h t ih =>
    obtain ⟨h1,h2⟩:=h
    rw [List.filter_cons,List.filter_cons]
    by_cases e:p.1=k
    · have a:¬ decide (p.1≠k)=true:=by simp [e]
      have b:¬ decide (q.1≠k)=true:=by simp [h1.symm.trans e]
      rw [if_neg a,if_neg b];exact ih
    · have e':¬ q.1=k:=fun z=>e (h1.trans z)
      have a:decide (p.1≠k)=true:=by simp [e]
      have b:decide (q.1≠k)=true:=by simp [e']
      rw [if_pos a,if_pos b];exact .cons ⟨h1,h2⟩ ih
theorem KV.keys {kvs:List (κ×V)} {vs:List (κ×Value)} (r:KV kvs vs):kvs.map (·.1)=vs.map (·.1):=by
  unfold KV at r
  induction r with
  | nil=>rfl
  | cons h t ih=>rw [List.map_cons,List.map_cons,ih,h.1]
theorem KV.length {kvs:List (κ×V)} {vs:List (κ×Value)} (r:KV kvs vs):kvs.length=vs.length:=Paired.length r
theorem dropK_le (kvs:List (κ×V)) (k:κ):(dropK kvs k).length≤kvs.length:=List.length_filter_le _ _
end


theorem kV_is {P:Program} {w:World} {k:Key} {u:Value} (r:RelV (kV k) u):(mixKind P w).is k u=true:=by
  cases k with
  | inl i=>obtain ⟨t,e⟩:=(show ∃ t,u=Value.int i t from r);subst e;exact mixKind_int P w i t
  | inr x=>obtain ⟨t,e⟩:=(show ∃ t,u=Value.str x t from r);subst e;exact mixKind_str P w x t
theorem items_are {P:Program} {w:World}:∀ {ks:List Key} {us:List Value},Vals (ks.map kV) us→ItemsAre (mixKind P w) ks us
  | [],_,r=>by rw [List.map_nil] at r;cases r;exact .nil
  | k::ks,_,r=>by
    rw [List.map_cons] at r
    cases r with
    | cons h t=>exact .cons (kV_is h) (items_are t)

abbrev KT (H:Hp):List (List Key×V)→List (List Key×Addr×Value)→Prop:=Paired fun p q=>p.1=q.1∧H q.2.1=some (.tup (p.1.map kV))∧RelV p.2 q.2.2
theorem KT.val {H:Hp} {kvs:List (List Key×V)} {xs:List (List Key×Addr×Value)} (r:KT H kvs xs) (k:List Key):RelO (valV kvs k) ((atKey xs k).map (·.2)):=by
  induction r with
  | nil=>exact True.intro
  | @cons p q ps qs h t ih =>
    obtain ⟨h1,_,h2⟩:=h
    by_cases e:p.1=k
    · have e':q.1=k:=h1.symm.trans e
      have b:atKey (q::qs) k=some q.2:=by simp [atKey,List.find?_cons,e']
      rw [valV_pos e,b];exact h2
    · have e':¬ q.1=k:=fun z=>e (h1.trans z)
      have b:atKey (q::qs) k=atKey qs k:=by simp [atKey,List.find?_cons,e']
      rw [valV_neg e,b];exact ih
theorem KT.repl {H:Hp} {kvs:List (List Key×V)} {xs:List (List Key×Addr×Value)} (r:KT H kvs xs) (k:List Key) {y:V} {u:Value} (ry:RelV y u) :
    KT H (kvs.map fun kv=>if kv.1=k then (kv.1,y) else kv) (xs.map (putAt k u)):=by
  induction r with
  | nil=>exact .nil
  | @cons p q ps qs h t ih =>
    rw [List.map_cons,List.map_cons]
    refine .cons ?_ ih
    obtain ⟨h1,h2,h3⟩:=h
    unfold putAt
    by_cases e:p.1=k
    · rw [if_pos e,if_pos (h1.symm.trans e)];exact ⟨h1,h2,ry⟩
    · rw [if_neg e,if_neg (fun z=>e (h1.trans z))];exact ⟨h1,h2,h3⟩
theorem KT.put {H:Hp} {kvs:List (List Key×V)} {xs:List (List Key×Addr×Value)} (r:KT H kvs xs) (k:List Key) {b:Addr} {y:V} {u:Value} (hb:H b=some (.tup (k.map kV))) (ry:RelV y u) :
    KT H (putK kvs k y) (storedH xs k b u):=by
  have e:(kvs.any fun kv=>decide (kv.1=k))=(atKey xs k).isSome:=by
    rw [valV_any,(r.val k).isSome_eq,Option.isSome_map]
  unfold putK storedH
  rw [e]
  by_cases q:(atKey xs k).isSome=true
  · rw [if_pos q,if_pos q];exact r.repl k ry
  · rw [if_neg q,if_neg q];exact Paired.snoc r ⟨rfl,hb,ry⟩
theorem KT.keeps {H H':Hp} {kvs:List (List Key×V)} {xs:List (List Key×Addr×Value)} (r:KT H kvs xs) (ht:∀ b ys,H b=some (.tup ys)→H' b=some (.tup ys)):KT H' kvs xs :=
  Paired.mapP r fun _ _ z=>⟨z.1,ht _ _ z.2.1,z.2.2⟩

section
variable {P:Program} {w:World} {H:Hp} {h:Heap} {a:Addr}
theorem rd_of {u:HO} (ok:HOk P w H h) (e:Rd H a u):ObjOk P w H h a u:=e.ok ok
theorem dk_rd {kvs:List (Key×V)} (ok:HOk P w H h) (e:Rd H a (.dK kvs)):kvs.length≤sizeLine∧(a == sysModules)=false∧∃ vs,KV kvs vs∧h.DictOf (mixKind P w) a vs :=
  show ObjOk P w H h a (.dK kvs) from rd_of ok e
theorem dk_of {kvs:List (Key×V)} (ok:HOk P w H h) (e:H a=some (.dK kvs)):kvs.length≤sizeLine∧(a == sysModules)=false∧∃ vs,KV kvs vs∧h.DictOf (mixKind P w) a vs:=dk_rd ok (.inl e)
theorem key_of {ks:List Key} (ok:HOk P w H h) (e:H a=some (.tup (ks.map kV))):(tupleKind (mixKind P w)).is h ks a:=by
  obtain ⟨_,its,r,o,h1,h2,n,h3⟩:=(show ObjOk P w H h a (.tup (ks.map kV)) from ok a _ e)
  exact ⟨o,its.toArray,n,h1,h2,h3,by simpa using items_are r⟩
theorem dt_rd {kvs:List (List Key×V)} (ok:HOk P w H h) (e:Rd H a (.dT kvs)):kvs.length≤sizeLine∧(a == sysModules)=false ∧
    ∃ xs,KT H kvs xs∧h.DictOfH (tupleKind (mixKind P w)) a xs:=by
  obtain ⟨z,y,xs,r,o,es,ep,h1,h2,h3,h4,h5⟩:=(show ObjOk P w H h a (.dT kvs) from rd_of ok e)
  refine ⟨z,y,xs,r,o,es,ep,h1,h2,h3,h4,fun x hx=>?_,h5⟩
  have all:∀ {l:List (List Key×V)} {m:List (List Key×Addr×Value)},KT H l m→∀ x∈m,(tupleKind (mixKind P w)).is h x.1 x.2.1:=by
    intro l m q
    induction q with
    | nil=>intro x hx;exact nomatch hx
    | @cons p q ps qs hq t ih =>
      intro x hx
      rcases List.mem_cons.mp hx with e | hx
      · subst e
        exact key_of ok (by rw [← hq.1];exact hq.2.1)
      · exact ih x hx
  exact all r x hx
theorem dt_of {kvs:List (List Key×V)} (ok:HOk P w H h) (e:H a=some (.dT kvs)):kvs.length≤sizeLine∧(a == sysModules)=false ∧
    ∃ xs,KT H kvs xs∧h.DictOfH (tupleKind (mixKind P w)) a xs:=dt_rd ok (.inl e)
end

def DGet (H:Hp) (a:Addr) (y:V) (r:Option V):Prop :=
  (∃ kvs k,Rd H a (.dK kvs)∧y=kV k∧r=valV kvs k)∨∃ kvs k b,Rd H a (.dT kvs)∧y=.ref b∧H b=some (.tup (k.map kV))∧r=valV kvs k
def DPut (H:Hp) (a:Addr) (y v:V) (H':Hp):Prop :=
  (∃ kvs k,H a=some (.dK kvs)∧y=kV k∧kvs.length < sizeLine∧H'=upd H a (.dK (putK kvs k v))) ∨
  ∃ kvs k b,H a=some (.dT kvs)∧y=.ref b∧H b=some (.tup (k.map kV))∧kvs.length < sizeLine∧H'=upd H a (.dT (putK kvs k v))
theorem DGet.k {H:Hp} {a:Addr} {kvs:List (Key×V)} {k:Key} (e:H a=some (.dK kvs)):DGet H a (kV k) (valV kvs k):=.inl ⟨kvs,k,.inl e,rfl,rfl⟩
theorem DGet.t {H:Hp} {a b:Addr} {kvs:List (List Key×V)} {k:List Key} (e:H a=some (.dT kvs)) (eb:H b=some (.tup (k.map kV))):DGet H a (.ref b) (valV kvs k):=.inr ⟨kvs,k,b,.inl e,rfl,eb,rfl⟩
theorem DPut.k {H:Hp} {a:Addr} {kvs:List (Key×V)} {k:Key} {v:V} (e:H a=some (.dK kvs)) (hl:kvs.length < sizeLine):DPut H a (kV k) v (upd H a (.dK (putK kvs k v))):=.inl ⟨kvs,k,e,rfl,hl,rfl⟩
theorem DPut.t {H:Hp} {a b:Addr} {kvs:List (List Key×V)} {k:List Key} {v:V} (e:H a=some (.dT kvs)) (eb:H b=some (.tup (k.map kV))) (hl:kvs.length < sizeLine) :
    DPut H a (.ref b) v (upd H a (.dT (putK kvs k v))):=.inr ⟨kvs,k,b,e,rfl,eb,hl,rfl⟩


section
variable {X:Cx} {pins:List (Addr×Obj)} {σ:St} {H:Hp} {s:Shared} {a:Addr} {y v:V} {u r:Value} {o:Option V} {A:Around} {E:Value→Shared→Prop}

theorem Inv.big (I:Inv X pins σ H s):sysModules < s.heap.objs.size:=by
  have h:mainGlobals < s.heap.objs.size:=(I.mod.glob.keeps I.bk).lt
  exact Nat.lt_trans (by decide) h

theorem d_getItem {Q:Value→Shared→Prop} (hu:A.units+1 < cLine) (I:Inv X pins σ H s) (g:DGet H a y (some v)) (ry:RelV y u) (h:∀ w' s',Inv X pins σ H s'→RelV v w'→Q w' s') :
    wpAny (model X.prog X.w) A (getItem (.ref a) u) Q E s:=by
  rcases g with ⟨kvs,k,e,ey,l⟩ | ⟨kvs,k,b,e,ey,eb,l⟩
  · subst ey
    obtain ⟨z,hd,vs,rel,dd⟩:=dk_rd I.hok e
    obtain ⟨w',hw,rw'⟩:=RelO.some_of (v:=v) (o:=valueAt vs k) (by rw [l];exact rel.val k)
    exact wpAny_getItem_of (kV_is ry) dd.mapOf hw (h w' _ (I.tok _) rw')
  · subst ey
    cases (show u=Value.ref b from ry)
    obtain ⟨z,hd,xs,rel,dd⟩:=dt_rd I.hok e
    obtain ⟨w',hw,rw'⟩:=RelO.some_of (v:=v) (o:=(atKey xs k).map (·.2)) (by rw [l];exact rel.val k)
    obtain ⟨p,hp,hp2⟩:=Option.map_eq_some_iff.mp hw
    refine wpAny_getItem_heap (tupleKind_room_in1 hu) (key_of I.hok eb) dd hp ?_
    rw [hp2]
    exact h w' _ (I.tok _) rw'
theorem d_in {Q:Value→Shared→Prop} (hu:A.units+1 < cLine) (I:Inv X pins σ H s) (g:DGet H a y o) (ry:RelV y u) (h:∀ s',Inv X pins σ H s'→Q (.bool o.isSome) s') :
    wpAny (model X.prog X.w) A (compareOp .In u (.ref a)) Q E s:=by
  rcases g with ⟨kvs,k,e,ey,l⟩ | ⟨kvs,k,b,e,ey,eb,l⟩
  · subst ey
    obtain ⟨z,hd,vs,rel,dd⟩:=dk_rd I.hok e
    refine wpAny_in_of (kV_is ry) hd dd.mapOf ?_
    rw [← (rel.val k).isSome_eq,← l]
    exact h _ (I.tok _)
  · subst ey
    cases (show u=Value.ref b from ry)
    obtain ⟨z,hd,xs,rel,dd⟩:=dt_rd I.hok e
    refine wpAny_in_heap (tupleKind_room_in1 hu) (key_of I.hok eb) hd dd ?_
    have q:=(rel.val k).isSome_eq
    rw [Option.isSome_map] at q
    rw [← q,← l]
    exact h _ (I.tok _)
theorem d_notIn {Q:Value→Shared→Prop} (hu:A.units+1 < cLine) (I:Inv X pins σ H s) (g:DGet H a y o) (ry:RelV y u) (h:∀ s',Inv X pins σ H s'→Q (.bool (!o.isSome)) s') :
    wpAny (model X.prog X.w) A (compareOp .NotIn u (.ref a)) Q E s:=by
  rcases g with ⟨kvs,k,e,ey,l⟩ | ⟨kvs,k,b,e,ey,eb,l⟩
  · subst ey
    obtain ⟨z,hd,vs,rel,dd⟩:=dk_rd I.hok e
    refine wpAny_notIn_of (kV_is ry) hd dd.mapOf ?_
    rw [← (rel.val k).isSome_eq,← l]
    exact h _ (I.tok _)
  · subst ey
    cases (show u=Value.ref b from ry)
    obtain ⟨z,hd,xs,rel,dd⟩:=dt_rd I.hok e
    refine wpAny_notIn_heap (tupleKind_room_in1 hu) (key_of I.hok eb) hd dd ?_
    have q:=(rel.val k).isSome_eq
    rw [Option.isSome_map] at q
    rw [← q,← l]
    exact h _ (I.tok _)
theorem d_write {h':Heap} {t':Nat} {ob:HO} (I:Inv X pins σ H s) (mu:Mut (H a)) (hs:Heap.SameBut a s.heap h') (he:∃ q,h'.get? a=some q) (new:ObjOk X.prog X.w (upd H a ob) h' a ob) :
    Inv X pins σ (upd H a ob) { s with heap:=h',toks:=t' } :=
  I.write (x:=a) (e:=a) mu (.inl rfl) (fun b q hb z=>(hs.2 b hb).trans z) he new
theorem dk_new {P:Program} {w:World} {H':Hp} {h':Heap} {kvs:List (Key×V)} {vs:List (Key×Value)} (z:kvs.length≤sizeLine) (hd:(a == sysModules)=false) (rel:KV kvs vs) (dd:h'.DictOf (mixKind P w) a vs) :
    ObjOk P w H' h' a (.dK kvs):=⟨z,hd,vs,rel,dd⟩
theorem d_setItem {H':Hp} {Q:Unit→Shared→Prop} (hu:A.units+1 < cLine) (I:Inv X pins σ H s) (g:DPut H a y v H') (ry:RelV y u) (rv:RelV v r) (h:∀ s',Inv X pins σ H' s'→Q () s') :
    wpAny (model X.prog X.w) A (setItem (.ref a) u r) Q E s:=by
  rcases g with ⟨kvs,k,e,ey,l,eH⟩ | ⟨kvs,k,b,e,ey,eb,l,eH⟩
  · subst ey eH
    obtain ⟨z,hd,vs,rel,dd⟩:=dk_of I.hok e
    have hz:vs.length≤sizeLine:=by rw [← rel.length];exact z
    have hl:(putK kvs k v).length≤sizeLine:=by have:=length_putK kvs k v;omega
    refine wpAny_setItem_pairs (hsz:=hz) (kV_is ry) dd fun h' dd' hs=>h _ ?_
    have he:∃ q,h'.get? a=some q:=let ⟨q,_,_,hq,_⟩:=dd';⟨q,hq⟩
    exact d_write I (by rw [e];exact True.intro) hs he (dk_new hl hd (rel.put k rv) dd')
  · subst ey eH
    cases (show u=Value.ref b from ry)
    obtain ⟨z,hd,xs,rel,dd⟩:=dt_of I.hok e
    have hz:xs.length≤sizeLine:=by rw [← Paired.length rel];exact z
    have hl:(putK kvs k v).length≤sizeLine:=by have:=length_putK kvs k v;omega
    refine wpAny_setItem_heap (hsz:=hz) (tupleKind_room_in1 hu) (key_of I.hok eb) dd fun h' dd' hs=>h _ ?_
    obtain ⟨q,es,ep,hq,h2,h3,h4,_,h5⟩:=dd'
    refine d_write I (by rw [e];exact True.intro) hs ⟨q,hq⟩ ⟨hl,hd,_,(rel.put k eb rv).keeps fun c ys ec=>?_,q,es,ep,hq,h2,h3,h4,h5⟩
    rw [upd_ne (ne_of ec e (fun z=>nomatch z))]
    exact ec
end

section
variable {X:Cx} {pins:List (Addr×Obj)} {σ:St} {H:Hp} {s:Shared} {a:Addr} {kvs:List (Key×V)} {k:Key} {u:Value} {A:Around} {E:Value→Shared→Prop}
theorem d_pop {v:V} {more:List Value} {Q:Value→Shared→Prop} (I:Inv X pins σ H s) (e:H a=some (.dK kvs)) (ry:RelV (kV k) u) (l:valV kvs k=some v) (hm:more=[]∨∃ x,more=[x])
    (h:∀ w' s',Inv X pins σ (upd H a (.dK (dropK kvs k))) s'→RelV v w'→Q w' s'):wpAny (model X.prog X.w) A (call (.builtin "dict.pop") (.ref a::u::more)) Q E s:=by
  obtain ⟨z,hd,vs,rel,dd⟩:=dk_of I.hok e
  obtain ⟨w',hw,rw'⟩:=RelO.some_of (v:=v) (o:=valueAt vs k) (by rw [← l];exact rel.val k)
  have hp:(keyPart u).isSome=true:=by
    cases k with
    | inl i=>obtain ⟨t,q⟩:=(show ∃ t,u=Value.int i t from ry);subst q;rfl
    | inr x=>obtain ⟨t,q⟩:=(show ∃ t,u=Value.str x t from ry);subst q;rfl
  have ha:argsOk "dict.pop" ⟨.ref a::u::more,[]⟩:=by
    rcases hm with q | ⟨x,q⟩
    · subst q;exact PySem.F.args_dict_pop_2 _ _
    · subst q;exact PySem.F.args_dict_pop_3 _ _ _
  refine call_meetsIn PySem.F.slot_dict_pop dd.typeIs PySem.F.entry_dict_pop ha (meets_dict_pop_there (mixKind X.prog X.w) a (kV_is ry) more hm hp)
    ⟨vs,w',dd,by rw [← rel.length];exact z,hw,fun h' dd' hs=>h w' _ ?_ rw'⟩
  have he:∃ q,h'.get? a=some q:=let ⟨q,_,_,hq,_⟩:=dd';⟨q,hq⟩
  exact d_write I (by rw [e];exact True.intro) hs he (dk_new (Nat.le_trans (dropK_le kvs k) z) hd (rel.drop k) dd')
theorem d_popD {r:Value} {Q:Value→Shared→Prop} (I:Inv X pins σ H s) (e:H a=some (.dK kvs)) (ry:RelV (kV k) u) (l:valV kvs k=none) (h:∀ s',Inv X pins σ H s'→Q r s') :
    wpAny (model X.prog X.w) A (call (.builtin "dict.pop") [.ref a,u,r]) Q E s:=by
  obtain ⟨z,hd,vs,rel,dd⟩:=dk_of I.hok e
  have hn:valueAt vs k=none:=RelO.none_of (by rw [← l];exact rel.val k)
  have hp:(keyPart u).isSome=true:=by
    cases k with
    | inl i=>obtain ⟨t,q⟩:=(show ∃ t,u=Value.int i t from ry);subst q;rfl
    | inr x=>obtain ⟨t,q⟩:=(show ∃ t,u=Value.str x t from ry);subst q;rfl
  exact call_meetsIn PySem.F.slot_dict_pop dd.typeIs PySem.F.entry_dict_pop (PySem.F.args_dict_pop_3 _ _ _) (meets_dict_pop_default (mixKind X.prog X.w) a (kV_is ry) hd hp r) ⟨vs,dd,hn,h _ (I.tok _)⟩
theorem d_len {Q:Value→Shared→Prop} (I:Inv X pins σ H s) (e:Rd H a (.dK kvs)) (h:∀ t s',Inv X pins σ H s'→Q (.int kvs.length t) s'):wpAny (model X.prog X.w) A (call (.builtin "len") [.ref a]) Q E s:=by
  obtain ⟨z,hd,vs,rel,dd⟩:=dk_rd I.hok e
  refine call_len_dict hd dd (by rw [← rel.length];rw [sizeLine_eq] at z;omega) ?_
  rw [← rel.length]
  exact h _ _ (I.tok _)
end


theorem dict_typeIs {X:Cx} {pins:List (Addr×Obj)} {σ:St} {H:Hp} {s:Shared} {a:Addr} {y:V} {o:Option V} (I:Inv X pins σ H s) (g:DGet H a y o):s.TypeIs (.ref a) "dict" := by
  rcases g with ⟨kvs,k,e,_,_⟩ | ⟨kvs,k,b,e,_,_,_⟩
  · obtain ⟨_,_,vs,_,dd⟩:=dk_rd I.hok e
    exact dd.typeIs
  · obtain ⟨_,_,xs,_,dd⟩:=dt_rd I.hok e
    exact dd.typeIs
section
variable {X:Cx} {o i e value:Expr} {pos pos' tpos:Pos} {td ty tv:TE}
end


theorem dk_empty {P:Program} {w:World} {H:Hp} (h:Heap) (hb:sysModules < h.objs.size):ObjOk P w H (h.push { cls:=.type "dict",data:=.dict #[] }) h.objs.size (.dK []) :=
  ⟨Nat.zero_le _,beq_eq_false_iff_ne.mpr (Ne.symm (Nat.ne_of_lt hb)),[],.nil,Heap.DictOf.new h⟩
def tDNewK:TE:=fun _ H Q=>∀ p,H p=none→Q (.ref p) (upd H p (.dK []))
section
variable {X:Cx} {pos:Pos}
theorem pe_dnewK:PE X (.Dict [] [] pos) tDNewK:=fun pins s σ H Q I h =>
  wpAny_Dict_empty ⟨.ref s.heap.objs.size,_,I.laid (a:=s.heap.objs.size) (o:=.dK []) (t':=s.toks) (fun _ _ q=>Heap.get?_push_of_some _ q) (Nat.le_refl _) (dk_empty s.heap I.big),rfl,h _ (I.hok.fresh (Nat.le_refl _))⟩
end

def tPairs:List (TE×TE)→St→Hp→(List (V×V)→Hp→Prop)→Prop
  | [],_,H,Q=>Q [] H
  | (tk,tv)::r,σ,H,Q=>tk σ H fun x H1=>tv σ H1 fun y H2=>tPairs r σ H2 fun ps H3=>Q ((x,y)::ps) H3
abbrev VV:List (V×V)→List (Value×Value)→Prop:=Paired fun p q=>RelV p.1 q.1∧RelV p.2 q.2
def PPs (X:Cx) (pos:Pos) (keys:List (Option Expr)) (values:List Expr) (trs:List (TE×TE)):Prop :=
  ∀ (pins:List (Addr×Obj)) (s:Shared) (σ:St) (H:Hp) (Q:List (V×V)→Hp→Prop),Inv X pins σ H s→tPairs trs σ H Q →
    wpAny (model X.prog X.w) X.A (evalPairs (pairTrees keys values X.env pos)) (fun vs s'=>∃ ps H',Inv X pins σ H' s'∧VV ps vs∧Q ps H') X.xe s
theorem pps_nil {X:Cx} {pos:Pos}:PPs X pos [] [] []:=fun pins s σ H Q I h=>pairTrees_nil_walk ⟨[],H,I,.nil,h⟩
theorem pps_cons {X:Cx} {pos:Pos} {k v:Expr} {ks:List (Option Expr)} {vs:List Expr} {tk tv:TE} {trs:List (TE×TE)} (hk:PE X k tk) (hv:PE X v tv) (hr:PPs X pos ks vs trs) :
    PPs X pos (some k::ks) (v::vs) ((tk,tv)::trs):=fun pins s σ H Q I h =>
  pairTrees_cons_walk (thn (hk pins s σ H _ I h) fun u s1 ⟨x,H1,I1,rx,q1⟩=>thn (hv pins s1 σ H1 _ I1 q1) fun w2 s2 ⟨y,H2,I2,ry,q2⟩ =>
    thn (hr pins s2 σ H2 _ I2 q2) fun ws s3 ⟨ps,H3,I3,rel,q3⟩=>⟨(x,y)::ps,H3,I3,.cons ⟨rx,ry⟩ rel,q3⟩)

def mergeK (kvs more:List (Key×V)):List (Key×V):=more.foldl (fun acc kv=>putK acc kv.1 kv.2) kvs
theorem KV.merge:∀ {more:List (Key×V)} {rs:List (Key×Value)} {kvs:List (Key×V)} {vs:List (Key×Value)},KV more rs→KV kvs vs→KV (mergeK kvs more) (merged vs rs):=by
  intro more rs kvs vs r
  unfold KV at r
  induction r generalizing kvs vs with
  | nil=>intro q;exact q
  | @cons p q ps qs h t ih =>
    intro r0
    have e:KV (putK kvs p.1 p.2) (stored vs q.1 q.2):=by
      have:=r0.put p.1 h.2
      rw [← h.1];exact this
    exact ih e
theorem length_mergeK:∀ (more kvs:List (Key×V)),(mergeK kvs more).length≤kvs.length+more.length
  | [],kvs=>by show kvs.length≤kvs.length+0;omega
  | p::r,kvs=>by
    have h1:=length_mergeK r (putK kvs p.1 p.2)
    have h2:=length_putK kvs p.1 p.2
    show (mergeK (putK kvs p.1 p.2) r).length≤_
    rw [List.length_cons];omega
theorem carries_of {P:Program} {w:World}:∀ {kvs:List (Key×V)} {ws:List (Value×Value)},VV (kvs.map fun kv=>(kV kv.1,kv.2)) ws→∃ rs,Carries (mixKind P w) ws rs∧KV kvs rs
  | [],_,r=>by rw [List.map_nil] at r;cases r;exact ⟨[],True.intro,.nil⟩
  | p::kvs,_,r=>by
    rw [List.map_cons] at r
    cases r with
    | @cons a b as bs h t =>
      obtain ⟨rs,c,q⟩:=carries_of (P:=P) (w:=w) t
      obtain ⟨b1,b2⟩:=b
      exact ⟨(p.1,b2)::rs,⟨kV_is h.1,rfl,c⟩,.cons ⟨rfl,h.2⟩ q⟩
def tDisp (trs:List (TE×TE)):TE:=fun σ H Q=>∀ p,H p=none→tPairs trs σ (upd H p (.dK [])) fun ps H2=>H2 p=some (.dK [])∧∃ kvs:List (Key×V),ps=kvs.map (fun kv=>(kV kv.1,kv.2))∧kvs.length≤15∧Q (.ref p) (upd H2 p (.dK (mergeK [] kvs)))
theorem pe_disp {X:Cx} {pos:Pos} {keys:List (Option Expr)} {values:List Expr} {trs:List (TE×TE)} (h:PPs X pos keys values trs) (hall:keys.all (·.isSome)=true) (hl:keys.length=values.length) (h0:keys≠[])
    (h15:keys.length≤15):PE X (.Dict keys values pos) (tDisp trs):=by
  intro pins s σ H Q I q
  have hn:=I.hok.fresh (Nat.le_refl s.heap.objs.size)
  have I1:=I.laid (a:=s.heap.objs.size) (o:=.dK []) (h':=s.heap.push { cls:=.type "dict",data:=.dict #[] }) (t':=s.toks) (fun _ _ q=>Heap.get?_push_of_some _ q) (Nat.le_refl _) (dk_empty s.heap I.big)
  refine wpAny_Dict_walk (knd:=mixKind X.prog X.w) hall hl h0 h15 (thn (h pins _ σ _ _ I1 (q _ hn)) fun ws s2 ⟨ps,H2,I2,rel,e,kvs,ep,lk,q2⟩=>?_)
  subst ep
  obtain ⟨rs,c,rk⟩:=carries_of (P:=X.prog) (w:=X.w) rel
  obtain ⟨z,hd,vs0,r0,dd⟩:=dk_of I2.hok e
  cases r0
  refine ⟨rs,c,dd,fun h' dd' hs=>⟨.ref s.heap.objs.size,_,?_,rfl,q2⟩⟩
  have hz:(mergeK [] kvs).length≤sizeLine:=by
    have h1:=length_mergeK kvs []
    rw [List.length_nil] at h1
    rw [sizeLine_eq];omega
  have he:∃ q,h'.get? s.heap.objs.size=some q:=let ⟨q,_,_,hq,_⟩:=dd';⟨q,hq⟩
  exact d_write I2 (by rw [e];exact True.intro) hs he (dk_new hz hd (rk.merge .nil) dd')


structure M1 (X:Cx) (o:Expr) (m:Str) (apos:Pos) (e:Expr) (cpos:Pos):Prop where
  base:attributeBase o m X.env (eval o X.env)=eval o X.env
  few:((backTo cpos (starEach [e] X.env)).all (fun x=>!x.1) && (backToKw cpos (keywordEach [] X.env)).all (fun x=>x.1.isSome)
    && decide (([e]:List Expr).length+([]:List Keyword).length+(if ([]:List Keyword).isEmpty then 0 else 1) < 30))=true
  line:(apos.endLine == cpos.line)=true
  trees:backTo cpos (starEach [e] X.env)=[(false,eval e X.env)]
structure M2 (X:Cx) (o:Expr) (m:Str) (apos:Pos) (e f:Expr) (cpos:Pos):Prop where
  base:attributeBase o m X.env (eval o X.env)=eval o X.env
  few:((backTo cpos (starEach [e,f] X.env)).all (fun x=>!x.1) && (backToKw cpos (keywordEach [] X.env)).all (fun x=>x.1.isSome)
    && decide (([e,f]:List Expr).length+([]:List Keyword).length+(if ([]:List Keyword).isEmpty then 0 else 1) < 30))=true
  line:(apos.endLine == cpos.line)=true
  trees:backTo cpos (starEach [e,f] X.env)=[(false,eval e X.env),(false,eval f X.env)]

def IsD (H:Hp) (a:Addr):Prop:=(∃ kvs,Rd H a (.dK kvs))∨∃ kvs,Rd H a (.dT kvs)
theorem isD_at {X:Cx} {pins:List (Addr×Obj)} {σ:St} {H:Hp} {s:Shared} {a:Addr} (I:Inv X pins σ H s) (d:IsD H a) :
    s.TypeIs (.ref a) "dict" ∧ (∀ b,Value.ref a=.ref b→∃ ob,s.heap.get? b=some ob∧ob.dict=none)∧(a == sysModules)=false:=by
  rcases d with ⟨kvs,e⟩ | ⟨kvs,e⟩
  · obtain ⟨_,hd,vs,_,dd⟩:=dk_rd I.hok e
    refine ⟨dd.typeIs,fun b q=>?_,hd⟩
    cases q
    obtain ⟨ob,_,_,h1,h2,_⟩:=dd
    exact ⟨ob,h1,h2.2.1⟩
  · obtain ⟨_,hd,xs,_,dd⟩:=dt_rd I.hok e
    refine ⟨dd.typeIs,fun b q=>?_,hd⟩
    cases q
    obtain ⟨ob,_,_,h1,h2,_⟩:=dd
    exact ⟨ob,h1,h2.2.1⟩

section
variable {X:Cx} {pins:List (Addr×Obj)} {σ:St} {H:Hp} {s:Shared} {a:Addr} {y d:V} {u r:Value} {o:Option V} {A:Around} {E:Value→Shared→Prop}
theorem d_get1 {Q:Value→Shared→Prop} (hu:A.units+1 < cLine) (I:Inv X pins σ H s) (g:DGet H a y o) (ry:RelV y u) (h:∀ w' s',Inv X pins σ H s'→RelV (o.getD .non) w'→Q w' s') :
    wpAny (model X.prog X.w) A (call (.builtin "dict.get") [.ref a,u]) Q E s:=by
  rcases g with ⟨kvs,k,e,ey,l⟩ | ⟨kvs,k,b,e,ey,eb,l⟩
  · subst ey
    obtain ⟨z,hd,vs,rel,dd⟩:=dk_rd I.hok e
    refine call_meetsIn PySem.F.slot_dict_get dd.typeIs PySem.F.entry_dict_get (PySem.F.args_dict_get_2 _ _) (meets_dict_get (mixKind X.prog X.w) a (kV_is ry) hd) ⟨_,dd.mapOf,h _ _ (I.tok _) ?_⟩
    rw [l]
    exact (rel.val k).getD rfl
  · subst ey
    cases (show u=Value.ref b from ry)
    obtain ⟨z,hd,xs,rel,dd⟩:=dt_rd I.hok e
    refine call_meetsIn PySem.F.slot_dict_get dd.typeIs PySem.F.entry_dict_get (PySem.F.args_dict_get_2 _ _) (meetsH_dict_get (tupleKind (mixKind X.prog X.w)) a b hd) ⟨tupleKind_room_in1 hu,k,xs,key_of I.hok eb,dd,h _ _ (I.tok _) ?_⟩
    rw [l]
    exact (rel.val k).getD rfl
theorem d_get2 {Q:Value→Shared→Prop} (hu:A.units+1 < cLine) (I:Inv X pins σ H s) (g:DGet H a y o) (ry:RelV y u) (rd:RelV d r) (h:∀ w' s',Inv X pins σ H s'→RelV (o.getD d) w'→Q w' s') :
    wpAny (model X.prog X.w) A (call (.builtin "dict.get") [.ref a,u,r]) Q E s:=by
  rcases g with ⟨kvs,k,e,ey,l⟩ | ⟨kvs,k,b,e,ey,eb,l⟩
  · subst ey
    obtain ⟨z,hd,vs,rel,dd⟩:=dk_rd I.hok e
    refine call_meetsIn PySem.F.slot_dict_get dd.typeIs PySem.F.entry_dict_get (PySem.F.args_dict_get_3 _ _ _) (meets_dict_get_default (mixKind X.prog X.w) a (kV_is ry) hd r) ⟨_,dd.mapOf,h _ _ (I.tok _) ?_⟩
    rw [l]
    exact (rel.val k).getD rd
  · subst ey
    cases (show u=Value.ref b from ry)
    obtain ⟨z,hd,xs,rel,dd⟩:=dt_rd I.hok e
    refine call_meetsIn PySem.F.slot_dict_get dd.typeIs PySem.F.entry_dict_get (PySem.F.args_dict_get_3 _ _ _) (meetsH_dict_get_default (tupleKind (mixKind X.prog X.w)) a b hd r) ⟨tupleKind_room_in1 hu,k,xs,key_of I.hok eb,dd,h _ _ (I.tok _) ?_⟩
    rw [l]
    exact (rel.val k).getD rd
end

def tDGet1 (td ty:TE):TE:=fun σ H Q=>td σ H fun x H1=>∃ a,x=.ref a∧IsD H1 a∧ty σ H1 fun y H2=>∃ o,DGet H2 a y o∧Q (o.getD .non) H2
def tDGet2 (td ty tx:TE):TE:=fun σ H Q=>td σ H fun x H1=>∃ a,x=.ref a∧IsD H1 a∧ty σ H1 fun y H2=>tx σ H2 fun z H3=>∃ o,DGet H3 a y o∧Q (o.getD z) H3
def tDPop1 (td ty:TE):TE:=fun σ H Q=>td σ H fun x H1=>∃ a,x=.ref a∧IsD H1 a∧ty σ H1 fun y H2=>∃ kvs k v,H2 a=some (.dK kvs)∧y=kV k∧valV kvs k=some v∧Q v (upd H2 a (.dK (dropK kvs k)))
def tDPop2 (td ty tx:TE):TE:=fun σ H Q=>td σ H fun x H1=>∃ a,x=.ref a∧IsD H1 a∧ty σ H1 fun y H2=>tx σ H2 fun z H3=>∃ kvs k,H3 a=some (.dK kvs)∧y=kV k ∧
  (∀ v,valV kvs k=some v→Q v (upd H3 a (.dK (dropK kvs k))))∧(valV kvs k=none→Q z H3)
section
variable {X:Cx} {o e f:Expr} {apos cpos:Pos} {td ty tx:TE}
theorem pe_dget1 (hu:X.A.units+1 < cLine) (ho:PE X o td) (he:PE X e ty) (m:M1 X o "get" apos e cpos):PE X (.Call (.Attribute o "get" apos) [e] [] cpos) (tDGet1 td ty):=by
  intro pins s σ H Q I h
  refine wpAny_Call_method m.base m.few m.line PySem.F.plainAttrs_dict PySem.F.slot_dict_get PySem.F.type_dict_get (thn (ho pins s σ H _ I h) fun u s1 ⟨x,H1,I1,rx,a,ex,d,q1⟩=>?_)
  subst ex
  obtain rfl:u=Value.ref a:=rx
  obtain ⟨t1,t2,_⟩:=isD_at I1 d
  refine ⟨t1,t2,?_⟩
  rw [m.trees]
  refine Calls.callWith_builtin rfl (Calls.evalArgs_plain (Calls.spliced_cons (thn (he pins s1 σ H1 _ I1 q1) fun iv s2 ⟨y,H2,I2,ry,ov,g,q2⟩=>Calls.spliced_nil ?_)))
  exact d_get1 hu I2 g ry fun w' s3 I3 rw'=>⟨_,H2,I3,rw',q2⟩
theorem pe_dget2 (hu:X.A.units+1 < cLine) (ho:PE X o td) (he:PE X e ty) (hf:PE X f tx) (m:M2 X o "get" apos e f cpos):PE X (.Call (.Attribute o "get" apos) [e,f] [] cpos) (tDGet2 td ty tx):=by
  intro pins s σ H Q I h
  refine wpAny_Call_method m.base m.few m.line PySem.F.plainAttrs_dict PySem.F.slot_dict_get PySem.F.type_dict_get (thn (ho pins s σ H _ I h) fun u s1 ⟨x,H1,I1,rx,a,ex,d,q1⟩=>?_)
  subst ex
  obtain rfl:u=Value.ref a:=rx
  obtain ⟨t1,t2,_⟩:=isD_at I1 d
  refine ⟨t1,t2,?_⟩
  rw [m.trees]
  refine Calls.callWith_builtin rfl (Calls.evalArgs_plain (Calls.spliced_cons (thn (he pins s1 σ H1 _ I1 q1) fun iv s2 ⟨y,H2,I2,ry,q2⟩ =>
    Calls.spliced_cons (thn (hf pins s2 σ H2 _ I2 q2) fun fv s3 ⟨z,H3,I3,rz,ov,g,q3⟩=>Calls.spliced_nil ?_))))
  exact d_get2 hu I3 g ry rz fun w' s4 I4 rw'=>⟨_,H3,I4,rw',q3⟩
theorem pe_dpop1 (ho:PE X o td) (he:PE X e ty) (m:M1 X o "pop" apos e cpos):PE X (.Call (.Attribute o "pop" apos) [e] [] cpos) (tDPop1 td ty):=by
  intro pins s σ H Q I h
  refine wpAny_Call_method m.base m.few m.line PySem.F.plainAttrs_dict PySem.F.slot_dict_pop PySem.F.type_dict_pop (thn (ho pins s σ H _ I h) fun u s1 ⟨x,H1,I1,rx,a,ex,d,q1⟩=>?_)
  subst ex
  obtain rfl:u=Value.ref a:=rx
  obtain ⟨t1,t2,_⟩:=isD_at I1 d
  refine ⟨t1,t2,?_⟩
  rw [m.trees]
  refine Calls.callWith_builtin rfl (Calls.evalArgs_plain (Calls.spliced_cons (thn (he pins s1 σ H1 _ I1 q1) fun iv s2 ⟨y,H2,I2,ry,kvs,k,v,ea,ey,l,q2⟩=>Calls.spliced_nil ?_)))
  subst ey
  exact d_pop I2 ea ry l (.inl rfl) fun w' s3 I3 rw'=>⟨v,_,I3,rw',q2⟩
theorem pe_dpop2 (ho:PE X o td) (he:PE X e ty) (hf:PE X f tx) (m:M2 X o "pop" apos e f cpos):PE X (.Call (.Attribute o "pop" apos) [e,f] [] cpos) (tDPop2 td ty tx):=by
  intro pins s σ H Q I h
  refine wpAny_Call_method m.base m.few m.line PySem.F.plainAttrs_dict PySem.F.slot_dict_pop PySem.F.type_dict_pop (thn (ho pins s σ H _ I h) fun u s1 ⟨x,H1,I1,rx,a,ex,d,q1⟩=>?_)
  subst ex
  obtain rfl:u=Value.ref a:=rx
  obtain ⟨t1,t2,_⟩:=isD_at I1 d
  refine ⟨t1,t2,?_⟩
  rw [m.trees]
  refine Calls.callWith_builtin rfl (Calls.evalArgs_plain (Calls.spliced_cons (thn (he pins s1 σ H1 _ I1 q1) fun iv s2 ⟨y,H2,I2,ry,q2⟩ =>
    Calls.spliced_cons (thn (hf pins s2 σ H2 _ I2 q2) fun fv s3 ⟨z,H3,I3,rz,kvs,k,ea,ey,q3,q4⟩=>Calls.spliced_nil ?_))))
  subst ey
  cases l:valV kvs k with
  | some v=>exact d_pop I3 ea ry l (.inr ⟨fv,rfl⟩) fun w' s4 I4 rw'=>⟨v,_,I4,rw',q3 v l⟩
  | none=>exact d_popD I3 ea ry l fun s4 I4=>⟨z,H3,I4,rz,q4 l⟩
end

section
variable {X:Cx} {pins:List (Addr×Obj)} {σ:St} {H:Hp} {s:Shared} {a:Addr} {kvs:List (Key×V)} {A:Around} {E:Value→Shared→Prop}
end


section
variable {X:Cx} {pins:List (Addr×Obj)} {σ:St} {H:Hp} {s:Shared} {a:Addr} {y:V} {u:Value} {A:Around} {E:Value→Shared→Prop}
end
end L2

namespace Att
open PySem PySem.W PySem.Calls PyProof.Rows

section
variable {prog:Program} {w:World} {A:Around} {E:Value→Shared→Prop} {s:Shared} {K:Frag}

end
end Att

namespace L2
open PySem PySem.Spec PyProof.Rows

end L2

namespace L2
open PySem PySem.Spec PyProof.Rows

end L2

namespace L2
open PySem PySem.Spec PyProof.Rows

section
variable {P:Program} {w:World} {K:PySem.W.Frag} {mg:Str→Option Value} {base:Heap}
end
section
variable {X:Cx}
theorem call_lenD:CallR X (.builtin "len") (fun xs H Q=>∃ a kvs,xs=[V.ref a]∧H a=some (.dK kvs)∧Q (.int kvs.length) H):=by
  intro pins s σ H xs us Q I r h
  obtain ⟨a,kvs,rfl,ha,q⟩:=h
  obtain ⟨u,rfl,ru⟩:=vals1 r
  cases ru
  exact d_len I (.inl ha) fun t s' I'=>⟨.int kvs.length,H,I',⟨t,rfl⟩,q⟩
end

section
variable {κ:Type} [DecidableEq κ]
theorem valV_not {kvs:List (κ×V)} {k:κ} (h:valV kvs k=none):¬ k∈kvs.map (·.1):=by
  intro m
  obtain ⟨p,hp,e⟩:=List.mem_map.mp m
  have q:(kvs.any fun kv=>decide (kv.1=k))=true:=List.any_eq_true.mpr ⟨p,hp,decide_eq_true e⟩
  rw [valV_any,h] at q
  exact absurd q (by simp)
theorem valV_in {kvs:List (κ×V)} {k:κ} {v:V} (h:valV kvs k=some v):k∈kvs.map (·.1):=by
  have q:(kvs.any fun kv=>decide (kv.1=k))=true:=by
    rw [valV_any,h]
    all_goals rfl
  obtain ⟨p,hp,e⟩:=List.any_eq_true.mp q
  exact List.mem_map.mpr ⟨p,hp,of_decide_eq_true e⟩
theorem dropK_pos {p:κ×V} {r:List (κ×V)} {k:κ} (e:p.1=k):dropK (p::r) k=dropK r k:=by
  unfold dropK
  rw [List.filter_cons,if_neg (by simp [e])]
theorem dropK_neg {p:κ×V} {r:List (κ×V)} {k:κ} (e:¬ p.1=k):dropK (p::r) k=p::dropK r k:=by
  unfold dropK
  rw [List.filter_cons,if_pos (by simp [e])]
end
end L2

set_option Elab.async false
set_option linter.all false
set_option maxRecDepth 100000
set_option maxHeartbeats 4000000
namespace L2
open PySem PySem.Spec PyProof.Rows

def closOf (cells:List (Str×Addr)):List (Str×NameKind)→List (Str×Addr)→List (Str×Addr)
  | [],cs=>cs
  | (n,k)::r,cs=>if k=NameKind.free then (match cells.lookup n with | some a=>closOf cells r ((n,a)::cs) | none=>closOf cells r cs) else closOf cells r cs
theorem closOf_pure {env:Env}:∀ (names:List (Str×NameKind)) (cs:List (Str×Addr)),(∀ y∈names,y.2=NameKind.free→∃ c,env.cells.lookup y.1=some c) →
    (forIn names cs fun (x:Str×NameKind) r=>match x with
      | (name,kind)=>if (kind == NameKind.free)=true then do let a ← cellOf env name;pure (ForInStep.yield ((name,a)::r)) else pure (ForInStep.yield r))=(pure (closOf env.cells names cs):Sem (List (Str×Addr)))
  | [],cs,_=>rfl
  | (n,k)::r,cs,h=>by
    have ih:=fun cs'=>closOf_pure (env:=env) r cs' fun y hy=>h y (List.mem_cons_of_mem _ hy)
    rw [List.forIn_cons]
    by_cases hk:k=NameKind.free
    · obtain ⟨c,hc⟩:=h (n,k) List.mem_cons_self hk
      have hc':env.cells.lookup n=some c:=hc
      have hcell:cellOf env n=pure c:=by unfold cellOf;rw [hc']
      have e1:closOf env.cells ((n,k)::r) cs=closOf env.cells r ((n,c)::cs):=by
        rw [closOf,if_pos hk,hc']
      rw [e1,← ih ((n,c)::cs)]
      subst hk
      dsimp only
      rw [hcell]
      rfl
    · have hb:(k == NameKind.free)=false:=by simpa using hk
      have e1:closOf env.cells ((n,k)::r) cs=closOf env.cells r cs:=by
        rw [closOf,if_neg hk]
      rw [e1,← ih cs]
      dsimp only
      rw [hb]
      rfl
theorem closure_is {scope:Scope} {env:Env} (h:∀ y∈scope.names,y.2=NameKind.free→∃ c,env.cells.lookup y.1=some c):closureFor scope env=pure (closOf env.cells scope.names []):=by
  have e:=closOf_pure (env:=env) scope.names [] h
  unfold closureFor
  exact (congrArg (fun t:Sem (List (Str×Addr))=>t >>= fun s=>pure s) e).trans rfl
theorem closOf_sound {cells:List (Str×Addr)}:∀ (names:List (Str×NameKind)) (cs:List (Str×Addr)),(∀ x c,cs.lookup x=some c→cells.lookup x=some c)→∀ x c,(closOf cells names cs).lookup x=some c→cells.lookup x=some c
  | [],cs,h,x,c,e=>h x c e
  | (n,k)::r,cs,h,x,c,e=>by
    by_cases hk:k=NameKind.free
    · cases q:cells.lookup n with
      | none =>
        rw [closOf,if_pos hk,q] at e
        exact closOf_sound r cs h x c e
      | some a =>
        rw [closOf,if_pos hk,q] at e
        refine closOf_sound r _ (fun y d z=>?_) x c e
        rw [List.lookup_cons] at z
        by_cases hy:(y == n)=true
        · rw [hy] at z
          have hy':y=n:=by simpa using hy
          subst hy'
          exact q.trans z
        · have hy':(y == n)=false:=by simpa using hy
          rw [hy'] at z
          exact h y d z
    · rw [closOf,if_neg hk] at e
      exact closOf_sound r cs h x c e
theorem closOf_keep {cells:List (Str×Addr)}:∀ (names:List (Str×NameKind)) (cs:List (Str×Addr)) (x:Str),(cs.lookup x).isSome=true→((closOf cells names cs).lookup x).isSome=true
  | [],cs,x,h=>h
  | (n,k)::r,cs,x,h=>by
    by_cases hk:k=NameKind.free
    · cases q:cells.lookup n with
      | none=>rw [closOf,if_pos hk,q];exact closOf_keep r cs x h
      | some a =>
        rw [closOf,if_pos hk,q]
        refine closOf_keep r _ x ?_
        rw [List.lookup_cons]
        cases hy:x == n with
        | true=>rfl
        | false=>exact h
    · rw [closOf,if_neg hk];exact closOf_keep r cs x h
theorem closOf_has {cells:List (Str×Addr)}:∀ (names:List (Str×NameKind)) (cs:List (Str×Addr)) (x:Str),(x,NameKind.free)∈names→(cells.lookup x).isSome=true→((closOf cells names cs).lookup x).isSome=true
  | [],cs,x,h,_=>by simp at h
  | (n,k)::r,cs,x,h,hc=>by
    rcases List.mem_cons.mp h with e | e
    · cases e
      obtain ⟨c,hc'⟩:=Option.isSome_iff_exists.mp hc
      rw [closOf,if_pos rfl,hc']
      refine closOf_keep r _ _ ?_
      rw [List.lookup_cons,beq_self_eq_true]
      rfl
    · by_cases hk:k=NameKind.free
      · cases q:cells.lookup n with
        | none=>rw [closOf,if_pos hk,q];exact closOf_has r cs x e hc
        | some a=>rw [closOf,if_pos hk,q];exact closOf_has r _ x e hc
      · rw [closOf,if_neg hk];exact closOf_has r cs x e hc
theorem lookup_mem {α:Type}:∀ {l:List (Str×α)} {x:Str} {a:α},l.lookup x=some a→(x,a)∈l
  | [],x,a,h=>by simp at h
  | (n,k)::r,x,a,h=>by
    rw [List.lookup_cons] at h
    cases hx:x == n with
    | true =>
      rw [hx] at h
      have e:x=n:=by simpa using hx
      subst e
      cases h
      exact List.mem_cons_self
    | false =>
      rw [hx] at h
      exact List.mem_cons_of_mem _ (lookup_mem h)
theorem relabel_kind {env:Env}:∀ (names:List (Str×NameKind)) (x:Str) (k:NameKind),
    (names.map fun (p:Str×NameKind)=>match p with | (n,k)=>if (k == NameKind.free && env.scope.kind == .function && env.kindOf n == some .cell) then (n,NameKind.cell) else (n,k)).lookup x=some k →
      names.lookup x=some k∨(k=.cell∧names.lookup x=some .free)
  | [],x,k,h=>by simp at h
  | (n,k₀)::r,x,k,h=>by
    rw [List.map_cons] at h
    dsimp only at h
    cases hx:x == n with
    | true =>
      rw [List.lookup_cons,hx]
      by_cases hc:(k₀ == NameKind.free && env.scope.kind == .function && env.kindOf n == some .cell)=true
      · rw [if_pos hc,List.lookup_cons,hx] at h
        cases h
        have:k₀=.free:=by
          simp only [Bool.and_eq_true] at hc
          simpa using hc.1.1
        subst this
        exact .inr ⟨rfl,rfl⟩
      · rw [if_neg hc,List.lookup_cons,hx] at h
        exact .inl h
    | false =>
      rw [List.lookup_cons,hx]
      by_cases hc:(k₀ == NameKind.free && env.scope.kind == .function && env.kindOf n == some .cell)=true
      · rw [if_pos hc,List.lookup_cons,hx] at h
        exact relabel_kind r x k h
      · rw [if_neg hc,List.lookup_cons,hx] at h
        exact relabel_kind r x k h
theorem relabel_free {env:Env}:∀ (names:List (Str×NameKind)) (x:Str),names.lookup x=some .free →
    (names.map fun (p:Str×NameKind)=>match p with | (n,k)=>if (k == NameKind.free && env.scope.kind == .function && env.kindOf n == some .cell) then (n,NameKind.cell) else (n,k)).lookup x=some .free ∨
    (names.map fun (p:Str×NameKind)=>match p with | (n,k)=>if (k == NameKind.free && env.scope.kind == .function && env.kindOf n == some .cell) then (n,NameKind.cell) else (n,k)).lookup x=some .cell
  | [],x,h=>by simp at h
  | (n,k₀)::r,x,h=>by
    rw [List.map_cons]
    dsimp only
    cases hx:x == n with
    | true =>
      rw [List.lookup_cons,hx] at h
      cases h
      by_cases hc:(NameKind.free == NameKind.free && env.scope.kind == .function && env.kindOf n == some .cell)=true
      · rw [if_pos hc,List.lookup_cons,hx]
        exact .inr rfl
      · rw [if_neg hc,List.lookup_cons,hx]
        exact .inl rfl
    | false =>
      rw [List.lookup_cons,hx] at h
      by_cases hc:(k₀ == NameKind.free && env.scope.kind == .function && env.kindOf n == some .cell)=true
      · rw [if_pos hc,List.lookup_cons,hx]
        exact relabel_free r x h
      · rw [if_neg hc,List.lookup_cons,hx]
        exact relabel_free r x h

def hideN (x y:Str):Str:=if y=x then Str.empty else y
abbrev blk (X:Cx) (x:Str) (scope:Scope) (M:List Str) (C:Addr) (s₀:Shared) (H₀:Hp) (fp:List Addr):Cx :=
  { X with N:=x::M,s₀:=s₀,H₀:=H₀,env:=compEnvC scope (closOf X.env.cells scope.names []) C X.env,outer:=X.stack,stack:=X.stack,ex:=fp,fn:=fun _=>false,pn:=[],xe:=fun _ _=>False }

structure CompOk (N M:List Str) (sc:Scope) (x:Str) (scope:Scope):Prop where
  kind:scope.kind=.function
  cell:∀ y∈scope.names,y.2≠.cell
  names:∀ y∈scope.names,y.2=.local→scope.names.lookup y.1=some .local
  own:scope.names.lookup x=some .local
  free:∀ y∈scope.names,y.2=.free→sc.names.lookup y.1=some .cell∨sc.names.lookup y.1=some .free
  hid:N.map (hideN x)=M
  nd:(x::M).Nodup
  others:∀ y∈M,scope.names.lookup y≠some .local
  void:scope.names.lookup Str.empty=none

def tComp (wi:TI) (tt:TT) (te:TE):TE:=fun σ H Q=>wi σ H fun J H1=>∀ D,H1 D=none→∃ W:Nat→Nat→List V→Hp→Prop,(∃ m,W 0 m [] (upd H1 D (.lst [])))∧∀ i m ys H2,W i m ys H2 →
  (J.stop i H2∧H2 D=some (.lst ys)∧Q (.ref D) H2)∨(J.go i H2∧ys.length < sizeLine∧∀ x H3,J.yld i H2 x H3→tt (some x::σ) H3 fun b H4 =>
    if b=true then te (some x::σ) H4 fun y H5=>H5 D=some (.lst ys)∧∃ m',m' < m∧W (i+1) m' (ys++[y]) (upd H5 D (.lst (ys++[y]))) else ∃ m',m' < m∧W (i+1) m' ys H4)
def tYes:TT:=fun _ H Q=>Q true H

section
variable {prog:Program} {w:World} {A:Around} {R:Result→Shared→Prop} {s:Shared}
theorem compLoop_go {elt target iter:Expr} {ifs:List Expr} {scope:Scope} {pos:Pos} {it acc:Value} {env:Env} (Jv:Nat→Shared→Prop)
    (turn:∀ n s,Jv n s→wpAny (model prog w) A (pyNext it) (fun r s₁=>match r with
      | none=>R (.ok .next) s₁
      | some v=>wpAny (model prog w) A (letOwnedTupleGo target it v) (fun _ s₀=>wpAny (model prog w) A (assign target env v) (fun _ s₂ =>
          wpAny (model prog w) A (forIn ifs true fun c r=>if r=true then do let ok ← isTrue c env (eval c env);pure (ForInStep.yield ok) else pure (ForInStep.yield r)) (fun ok s₃ =>
            if ok=true then wpAny (model prog w) A (eval elt env) (fun x s₄=>wpAny (model prog w) A (call (.builtin "list.append") [acc,x]) (fun _ s₅=>∃ m,m < n∧Jv m s₅) (fun _ _=>False) s₄) (fun _ _=>False) s₃
            else ∃ m,m < n∧Jv m s₃) (fun _ _=>False) s₂) (fun _ _=>False) s₀) (fun _ _=>False) s₁) (fun _ _=>False) s)
    (n:Nat) (h:Jv n s):codeAny (model prog w) A (.compLoop (.ListComp elt [⟨target,iter,ifs,0⟩] scope pos) 0 it acc env) R s:=by
  have no:∀ {α:Type} {t:Sem α} {Q:α→Shared→Prop} {E:Value→Shared→Prop} {s':Shared},wpAny (model prog w) A t Q (fun _ _=>False) s'→wpAny (model prog w) A t Q E s':=fun h=>wpAny_mono h (fun _ _ q=>q) fun _ _ f=>f.elim
  refine codeAny_loop rfl Jv (fun n s hI=>?_) n h
  refine wpAny_noted (env:=env) ?_
  rw [compTurn_list]
  refine wpAny_bind (wpAny_standAt (wpAny_bind (thn (no (turn n s hI)) fun r s₁ h₁=>?_)))
  cases r with
  | none=>exact wpAny_pure h₁
  | some v =>
    refine wpAny_bind (thn (no h₁) fun _ s₀ h₀=>wpAny_bind (thn (no h₀) fun _ s₂ h₂=>wpAny_bind (thn (no h₂) fun ok s₃ h₃=>?_)))
    cases ok with
    | false=>exact wpAny_pure ⟨rfl,h₃⟩
    | true=>exact wpAny_bind (wpAny_bind (thn (no h₃) fun x s₄ h₄=>wpAny_bind (thn (no h₄) fun _ s₅ h₅=>wpAny_pure (wpAny_pure ⟨rfl,h₅⟩))))
end

section
variable {X:Cx} {pins:List (Addr×Obj)} {σ:St} {H2:Hp} {s2:Shared} {E:Value→Shared→Prop}
theorem blk_ok {N M:List Str} {sc scope:Scope} {x:Str} {C:Addr} {H:Hp} {s:Shared} {fp:List Addr} (I:Inv X pins σ H s) (hsc:X.env.scope=sc) (O:CompOk N M sc x scope) (hC:s.heap.objs.size≤C)
    (hf:∀ b∈fp,FpOk X pins H b) (hlt:∀ b∈fp,b < s.heap.objs.size):(blk X x scope M C s H fp).Ok where
  mod:=I.ok.mod
  kind:=O.kind
  glob:=I.ok.glob
  blt:=I.ok.blt
  above:=hC
  inj:=fun y z c e1 e2=>I.ok.inj y z c (closOf_sound _ _ (fun _ _ z=>by simp at z) _ _ e1) (closOf_sound _ _ (fun _ _ z=>by simp at z) _ _ e2)
  has:=fun y hy=>by
    have q:scope.names.lookup y=some .free:=by
      rcases hy with hy | hy
      · rcases relabel_kind _ _ _ hy with z | ⟨_,z⟩
        · exact absurd rfl (O.cell _ (lookup_mem z))
        · exact z
      · rcases relabel_kind _ _ _ hy with z | ⟨z,_⟩
        · exact z
        · cases z
    have q2:=O.free _ (lookup_mem q) rfl
    rw [← hsc] at q2
    obtain ⟨c,hc⟩:=I.ok.has y q2
    exact Option.isSome_iff_exists.mp (closOf_has _ _ _ (lookup_mem q) (by rw [hc];rfl))
  cab:=fun y c h=>by cases h
  hd:=I.ok.hd
  frames:=I.ok.frames
  stk:=.inl rfl
  exf:=fun b hb=>⟨Nat.ne_of_lt (Nat.lt_of_lt_of_le (hlt b hb) hC),fun y c e=>(hf b hb).2.2.2.2.1 y c (closOf_sound _ _ (fun _ _ z=>by simp at z) _ _ e)⟩
  bs:=I.bs
  bsz:=Nat.le_trans I.ok.bsz I.sz
  noex:=fun b o e hb=>by
    rcases (hf b hb).2.2.2.1 with z | z
    · exact I.ok.noex b o e z
    · exact absurd (Nat.lt_of_lt_of_le (Heap.lt_size (I.ok.bs b o e).1) z) (Nat.lt_irrefl _)
  exfs:=fun b hb z=>by
    obtain ⟨_,f1,f2,_⟩:=hf b hb
    exact (List.mem_cons.mp (I.stkSub b z)).elim f1 f2
  funs:=I.stack
  frf:=I.stkFree

theorem blk_inv {N M:List Str} {sc scope:Scope} {x:Str} {H:Hp} {s:Shared} {fp:List Addr} {h':Heap} {tk:Nat} (I:Inv X pins σ H s) (hX:X.N=N) (hsc:X.env.scope=sc) (O:CompOk N M sc x scope)
    (hf:∀ b∈fp,FpOk X pins H b) (hlt:∀ b∈fp,b < s.heap.objs.size) {m:Str→Option Value} (hns:h'.Ns s.heap.objs.size m) (k:∀ b u,s.heap.get? b=some u→h'.get? b=some u) :
    Inv (blk X x scope M s.heap.objs.size s H fp) [] (none::σ) H { s with heap:=h',toks:=tk } where
  ok:=blk_ok I hsc O (Nat.le_refl _) hf hlt
  os:=rfl
  bare:=I.bare
  base:=Un.kept k
  loc:=by
    refine ⟨m,hns,fun i y v e1 e2 e3=>?_⟩
    cases i with
    | zero=>simp at e2
    | succ i =>
      have e1':M[i]?=some y:=by simpa using e1
      have e2':σ[i]?=some (some v):=by simpa using e2
      have hyM:y∈M:=List.mem_of_getElem? e1'
      have hfree:scope.names.lookup y=some .free:=by
        rcases e3 with e3 | e3 | e3
        · rcases relabel_kind _ _ _ e3 with z | ⟨z,_⟩
          · exact absurd z (O.others y hyM)
          · cases z
        · rcases relabel_kind _ _ _ e3 with z | ⟨_,z⟩
          · exact absurd rfl (O.cell _ (lookup_mem z))
          · exact z
        · rcases relabel_kind _ _ _ e3 with z | ⟨z,_⟩
          · exact z
          · cases z
      have hN:X.N[i]?=some y:=by
        rw [hX]
        rw [← O.hid,List.getElem?_map] at e1'
        cases q:N[i]? with
        | none=>rw [q] at e1';cases e1'
        | some z =>
          rw [q] at e1'
          have e4:hideN x z=y:=Option.some.inj e1'
          unfold hideN at e4
          by_cases hz:z=x
          · rw [if_pos hz] at e4
            rw [← e4,O.void] at hfree
            cases hfree
          · rw [if_neg hz] at e4
            rw [e4]
      have q2:=O.free _ (lookup_mem hfree) rfl
      rw [← hsc] at q2
      have hvis:Vis X.env.scope y:=q2.elim (fun z=>.inr (.inl z)) fun z=>.inr (.inr z)
      obtain ⟨m0,hn0,hl⟩:=I.loc
      obtain ⟨u,r,l⟩:=hl i y v hN e2' hvis
      refine ⟨u,r,?_⟩
      rcases l with ⟨l,_⟩ | ⟨l,c,hc,z⟩
      · exfalso
        have l':X.env.scope.names.lookup y=some .local:=l
        rcases q2 with q2 | q2
        · have q2':X.env.scope.names.lookup y=some .cell:=q2
          rw [l'] at q2';cases q2'
        · have q2':X.env.scope.names.lookup y=some .free:=q2
          rw [l'] at q2';cases q2'
      · have hsome:=closOf_has scope.names [] y (lookup_mem hfree) (cells:=X.env.cells) (by rw [hc];rfl)
        obtain ⟨c',hc'⟩:=Option.isSome_iff_exists.mp hsome
        have e5:=closOf_sound _ _ (fun _ _ z=>by simp at z) _ _ hc'
        rw [hc] at e5
        cases e5
        obtain ⟨o,ho,hd⟩:=z
        refine .inr ⟨?_,c,hc',o,k c o ho,hd⟩
        rcases relabel_free (env:=X.env) _ _ hfree with z | z
        · exact .inr z
        · exact .inl z
  cell:=fun y c e=>by
    obtain ⟨v,o,ho,hd⟩:=I.cell y c (closOf_sound _ _ (fun _ _ z=>by simp at z) _ _ e)
    exact ⟨v,o,k c o ho,hd⟩
  free:=I.hok.fresh (Nat.le_refl _)
  freeC:=fun y c e=>I.freeC y c (closOf_sound _ _ (fun _ _ z=>by simp at z) _ _ e)
  pin:=fun p hp=>by simp at hp
  hok:=I.hok.kept k
  len:=by
    have e:N.length=M.length:=by rw [← O.hid,List.length_map]
    simp only [List.length_cons]
    rw [I.len,hX,e]

variable {elt iter:Expr} {ifs:List Expr} {x:Str} {px pos:Pos} {N M:List Str} {sc scope:Scope} {tt:TT} {te:TE} {it:Addr} {fp:List Addr} {tn:Nat→Heap→Prop} {J:It}
theorem comp_block (hcalm:X.calm=true) (hX:X.N=N) (hsc:X.env.scope=sc) (O:CompOk N M sc x scope)
    (hts:∀ (C:Addr) (s₀:Shared) (H₀:Hp) (fp:List Addr) (pins:List (Addr×Obj)) (s:Shared) (σ:St) (H:Hp) (Q:Bool→Hp→Prop),Inv (blk X x scope M C s₀ H₀ fp) pins σ H s→tt σ H Q →
      wpAny (model X.prog X.w) X.A (forIn ifs true fun c r=>if r=true then do let ok ← isTrue c (blk X x scope M C s₀ H₀ fp).env (eval c (blk X x scope M C s₀ H₀ fp).env);pure (ForInStep.yield ok) else pure (ForInStep.yield r)) (TP (blk X x scope M C s₀ H₀ fp) pins σ Q) (fun _ _=>False) s)
    (hel:∀ (C:Addr) (s₀:Shared) (H₀:Hp) (fp:List Addr),PE (blk X x scope M C s₀ H₀ fp) elt te)
    (I2:Inv X pins σ H2 s2) (T:Turn X.prog X.w X.K (.Name x px) J fp it tn) (st2:tn 0 s2.heap) (f2:∀ b∈fp,FpOk X pins H2 b) {Qd:Addr→Hp→Prop}
    (q:∀ D,H2 D=none→∃ W:Nat→Nat→List V→Hp→Prop,(∃ m,W 0 m [] (upd H2 D (.lst [])))∧∀ i m ys H3,W i m ys H3 →
      (J.stop i H3∧H3 D=some (.lst ys)∧Qd D H3)∨(J.go i H3∧ys.length < sizeLine∧∀ x H4,J.yld i H3 x H4→tt (some x::σ) H4 fun b H5 =>
        if b=true then te (some x::σ) H5 fun y H6=>H6 D=some (.lst ys)∧∃ m',m' < m∧W (i+1) m' (ys++[y]) (upd H6 D (.lst (ys++[y]))) else ∃ m',m' < m∧W (i+1) m' ys H5))
    {RR:Value→Addr→Result→Shared→Prop} (hRR:∀ D C H' s',Inv X pins σ H' s'→FpOk X pins H' C→(∃ m,s'.heap.Ns C m)→Qd D H'→RR (.ref D) C (.ok .next) s') :
    wpAny (model X.prog X.w) X.A (newList []) (fun acc s₃=>wpAny (model X.prog X.w) X.A (newFunctionEnv scope X.env.globals (closOf X.env.cells scope.names []) [] X.env.qual none .none (some X.env)) (fun cenv s₄ =>
      codeAny (model X.prog X.w) X.A (.compStart (.ListComp elt [⟨.Name x px,iter,ifs,0⟩] scope pos) 0 (.ref it) acc { cenv with scope:=relabel scope X.env }) (RR acc cenv.locals) s₄) E s₃) E s2:=by
  have hlt2:∀ b∈fp,b < s2.heap.objs.size:=fun b hb=>let ⟨o,e,_⟩:=T.obj _ _ st2 b hb;Heap.lt_size e
  have nD:H2 s2.heap.objs.size=none:=I2.hok.fresh (Nat.le_refl _)
  obtain ⟨W,⟨m0,w0⟩,turn⟩:=q s2.heap.objs.size nD
  have I3:=I2.lnew (its:=[]) (ys:=[]) (t':=s2.toks) .nil (Nat.zero_le _)
  refine wpAny_newObj_type (wpAny_newFunctionEnv O.cell (by intro y hy;simp at hy) (fun h₁ hns₁ hsb₁=>?_) O.kind)
  dsimp only at hns₁ hsb₁ ⊢
  generalize hs3:({ s2 with heap:=s2.heap.push { cls:=.type "list",data:=.seq ([]:List Value).toArray },toks:=s2.toks }:Shared)=s3 at I3
  have eh:s3.heap=s2.heap.push { cls:=.type "list",data:=.seq ([]:List Value).toArray }:=by rw [← hs3]
  have es:s3={ s2 with heap:=s2.heap.push { cls:=.type "list",data:=.seq ([]:List Value).toArray } }:=hs3.symm
  have k1:∀ b u,s3.heap.get? b=some u→h₁.get? b=some u:=fun b u e=>by
    refine hsb₁.extBut b u ?_ (Heap.get?_push_of_some _ (by rw [← eh];exact e))
    rw [← eh]
    exact Nat.ne_of_lt (Heap.lt_size e)
  have f3:∀ b∈fp,FpOk X pins (upd H2 s2.heap.objs.size (.lst [])) b:=fun b hb=>⟨by rw [upd_ne (Nat.ne_of_lt (hlt2 b hb))];exact (f2 b hb).1,(f2 b hb).2⟩
  have hlt3:∀ b∈fp,b < s3.heap.objs.size:=fun b hb=>by
    rw [eh,Heap.size_push]
    exact Nat.lt_succ_of_lt (hlt2 b hb)
  have st3:tn 0 h₁:=T.keep _ _ _ st2 fun b hb o e=>k1 b o (by rw [eh];exact Heap.get?_push_of_some _ e)
  have hns3:h₁.Ns s3.heap.objs.size (fun x=>([]:List (Str×Value)).reverse.lookup x):=by rw [eh];exact hns₁
  have IB:=blk_inv (tk:=s2.toks) I3 hX hsc O f3 hlt3 hns3 k1
  have eC:s3.heap.objs.size=(s2.heap.push { cls:=.type "list",data:=.seq ([]:List Value).toArray }).objs.size:=by rw [eh]
  have stat:∀ {H':Hp},(∀ b∈fp,H' b=none)→∀ b∈fp,FpOk (blk X x scope M s3.heap.objs.size s3 (upd H2 s2.heap.objs.size (.lst [])) fp) [] H' b:=fun hn b hb=>by
    obtain ⟨g0,g1,g2,g3,g4,g5⟩:=f3 b hb
    exact ⟨hn b hb,Nat.ne_of_lt (hlt3 b hb),fun z=>(List.mem_cons.mp (I3.stkSub b z)).elim g1 g2,.inl hb,fun y c e=>g4 y c (closOf_sound _ _ (fun _ _ z=>by simp at z) _ _ e),fun p hp=>by simp at hp⟩
  have loop:∀ s4:Shared,s4={ s3 with heap:=h₁,toks:=s2.toks } →
      codeAny (model X.prog X.w) X.A (.compLoop (.ListComp elt [⟨.Name x px,iter,ifs,0⟩] scope pos) 0 (.ref it) (.ref s2.heap.objs.size) (compEnvC scope (closOf X.env.cells scope.names []) s3.heap.objs.size X.env))
        (RR (.ref s2.heap.objs.size) s3.heap.objs.size) s4:=by
    rintro s4 rfl
    refine compLoop_go (fun n s'=>∃ i ys o H',Inv (blk X x scope M s3.heap.objs.size s3 (upd H2 s2.heap.objs.size (.lst [])) fp) [] (o::σ) H' s'∧tn i s'.heap∧(∀ b∈fp,H' b=none)∧W i n ys H') ?_ m0
      ⟨0,[],none,_,IB,st3,fun b hb=>(f3 b hb).1,w0⟩
    rintro n s5 ⟨i,ys,o,H5,I5,st5,fr5,w5⟩
    rcases turn i n ys H5 w5 with ⟨stop,hD,qd⟩ | ⟨go,hz,step⟩
    · refine thn (T.done (blk X x scope M s3.heap.objs.size s3 (upd H2 s2.heap.objs.size (.lst [])) fp) rfl rfl rfl hcalm i [] s5 _ H5 _ I5 (stat fr5) st5 stop) fun r s6 ⟨hr,I6⟩=>?_
      subst hr
      have IX:=I3.call' I6.os I6.base I6.hok I6.bare fun b hb=>let ⟨_,g1,_,g3,g4,g5⟩:=f3 b hb;⟨g3,g1,g4,g5⟩
      obtain ⟨mm,hmm,_⟩:=I6.loc
      exact hRR _ _ H5 s6 IX (I3.fpOk (Nat.le_refl _) I6.free) ⟨mm,hmm⟩ qd
    · refine thn (T.item (blk X x scope M s3.heap.objs.size s3 (upd H2 s2.heap.objs.size (.lst [])) fp) rfl rfl rfl hcalm i [] s5 _ H5 _ I5 (stat fr5) st5 go) fun r s6 ⟨u,hr,h6⟩=>?_
      subst hr
      refine thn h6 fun _ s7 ⟨y,H7,I7,r7,y7,st7,fr7⟩=>?_
      have I7':=I7.pinned (stat fr7) (T.obj _ _ st7)
      refine wpAny_assign_Name (store_ok (i:=0) I7' O.nd rfl (.inl (lookup_relabel_local O.own)) r7 (fun s8 I8=>?_) (.inr (lookup_relabel_local O.own)))
      have I8':Inv (blk X x scope M s3.heap.objs.size s3 (upd H2 s2.heap.objs.size (.lst [])) fp) ([]++pinsAt fp s7.heap) (some y::σ) H7 s8:=I8
      refine thn (hts _ _ _ _ _ s8 _ H7 _ I8' (step y H7 y7)) fun ok s9 ⟨H9,I9,q9⟩=>?_
      have again:∀ {ys':List V} {H':Hp} {s':Shared} {m:Nat},Inv (blk X x scope M s3.heap.objs.size s3 (upd H2 s2.heap.objs.size (.lst [])) fp) ([]++pinsAt fp s7.heap) (some y::σ) H' s'→m < n→W (i+1) m ys' H' →
          ∃ m,m < n∧∃ i ys o H',Inv (blk X x scope M s3.heap.objs.size s3 (upd H2 s2.heap.objs.size (.lst [])) fp) [] (o::σ) H' s'∧tn i s'.heap∧(∀ b∈fp,H' b=none)∧W i m ys H':=fun {ys' H' s' m} I' hm w'=>by
        refine ⟨m,hm,i+1,ys',some y,H',I'.unpinned,T.keep _ _ _ st7 fun b hb o e=>(I'.pin (b,o) (List.mem_append_right _ (List.mem_append_right _ (mem_pinsAt hb e)))).1,fun b hb=>?_,w'⟩
        obtain ⟨o,e,d⟩:=T.obj _ _ st7 b hb
        exact (I'.pin (b,o) (List.mem_append_right _ (List.mem_append_right _ (mem_pinsAt hb e)))).2.1
      cases ok with
      | false =>
        obtain ⟨m',hm,w'⟩:=q9
        exact again I9 hm w'
      | true =>
        refine thn (hel _ _ _ _ _ s9 _ H9 _ I9 q9) fun u2 s10 ⟨y2,H10,I10,r10,hD,m',hm,w'⟩=>?_
        refine thn (mt_append _ s10 _ H10 (.ref s2.heap.objs.size) [y2] (.ref s2.heap.objs.size) [u2] (fun _ H'=>H'=upd H10 s2.heap.objs.size (.lst (ys++[y2]))) I10 rfl (.cons r10 .nil) ⟨_,ys,y2,rfl,rfl,hD,hz,rfl⟩) fun _ s11 ⟨_,H11,I11,_,e11⟩=>?_
        subst e11
        exact again I11 hm w'
  have fin:=codeAny_compStart_list (loop _ rfl) (T.self X.A 0 _ _ _ st3 (loop _ rfl))
  rw [es] at fin
  exact fin
end
end L2

set_option Elab.async false
set_option linter.all false
set_option maxRecDepth 100000
set_option maxHeartbeats 4000000
namespace L2
open PySem PySem.Spec PyProof.Rows

section
variable {X:Cx} {elt iter c:Expr} {ifs:List Expr} {x y:Str} {px py pos spos:Pos} {scope sc:Scope} {N M:List Str} {wi:TI} {tt:TT} {te:TE}
theorem pe_compG (hcalm:X.calm=true) (hX:X.N=N) (hsc:X.env.scope=sc) (O:CompOk N M sc x scope) (hi:PI X (.Name x px) iter wi)
    (hts:∀ (C:Addr) (s₀:Shared) (H₀:Hp) (fp:List Addr) (pins:List (Addr×Obj)) (s:Shared) (σ:St) (H:Hp) (Q:Bool→Hp→Prop),Inv (blk X x scope M C s₀ H₀ fp) pins σ H s→tt σ H Q →
      wpAny (model X.prog X.w) X.A (forIn ifs true fun c r=>if r=true then do let ok ← isTrue c (blk X x scope M C s₀ H₀ fp).env (eval c (blk X x scope M C s₀ H₀ fp).env);pure (ForInStep.yield ok) else pure (ForInStep.yield r)) (TP (blk X x scope M C s₀ H₀ fp) pins σ Q) (fun _ _=>False) s)
    (hel:∀ (C:Addr) (s₀:Shared) (H₀:Hp) (fp:List Addr),PE (blk X x scope M C s₀ H₀ fp) elt te) (hs:∀ x,foldedSetIterable iter X.env x=pure x:=by intro _;rfl) :
    PE X (.ListComp elt [⟨.Name x px,iter,ifs,0⟩] scope pos) (tComp wi tt te):=by
  intro pins s σ H Q I h
  rw [eval_ListComp]
  have hcl:closureFor scope X.env=pure (closOf X.env.cells scope.names []):=closure_is fun z hz hf=>by
    have q:=O.free z hz hf
    rw [← hsc] at q
    exact I.ok.has z.1 q
  refine wpAny_comprehension_free (use:=none) rfl hs hcl O.kind O.names (thn (hi pins s σ H _ I h) fun v s1 h1=>thn h1 fun itv s2 h2=>?_)
  obtain ⟨it,fp,tn,J,H2,e,I2,T,st2,f2,q2⟩:=h2
  subst e
  refine comp_block (Qd:=fun D H'=>Q (.ref D) H') (RR:=fun acc C=>compPost (model X.prog X.w) X.A X.xe none (EP X pins σ Q) acc C) hcalm hX hsc O hts hel I2 T st2 f2 (fun D hD=>q2 D hD) ?_
  intro D C H' s' I' hC hm q'
  obtain ⟨m,hm⟩:=hm
  obtain ⟨c0,c1,c2,c3,c4,c5⟩:=hC
  exact ⟨m,hm,fun h' hs'=>⟨.ref D,H',I'.turned (t':=s'.toks) (fun b o hb e=>hs'.extBut b o hb e) c0 c1 c3 c4 c5,rfl,q'⟩⟩
theorem ps_setcG {i:Nat} (hcalm:X.calm=true) (hX:X.N=N) (hsc:X.env.scope=sc) (O:CompOk N M sc x scope) (hi:PI X (.Name x px) iter wi)
    (hts:∀ (C:Addr) (s₀:Shared) (H₀:Hp) (fp:List Addr) (pins:List (Addr×Obj)) (s:Shared) (σ:St) (H:Hp) (Q:Bool→Hp→Prop),Inv (blk X x scope M C s₀ H₀ fp) pins σ H s→tt σ H Q →
      wpAny (model X.prog X.w) X.A (forIn ifs true fun c r=>if r=true then do let ok ← isTrue c (blk X x scope M C s₀ H₀ fp).env (eval c (blk X x scope M C s₀ H₀ fp).env);pure (ForInStep.yield ok) else pure (ForInStep.yield r)) (TP (blk X x scope M C s₀ H₀ fp) pins σ Q) (fun _ _=>False) s)
    (hel:∀ (C:Addr) (s₀:Shared) (H₀:Hp) (fp:List Addr),PE (blk X x scope M C s₀ H₀ fp) elt te)
    (hNd:X.N.Nodup) (hiy:X.N[i]?=some y) (hy:X.env.scope.names.lookup y=some .local)
    (hsw:swapsWith (.ListComp elt [⟨.Name x px,iter,ifs,0⟩] scope pos) (some (.Name y py)) spos.line X.env=pure true) (hs:∀ x,foldedSetIterable iter X.env x=pure x:=by intro _;rfl) :
    PS X (.Assign [.Name y py] (.ListComp elt [⟨.Name x px,iter,ifs,0⟩] scope pos) spos) (tAsg (tComp wi tt te) (gName i)):=by
  intro pins s σ H D I h
  have hcl:closureFor scope X.env=pure (closOf X.env.cells scope.names []):=closure_is fun z hz hf=>by
    have q:=O.free z hz hf
    rw [← hsc] at q
    exact I.ok.has z.1 q
  have key:wpAny (model X.prog X.w) X.A (comprehension (.ListComp elt [⟨.Name x px,iter,ifs,0⟩] scope pos) scope X.env (firstIterPos [⟨.Name x px,iter,ifs,0⟩] pos) (newList []) false (eval iter X.env) (some (assign (.Name y py) X.env)))
      (fun _ s'=>SP X pins D .next s') X.xe s:=by
    refine wpAny_comprehension_free (use:=some (assign (.Name y py) X.env)) (Q:=fun _ s'=>SP X pins D .next s') rfl hs hcl O.kind O.names (thn (hi pins s σ H _ I h) fun v s1 h1=>thn h1 fun itv s2 h2=>?_)
    obtain ⟨it,fp,tn,J,H2,e,I2,T,st2,f2,q2⟩:=h2
    subst e
    refine comp_block (Qd:=fun D0 H'=>D.nx (σ.set i (some (.ref D0))) H') (RR:=fun acc C=>compPost (model X.prog X.w) X.A X.xe (some (assign (.Name y py) X.env)) (fun _ s'=>SP X pins D .next s') acc C) hcalm hX hsc O hts hel I2 T st2 f2 (fun D0 hD=>q2 D0 hD) ?_
    intro D0 C H' s' I' hC hm q'
    obtain ⟨m,hm⟩:=hm
    obtain ⟨c0,c1,c2,c3,c4,c5⟩:=hC
    show wpAny _ _ (assign (.Name y py) X.env (.ref D0)) _ _ s'
    refine wpAny_assign_Name (store_ok2 (v:=.ref D0) I' hNd hiy (.inl hy) rfl (fun s'' I'' ⟨a,sb,ha⟩=>?_) (.inr hy))
    have hCa:C≠a:=by
      rcases ha with ha | ha
      · rw [ha];exact c1
      · exact (c4 _ _ ha).symm
    exact ⟨m,hm.sameBut sb hCa,fun h' hs'=>⟨_,H',I''.turned (t':=s''.toks) (fun b o hb e=>hs'.extBut b o hb e) c0 c1 c3 c4 c5,q'⟩⟩
  rw [exec_Assign_Name_used _ _ _ _ hsw]
  refine wpAny_bind (wpAny_standAt (wpAny_bind ?_))
  show wpAny _ _ (do let _ ← comprehension (.ListComp elt [⟨.Name x px,iter,ifs,0⟩] scope pos) scope X.env (firstIterPos [⟨.Name x px,iter,ifs,0⟩] pos) (newList []) false (eval iter X.env) (some (assign (.Name y py) X.env))) _ _ s
  exact wpAny_bind (wpAny_mono key (fun _ s' hq=>wpAny_pure (wpAny_pure hq)) fun _ _ e=>e)
theorem pe_compIf (N M:List Str) (sc:Scope) (O:CompOk N M sc x scope) (hi:PI X (.Name x px) iter wi) (hc:∀ (C:Addr) (s₀:Shared) (H₀:Hp) (fp:List Addr),PT (blk X x scope M C s₀ H₀ fp) c tt)
    (hel:∀ (C:Addr) (s₀:Shared) (H₀:Hp) (fp:List Addr),PE (blk X x scope M C s₀ H₀ fp) elt te)
    (hcalm:X.calm=true:=by rfl) (hX:X.N=N:=by rfl) (hsc:X.env.scope=sc:=by rfl) (hs:∀ x,foldedSetIterable iter X.env x=pure x:=by intro _;rfl) :
    PE X (.ListComp elt [⟨.Name x px,iter,[c],0⟩] scope pos) (tComp wi tt te) :=
  pe_compG hcalm hX hsc O hi (fun C s₀ H₀ fp pins s σ H Q I h=>wpAny_tests_one (hc C s₀ H₀ fp pins s σ H Q I h)) hel hs
theorem ps_setc {i:Nat} (N M:List Str) (sc:Scope) (O:CompOk N M sc x scope) (hi:PI X (.Name x px) iter wi) (hel:∀ (C:Addr) (s₀:Shared) (H₀:Hp) (fp:List Addr),PE (blk X x scope M C s₀ H₀ fp) elt te)
    (hNd:X.N.Nodup) (hiy:X.N[i]?=some y:=by rfl) (hy:X.env.scope.names.lookup y=some .local:=by rfl)
    (hsw:swapsWith (.ListComp elt [⟨.Name x px,iter,[],0⟩] scope pos) (some (.Name y py)) spos.line X.env=pure true:=by rfl)
    (hcalm:X.calm=true:=by rfl) (hX:X.N=N:=by rfl) (hsc:X.env.scope=sc:=by rfl) (hs:∀ x,foldedSetIterable iter X.env x=pure x:=by intro _;rfl) :
    PS X (.Assign [.Name y py] (.ListComp elt [⟨.Name x px,iter,[],0⟩] scope pos) spos) (tAsg (tComp wi tYes te) (gName i)) :=
  ps_setcG hcalm hX hsc O hi (fun C s₀ H₀ fp pins s σ H Q I h=>wpAny_tests_nil ⟨H,I,h⟩) hel hNd hiy hy hsw hs
end

abbrev S (l:List Nat):Str:=⟨l.toArray⟩
theorem S_of (z:Str):z=S z.cps.toList:=by cases z;simp [S]
theorem S_inj {a b:List Nat} (h:S a=S b):a=b:=by
  have h':a.toArray=b.toArray:=congrArg Str.cps h
  simpa using congrArg Array.toList h'
theorem S_len (l:List Nat):(S l).length=l.length:=by show l.toArray.size=l.length;simp
theorem S_app (a b:List Nat):S a++S b=S (a++b):=by
  show (⟨a.toArray++b.toArray⟩:Str)=⟨(a++b).toArray⟩
  simp
def cutL (l:List Nat) (lo hi:Option Int):List Nat:=(l.drop (HT.sIx l.length 0 lo)).take (HT.sIx l.length l.length hi - HT.sIx l.length 0 lo)
section
variable {X:Cx}
def rSlS:V→Option Int→Option Int→Hp→VK→Prop:=fun x lo hi H Q=>∃ l,x=.str (S l)∧l.length≤sizeLine∧Q (.str (S (cutL l lo hi))) H
end

def Its (z:Str):It:=⟨fun i _=>i < z.cps.size,fun i H x H'=>H'=H∧∃ c,z.cps[i]?=some c∧x=.str ⟨#[c]⟩,fun i _=>z.cps.size≤i⟩
theorem walks_str {P:Program} {w:World} {A:Around} (hA:A.handled=none) (it:Addr) (z:Str) (t:Tok):Walks P w A it [it] [it] z.cps.size (SignAt z) (fun i h=>h.IsStrIter it (strIterType z) z t i):=by
  unfold strIterType
  split
  · exact Walks.strAscii hA it z t
  · exact Walks.strWide hA it z t
theorem strIter_plain (z:Str):["enumerate", "zip", "dict_itemiterator", "dict_reverseitemiterator", "odict_iterator", "itertools.zip_longest", "itertools.pairwise"].contains (strIterType z)=false:=by
  unfold strIterType
  split<;>decide
theorem turn_str {P:Program} {w:World} {K:PySem.W.Frag} {tg:Expr} (it:Addr) (z:Str) (t:Tok):Turn P w K tg (Its z) [it] it (fun i h=>h.IsStrIter it (strIterType z) z t i) where
  mem:=by simp
  obj:=fun i h st b hb=>by
    have e:b=it:=by simpa using hb
    subst e
    obtain ⟨o,e,c,d⟩:=st
    exact ⟨o,e,fun v z=>by rw [d] at z;cases z⟩
  keep:=fun i h h' st k=>let ⟨o,e,r⟩:=st;⟨o,k it (by simp) o e,r⟩
  item:=by
    intro X hP hw hK hc i pins s σ H E I hf st hg
    subst hP hw hK
    obtain ⟨f0,f1,f2,f3,f4,f5⟩:=hf it (by simp)
    refine (walks_str (I.ok.hd hc) it z t).item i s _ _ hg st fun v h' tk hv st' kk=>?_
    obtain ⟨c,u,hcz,rfl⟩:=hv
    have I1:Inv X pins σ H { s with heap:=h',toks:=tk }:=I.turned (fun b o hb e=>kk b o (by simpa using hb) e) f0 f1 f3 f4 f5
    obtain ⟨o,e,ec,d⟩:=id st'
    exact ⟨_,rfl,go_of (s:={ s with heap:=h',toks:=tk }) e ec d (strIter_plain z) ⟨.str ⟨#[c]⟩,H,I1,⟨u,rfl⟩,⟨rfl,c,hcz,rfl⟩,st',fun b hb=>(hf b hb).1⟩⟩
  done:=by
    intro X hP hw hK hc i pins s σ H E I hf st hg
    subst hP hw hK
    obtain ⟨f0,f1,f2,f3,f4,f5⟩:=hf it (by simp)
    have hg':z.cps.size≤i:=hg
    by_cases ha:z.cps.all (· < 128)=true
    · have st':s.heap.IsStrIter it "str_ascii_iterator" z t i:=by
        have e:strIterType z = "str_ascii_iterator" := by unfold strIterType;rw [if_pos ha]
        rw [← e];exact st
      exact wpAny_pyNext_ascii_end (I.ok.hd hc) st' (by simpa using hg') fun h' eb=>⟨rfl,I.turned (t':=s.toks) (fun b o hb e=>eb b o hb e) f0 f1 f3 f4 f5⟩
    · have st':s.heap.IsStrIter it "str_iterator" z t i:=by
        have e:strIterType z = "str_iterator" := by unfold strIterType;rw [if_neg ha]
        rw [← e];exact st
      exact wpAny_pyNext_wide_end (I.ok.hd hc) st' (by simpa using hg') fun h' eb=>⟨rfl,I.turned (t':=s.toks) (fun b o hb e=>eb b o hb e) f0 f1 f3 f4 f5⟩
  self:=fun A i s Q E st h=>by
    by_cases ha:z.cps.all (· < 128)=true
    · have e:strIterType z = "str_ascii_iterator" := by unfold strIterType;rw [if_pos ha]
      exact wpAny_pyIter_striter_ascii (by rw [← e];exact st) h
    · have e:strIterType z = "str_iterator" := by unfold strIterType;rw [if_neg ha]
      exact wpAny_pyIter_striter_wide (by rw [← e];exact st) h
section
variable {X:Cx} {tg:Expr}
end
end L2

set_option Elab.async false
set_option linter.all false
set_option maxRecDepth 100000
set_option maxHeartbeats 4000000
namespace L2
open PySem PySem.Spec PyProof.Rows

theorem hU {k:Nat} {A:Around} (hr:Room k A):A.units+64 < cLine:=hr.units
theorem hU1 {k:Nat} {A:Around} (hr:Room k A):A.units+1 < cLine:=hu_of hr

mutual
inductive Den (K:PySem.W.Frag) (H:Hp):V→PyData→Prop
  | non:Den K H .non .none
  | bl (b:Bool):Den K H (.bl b) (.bool b)
  | int (i:Int):Den K H (.int i) (.int i)
  | str (x:Str):Den K H (.str x) (.str x)
  | lst {a:Addr} {xs:List V} {ds:List PyData}:SqL K H a xs→DenAll K H xs ds→Den K H (.ref a) (.list ds)
  | tup {a:Addr} {xs:List V} {ds:List PyData}:SqT K H a xs→DenAll K H xs ds→Den K H (.ref a) (.tuple ds)
inductive DenAll (K:PySem.W.Frag) (H:Hp):List V→List PyData→Prop
  | nil:DenAll K H [] []
  | cons {v:V} {d:PyData} {vs:List V} {ds:List PyData}:Den K H v d→DenAll K H vs ds→DenAll K H (v::vs) (d::ds)
end
mutual
theorem Den.reads {X:Cx} {pins:List (Addr×Obj)} {σ:St} {H:Hp} {s:Shared} (I:Inv X pins σ H s):∀ {v:V} {d:PyData} {u:Value},Den X.K H v d→RelV v u→∃ as,Reads s.heap u d as
  | _,_,_,.non,r=>by cases (show _=Value.none from r);exact ⟨_,.none⟩
  | _,_,_,.bl b,r=>by cases (show _=Value.bool b from r);exact ⟨_,.bool b⟩
  | _,_,_,.int i,r=>by obtain ⟨t,rfl⟩:=r;exact ⟨_,.int i t⟩
  | _,_,_,.str x,r=>by obtain ⟨t,rfl⟩:=r;exact ⟨_,.str x t⟩
  | _,_,_,.lst h hd,r=>by
    cases (show _=Value.ref _ from r)
    obtain ⟨its,rv,p,hz⟩:=I.list h
    obtain ⟨o,ho,hc,n,hdt⟩:=p.isList
    obtain ⟨as,ra⟩:=DenAll.reads I hd rv
    exact ⟨_,.list ho hc hdt (by simpa using ra)⟩
  | _,_,_,.tup h hd,r=>by
    cases (show _=Value.ref _ from r)
    obtain ⟨its,rv,p,hz⟩:=I.tuple h
    obtain ⟨o,ho,hc,n,hdt⟩:=p
    obtain ⟨as,ra⟩:=DenAll.reads I hd rv
    exact ⟨_,.tuple ho hc hdt (by simpa using ra)⟩
theorem DenAll.reads {X:Cx} {pins:List (Addr×Obj)} {σ:St} {H:Hp} {s:Shared} (I:Inv X pins σ H s):∀ {vs:List V} {ds:List PyData} {us:List Value},DenAll X.K H vs ds→Vals vs us→∃ as,ReadsAll s.heap us ds as
  | _,_,_,.nil,.nil=>⟨_,.nil⟩
  | _,_,_,.cons h t,.cons r rr=>by
    obtain ⟨a,ha⟩:=Den.reads I h r
    obtain ⟨b,hb⟩:=DenAll.reads I t rr
    exact ⟨_,.cons ha hb⟩
end
def isRef:V→Bool
  | .ref _=>true
  | _=>false
def rEqD (K:PySem.W.Frag) (neg:Bool):R2:=fun x y H Q=>(isRef x || isRef y)=true∧∃ d e,Den K H x d∧Den K H y e∧SeqAt.shaped d=true∧SeqAt.shaped e=true∧Q (.bl (if neg then !PyData.eqv d e else PyData.eqv d e)) H
section
variable {X:Cx}
theorem op_eqD (hu:X.A.units+64 < cLine):OpR X (compareOp .Eq) (rEqD X.K false):=by
  intro pins s σ H x y v u Q I rx ry h
  obtain ⟨_,d,e,hd,he,sd,se,q⟩:=h
  obtain ⟨as,ra⟩:=hd.reads I rx
  obtain ⟨bs,rb⟩:=he.reads I ry
  exact eq_dataH ra rb sd se hu ⟨.bl (PyData.eqv d e),H,I,rfl,q⟩
theorem op_neD (hu:X.A.units+64 < cLine):OpR X (compareOp .NotEq) (rEqD X.K true):=by
  intro pins s σ H x y v u Q I rx ry h
  obtain ⟨_,d,e,hd,he,sd,se,q⟩:=h
  obtain ⟨as,ra⟩:=hd.reads I rx
  obtain ⟨bs,rb⟩:=he.reads I ry
  exact ne_dataH ra rb sd se hu ⟨.bl (!PyData.eqv d e),H,I,rfl,q⟩
theorem op_eqA (hu:X.A.units+64 < cLine):OpR X (compareOp .Eq) (fun x y H Q=>rEq x y H Q∨rEqD X.K false x y H Q):=op_eq.or (op_eqD hu)
theorem op_neA (hu:X.A.units+64 < cLine):OpR X (compareOp .NotEq) (fun x y H Q=>rNe x y H Q∨rEqD X.K true x y H Q):=op_ne.or (op_neD hu)

def rStrs (p:List Nat→List Nat→Bool):R2:=fun x y H Q=>∃ i j,x=.str i∧y=.str j∧Q (.bl (p i.cps.toList j.cps.toList)) H
theorem op_ltS:OpR X (compareOp .Lt) (rStrs fun a b=>decide (a < b)):=by
  intro pins s σ H x y v u Q I rx ry h
  obtain ⟨i,j,rfl,rfl,q⟩:=h
  obtain ⟨t,rfl⟩:=rx
  obtain ⟨t',rfl⟩:=ry
  exact PySem.P.lt_str ⟨.bl (decide (i.cps.toList < j.cps.toList)),H,I,rfl,q⟩
theorem op_leS:OpR X (compareOp .LtE) (rStrs fun a b=>!decide (b < a)):=by
  intro pins s σ H x y v u Q I rx ry h
  obtain ⟨i,j,rfl,rfl,q⟩:=h
  obtain ⟨t,rfl⟩:=rx
  obtain ⟨t',rfl⟩:=ry
  exact PySem.P.le_str ⟨.bl (!decide (j.cps.toList < i.cps.toList)),H,I,rfl,q⟩
theorem op_ltA:OpR X (compareOp .Lt) (fun x y H Q=>rI0 (fun i j=>.bl (decide (i < j))) x y H Q∨rStrs (fun a b=>decide (a < b)) x y H Q):=op_lt.or op_ltS
theorem op_leA:OpR X (compareOp .LtE) (fun x y H Q=>rI0 (fun i j=>.bl (decide (i≤j))) x y H Q∨rStrs (fun a b=>!decide (b < a)) x y H Q):=op_le.or op_leS
theorem op_gtA:OpR X (compareOp .Gt) (rI0 fun i j=>.bl (decide (j < i))):=op_gt
theorem op_geA:OpR X (compareOp .GtE) (rI0 fun i j=>.bl (decide (j≤i))):=op_ge

def rCatS (K:PySem.W.Frag):R2:=fun x y H Q=>∃ l b xs zs,x=.ref l∧y=.ref b∧SqL K H l xs∧SqL K H b zs∧xs.length+zs.length≤sizeLine∧∀ p,H p=none→Q (.ref p) (upd H p (.lst (xs++zs)))
theorem op_catS:OpR X (binaryOp .Add) (rCatS X.K):=by
  intro pins s σ H x y v u Q I rx ry h
  obtain ⟨l,b,xs,zs,rfl,rfl,hH,hB,hz,q⟩:=h
  cases rx
  cases ry
  obtain ⟨its,r,p,z1⟩:=I.list hH
  obtain ⟨its2,r2,p2,z2⟩:=I.list hB
  have h1:=r.length
  have h2:=r2.length
  obtain ⟨⟨cl,dc,dt,sl⟩,ho,hc,n,hd⟩:=p.isList
  obtain ⟨⟨cl2,dc2,dt2,sl2⟩,ho2,hc2,n2,hd2⟩:=p2.isList
  simp only at hc hd hc2 hd2
  subst hc hd hc2 hd2
  refine concat_meets ⟨_,ho,rfl⟩ ⟨_,ho2,rfl⟩ PySem.noFill_list_add PySem.seq_list_add F.slot_list_add F.entry_list_add (F.args_list_add_2 _ _) (list_addW l b its.toArray its2.toArray n n2 dc dc2 sl sl2 (by rw [List.size_toArray,List.size_toArray];omega)) ⟨ho,ho2,?_⟩
  have ea:its.toArray++its2.toArray=(its++its2).toArray:=by simp
  rw [ea]
  exact ⟨.ref _,_,I.lnew (t':=s.toks) (r.append r2) (by rw [List.length_append];omega),rfl,q _ I.fresh⟩
def rCatT2:R2:=fun x y H Q=>∃ i j,x=.str (S i)∧y=.str (S j)∧i.length+j.length≤sizeLine∧Q (.str (S (i++j))) H
theorem op_catT2:OpR X (binaryOp .Add) rCatT2:=by
  intro pins s σ H x y v u Q I rx ry h
  obtain ⟨i,j,rfl,rfl,hz,q⟩:=h
  refine op_add_str pins s σ H _ _ v u Q I rx ry ⟨S i,S j,rfl,rfl,?_,?_⟩
  · rw [S_len,S_len];exact hz
  · rw [S_app];exact q
theorem op_plus:OpR X (binaryOp .Add) (fun x y H Q=>rI0 (fun i j=>.int (i+j)) x y H Q∨(rCatT2 x y H Q∨rCatS X.K x y H Q)):=op_add.or (op_catT2.or op_catS)
theorem call_lenT:CallR X (.builtin "len") (fun xs H Q=>∃ l,xs=[.str (S l)]∧l.length≤sizeLine∧Q (.int l.length) H):=by
  intro pins s σ H xs us Q I r h
  obtain ⟨l,rfl,hz,q⟩:=h
  refine call_len_str pins s σ H _ us Q I r ⟨S l,rfl,?_,?_⟩
  · rw [S_len];exact hz
  · rw [S_len];exact q
theorem call_lenA:CallR X (.builtin "len") (fun xs H Q=>(∃ p ys,xs=[.ref p]∧(SqL X.K H p ys∨SqT X.K H p ys)∧Q (.int ys.length) H)∨((∃ l,xs=[.str (S l)]∧l.length≤sizeLine∧Q (.int l.length) H)∨(∃ a kvs,xs=[V.ref a]∧H a=some (.dK kvs)∧Q (.int kvs.length) H))) :=
  call_len_seq.or (call_lenT.or call_lenD)
def rIsi (K:PySem.W.Frag):List V→Hp→VK→Prop:=fun xs H Q=>(∃ x t n b,xs=[x,.ty n]∧TyOf K H x t∧PySem.W.kitOne K t (.type n)=some b∧Q (.bl b) H)∨(∃ x t C b,xs=[x,.ref C]∧TyOf K H x t∧PySem.W.kitOne K t (.ref C)=some b∧Q (.bl b) H)
theorem call_isinstanceA:CallR X (.builtin "isinstance") (rIsi X.K):=by
  intro pins s σ H xs us Q I r h
  rcases h with ⟨x,t,n,b,rfl,ty,e,q⟩ | ⟨x,t,n,b,rfl,ty,e,q⟩
  · obtain ⟨u,w,rfl,rx,rw'⟩:=vals2 r
    cases rw'
    exact isinst_ok I rx ty e fun tk=>⟨.bl b,H,I.tok tk,rfl,q⟩
  · obtain ⟨u,w,rfl,rx,rw'⟩:=vals2 r
    cases rw'
    exact isinst_ok I rx ty e fun tk=>⟨.bl b,H,I.tok tk,rfl,q⟩
theorem ix_dict (hu:X.A.units+1 < cLine):IxR X (fun x y H Q=>∃ a v,x=.ref a∧DGet H a y (some v)∧Q v H):=by
  intro value slice pins s σ H x y v u Q I rx ry h hs
  obtain ⟨a,z,rfl,g,q⟩:=h
  cases (show v=Value.ref a from rx)
  exact tail_any (dict_typeIs I g) PySem.F.slot_dict_getitem.lookup (d_getItem hu I g ry fun w' s3 I3 rw'=>⟨z,H,I3,rw',q⟩) hs
def rIxS2:R2:=fun x y H Q=>∃ l i c,x=.str (S l)∧y=.int i∧l.length≤sizeLine∧atI l i=some c∧Q (.str (S [c])) H
theorem ix_str2:IxR X rIxS2:=by
  intro value slice pins s σ H x y v u Q I rx ry h hs
  obtain ⟨l,i,c,rfl,rfl,hz,he,q⟩:=h
  exact ix_str value slice pins s σ H _ _ v u Q I rx ry ⟨S l,i,c,rfl,rfl,(by rw [S_len];exact hz),(by simpa using he),q⟩ hs
def rIxA (K:PySem.W.Frag):R2:=fun x y H Q=>rIxL K x y H Q∨(rIxT K x y H Q∨(rIxS2 x y H Q∨(∃ a v,x=.ref a∧DGet H a y (some v)∧Q v H)))
theorem ix_any (hu:X.A.units+1 < cLine):IxR X (rIxA X.K):=ix_list.or (ix_tup.or (ix_str2.or (ix_dict hu)))
def rSlA (K:PySem.W.Frag):V→Option Int→Option Int→Hp→VK→Prop:=fun x lo hi H Q=>rSlL K x lo hi H Q∨rSlS x lo hi H Q
def rSetA:V→V→V→Hp→(Hp→Prop)→Prop:=fun o i v H Q=>rSetL o i v H Q∨∃ a H',o=.ref a∧DPut H a i v H'∧Q H'
theorem set_any (hu:X.A.units+1 < cLine):PSet X rSetA:=by
  intro pins s σ H o i v ov iv u Q I ro ri rv h
  rcases h with h | ⟨a,H',rfl,g,q⟩
  · exact set_list pins s σ H o i v ov iv u Q I ro ri rv h
  · cases (show ov=Value.ref a from ro)
    exact d_setItem hu I g ri rv fun s4 I4=>⟨H',I4,q⟩

theorem op_inD (hu:X.A.units+1 < cLine):OpR X (compareOp .In) (fun y x H Q=>∃ a o,x=.ref a∧DGet H a y o∧Q (.bl o.isSome) H):=by
  intro pins s σ H y x v u Q I ry rx h
  obtain ⟨a,o,rfl,g,q⟩:=h
  cases (show u=Value.ref a from rx)
  exact d_in hu I g ry fun s3 I3=>⟨.bl o.isSome,H,I3,rfl,q⟩
theorem op_notInD (hu:X.A.units+1 < cLine):OpR X (compareOp .NotIn) (fun y x H Q=>∃ a o,x=.ref a∧DGet H a y o∧Q (.bl (!o.isSome)) H):=by
  intro pins s σ H y x v u Q I ry rx h
  obtain ⟨a,o,rfl,g,q⟩:=h
  cases (show u=Value.ref a from rx)
  exact d_notIn hu I g ry fun s3 I3=>⟨.bl (!o.isSome),H,I3,rfl,q⟩
def occB (j i:Str):Bool:=!(Builtin.Str.occurrences j i 0 j.length 1).isEmpty
theorem op_inA (hu:X.A.units+1 < cLine):OpR X (compareOp .In) (fun x y H Q=>rIn X.K false x y H Q∨((∃ i j,x=.str i∧y=.str j∧Q (.bl (occB j i)) H)∨(∃ a o,y=.ref a∧DGet H a x o∧Q (.bl o.isSome) H))) :=
  op_in_seq.or (OpR.or (r:=fun x y H Q=>∃ i j,x=.str i∧y=.str j∧Q (.bl (occB j i)) H) op_in_str (op_inD hu))
theorem op_notInA (hu:X.A.units+1 < cLine):OpR X (compareOp .NotIn) (fun x y H Q=>rIn X.K true x y H Q∨((∃ i j,x=.str i∧y=.str j∧Q (.bl (!occB j i)) H)∨(∃ a o,y=.ref a∧DGet H a x o∧Q (.bl (!o.isSome)) H))) :=
  op_notIn_seq.or (OpR.or (r:=fun x y H Q=>∃ i j,x=.str i∧y=.str j∧Q (.bl (!occB j i)) H) op_notIn_str (op_notInD hu))

def joinL (sep:List Nat):List (List Nat)→List Nat
  | []=>[]
  | [x]=>x
  | x::rest=>x++sep++joinL sep rest
def rJoin (K:PySem.W.Frag):V→List V→Hp→VK→Prop:=fun x vs H Q=>∃ sep p ls,x=.str (S sep)∧vs=[.ref p]∧SqL K H p (ls.map fun l=>V.str (S l))∧(ls.map List.length).sum+ls.length * sep.length≤16777216∧Q (.str (S (joinL sep ls))) H
def iAny (K:PySem.W.Frag) (tl:TE):TI:=fun σ H R=>tl σ H fun x H1=>(∃ a,x=.ref a∧(∃ xs,SqL K H1 a xs)∧R (Itl K a) H1)∨((∃ a,x=.ref a∧(∃ xs,SqT K H1 a xs)∧R (Itt K a) H1)∨(∃ z,x=.str z∧R (Its z) H1))
theorem pi_any {tg l:Expr} {tl:TE} (hl:PE X l tl):PI X tg l (iAny X.K tl):=by
  intro pins s σ H R I h
  refine thn (hl pins s σ H _ I h) fun v s1 ⟨x,H1,I1,r1,q1⟩=>?_
  have aux:∀ {e:Value} {t:TE} {R':It→Hp→Prop},True:=fun {_ _ _}=>trivial
  have fp:∀ b,b∈[s1.heap.objs.size]→FpOk X pins H1 b:=fun b hb=>by
    have e:b=s1.heap.objs.size:=by simpa using hb
    subst e
    exact I1.fpOk (Nat.le_refl _) (I1.hok.fresh (Nat.le_refl _))
  rcases q1 with ⟨a,e,⟨xs,hq⟩,q⟩ | ⟨a,e,⟨xs,hq⟩,q⟩ | ⟨z,e,q⟩
  · subst e
    cases r1
    obtain ⟨its,rv,p,hz⟩:=I1.list hq
    refine wpAny_pyIter_list p.isList ?_
    exact ⟨s1.heap.objs.size,[s1.heap.objs.size],_,_,H1,rfl,I1.kept (t':=s1.toks) fun b o e=>Heap.get?_push_of_some _ e,turn_list a _,⟨_,Heap.get?_push_size _ rfl,rfl,rfl⟩,fp,q⟩
  · subst e
    cases r1
    obtain ⟨its,rv,p,hz⟩:=I1.tuple hq
    refine wpAny_pyIter_tuple (show s1.heap.IsTuple a its.toArray from p) ?_
    exact ⟨s1.heap.objs.size,[s1.heap.objs.size],_,_,H1,rfl,I1.kept (t':=s1.toks) fun b o e=>Heap.get?_push_of_some _ e,turn_tuple a _,⟨_,Heap.get?_push_size _ rfl,rfl,rfl⟩,fp,q⟩
  · subst e
    obtain ⟨t,rfl⟩:=r1
    refine wpAny_pyIter_strU ?_
    exact ⟨s1.heap.objs.size,[s1.heap.objs.size],_,_,H1,rfl,I1.kept (t':=s1.toks) fun b o e=>Heap.get?_push_of_some _ e,turn_str _ z t,⟨_,Heap.get?_push_size _ rfl,rfl,rfl⟩,fp,q⟩
end
end L2

set_option Elab.async false
set_option linter.all false
set_option maxRecDepth 100000
set_option maxHeartbeats 4000000
namespace L2
open PySem PySem.Spec PyProof.Rows

theorem comp_mapf {J:It} {tt:TT} {te:TE} {σ:St} {H:Hp} {D:Addr} {Q:Hp→Prop} (n:Nat) (hn:n≤sizeLine) (hD:H D=none) (item f:Nat→V) (p:Nat→Bool)
    (hstop:∀ H',Same H H'→J.stop n H') (hgo:∀ i H',Same H H'→i < n→J.go i H') (hy:∀ i H' x H'',Same H H'→i < n→J.yld i H' x H''→H''=H'∧x=item i)
    (ht:∀ i H',i < n→Same H H'→∀ Qt:Bool→Hp→Prop,(∀ H'',Same H' H''→Qt (p i) H'')→tt (some (item i)::σ) H' Qt)
    (he:∀ i H',i < n→p i=true→Same H H'→∀ Qe:VK,(∀ H'',Same H' H''→Qe (f i) H'')→te (some (item i)::σ) H' Qe)
    (hd:∀ H',Same H H'→H' D=some (.lst (((List.range n).filter p).map f))→Q H') :
    ∃ W:Nat→Nat→List V→Hp→Prop,(∃ m,W 0 m [] (upd H D (.lst [])))∧∀ i m ys H2,W i m ys H2 →
      (J.stop i H2∧H2 D=some (.lst ys)∧Q H2)∨(J.go i H2∧ys.length < sizeLine∧∀ x H3,J.yld i H2 x H3→tt (some x::σ) H3 fun b H4 =>
        if b=true then te (some x::σ) H4 fun y H5=>H5 D=some (.lst ys)∧∃ m',m' < m∧W (i+1) m' (ys++[y]) (upd H5 D (.lst (ys++[y]))) else ∃ m',m' < m∧W (i+1) m' ys H4):=by
  have same0:∀ {H':Hp} {ys:List V},Same H H'→Same H (upd H' D (.lst ys)):=fun {H' ys} h b o e=>by
    rw [upd_ne (ne_of_none e hD)]
    exact h b o e
  refine ⟨fun i m ys H2=>m=n - i∧i≤n∧ys=((List.range i).filter p).map f∧H2 D=some (.lst ys)∧Same H H2,⟨n,rfl,Nat.zero_le _,rfl,upd_same,same0 (Same.refl _)⟩,?_⟩
  rintro i m ys H2 ⟨rfl,hi,e,hH,hs⟩
  have hlen:ys.length≤i:=by
    rw [e,List.length_map]
    exact Nat.le_trans (List.length_filter_le _ _) (by rw [List.length_range];exact Nat.le_refl _)
  by_cases hlt:i < n
  · refine .inr ⟨hgo i H2 hs hlt,by omega,fun x H3 y=>?_⟩
    obtain ⟨rfl,rfl⟩:=hy i H2 x H3 hs hlt y
    have grow:((List.range (i+1)).filter p).map f=if p i=true then ys++[f i] else ys:=by
      rw [List.range_succ,List.filter_append,List.map_append,← e]
      by_cases hp:p i=true
      · rw [if_pos hp];simp [hp]
      · have hp':p i=false:=by simpa using hp
        rw [if_neg hp];simp [hp']
    refine ht i _ hlt hs _ fun H4 s4=>?_
    by_cases hp:p i=true
    · rw [hp,if_pos rfl]
      rw [if_pos hp] at grow
      refine he i H4 hlt hp (hs.trans s4) _ fun H5 s5=>⟨s5 _ _ (s4 _ _ hH),n - (i+1),by omega,rfl,hlt,grow.symm,upd_same,same0 ((hs.trans s4).trans s5)⟩
    · have hp':p i=false:=by simpa using hp
      rw [hp',if_neg Bool.false_ne_true]
      rw [if_neg hp] at grow
      exact ⟨n - (i+1),by omega,rfl,hlt,grow.symm,s4 _ _ hH,hs.trans s4⟩
  · have ei:i=n:=by omega
    subst ei
    rw [e] at hH
    exact .inl ⟨hstop _ hs,by rw [e];exact hH,hd _ hs hH⟩
theorem filter_true {α:Type} (l:List α):l.filter (fun _=>true)=l:=by induction l<;>simp_all
theorem Same.upd {H:Hp} {D:Addr} {o:HO} (hD:H D=none):Same H (upd H D o):=fun b u e=>by
  rw [upd_ne (ne_of_none e hD)]
  exact e
theorem atI_get? {α:Type} {xs:List α} {i:Int} {v:α} (h0:0≤i) (h:xs[i.toNat]?=some v):atI xs i=some v:=by
  have:=atI_nat (xs:=xs) (j:=i.toNat) h
  rwa [show ((i.toNat:Nat):Int)=i by omega] at this
theorem Same.tup {K:PySem.W.Frag} {H H':Hp} {a:Addr} {xs:List V} (e:Same H H') (h:SqT K H a xs):SqT K H' a xs:=by
  rcases h with (h | ⟨o,h⟩) | h
  · exact .inl (.inl (e _ _ h))
  · exact .inl (.inr ⟨o,e _ _ h⟩)
  · exact .inr h
mutual
theorem Den.same {K:PySem.W.Frag} {H H':Hp} (s:Same H H'):∀ {v:V} {d:PyData},Den K H v d→Den K H' v d
  | _,_,.non=>.non
  | _,_,.bl b=>.bl b
  | _,_,.int i=>.int i
  | _,_,.str x=>.str x
  | _,_,.lst h t=>.lst (s.seq h) (DenAll.same s t)
  | _,_,.tup h t=>.tup (s.tup h) (DenAll.same s t)
theorem DenAll.same {K:PySem.W.Frag} {H H':Hp} (s:Same H H'):∀ {v:List V} {d:List PyData},DenAll K H v d→DenAll K H' v d
  | _,_,.nil=>.nil
  | _,_,.cons h t=>.cons (Den.same s h) (DenAll.same s t)
end
theorem rIsi_iff {K:PySem.W.Frag} {H:Hp} {Q:VK} {x:V} {n T:String} {b:Bool} (hT:∀ t,TyOf K H x t↔t=.type T) (hk:PySem.W.kitOne K (.type T) (.type n)=some b):rIsi K [x,.ty n] H Q↔Q (.bl b) H:=by
  constructor
  · rintro (⟨x',t,n',b',e,ty,k,q⟩ | ⟨x',t,C,b',e,ty,k,q⟩)
    · simp only [List.cons.injEq,V.ty.injEq,and_true] at e
      obtain ⟨rfl,rfl⟩:=e
      rw [(hT t).mp ty,hk] at k
      cases k
      exact q
    · simp at e
  · intro q
    exact .inl ⟨x,_,n,b,rfl,(hT _).mpr rfl,hk,q⟩
theorem tyOf_non {K:PySem.W.Frag} {H:Hp} (t:Value):TyOf K H .non t↔t=.type "NoneType" := ⟨fun h=>by cases h;rfl,fun h=>h▸.non⟩
theorem tyOf_bl {K:PySem.W.Frag} {H:Hp} (b:Bool) (t:Value):TyOf K H (.bl b) t↔t=.type "bool" := ⟨fun h=>by cases h;rfl,fun h=>h▸.bl b⟩
theorem tyOf_int {K:PySem.W.Frag} {H:Hp} (b:Int) (t:Value):TyOf K H (.int b) t↔t=.type "int" := ⟨fun h=>by cases h;rfl,fun h=>h▸.int b⟩
theorem tyOf_str {K:PySem.W.Frag} {H:Hp} (b:Str) (t:Value):TyOf K H (.str b) t↔t=.type "str" := ⟨fun h=>by cases h;rfl,fun h=>h▸.str b⟩
theorem tyOf_lst {K:PySem.W.Frag} {H:Hp} {a:Addr} {xs:List V} (e:H a=some (.lst xs)) (t:Value):TyOf K H (.ref a) t↔t=.type "list" := by
  constructor
  · intro h
    cases h<;>first | rfl | (rename_i e';rw [e] at e';cases e') | (rename_i e' _ _ _ _ _;rw [e] at e';cases e')
  · intro h
    exact h▸.lst e
theorem tyOf_tup {K:PySem.W.Frag} {H:Hp} {a:Addr} {xs:List V} (e:H a=some (.tup xs)) (t:Value):TyOf K H (.ref a) t↔t=.type "tuple" := by
  constructor
  · intro h
    cases h<;>first | rfl | (rename_i e';rw [e] at e';cases e') | (rename_i e' _ _ _ _ _;rw [e] at e';cases e')
  · intro h
    exact h▸.tup e
theorem isi_non_int {K:PySem.W.Frag} {H:Hp} {Q:VK}:rIsi K [.non,.ty "int"] H Q↔Q (.bl false) H:=rIsi_iff (tyOf_non) (by rfl)
theorem isi_non_bool {K:PySem.W.Frag} {H:Hp} {Q:VK}:rIsi K [.non,.ty "bool"] H Q↔Q (.bl false) H:=rIsi_iff (tyOf_non) (by rfl)
theorem isi_non_str {K:PySem.W.Frag} {H:Hp} {Q:VK}:rIsi K [.non,.ty "str"] H Q↔Q (.bl false) H:=rIsi_iff (tyOf_non) (by rfl)
theorem isi_non_list {K:PySem.W.Frag} {H:Hp} {Q:VK}:rIsi K [.non,.ty "list"] H Q↔Q (.bl false) H:=rIsi_iff (tyOf_non) (by rfl)
theorem isi_non_tuple {K:PySem.W.Frag} {H:Hp} {Q:VK}:rIsi K [.non,.ty "tuple"] H Q↔Q (.bl false) H:=rIsi_iff (tyOf_non) (by rfl)
theorem isi_non_dict {K:PySem.W.Frag} {H:Hp} {Q:VK}:rIsi K [.non,.ty "dict"] H Q↔Q (.bl false) H:=rIsi_iff (tyOf_non) (by rfl)
theorem isi_bl_int {K:PySem.W.Frag} {H:Hp} {Q:VK} {b:Bool}:rIsi K [(.bl b),.ty "int"] H Q↔Q (.bl true) H:=rIsi_iff (tyOf_bl _) (by rfl)
theorem isi_bl_bool {K:PySem.W.Frag} {H:Hp} {Q:VK} {b:Bool}:rIsi K [(.bl b),.ty "bool"] H Q↔Q (.bl true) H:=rIsi_iff (tyOf_bl _) (by rfl)
theorem isi_bl_str {K:PySem.W.Frag} {H:Hp} {Q:VK} {b:Bool}:rIsi K [(.bl b),.ty "str"] H Q↔Q (.bl false) H:=rIsi_iff (tyOf_bl _) (by rfl)
theorem isi_bl_list {K:PySem.W.Frag} {H:Hp} {Q:VK} {b:Bool}:rIsi K [(.bl b),.ty "list"] H Q↔Q (.bl false) H:=rIsi_iff (tyOf_bl _) (by rfl)
theorem isi_bl_tuple {K:PySem.W.Frag} {H:Hp} {Q:VK} {b:Bool}:rIsi K [(.bl b),.ty "tuple"] H Q↔Q (.bl false) H:=rIsi_iff (tyOf_bl _) (by rfl)
theorem isi_bl_dict {K:PySem.W.Frag} {H:Hp} {Q:VK} {b:Bool}:rIsi K [(.bl b),.ty "dict"] H Q↔Q (.bl false) H:=rIsi_iff (tyOf_bl _) (by rfl)
theorem isi_int_int {K:PySem.W.Frag} {H:Hp} {Q:VK} {b:Int}:rIsi K [(.int b),.ty "int"] H Q↔Q (.bl true) H:=rIsi_iff (tyOf_int _) (by rfl)
theorem isi_int_bool {K:PySem.W.Frag} {H:Hp} {Q:VK} {b:Int}:rIsi K [(.int b),.ty "bool"] H Q↔Q (.bl false) H:=rIsi_iff (tyOf_int _) (by rfl)
theorem isi_int_str {K:PySem.W.Frag} {H:Hp} {Q:VK} {b:Int}:rIsi K [(.int b),.ty "str"] H Q↔Q (.bl false) H:=rIsi_iff (tyOf_int _) (by rfl)
theorem isi_int_list {K:PySem.W.Frag} {H:Hp} {Q:VK} {b:Int}:rIsi K [(.int b),.ty "list"] H Q↔Q (.bl false) H:=rIsi_iff (tyOf_int _) (by rfl)
theorem isi_int_tuple {K:PySem.W.Frag} {H:Hp} {Q:VK} {b:Int}:rIsi K [(.int b),.ty "tuple"] H Q↔Q (.bl false) H:=rIsi_iff (tyOf_int _) (by rfl)
theorem isi_int_dict {K:PySem.W.Frag} {H:Hp} {Q:VK} {b:Int}:rIsi K [(.int b),.ty "dict"] H Q↔Q (.bl false) H:=rIsi_iff (tyOf_int _) (by rfl)
theorem isi_str_int {K:PySem.W.Frag} {H:Hp} {Q:VK} {b:Str}:rIsi K [(.str b),.ty "int"] H Q↔Q (.bl false) H:=rIsi_iff (tyOf_str _) (by rfl)
theorem isi_str_bool {K:PySem.W.Frag} {H:Hp} {Q:VK} {b:Str}:rIsi K [(.str b),.ty "bool"] H Q↔Q (.bl false) H:=rIsi_iff (tyOf_str _) (by rfl)
theorem isi_str_str {K:PySem.W.Frag} {H:Hp} {Q:VK} {b:Str}:rIsi K [(.str b),.ty "str"] H Q↔Q (.bl true) H:=rIsi_iff (tyOf_str _) (by rfl)
theorem isi_str_list {K:PySem.W.Frag} {H:Hp} {Q:VK} {b:Str}:rIsi K [(.str b),.ty "list"] H Q↔Q (.bl false) H:=rIsi_iff (tyOf_str _) (by rfl)
theorem isi_str_tuple {K:PySem.W.Frag} {H:Hp} {Q:VK} {b:Str}:rIsi K [(.str b),.ty "tuple"] H Q↔Q (.bl false) H:=rIsi_iff (tyOf_str _) (by rfl)
theorem isi_str_dict {K:PySem.W.Frag} {H:Hp} {Q:VK} {b:Str}:rIsi K [(.str b),.ty "dict"] H Q↔Q (.bl false) H:=rIsi_iff (tyOf_str _) (by rfl)
theorem isi_lst_list {K:PySem.W.Frag} {H:Hp} {Q:VK} {a:Addr} {xs:List V} (e:H a=some (.lst xs)):rIsi K [.ref a,.ty "list"] H Q↔Q (.bl true) H:=rIsi_iff (tyOf_lst e) (by rfl)
theorem isi_tup_tuple {K:PySem.W.Frag} {H:Hp} {Q:VK} {a:Addr} {xs:List V} (e:H a=some (.tup xs)):rIsi K [.ref a,.ty "tuple"] H Q↔Q (.bl true) H:=rIsi_iff (tyOf_tup e) (by rfl)
def forW (J:It) (g:TG) (tb:TS) (D:Ends) (σ:St) (H1:Hp):Prop:=∃ W:Nat→Nat→St→Hp→Prop,(∃ m,W 0 m σ H1)∧∀ i m σ H,W i m σ H →
  (J.stop i H∧D.nx σ H)∨(J.go i H∧∃ N:St→Hp→Prop,(∀ σ' H',N σ' H'→∃ m',m' < m∧W (i+1) m' σ' H')∧∀ x H',J.yld i H x H'→g x σ H' fun σ2 H2=>tb { D with nx:=N,ct:=N,bk:=D.nx } σ2 H2)
theorem tFor_eq (wi:TI) (g:TG) (tb:TS) (D:Ends) (σ:St) (H:Hp):tFor wi g tb D σ H=wi σ H fun J H1=>forW J g tb D σ H1:=rfl
def compW (J:It) (tt:TT) (te:TE) (σ:St) (H1:Hp) (Q:VK):Prop:=∀ D,H1 D=none→∃ W:Nat→Nat→List V→Hp→Prop,(∃ m,W 0 m [] (upd H1 D (.lst [])))∧∀ i m ys H2,W i m ys H2 →
  (J.stop i H2∧H2 D=some (.lst ys)∧Q (.ref D) H2)∨(J.go i H2∧ys.length < sizeLine∧∀ x H3,J.yld i H2 x H3→tt (some x::σ) H3 fun b H4 =>
    if b=true then te (some x::σ) H4 fun y H5=>H5 D=some (.lst ys)∧∃ m',m' < m∧W (i+1) m' (ys++[y]) (upd H5 D (.lst (ys++[y]))) else ∃ m',m' < m∧W (i+1) m' ys H4)
theorem tComp_eq (wi:TI) (tt:TT) (te:TE) (σ:St) (H:Hp) (Q:VK):tComp wi tt te σ H Q=wi σ H fun J H1=>compW J tt te σ H1 Q:=rfl
theorem forW_list {K:PySem.W.Frag} {a:Addr} {xs:List V} {g:TG} {tb:TS} {D:Ends} {σ:St} {H:Hp} (Pv:Nat→St→Hp→Prop) (h0:Pv 0 σ H) (hl:∀ i σ H,i≤xs.length→Pv i σ H→SqL K H a xs)
    (hs:∀ i x σ H,xs[i]?=some x→Pv i σ H→g x σ H fun σ2 H2=>tb { D with nx:=Pv (i+1),ct:=Pv (i+1),bk:=D.nx } σ2 H2) (hd:∀ σ H,Pv xs.length σ H→D.nx σ H):forW (Itl K a) g tb D σ H :=
  for_list Pv h0 hl hs hd
theorem forW_range {lo:Int} {n:Nat} {g:TG} {tb:TS} {D:Ends} {σ:St} {H:Hp} (Pv:Nat→St→Hp→Prop) (h0:Pv 0 σ H)
    (hs:∀ i σ H,i < n→Pv i σ H→g (.int (lo+i)) σ H fun σ2 H2=>tb { D with nx:=Pv (i+1),ct:=Pv (i+1),bk:=D.nx } σ2 H2) (hd:∀ σ H,Pv n σ H→D.nx σ H):forW (Itr lo n) g tb D σ H :=
  for_range Pv h0 hs hd
theorem cx_K {CX:CXT} {P:Program} {w:World} {K:PySem.W.Frag} {mg:Str→Option Value} {base:Heap} {N:List Str} {qual:Str} {scope:Scope} {f:Addr} {cd:Value} {A:Around} {outer:List Env} {s:Shared} {H:Hp} {E:XK} :
    (cxOf CX P w K mg base N qual scope f cd A outer s H E).K=K:=rfl
theorem S_iff (a b:List Nat):(S a=S b)=(a=b):=propext ⟨S_inj,fun h=>by rw [h]⟩
end L2

set_option Elab.async false
set_option linter.all false
set_option maxRecDepth 100000
set_option maxHeartbeats 4000000
namespace L2
open PySem PySem.Spec PyProof.Rows
def rPlus (K:PySem.W.Frag):R2:=fun x y H Q=>rI0 (fun i j=>.int (i+j)) x y H Q∨(rCatT2 x y H Q∨rCatS K x y H Q)
def rEqq (K:PySem.W.Frag):R2:=fun x y H Q=>rEq x y H Q∨rEqD K false x y H Q
def rNeq (K:PySem.W.Frag):R2:=fun x y H Q=>rNe x y H Q∨rEqD K true x y H Q
def rLt:R2:=fun x y H Q=>rI0 (fun i j=>.bl (decide (i < j))) x y H Q∨rStrs (fun a b=>decide (a < b)) x y H Q
def rLe:R2:=fun x y H Q=>rI0 (fun i j=>.bl (decide (i≤j))) x y H Q∨rStrs (fun a b=>!decide (b < a)) x y H Q
def rLen (K:PySem.W.Frag):List V→Hp→VK→Prop:=fun xs H Q=>(∃ p ys,xs=[.ref p]∧(SqL K H p ys∨SqT K H p ys)∧Q (.int ys.length) H)∨((∃ l,xs=[.str (S l)]∧l.length≤sizeLine∧Q (.int l.length) H)∨(∃ a kvs,xs=[V.ref a]∧H a=some (.dK kvs)∧Q (.int kvs.length) H))
def rInn (K:PySem.W.Frag):R2:=fun x y H Q=>rIn K false x y H Q∨((∃ i j,x=.str i∧y=.str j∧Q (.bl (occB j i)) H)∨(∃ a o,y=.ref a∧DGet H a x o∧Q (.bl o.isSome) H))
def rNin (K:PySem.W.Frag):R2:=fun x y H Q=>rIn K true x y H Q∨((∃ i j,x=.str i∧y=.str j∧Q (.bl (!occB j i)) H)∨(∃ a o,y=.ref a∧DGet H a x o∧Q (.bl (!o.isSome)) H))
def rListOf (K:PySem.W.Frag):List V→Hp→VK→Prop:=fun xs H Q=>∃ p ys,xs=[.ref p]∧(SqL K H p ys∨SqT K H p ys)∧∀ l,H l=none→Q (.ref l) (upd H l (.lst ys))
def rOrd:List V→Hp→VK→Prop:=fun xs H Q=>∃ c,xs=[.str (S [c])]∧Q (.int (c:Nat)) H
def rAny (K:PySem.W.Frag) (x:V) (H1:Hp) (R:It→Hp→Prop):Prop:=(∃ a,x=.ref a∧(∃ xs,SqL K H1 a xs)∧R (Itl K a) H1)∨((∃ a,x=.ref a∧(∃ xs,SqT K H1 a xs)∧R (Itt K a) H1)∨(∃ z,x=.str z∧R (Its z) H1))
theorem iAny_eq (K:PySem.W.Frag) (tl:TE) (σ:St) (H:Hp) (R:It→Hp→Prop):iAny K tl σ H R=tl σ H fun x H1=>rAny K x H1 R:=rfl
def tTru (K:PySem.W.Frag) (ta:TE):TT:=fun σ H Q=>ta σ H fun x H'=>∃ k,TruV K x H' k∧Q k H'
section
variable {K:PySem.W.Frag} {H:Hp} {Q:VK} {R:It→Hp→Prop} {x y:V} {a b p:Addr} {xs zs ys:List V}
theorem rPlus_ii (i j:Int):rPlus K (.int i) (.int j) H Q=Q (.int (i+j)) H:=by simp [rPlus,rI0,rCatT2,rCatS]
theorem rPlus_ss (i j:Str):rPlus K (.str i) (.str j) H Q=∃ l m,i=S l∧j=S m∧l.length+m.length≤sizeLine∧Q (.str (S (l++m))) H:=by simp [rPlus,rI0,rCatT2,rCatS]
theorem rEqq_ii (i j:Int):rEqq K (.int i) (.int j) H Q=Q (.bl (decide (i=j))) H:=by simp [rEqq,rEq,rEqD,scal,isRef]
theorem rNeq_ii (i j:Int):rNeq K (.int i) (.int j) H Q=Q (.bl (!(decide (i=j)))) H:=by simp [rNeq,rNe,rEqD,scal,isRef]
theorem rEqq_ss (i j:Str):rEqq K (.str i) (.str j) H Q=Q (.bl (decide (i=j))) H:=by simp [rEqq,rEq,rEqD,scal,isRef]
theorem rNeq_ss (i j:Str):rNeq K (.str i) (.str j) H Q=Q (.bl (!(decide (i=j)))) H:=by simp [rNeq,rNe,rEqD,scal,isRef]
theorem rEqq_bb (i j:Bool):rEqq K (.bl i) (.bl j) H Q=Q (.bl (decide (i=j))) H:=by simp [rEqq,rEq,rEqD,scal,isRef]
theorem rNeq_bb (i j:Bool):rNeq K (.bl i) (.bl j) H Q=Q (.bl (!(decide (i=j)))) H:=by simp [rNeq,rNe,rEqD,scal,isRef]
theorem rEqq_nn  : rEqq K .non .non H Q=Q (.bl (true)) H:=by simp [rEqq,rEq,rEqD,scal,isRef]
theorem rNeq_nn  : rNeq K .non .non H Q=Q (.bl (!(true))) H:=by simp [rNeq,rNe,rEqD,scal,isRef]
theorem rEqq_ni (j:Int):rEqq K .non (.int j) H Q=Q (.bl (false)) H:=by simp [rEqq,rEq,rEqD,scal,isRef]
theorem rNeq_ni (j:Int):rNeq K .non (.int j) H Q=Q (.bl (!(false))) H:=by simp [rNeq,rNe,rEqD,scal,isRef]
theorem rEqq_in (j:Int):rEqq K (.int j) .non H Q=Q (.bl (false)) H:=by simp [rEqq,rEq,rEqD,scal,isRef]
theorem rNeq_in (j:Int):rNeq K (.int j) .non H Q=Q (.bl (!(false))) H:=by simp [rNeq,rNe,rEqD,scal,isRef]
theorem rEqq_ns (j:Str):rEqq K .non (.str j) H Q=Q (.bl (false)) H:=by simp [rEqq,rEq,rEqD,scal,isRef]
theorem rNeq_ns (j:Str):rNeq K .non (.str j) H Q=Q (.bl (!(false))) H:=by simp [rNeq,rNe,rEqD,scal,isRef]
theorem rEqq_sn (j:Str):rEqq K (.str j) .non H Q=Q (.bl (false)) H:=by simp [rEqq,rEq,rEqD,scal,isRef]
theorem rNeq_sn (j:Str):rNeq K (.str j) .non H Q=Q (.bl (!(false))) H:=by simp [rNeq,rNe,rEqD,scal,isRef]
theorem rEqq_nb (j:Bool):rEqq K .non (.bl j) H Q=Q (.bl (false)) H:=by simp [rEqq,rEq,rEqD,scal,isRef]
theorem rNeq_nb (j:Bool):rNeq K .non (.bl j) H Q=Q (.bl (!(false))) H:=by simp [rNeq,rNe,rEqD,scal,isRef]
theorem rEqq_bn (j:Bool):rEqq K (.bl j) .non H Q=Q (.bl (false)) H:=by simp [rEqq,rEq,rEqD,scal,isRef]
theorem rNeq_bn (j:Bool):rNeq K (.bl j) .non H Q=Q (.bl (!(false))) H:=by simp [rNeq,rNe,rEqD,scal,isRef]
theorem rEqq_is (i:Int) (j:Str):rEqq K (.int i) (.str j) H Q=Q (.bl (false)) H:=by simp [rEqq,rEq,rEqD,scal,isRef]
theorem rNeq_is (i:Int) (j:Str):rNeq K (.int i) (.str j) H Q=Q (.bl (!(false))) H:=by simp [rNeq,rNe,rEqD,scal,isRef]
theorem rEqq_si (i:Int) (j:Str):rEqq K (.str j) (.int i) H Q=Q (.bl (false)) H:=by simp [rEqq,rEq,rEqD,scal,isRef]
theorem rNeq_si (i:Int) (j:Str):rNeq K (.str j) (.int i) H Q=Q (.bl (!(false))) H:=by simp [rNeq,rNe,rEqD,scal,isRef]
theorem rEqq_d {d e:PyData} (hr:(isRef x || isRef y)=true) (h1:Den K H x d) (h2:Den K H y e) (s1:SeqAt.shaped d=true) (s2:SeqAt.shaped e=true) (q:Q (.bl (PyData.eqv d e)) H):rEqq K x y H Q:=.inr ⟨hr,d,e,h1,h2,s1,s2,q⟩
theorem rNeq_d {d e:PyData} (hr:(isRef x || isRef y)=true) (h1:Den K H x d) (h2:Den K H y e) (s1:SeqAt.shaped d=true) (s2:SeqAt.shaped e=true) (q:Q (.bl (!PyData.eqv d e)) H):rNeq K x y H Q:=.inr ⟨hr,d,e,h1,h2,s1,s2,q⟩
theorem rLt_ii (i j:Int):rLt (.int i) (.int j) H Q=Q (.bl (decide (i < j))) H:=by simp [rLt,rI0,rStrs]
theorem rLt_ss (i j:Str):rLt (.str i) (.str j) H Q=Q (.bl (decide (i.cps.toList < j.cps.toList))) H:=by simp [rLt,rI0,rStrs]
theorem rLe_ii (i j:Int):rLe (.int i) (.int j) H Q=Q (.bl (decide (i≤j))) H:=by simp [rLe,rI0,rStrs]
theorem rLe_ss (i j:Str):rLe (.str i) (.str j) H Q=Q (.bl (!decide (j.cps.toList < i.cps.toList))) H:=by simp [rLe,rI0,rStrs]
theorem rLen_s (i:Str):rLen K [.str i] H Q=∃ l,i=S l∧l.length≤sizeLine∧Q (.int l.length) H:=by simp [rLen]
theorem rLen_l (h:SqL K H p ys) (q:Q (.int ys.length) H):rLen K [.ref p] H Q:=.inl ⟨p,ys,rfl,.inl h,q⟩
theorem rLen_t (h:SqT K H p ys) (q:Q (.int ys.length) H):rLen K [.ref p] H Q:=.inl ⟨p,ys,rfl,.inr h,q⟩
theorem rInn_s (i j:Str):rInn K (.str i) (.str j) H Q=Q (.bl (occB j i)) H:=by simp [rInn,rIn]
theorem rInn_d {o:Option V} (h:DGet H p x o) (q:Q (.bl o.isSome) H):rInn K x (.ref p) H Q:=.inr (.inr ⟨p,o,rfl,h,q⟩)
theorem rNin_s (i j:Str):rNin K (.str i) (.str j) H Q=Q (.bl (!occB j i)) H:=by simp [rNin,rIn]
theorem rNin_f (h:SqL K H p xs∨SqT K H p xs) (f:flatV x=true) (g:xs.all flatV=true) (q:Q (.bl (!inV x xs)) H):rNin K x (.ref p) H Q:=.inl ⟨p,xs,rfl,h,f,g,q⟩
theorem rNin_d {o:Option V} (h:DGet H p x o) (q:Q (.bl (!o.isSome)) H):rNin K x (.ref p) H Q:=.inr (.inr ⟨p,o,rfl,h,q⟩)
theorem rIxA_s (i:Str):rIxA K (.str i) y H Q=rIxS2 (.str i) y H Q:=by simp [rIxA,rIxL,rIxT]
theorem rIxA_l {i:Int} {v:V} (h:SqL K H p xs) (e:atI xs i=some v) (q:Q v H):rIxA K (.ref p) (.int i) H Q:=.inl ⟨p,xs,i,v,rfl,rfl,h,e,q⟩
theorem rIxA_t {i:Int} {v:V} (h:SqT K H p xs) (e:atI xs i=some v) (q:Q v H):rIxA K (.ref p) (.int i) H Q:=.inr (.inl ⟨p,xs,i,v,rfl,rfl,h,e,q⟩)
theorem rIxA_d {v:V} (h:DGet H p y (some v)) (q:Q v H):rIxA K (.ref p) y H Q:=.inr (.inr (.inr ⟨p,v,rfl,h,q⟩))
theorem rSlA_s (i:Str) (lo hi:Option Int):rSlA K (.str i) lo hi H Q=rSlS (.str i) lo hi H Q:=by simp [rSlA,rSlL]
theorem rAny_s (z:Str):rAny K (.str z) H R=R (Its z) H:=by simp [rAny]
theorem rAny_l (h:SqL K H a xs) (q:R (Itl K a) H):rAny K (.ref a) H R:=.inl ⟨a,rfl,⟨xs,h⟩,q⟩
theorem rSetA_d {v:V} {H':Hp} {Qh:Hp→Prop} (h:DPut H p y v H') (q:Qh H'):rSetA (.ref p) y v H Qh:=.inr ⟨p,H',rfl,h,q⟩
theorem TruV_b (b k:Bool):TruV K (.bl b) H k=(k=b):=rfl
theorem TruV_n (k:Bool):TruV K .non H k=(k=false):=rfl
theorem TruV_i (i:Int) (k:Bool):TruV K (.int i) H k=(k=(i != 0)):=rfl
end
section
variable {X:Cx} {K:PySem.W.Frag} {a b c e o l tg:Expr} {es:List Expr} {ta tb to te tl:TE} {t:TA} {pos apos cpos p2:Pos} {f name:Str} {lo hi:Option Expr} {tlo thi:TO}
theorem op_plusK (hK:X.K=K:=by rfl):OpR X (binaryOp .Add) (rPlus K):=hK▸op_plus
theorem op_eqK (hu:X.A.units+64 < cLine) (hK:X.K=K:=by rfl):OpR X (compareOp .Eq) (rEqq K):=hK▸op_eqA hu
theorem op_neK (hu:X.A.units+64 < cLine) (hK:X.K=K:=by rfl):OpR X (compareOp .NotEq) (rNeq K):=hK▸op_neA hu
theorem call_lenK (hK:X.K=K:=by rfl):CallR X (.builtin "len") (rLen K):=hK▸call_lenA
theorem op_ltK:OpR X (compareOp .Lt) rLt:=op_ltA
theorem op_leK:OpR X (compareOp .LtE) rLe:=op_leA
theorem call_isinstanceK (hK:X.K=K:=by rfl):CallR X (.builtin "isinstance") (rIsi K):=hK▸call_isinstanceA
theorem ix_anyK (hu:X.A.units+1 < cLine) (hK:X.K=K:=by rfl):IxR X (rIxA K):=hK▸ix_any hu
theorem op_inK (hu:X.A.units+1 < cLine) (hK:X.K=K:=by rfl):OpR X (compareOp .In) (rInn K):=hK▸op_inA hu
theorem op_notInK (hu:X.A.units+1 < cLine) (hK:X.K=K:=by rfl):OpR X (compareOp .NotIn) (rNin K):=hK▸op_notInA hu
theorem pi_anyK (hl:PE X l tl) (hK:X.K=K:=by rfl):PI X tg l (iAny K tl):=hK▸pi_any hl
theorem pe_fldK (he:PE X e ta) (hb:attributeBase e f X.env (eval e X.env)=eval e X.env) (hK:X.K=K:=by rfl):PE X (.Attribute e f pos) (tFld K ta f):=hK▸pe_fld he hb
theorem pt_truthK (ha:PE X a ta) (he:∀ whole,isTrue a X.env whole=(do let v ← whole;standAt a.pos;holding [v] (truthy v))) (hK:X.K=K:=by rfl) :
    PT X a (tTru K ta):=hK▸pt_truth ha he
theorem pe_bmK {T id:String} {r:V→List V→Hp→VK→Prop} (pa:PlainAttrs T) (slot:Slot T name id) (hty:typeOf (.builtin id)=pure (.type "method_descriptor")) (hm:MtR X id r) (ho:PE X o to) (ha:PA X (e::es) t)
    (hbase:attributeBase o name X.env (eval o X.env)=eval o X.env:=by rfl)
    (hfew:((backTo cpos (starEach (e::es) X.env)).all (fun x=>!x.1) && (backToKw cpos (keywordEach [] X.env)).all (fun x=>x.1.isSome)
      && decide ((e::es).length+([]:List Keyword).length+(if ([]:List Keyword).isEmpty then 0 else 1) < 30))=true:=by rfl)
    (hline:(apos.endLine == cpos.line)=true:=by rfl) (hs:starEach (e::es) X.env=(false,eval e X.env)::starEach es X.env:=by rfl) (hplain:(backTo cpos (starEach es X.env)).any (·.1)=false:=by rfl) (hK:X.K=K:=by rfl) :
    PE X (.Call (.Attribute o name apos) (e::es) [] cpos) (tBM K T r to t):=hK▸pe_bm pa slot hty hm ho ha hbase hfew hline hs hplain
theorem pg_tupK {es:List Expr} {k:Nat} {t:TGs} {n:Nat} (hc:X.calm=true) (h:PGs X es t)
    (hn:(assignEach es X.env).length=n:=by rfl) (hst:(assignEach es X.env).findIdx? (·.1)=none:=by rfl) (hK:X.K=K:=by rfl):PG X (.Tuple es k pos) (gTup K n t):=hK▸pg_tup hc h hn hst
end
end L2

set_option Elab.async false
set_option linter.all false
set_option maxRecDepth 100000
set_option maxHeartbeats 4000000
namespace L2
open PySem PySem.Spec PyProof.Rows

section
variable {X:Cx}
def tInRng (neg:Bool) (ta:TE) (tr:TA):TE:=fun σ H Q=>ta σ H fun x H1=>tr σ H1 fun vs H2=>∃ i a b:Int,x=.int i∧vs=[.int a,.int b]∧Q (.bl (if neg then !(decide (a≤i) && decide (i < b)) else (decide (a≤i) && decide (i < b)))) H2
def tInRng1 (neg:Bool) (ta:TE) (tr:TA):TE:=fun σ H Q=>ta σ H fun x H1=>tr σ H1 fun vs H2=>∃ i b:Int,x=.int i∧vs=[.int b]∧Q (.bl (if neg then !(decide (0≤i) && decide (i < b)) else (decide (0≤i) && decide (i < b)))) H2
def rMax:List V→Hp→VK→Prop:=fun xs H Q=>∃ i j,xs=[.int i,.int j]∧Q (.int (max i j)) H
def rMin:List V→Hp→VK→Prop:=fun xs H Q=>∃ i j,xs=[.int i,.int j]∧Q (.int (min i j)) H
theorem call_maxA (hc:X.calm=true):CallR X (.builtin "max") rMax:=by
  intro pins s σ H xs us Q I r h
  obtain ⟨i,j,rfl,q⟩:=h
  refine call_max2 hc pins s σ H _ us Q I r ⟨i,j,rfl,?_⟩
  rw [show (if j > i then j else i)=max i j by split<;>omega]
  exact q
theorem call_minA (hc:X.calm=true):CallR X (.builtin "min") rMin:=by
  intro pins s σ H xs us Q I r h
  obtain ⟨i,j,rfl,q⟩:=h
  refine call_min2 hc pins s σ H _ us Q I r ⟨i,j,rfl,?_⟩
  rw [show (if j < i then j else i)=min i j by split<;>omega]
  exact q
def rInt:List V→Hp→VK→Prop:=fun xs H Q=>(∃ i,xs=[.int i]∧Q (.int i) H)∨∃ k,xs=[.bl k]∧Q (.int (if k=true then 1 else 0)) H
theorem call_intK {K:PySem.W.Frag}:CallR X (.type "int") rInt:=fun pins s σ H xs us Q I r h=>call_int1 pins s σ H xs us Q I r h
theorem rInt_i {H:Hp} {Q:VK} (i:Int):rInt [.int i] H Q=Q (.int i) H:=by simp [rInt]
theorem rInt_b {H:Hp} {Q:VK} (k:Bool):rInt [.bl k] H Q=Q (.int (if k=true then 1 else 0)) H:=by simp [rInt]
def strI (i:Int):List Nat:=(toString i:Str).cps.toList
def rStrI:List V→Hp→VK→Prop:=fun xs H Q=>∃ i,xs=[.int i]∧i.natAbs.log2 < 1920∧Q (.str (S (strI i))) H
theorem call_strK {K:PySem.W.Frag}:CallR X (.type "str") rStrI:=by
  intro pins s σ H xs us Q I r h
  obtain ⟨i,rfl,hz,q⟩:=h
  refine call_str_int pins s σ H _ us Q I r ⟨i,rfl,hz,?_⟩
  have e:(toString i:Str)=S (strI i):=S_of _
  rw [e]
  exact q
end
end L2

set_option Elab.async false
set_option linter.all false
set_option maxRecDepth 100000
set_option maxHeartbeats 4000000
namespace L2
open PySem PySem.Spec PyProof.Rows

structure FunD (K:PySem.W.Frag) (x qual:Str) (st:Stmt) (f:Addr) (fd:FuncData) (items:List Value):Prop where
  ex:∃ (oc:Value) (od:Option Addr) (kV doc pm:Value) (an:Option Addr) (cdv ct:Value) (osl:Array (Option Value)) (tD:Addr) (o:Obj) (n:Nat),
    fd=PySem.W.fnOf x qual (defArgs st) (defBody st) (defScope st) (.ref tD) kV doc pm an cdv ct∧K.lookup f=some ⟨oc,od,.func fd,osl⟩∧PySem.W.codeIn K cdv qual=true∧K.lookup tD=some o∧o.data=.seq items.toArray n
  kp:PySem.W.keepIn K (.ref f)=true
section
variable {P:Program} {w:World} {K:PySem.W.Frag} {mg:Str→Option Value} {base:Heap}
theorem FunD.ok {x qual:Str} {st:Stmt} {f:Addr} {fd:FuncData} {items:List Value} {N ps:List Str} {k:Nat} {sp:Sp} (F:FunD K x qual st f fd items) (S:FnScope N ps (defScope st)) (len:∀ vs H Q E,sp vs H Q E→vs.length=ps.length)
    (hbody:∀ (cdv:Value) (A:Around) (outer:List Env) (s:Shared) (H:Hp) (vs:List V) (Q:VK) (E:XK),Room k (A.deeper (envOfC qual (defScope st) s.heap.objs.size f cdv))→sp vs H Q E →
      ∃ t,PSs (cxOf CX0 P w K mg base N qual (defScope st) f cdv A outer s H E).nox (defBody st) t∧t { nx:=fun _ H'=>Q .non H',rt:=Q } (start N vs) H):FnOk P w K mg base CX0 (k+1) f fd ps sp:=by
  obtain ⟨oc,od,kV,doc,pm,an,cdv,ct,osl,tD,o,n,rfl,lk,hcd,_⟩:=F.ex
  refine fn_of lk hcd S len fun A outer s H vs Q E hr hsp=>?_
  obtain ⟨t,h,q⟩:=hbody cdv A outer s H vs Q E hr hsp
  exact ⟨t,h.nox,q⟩
theorem FunD.binds {x qual:Str} {st:Stmt} {f:Addr} {fd:FuncData} {items:List Value} {ps:List Str} (ds:List Value) (m:Nat) (hm:m+ds.length=ps.length) (F:FunD K x qual st f fd items)
    (h:∀ (tD:Addr) (kV doc pm:Value) (an:Option Addr) (cdv ct:Value) (us:List Value),us.length=m →
      ∃ kk,bindArgs (PySem.W.fnOf x qual (defArgs st) (defBody st) (defScope st) (.ref tD) kV doc pm an cdv ct) ⟨us,[]⟩=seqItems? (.ref tD) >>= kk∧kk (some items.toArray)=pure (ps.zip (us++ds))):Binds K fd ps ds:=by
  obtain ⟨oc,od,kV,doc,pm,an,cdv,ct,osl,tD,o,n,rfl,lk,hcd,ho,hs⟩:=F.ex
  intro s us X hl
  rw [List.length_append] at hl
  obtain ⟨kk,h1,h2⟩:=h tD kV doc pm an cdv ct us (by omega)
  exact BindsTo.of_defaults rfl (X _ _ ho) hs h1 h2
theorem funD_mk {x qual:Str} {st:Stmt} {f:Addr} {oc:Value} {od an:Option Addr} {osl:Array (Option Value)} {kV doc pm cdv ct:Value} {tD:Addr} {tc:Value} {td:Option Addr} {tn:Nat} {tsl:Array (Option Value)} {items:List Value}
    (l:K.lookup f=some ⟨oc,od,.func (PySem.W.fnOf x qual (defArgs st) (defBody st) (defScope st) (.ref tD) kV doc pm an cdv ct),osl⟩)
    (c:PySem.W.codeIn K cdv qual=true) (k:PySem.W.keepIn K (.ref f)=true) (dl:K.lookup tD=some ⟨tc,td,.seq items.toArray tn,tsl⟩):FunD K x qual st f (PySem.W.fnOf x qual (defArgs st) (defBody st) (defScope st) (.ref tD) kV doc pm an cdv ct) items :=
  ⟨⟨oc,od,kV,doc,pm,an,cdv,ct,osl,tD,_,tn,rfl,l,c,dl,rfl⟩,k⟩
end

structure Chg (A:List Addr) (H H':Hp):Prop where
  keep:∀ b o,H b=some o→b∉A→H' b=some o
  tup:∀ b xs,H b=some (.tup xs)→H' b=some (.tup xs)
theorem Chg.refl {A:List Addr} (H:Hp):Chg A H H:=⟨fun _ _ h _=>h,fun _ _ h=>h⟩
theorem Chg.of_same {A:List Addr} {H H':Hp} (s:Same H H'):Chg A H H':=⟨fun b o h _=>s b o h,fun b xs h=>s b _ h⟩
theorem Chg.same {H H':Hp} (s:Chg [] H H'):Same H H':=fun b o h=>s.keep b o h (by simp)
theorem Chg.trans {A:List Addr} {H H1 H2:Hp} (x:Chg A H H1) (y:Chg A H1 H2):Chg A H H2:=⟨fun b o h n=>y.keep b o (x.keep b o h n) n,fun b xs h=>y.tup b xs (x.tup b xs h)⟩
theorem Chg.mono {A B:List Addr} {H H':Hp} (x:Chg A H H') (h:∀ b,b∈A→b∈B):Chg B H H':=⟨fun b o e n=>x.keep b o e fun z=>n (h b z),x.tup⟩
theorem Chg.upd {A:List Addr} {H:Hp} {a:Addr} {o:HO} (ha:a∈A) (hm:∀ xs,H a≠some (.tup xs)):Chg A H (L2.upd H a o):=by
  refine ⟨fun b u e n=>?_,fun b xs e=>?_⟩
  · have hb:b≠a:=fun z=>by subst z;exact n ha
    rw [upd_ne hb];exact e
  · have hb:b≠a:=fun z=>by subst z;exact hm xs e
    rw [upd_ne hb];exact e
theorem Chg.new {A:List Addr} {H:Hp} {a:Addr} {o:HO} (ha:H a=none):Chg A H (L2.upd H a o):=.of_same (Same.upd ha)
theorem Chg.free {H H':Hp} {l b:Addr} {A:List Addr} {o:HO} (x:Chg A H H') (h:H' l=none) (e:H b=some o) (n:b∉A):l≠b:=fun z=>by
  have:=x.keep b o e n
  rw [← z,h] at this
  cases this
theorem mut_dK {H:Hp} {a:Addr} {kvs:List (Key×V)} (h:H a=some (.dK kvs)):∀ xs,H a≠some (.tup xs):=fun xs z=>by rw [h] at z;cases z
theorem mut_lst {H:Hp} {a:Addr} {kvs:List V} (h:H a=some (.lst kvs)):∀ xs,H a≠some (.tup xs):=fun xs z=>by rw [h] at z;cases z
theorem mut_ins {H:Hp} {a C dx:Addr} {fs:List (Str×V)} (h:H a=some (.ins C dx fs)):∀ xs,H a≠some (.tup xs):=fun xs z=>by rw [h] at z;cases z
theorem compW_listIf {K:PySem.W.Frag} {tt:TT} {te:TE} {σ:St} {H:Hp} {Q:VK} {a:Addr} {xs:List V} (hl:SqL K H a xs) (hn:xs.length≤sizeLine) (p:V→Bool) (f:V→V)
    (ht:∀ x H',x∈xs→Same H H'→∀ Qt:Bool→Hp→Prop,(∀ H'',Same H' H''→Qt (p x) H'')→tt (some x::σ) H' Qt)
    (he:∀ x H',x∈xs→p x=true→Same H H'→∀ Qe:VK,(∀ H'',Same H' H''→Qe (f x) H'')→te (some x::σ) H' Qe)
    (hd:∀ D H',H D=none→Same H H'→H' D=some (.lst ((xs.filter p).map f))→Q (.ref D) H'):compW (Itl K a) tt te σ H Q:=fun D hD =>
  comp_mapf (J:=Itl K a) xs.length hn hD (fun i=>xs.getD i .non) (fun i=>f (xs.getD i .non)) (fun i=>p (xs.getD i .non)) (fun H' s=>⟨xs,s.seq hl,Nat.le_refl _⟩)
    (fun i H' s h=>⟨xs,xs[i],s.seq hl,by simp⟩)
    (fun i H' x H'' s hi y=>by
      obtain ⟨rfl,z⟩:=y
      have hz:=z xs (s.seq hl)
      refine ⟨rfl,?_⟩
      rw [List.getD_eq_getElem?_getD,hz]
      rfl)
    (fun i H' h s Qt q=>ht _ H' (by rw [List.getD_eq_getElem?_getD,List.getElem?_eq_getElem h];exact List.getElem_mem h) s Qt q)
    (fun i H' h hp s Qe q=>he _ H' (by rw [List.getD_eq_getElem?_getD,List.getElem?_eq_getElem h];exact List.getElem_mem h) hp s Qe q)
    (fun H' s h=>hd D H' hD s (by
      rw [h]
      congr 2
      have e:(List.range xs.length).map (fun i=>xs.getD i .non)=xs:=by
        refine List.ext_getElem (by simp) fun i h1 h2=>?_
        simp at h1 h2 ⊢
        rw [List.getElem?_eq_getElem h2]
        rfl
      conv=>rhs;rw [← e]
      rw [List.filter_map,List.map_map]
      rfl))
def Pres (H:Hp) (l:List Addr):Prop:=∀ a∈l,H a≠none
theorem Pres.nil (H:Hp):Pres H []:=fun a h=>by cases h
theorem Pres.same {H H':Hp} {l:List Addr} (p:Pres H l) (s:Same H H'):Pres H' l:=fun a h z=>by
  cases e:H a with
  | none=>exact p a h e
  | some o=>rw [s a o e] at z;cases z
theorem Pres.cons {H:Hp} {l:List Addr} {a:Addr} {o:HO} (p:Pres H l) (h:H a=some o):Pres H (a::l):=fun b hb=>by
  rcases List.mem_cons.mp hb with rfl | hb
  · rw [h];intro z;cases z
  · exact p b hb
theorem Pres.new {H:Hp} {l:List Addr} {a:Addr} (p:Pres H l) (nd:l.Nodup) (h:H a=none):(a::l).Nodup:=List.nodup_cons.mpr ⟨fun hm=>p a hm h,nd⟩
end L2

set_option Elab.async false
set_option linter.all false
set_option maxRecDepth 100000
set_option maxHeartbeats 4000000
namespace L2
open PySem PySem.Spec PyProof.Rows
section
variable {X:Cx} {pins:List (Addr×Obj)} {σ:St} {H:Hp} {s:Shared} {h':Heap}
theorem Inv.track {t':Nat} {T:Addr} {o:HO} (I:Inv X pins σ H s) (f:FpOk X pins H T) (new:ObjOk X.prog X.w (upd H T o) s.heap T o) (ht:∀ xs,o=.tup xs→True):Inv X pins σ (upd H T o) { s with toks:=t' }:=by
  obtain ⟨f0,f1,f2,f3,f4,f5⟩:=f
  refine I.step (h':=s.heap) (g':=s.gens) (d':=s.drawn) (ch:=[T]) (fun b hb=>?_) (fun b ob _ _ hc e _=>e) (fun b ob _ _ hc e _=>⟨ob.slots,e⟩) (fun b ob hc e n=>?_)
    (fun b ob hc e=>⟨ob,e⟩) (fun b xs e=>?_) (fun b ob u e=>?_) (fun b ps e=>⟨#[],?_⟩) (fun m hm=>hm) (fun b u e=>?_) I.bare
  · have e:b=T:=by simpa using hb
    subst e
    exact ⟨f3,f1,f4,f5⟩
  · rw [upd_ne (fun z=>hc (by simp [z]))];exact n
  · rw [upd_ne (ne_of_none e f0)];exact e
  · rw [upd_ne (ne_of_none e f0)];exact e
  · rw [upd_ne (ne_of_none e f0),e];simp
  · by_cases hb:b=T
    · subst hb
      rw [upd_same] at e
      cases e
      exact new
    · rw [upd_ne hb] at e
      refine (I.hok b u e).stay (fun c v _ q=>q) (fun c q=>?_) fun c xs q=>?_
      · rw [upd_ne (ne_of_none q f0)];exact q
      · rw [upd_ne (ne_of_none q f0)];exact q
end

def Itz (K:PySem.W.Frag) (a b:Addr):It :=
  ⟨fun i H=>∃ xs ys x y,SqL K H a xs∧SqL K H b ys∧xs[i]?=some x∧ys[i]?=some y,
   fun i H v H'=>∃ T x y,v=.ref T∧H T=none∧H'=upd H T (.tup [x,y])∧(∀ xs,SqL K H a xs→xs[i]?=some x)∧∀ ys,SqL K H b ys→ys[i]?=some y,
   fun i H=>∃ xs ys,SqL K H a xs∧SqL K H b ys∧(xs.length≤i∨ys.length≤i)⟩
section
variable {X:Cx}
def iZip (K:PySem.W.Frag) (ta:TA):TI:=fun σ H R=>ta σ H fun vs H1=>∃ a b xs ys,vs=[.ref a,.ref b]∧SqL K H1 a xs∧SqL K H1 b ys∧R (Itz K a b) H1
end
def Ite (K:PySem.W.Frag) (a:Addr):It :=
  ⟨fun i H=>∃ xs x,SqL K H a xs∧xs[i]?=some x,
   fun i H v H'=>∃ T x,v=.ref T∧H T=none∧H'=upd H T (.tup [.int (i:Nat),x])∧∀ xs,SqL K H a xs→xs[i]?=some x,
   fun i H=>∃ xs,SqL K H a xs∧xs.length≤i⟩
section
variable {X:Cx}
def iEnum (K:PySem.W.Frag) (ta:TA):TI:=fun σ H R=>ta σ H fun vs H1=>∃ a xs,vs=[.ref a]∧SqL K H1 a xs∧R (Ite K a) H1
end
end L2

set_option Elab.async false
set_option linter.all false
set_option maxRecDepth 100000
set_option maxHeartbeats 4000000
namespace L2
open PySem PySem.Spec PyProof.Rows
def mixN (c k:Int):Int:=((c % 2147483647 * 48271+7919 * k+1) % 2147483647) * ((c % 2147483647 * 48271+7919 * k+1) % 2147483647) % 2147483647
theorem mixN_bd (c k:Int):0≤mixN c k∧mixN c k < 2147483647:=by unfold mixN;omega
def sp_law (K:PySem.W.Frag):Sp:=fun vs H Q _=>∃ (p:Addr) (ns:List Int),vs=[.ref p]∧SqL K H p (ns.map V.int)∧ns.length≤63∧∀ H',Q (.bl true) H'
end L2

set_option Elab.async false
set_option linter.all false
set_option maxRecDepth 100000
set_option maxHeartbeats 4000000
namespace L2
open PySem PySem.Spec PyProof.Rows
def okS (l:List Nat):Prop:=∀ c∈l,c < 1114112
theorem log_small {i:Int} (h0:-(2 ^ 64) < i) (h1:i < 2 ^ 64):i.natAbs.log2 < 1920:=by
  by_cases hz:i.natAbs=0
  · rw [hz];decide
  · exact Nat.lt_of_lt_of_le ((Nat.log2_lt hz).mpr (show i.natAbs < 2 ^ 64 by omega)) (by decide)
def wd (n:Nat) (d:PyData):Prop:=d.canLay0=true∧d.depth≤n
theorem wd_non (n:Nat):wd n .none:=⟨rfl,Nat.zero_le _⟩
theorem wd_int (n:Nat) (i:Int):wd n (.int i):=⟨rfl,Nat.zero_le _⟩
theorem wd_str (n:Nat) {l:List Nat} (h:okS l):wd n (.str (S l)):=by
  refine ⟨?_,Nat.zero_le _⟩
  show (S l).cps.all (· < 0x110000)=true
  simp
  exact h
theorem wd_all {n:Nat}:∀ {ds:List PyData},(∀ d∈ds,wd n d)→PyData.canLayAll0 ds=true∧PyData.depthAll ds≤n
  | [],_=>⟨rfl,Nat.zero_le _⟩
  | d::r,h=>by
    obtain ⟨h1,h2⟩:=h d List.mem_cons_self
    obtain ⟨h3,h4⟩:=wd_all (n:=n) (ds:=r) fun x hx=>h x (List.mem_cons_of_mem _ hx)
    refine ⟨?_,?_⟩
    · rw [PyData.canLayAll0,h1,h3];rfl
    · rw [PyData.depthAll];exact Nat.max_le.mpr ⟨h2,h4⟩
theorem wd_list {n:Nat} {ds:List PyData} (h:∀ d∈ds,wd n d):wd (n+1) (.list ds):=by
  obtain ⟨h1,h2⟩:=wd_all h
  exact ⟨by rw [PyData.canLay0];exact h1,by rw [PyData.depth];omega⟩
theorem wd_tuple {n:Nat} {ds:List PyData} (h:∀ d∈ds,wd n d):wd (n+1) (.tuple ds):=by
  obtain ⟨h1,h2⟩:=wd_all h
  exact ⟨by rw [PyData.canLay0];exact h1,by rw [PyData.depth];omega⟩
theorem wd.shaped {n:Nat} {d:PyData} (h:wd n d) (hn:n≤64:=by decide):SeqAt.shaped d=true:=by
  unfold SeqAt.shaped
  rw [h.1,decide_eq_true (Nat.le_trans h.2 hn)]
  rfl
theorem rNeq_same {K:PySem.W.Frag} {H:Hp} {Q:VK} {x y:V} {n:Nat} {d:PyData} (h1:Den K H x d) (h2:Den K H y d) (hw:wd n d) (hr:(isRef x || isRef y)=true) (q:Q (.bl false) H) (hn:n≤64:=by decide):rNeq K x y H Q :=
  rNeq_d hr h1 h2 (hw.shaped hn) (hw.shaped hn) (by rw [SeqAt.eqv_refl d hw.1];exact q)
theorem rEqq_same {K:PySem.W.Frag} {H:Hp} {Q:VK} {x y:V} {n:Nat} {d:PyData} (h1:Den K H x d) (h2:Den K H y d) (hw:wd n d) (hr:(isRef x || isRef y)=true) (q:Q (.bl true) H) (hn:n≤64:=by decide):rEqq K x y H Q :=
  rEqq_d hr h1 h2 (hw.shaped hn) (hw.shaped hn) (by rw [SeqAt.eqv_refl d hw.1];exact q)
theorem denAll_ints {K:PySem.W.Frag} {H:Hp}:∀ ns:List Int,DenAll K H (ns.map V.int) (ns.map PyData.int)
  | []=>.nil
  | n::r=>.cons (.int n) (denAll_ints r)
theorem den_ints {K:PySem.W.Frag} {H:Hp} {p:Addr} {ns:List Int} (h:SqL K H p (ns.map V.int)):Den K H (.ref p) (.list (ns.map PyData.int)):=.lst h (denAll_ints ns)
theorem wd_ints (ns:List Int):wd 1 (.list (ns.map PyData.int)):=wd_list fun d hd=>by
  obtain ⟨n,_,rfl⟩:=List.mem_map.mp hd
  exact wd_int 0 n
def Scr (K:PySem.W.Frag) (H:Hp) (A:List Addr) (p:Addr) (xs:List V):Prop:=(SqL K H p xs∧p∉A)∨∀ H',SqL K H' p xs
theorem Scr.chg {K:PySem.W.Frag} {H H':Hp} {A:List Addr} {p:Addr} {xs:List V} (h:Scr K H A p xs) (c:Chg A H H'):Scr K H' A p xs:=by
  rcases h with ⟨h,hp⟩ | h
  · refine .inl ⟨?_,hp⟩
    rcases h with (h | ⟨o,h⟩) | h
    · exact .inl (.inl (c.keep _ _ h hp))
    · exact .inl (.inr ⟨o,c.keep _ _ h hp⟩)
    · exact .inr h
  · exact .inr h
theorem Scr.mono {K:PySem.W.Frag} {H:Hp} {A B:List Addr} {p:Addr} {xs:List V} (h:Scr K H A p xs) (s:∀ b∈B,b∈A):Scr K H B p xs:=h.elim (fun h=>.inl ⟨h.1,fun z=>h.2 (s _ z)⟩) .inr
theorem Scr.of {K:PySem.W.Frag} {H:Hp} {A:List Addr} {p:Addr} {xs:List V} (h:SqL K H p xs) (f:∀ b∈A,H b=none):Scr K H A p xs:=by
  rcases h with (h' | ⟨o,h'⟩) | h'
  · exact .inl ⟨.inl (.inl h'),fun z=>by rw [f p z] at h';cases h'⟩
  · exact .inl ⟨.inl (.inr ⟨o,h'⟩),fun z=>by rw [f p z] at h';cases h'⟩
  · exact .inr fun _=>.inr h'
def scalD:V→PyData
  | .bl b=>.bool b
  | .int i=>.int i
  | .str x=>.str x
  | _=>.none
theorem den_scal {K:PySem.W.Frag} {H:Hp} {v:V} (f:flatV v=true):Den K H v (scalD v):=by
  cases v with
  | non=>exact .non
  | bl b=>exact .bl b
  | int i=>exact .int i
  | str x=>exact .str x
  | _=>exact absurd (show false=true from f) Bool.false_ne_true
theorem denAll_scal {K:PySem.W.Frag} {H:Hp}:∀ {vs:List V},vs.all flatV=true→DenAll K H vs (vs.map scalD)
  | [],_=>.nil
  | v::r,h=>by
    rw [List.all_cons,Bool.and_eq_true] at h
    exact .cons (den_scal h.1) (denAll_scal h.2)
def TupsAt (H:Hp):List Addr→List (List V)→Prop:=Paired fun t xs=>H t=some (.tup xs)
def LTups (H:Hp) (D:Addr) (rows:List (List V)):Prop:=∃ ts,H D=some (.lst (ts.map V.ref))∧TupsAt H ts rows
theorem TupsAt.chg {A:List Addr} {H H':Hp} {ts:List Addr} {rows:List (List V)} (h:TupsAt H ts rows) (c:Chg A H H'):TupsAt H' ts rows:=Paired.mapP h fun _ _ e=>c.tup _ _ e
theorem LTups.chg {A:List Addr} {H H':Hp} {D:Addr} {rows:List (List V)} (h:LTups H D rows) (c:Chg A H H') (hD:D∉A):LTups H' D rows:=by
  obtain ⟨ts,e,t⟩:=h
  exact ⟨ts,c.keep _ _ e hD,t.chg c⟩
theorem LTups.same {H H':Hp} {D:Addr} {rows:List (List V)} (h:LTups H D rows) (s:Same H H'):LTups H' D rows:=h.chg (A:=[]) (Chg.of_same s) (by simp)
theorem TupsAt.den {K:PySem.W.Frag} {H:Hp} {ts:List Addr} {rows:List (List V)} (h:TupsAt H ts rows):(∀ r∈rows,r.all flatV=true)→DenAll K H (ts.map V.ref) (rows.map fun r=>.tuple (r.map scalD)):=by
  intro f
  unfold TupsAt at h
  induction h with
  | nil=>exact .nil
  | @cons t xs ts rows e r ih =>
    exact .cons (.tup (.inl (.inl e)) (denAll_scal (f xs List.mem_cons_self))) (ih fun z hz=>f z (List.mem_cons_of_mem _ hz))
theorem LTups.den {K:PySem.W.Frag} {H:Hp} {D:Addr} {rows:List (List V)} (h:LTups H D rows) (f:∀ r∈rows,r.all flatV=true):Den K H (.ref D) (.list (rows.map fun r=>.tuple (r.map scalD))):=by
  obtain ⟨ts,e,t⟩:=h
  exact .lst (.inl (.inl e)) (t.den f)
theorem TupsAt.get {H:Hp} {ts:List Addr} {rows:List (List V)} (h:TupsAt H ts rows):∀ {i:Nat} {t:Addr},ts[i]?=some t→∃ xs,rows[i]?=some xs∧H t=some (.tup xs):=by
  unfold TupsAt at h
  induction h with
  | nil=>intro i t e;simp at e
  | @cons a b as bs e r ih =>
    intro i t q
    cases i with
    | zero=>simp at q;subst q;exact ⟨b,rfl,e⟩
    | succ i=>simpa using ih (by simpa using q)
theorem TupsAt.length {H:Hp} {ts:List Addr} {rows:List (List V)} (h:TupsAt H ts rows):ts.length=rows.length:=Paired.length h
theorem TupsAt.snoc {H:Hp} {ts:List Addr} {rows:List (List V)} {t:Addr} {xs:List V} (h:TupsAt H ts rows) (e:H t=some (.tup xs)):TupsAt H (ts++[t]) (rows++[xs]):=by
  unfold TupsAt at h ⊢
  induction h with
  | nil=>exact .cons e .nil
  | cons e' r ih=>exact .cons e' ih
theorem TupsAt.filter {H:Hp} {ts:List Addr} {rows:List (List V)} (h:TupsAt H ts rows) (p:Addr→Bool) (q:List V→Bool) (hpq:∀ t xs,H t=some (.tup xs)→t∈ts→p t=q xs):TupsAt H (ts.filter p) (rows.filter q):=by
  unfold TupsAt at h ⊢
  induction h with
  | nil=>exact .nil
  | @cons t xs ts rows e r ih =>
    have ih':=ih fun t' xs' e' m'=>hpq t' xs' e' (List.mem_cons_of_mem _ m')
    have hp:=hpq t xs e List.mem_cons_self
    by_cases hq:q xs=true
    · rw [List.filter_cons_of_pos hq,List.filter_cons_of_pos (hp.trans hq)]
      exact .cons e ih'
    · rw [List.filter_cons_of_neg hq,List.filter_cons_of_neg (by rw [hp];exact hq)]
      exact ih'
theorem TupsAt.take {H:Hp} {ts:List Addr} {rows:List (List V)} (h:TupsAt H ts rows) (n:Nat):TupsAt H (ts.take n) (rows.take n):=by
  unfold TupsAt at h ⊢
  induction h generalizing n with
  | nil=>simp;exact .nil
  | cons e r ih =>
    cases n with
    | zero=>exact .nil
    | succ n=>exact .cons e (ih n)
end L2

set_option Elab.async false
set_option linter.all false
set_option maxRecDepth 100000
set_option maxHeartbeats 4000000
namespace L2
open PySem PySem.Spec PyProof.Rows
abbrev Ltr:=List Nat×Option (List Nat)×Int
def wV:Option (List Nat)→V
  | none=>.non
  | some l=>.str (S l)
def letV (x:Ltr):List V:=[.str (S x.1),wV x.2.1,.int x.2.2]
structure RowM where
  first:Int
  last:Int
  drawn:Int
  L:Int→Option Ltr
def row0:RowM:=⟨0,0,0,fun _=>none⟩
def rowF (M:RowM) (d:Addr):List (Str×V):=[("first",.int M.first),("end",.int M.last),("drawn",.int M.drawn),("letters",.ref d)]
def LetVal (H:Hp):Option Ltr→V→Prop
  | none,v=>v=.non
  | some x,v=>∃ t,v=.ref t∧H t=some (.tup (letV x))
def LetsAt (H:Hp) (kvs:List (Key×V)) (L:Int→Option Ltr):Prop:=∀ p:Int,LetVal H (L p) ((valV kvs (.inl p)).getD .non)∧((valV kvs (.inl p)).isSome=(L p).isSome)
theorem LetVal.chg {A:List Addr} {H H':Hp} {o:Option Ltr} {v:V} (c:Chg A H H') (h:LetVal H o v):LetVal H' o v:=by
  cases o with
  | none=>exact h
  | some x=>obtain ⟨t,e,ht⟩:=h;exact ⟨t,e,c.tup _ _ ht⟩
theorem LetsAt.chg {A:List Addr} {H H':Hp} {kvs:List (Key×V)} {L:Int→Option Ltr} (c:Chg A H H') (h:LetsAt H kvs L):LetsAt H' kvs L:=fun p=>⟨(h p).1.chg c,(h p).2⟩
theorem LetsAt.none {H:Hp} {kvs:List (Key×V)} {L:Int→Option Ltr} (h:LetsAt H kvs L) {p:Int} (e:L p=Option.none):valV kvs (.inl p)=Option.none:=by
  have:=(h p).2
  rw [e] at this
  simpa using this
theorem LetsAt.some {H:Hp} {kvs:List (Key×V)} {L:Int→Option Ltr} (h:LetsAt H kvs L) {p:Int} {x:Ltr} (e:L p=Option.some x):∃ t,valV kvs (.inl p)=Option.some (.ref t)∧H t=Option.some (.tup (letV x)):=by
  obtain ⟨h1,h2⟩:=h p
  rw [e] at h1 h2
  obtain ⟨v,hv⟩:=Option.isSome_iff_exists.mp (h2.trans rfl)
  rw [hv] at h1
  obtain ⟨t,et,ht⟩:=h1
  refine ⟨t,?_,ht⟩
  rw [hv]
  exact congrArg Option.some et
theorem LetsAt.put {H:Hp} {kvs:List (Key×V)} {L:Int→Option Ltr} (h:LetsAt H kvs L) {p:Int} {x:Ltr} {t:Addr} (ht:H t=Option.some (.tup (letV x))):LetsAt H (putK kvs (.inl p) (.ref t)) (fun q=>if q=p then Option.some x else L q):=by
  intro q
  rw [valV_put]
  by_cases e:q=p
  · subst e
    rw [if_pos rfl]
    dsimp only
    rw [if_pos rfl]
    exact ⟨⟨t,rfl,ht⟩,rfl⟩
  · have e':¬ (Sum.inl q:Key)=Sum.inl p:=fun z=>e (Sum.inl.inj z)
    rw [if_neg e']
    dsimp only
    rw [if_neg e]
    exact h q
theorem valV_drop {κ:Type} [DecidableEq κ] (kvs:List (κ×V)) (k j:κ):valV (dropK kvs k) j=if j=k then Option.none else valV kvs j:=by
  induction kvs with
  | nil=>rw [show dropK ([]:List (κ×V)) k=[] from rfl,valV_nil];split<;>rfl
  | cons p r ih =>
    by_cases e:p.1=k
    · rw [dropK_pos e,ih]
      by_cases ej:j=k
      · rw [if_pos ej,if_pos ej]
      · rw [if_neg ej,if_neg ej,valV_neg (fun z=>ej (z.symm.trans e))]
    · rw [dropK_neg e]
      by_cases ep:p.1=j
      · rw [valV_pos ep,valV_pos ep,if_neg (fun z=>e (ep.trans z))]
      · rw [valV_neg ep,valV_neg ep,ih]
theorem LetsAt.drop {H:Hp} {kvs:List (Key×V)} {L:Int→Option Ltr} (h:LetsAt H kvs L) (p:Int):LetsAt H (dropK kvs (.inl p)) (fun q=>if q=p then Option.none else L q):=by
  intro q
  rw [valV_drop]
  by_cases e:q=p
  · subst e
    rw [if_pos rfl]
    dsimp only
    rw [if_pos rfl]
    exact ⟨rfl,rfl⟩
  · have e':¬ (Sum.inl q:Key)=Sum.inl p:=fun z=>e (Sum.inl.inj z)
    rw [if_neg e']
    dsimp only
    rw [if_neg e]
    exact h q
structure RowAt (C:Addr) (H:Hp) (r d:Addr) (M:RowM):Prop where
  obj:∃ dx,H r=some (.ins C dx (rowF M d))
  dict:∃ kvs,H d=some (.dK kvs)∧(kvs.length:Int)≤M.last∧LetsAt H kvs M.L
  f0:0≤M.first
  fl:M.first≤M.last
  dr:0≤M.drawn
  within:∀ p,(M.L p).isSome=true→M.first≤p∧p < M.last
theorem RowAt.chg {A:List Addr} {C:Addr} {H H':Hp} {r d:Addr} {M:RowM} (h:RowAt C H r d M) (c:Chg A H H') (hr:r∉A) (hd:d∉A):RowAt C H' r d M:=by
  obtain ⟨dx,e⟩:=h.obj
  obtain ⟨kvs,e2,l,t⟩:=h.dict
  exact ⟨⟨dx,c.keep _ _ e hr⟩,⟨kvs,c.keep _ _ e2 hd,l,t.chg c⟩,h.f0,h.fl,h.dr,h.within⟩
theorem RowAt.ne {C:Addr} {H:Hp} {r d:Addr} {M:RowM} (h:RowAt C H r d M):r≠d:=by
  obtain ⟨dx,e⟩:=h.obj
  obtain ⟨kvs,e2,_⟩:=h.dict
  exact ne_of e e2 (by intro z;cases z)
def RowM.add (M:RowM) (x:Ltr):RowM:={ M with last:=M.last+1,L:=fun q=>if q=M.last then some x else M.L q }
def RowM.out (M:RowM) (p:Int):RowM:={ M with L:=fun q=>if q=p then none else M.L q }
def RowM.upto (M:RowM) (p:Int):Int:=min p M.last
def RowM.standing (M:RowM) (lo:Int) (n:Nat):List Int:=((List.range n).map fun (i:Nat)=>lo+(i:Int)).filter fun q=>(M.L q).isSome
def okL (x:Ltr):Prop:=okS x.1∧∀ w,x.2.1=some w→okS w
def wordD:Option (List Nat)→PyData
  | none=>.none
  | some l=>.str (S l)
def letD (x:Ltr):PyData:=.tuple [.str (S x.1),wordD x.2.1,.int x.2.2]
theorem den_word {K:PySem.W.Frag} {H:Hp} (o:Option (List Nat)):Den K H (wV o) (wordD o):=by
  cases o with
  | none=>exact .non
  | some l=>exact .str _
theorem den_let {K:PySem.W.Frag} {H:Hp} {t:Addr} {x:Ltr} (h:H t=some (.tup (letV x))):Den K H (.ref t) (letD x):=.tup (.inl (.inl h)) (.cons (.str _) (.cons (den_word _) (.cons (.int _) .nil)))
theorem wd_word (n:Nat) {o:Option (List Nat)} (h:∀ w,o=some w→okS w):wd n (wordD o):=by
  cases o with
  | none=>exact wd_non n
  | some l=>exact wd_str n (h l rfl)
theorem wd_let {x:Ltr} (h:okL x):wd 1 (letD x):=wd_tuple fun d hd=>by
  simp only [List.mem_cons,List.not_mem_nil,or_false] at hd
  rcases hd with rfl | rfl | rfl
  · exact wd_str 0 h.1
  · exact wd_word 0 h.2
  · exact wd_int 0 _
theorem LetVal.neq {K:PySem.W.Frag} {H:Hp} {Q:VK} {o:Option Ltr} {v v':V} (h:LetVal H o v) (h':LetVal H o v') (ok:∀ x,o=some x→okL x) (q:Q (.bl false) H):rNeq K v v' H Q:=by
  cases o with
  | none =>
    cases (show v=.non from h)
    cases (show v'=.non from h')
    rw [rNeq_nn]
    exact q
  | some x =>
    obtain ⟨t,rfl,ht⟩:=h
    obtain ⟨t',rfl,ht'⟩:=h'
    exact rNeq_same (den_let ht) (den_let ht') (wd_let (ok x rfl)) rfl q
theorem standing_mem {M:RowM} {lo:Int} {n:Nat} {z:Int}:z∈M.standing lo n↔(lo≤z∧z < lo+(n:Int))∧(M.L z).isSome=true:=by
  unfold RowM.standing
  rw [List.mem_filter,List.mem_map]
  constructor
  · rintro ⟨⟨i,hi,rfl⟩,h⟩
    have:=List.mem_range.mp hi
    exact ⟨by omega,h⟩
  · rintro ⟨⟨h1,h2⟩,h⟩
    exact ⟨⟨(z - lo).toNat,List.mem_range.mpr (by omega),by omega⟩,h⟩
theorem standing_succ (M:RowM) (lo:Int) (i:Nat):M.standing lo (i+1)=M.standing lo i++(if (M.L (lo+(i:Int))).isSome=true then [lo+(i:Int)] else []):=by
  unfold RowM.standing
  rw [List.range_succ,List.map_append,List.filter_append]
  congr 1
  simp only [List.map_cons,List.map_nil,List.filter_cons,List.filter_nil]
theorem standing_pre (M:RowM) (lo:Int) {i n:Nat} (h:i≤n):∃ more,M.standing lo n=M.standing lo i++more:=by
  obtain ⟨k,rfl⟩:∃ k,n=i+k:=⟨n - i,by omega⟩
  clear h
  induction k with
  | zero=>exact ⟨[],by simp⟩
  | succ k ih =>
    obtain ⟨m,hm⟩:=ih
    rw [← Nat.add_assoc,standing_succ,hm,List.append_assoc]
    exact ⟨_,rfl⟩
theorem standing_len (M:RowM) (lo:Int) (n:Nat):(M.standing lo n).length≤n:=by
  unfold RowM.standing
  exact Nat.le_trans (List.length_filter_le _ _) (by simp)
def RowM.rowV (M:RowM) (p:Int):List V:=match M.L p with
  | some x=>[.int p,.str (S x.1),wV x.2.1]
  | none=>[]
def RowM.seenP (M:RowM) (start limit most:Int):List Int:=(M.standing (max start M.first) (min limit M.last - max start M.first).toNat).take most.toNat
def sp_row_seen (C:Addr):Sp:=fun vs H Q _=>∃ (r d:Addr) (M:RowM) (st li mo:Int),vs=[.ref r,.int st,.int li,.int mo]∧RowAt C H r d M∧M.last≤100000∧0≤st∧st≤10 ^ 12∧0≤li∧0≤mo ∧
  ∀ D H',H D=none→Same H H'→LTups H' D ((M.seenP st li mo).map M.rowV)→Q (.ref D) H'
def sp_row_init (C:Addr):Sp:=fun vs H Q _=>∃ x dx,vs=[.ref x]∧H x=some (.ins C dx [])∧∀ d H',H d=none→d≠x→Chg [x] H H'→RowAt C H' x d row0→Q .non H'
def sp_row_add (C:Addr):Sp:=fun vs H Q _=>∃ (r d:Addr) (M:RowM) (x:Ltr),vs=[.ref r,.str (S x.1),wV x.2.1,.int x.2.2]∧RowAt C H r d M∧M.last≤100000∧∀ H',Chg [r,d] H H'→RowAt C H' r d (M.add x)→Q (.int M.last) H'
def sp_row_at (C:Addr):Sp:=fun vs H Q _=>∃ (r d:Addr) (M:RowM) (p:Int),vs=[.ref r,.int p]∧RowAt C H r d M∧∀ v,LetVal H (M.L p) v→Q v H
theorem row_make {C:Addr} {H:Hp} {P:Addr→Hp→Prop} (h:∀ x d H',H x=none→H d=none→x≠d→Same H H'→RowAt C H' x d row0→P x H') :
    ∀ (x dx:Addr),H x=none→H dx=none→dx≠x→(∃ x_1,upd (upd H dx (HO.own x)) x (HO.ins C dx []) x=some (HO.ins C x_1 [])) ∧
      ∀ (d:Addr) (H':Hp),upd (upd H dx (HO.own x)) x (HO.ins C dx []) d=none→d≠x→Chg [x] (upd (upd H dx (HO.own x)) x (HO.ins C dx [])) H'→RowAt C H' x d row0→P x H':=by
  intro x dx hx hdx hne
  refine ⟨⟨dx,upd_same⟩,fun d H' hd hdx' c R=>?_⟩
  have hd1:d≠dx:=fun z=>by rw [upd_ne hdx',z,upd_same] at hd;cases hd
  rw [upd_ne hdx',upd_ne hd1] at hd
  refine h x d H' hx hd (Ne.symm hdx') (fun b o hb=>?_) R
  have hb1:b≠x:=ne_of_none hb hx
  have hb2:b≠dx:=ne_of_none hb hdx
  exact c.keep _ _ (by rw [upd_ne hb1,upd_ne hb2];exact hb) (by simp [hb1])
theorem rowF_first (M:RowM) (d:Addr):(rowF M d).lookup (Str.ofString "first")=some (.int M.first):=rfl
theorem rowF_end (M:RowM) (d:Addr):(rowF M d).lookup (Str.ofString "end")=some (.int M.last):=rfl
theorem rowF_letters (M:RowM) (d:Addr):(rowF M d).lookup (Str.ofString "letters")=some (.ref d):=rfl
theorem rowF_at (M:RowM) (d:Addr):(rowF M d).lookup (Str.ofString "at")=none:=rfl
theorem rowF_seen (M:RowM) (d:Addr):(rowF M d).lookup (Str.ofString "seen")=none:=rfl
end L2

set_option Elab.async false
set_option linter.all false
set_option maxRecDepth 100000
set_option maxHeartbeats 4000000
namespace L2
open PySem PySem.Spec PyProof.Rows

section
variable {X:Cx}
def rngV (lo:Int) (n:Nat):List V:=(List.range n).map fun (i:Nat)=>V.int (lo+(i:Int))
def rngI (lo:Int) (n:Nat):List Int:=(List.range n).map fun (i:Nat)=>lo+(i:Int)
theorem rngV_eq (lo:Int) (n:Nat):rngV lo n=(rngI lo n).map V.int:=by simp [rngV,rngI]
def tLR1 (ta:TA):TE:=fun σ H Q=>ta σ H fun vs H1=>∃ j:Int,vs=[.int j]∧-(2 ^ 62)≤j∧j≤sizeLine∧∀ l,H1 l=none→Q (.ref l) (upd H1 l (.lst (rngV 0 j.toNat)))
def tLR2 (ta:TA):TE:=fun σ H Q=>ta σ H fun vs H1=>∃ i j:Int,vs=[.int i,.int j]∧(-(2 ^ 62)≤i∧i < 2 ^ 62∧-(2 ^ 62)≤j∧j < 2 ^ 62)∧j - i≤sizeLine∧∀ l,H1 l=none→Q (.ref l) (upd H1 l (.lst (rngV i (j - i).toNat)))
theorem vals_items {lo:Int} {n:Nat} {acc:Array Value} (h:ItemsOf (fun i v=>∃ t,v=.int (lo+i * 1) t) acc n):Vals (rngV lo n) acc.toList:=by
  obtain ⟨hs,hv⟩:=h
  have key:∀ (k:Nat) (l:List Value),l.length=k→∀ lo:Int,(∀ (j:Nat) v,l[j]?=some v→∃ t,v=Value.int (lo+(j:Int) * 1) t)→Vals (rngV lo k) l:=by
    intro k
    induction k with
    | zero=>intro l hl lo _;cases l with
      | nil=>exact .nil
      | cons=>cases hl
    | succ k ih =>
      intro l hl lo hv
      cases l with
      | nil=>cases hl
      | cons u us =>
        have e:rngV lo (k+1)=V.int lo::rngV (lo+1) k:=by
          unfold rngV
          rw [List.range_succ_eq_map,List.map_cons,List.map_map]
          congr 1
          · simp
          · refine List.map_congr_left fun a _=>?_
            simp only [Function.comp]
            congr 1
            push_cast
            omega
        rw [e]
        obtain ⟨t,ht⟩:=hv 0 u rfl
        refine .cons ⟨t,by rw [ht];simp⟩ (ih us (by simpa using hl) (lo+1) fun j v hj=>?_)
        obtain ⟨t',ht'⟩:=hv (j+1) v (by simpa using hj)
        exact ⟨t',by rw [ht'];congr 1;push_cast;omega⟩
  exact key n acc.toList (by simpa using hs) lo fun j v hj=>by simpa using hv j v (by simpa using hj)
theorem list_rangeH {pins:List (Addr×Obj)} {σ:St} {H:Hp} {s:Shared} {Q:VK} {E:Value→Shared→Prop} {lo hi:Int} {t u v:Tok} {tk:Nat} (hc:X.calm=true) (I:Inv X pins σ H s) (h1:-(2 ^ 62)≤lo) (h2:lo < 2 ^ 62) (h3:-(2 ^ 62)≤hi) (h4:hi < 2 ^ 62)
    (hn:hi - lo≤sizeLine) (q:∀ l,H l=none→Q (.ref l) (upd H l (.lst (rngV lo (hi - lo).toNat)))) :
    wpAny (model X.prog X.w) X.A (call (.type "list") [.ref s.heap.objs.size]) (EP X pins σ Q) E { s with heap:=s.heap.push { cls:=.type "range",data:=.fields #[.int lo t,.int hi u,.int 1 v] },toks:=tk }:=by
  have I1:Inv X pins σ H { s with heap:=s.heap.push { cls:=.type "range",data:=.fields #[.int lo t,.int hi u,.int 1 v] },toks:=tk }:=I.kept fun b o e=>Heap.get?_push_of_some _ e
  have e2:Builtin.Range.rangeSize lo hi 1=(((hi - lo).toNat:Nat):Int):=by rw [rangeSize_one];split<;>omega
  have hsl:sizeLine≤2 ^ 24:=by decide
  refine call_list_range (n:=(hi - lo).toNat) (I.ok.hd hc) (IsRange.new ..) (small_one h1 h2 h3 h4) e2 (by omega) fun h' tk' acc' c' kp e hacc=>?_
  have hv:=vals_items hacc
  exact ⟨.ref _,_,I1.laid (t':=tk') kp (Nat.le_refl _) (show ObjOk X.prog X.w _ h' _ (.lst _) from ⟨by rw [rngV];simp;omega,acc'.toList,c',hv,e⟩),rfl,q _ (I1.hok.fresh (Nat.le_refl _))⟩
theorem pe_listRange2 {a b:Expr} {ta:TA} {p p' pos pos':Pos} (hc:X.calm=true) (hg':Gl X "list") (hm':X.mg "list" = none) (hg:Gl X "range") (hm:X.mg "range" = none) (ha:PA X [a,b] ta)
    (hs:starEach [a,b] X.env=[(false,eval a X.env),(false,eval b X.env)]:=by rfl) (hs2:starEach [b] X.env=[(false,eval b X.env)]:=by rfl)
    (he:starEach [.Call (.Name "range" p) [a,b] [] pos] X.env=[(false,eval (.Call (.Name "range" p) [a,b] [] pos) X.env)]:=by rfl) :
    PE X (.Call (.Name "list" p') [.Call (.Name "range" p) [a,b] [] pos] [] pos') (tLR2 ta):=by
  intro pins s σ H Q I h
  refine wpAny_Call_Name_kw (ld_blt I hg' hm' boot_list ?_ (by decide) (by decide))
  refine PyProof.Rows.callWith_type1 ?_ he rfl
  rw [he]
  show wpAny _ _ (spliced [(false,eval (.Call (.Name "range" p) [a,b] [] pos) X.env)]) _ _ s
  refine Calls.spliced_cons (Call_ (ld_blt I hg hm boot_range (PyProof.Rows.callWith_type1 (thn (ha pos pins s σ H _ I h) fun us s1 ⟨vs,H1,I1,r1,q1⟩=>?_) (by rw [hs,hs2]) (by rw [hs2];rfl))))
  obtain ⟨i,j,e,⟨q1,q2,q3,q4⟩,q5,q⟩:=q1
  subst e
  cases r1 with
  | cons r rr =>
    cases rr with
    | cons r' rr =>
      cases rr
      obtain ⟨t,rfl⟩:=r
      obtain ⟨t',rfl⟩:=r'
      exact call_range_2 (Calls.spliced_nil (list_rangeH hc I1 q1 q2 q3 q4 q5 q))
end

section
variable {prog:Program} {w:World} {A:Around} {s:Shared}
end
section
variable {prog:Program} {w:World} {A:Around} {E:Value→Shared→Prop} {s:Shared}
end
section
variable {X:Cx}
end
end L2

set_option Elab.async false
set_option linter.all false
set_option maxRecDepth 100000
set_option maxHeartbeats 4000000
namespace L2
open PySem PySem.Spec PyProof.Rows
def hideT (xs:List Str) (y:Str):Str:=if y∈xs then Str.empty else y
abbrev blkT (X:Cx) (xs:List Str) (scope:Scope) (M:List Str) (C:Addr) (s₀:Shared) (H₀:Hp) (fp:List Addr):Cx :=
  { X with N:=xs++M,s₀:=s₀,H₀:=H₀,env:=compEnvC scope (closOf X.env.cells scope.names []) C X.env,outer:=X.stack,stack:=X.stack,ex:=fp,fn:=fun _=>false,pn:=[],xe:=fun _ _=>False }
structure CompOkT (N M:List Str) (sc:Scope) (xs:List Str) (scope:Scope):Prop where
  kind:scope.kind=.function
  cell:∀ y∈scope.names,y.2≠.cell
  names:∀ y∈scope.names,y.2=.local→scope.names.lookup y.1=some .local
  free:∀ y∈scope.names,y.2=.free→sc.names.lookup y.1=some .cell∨sc.names.lookup y.1=some .free
  hid:N.map (hideT xs)=M
  others:∀ y∈M,scope.names.lookup y≠some .local
  void:scope.names.lookup Str.empty=none
section
variable {X:Cx} {pins:List (Addr×Obj)} {σ:St} {H2:Hp} {s2:Shared} {E:Value→Shared→Prop}
theorem blkT_ok {N M:List Str} {sc scope:Scope} {xs:List Str} {C:Addr} {H:Hp} {s:Shared} {fp:List Addr} (I:Inv X pins σ H s) (hsc:X.env.scope=sc) (O:CompOkT N M sc xs scope) (hC:s.heap.objs.size≤C)
    (hf:∀ b∈fp,FpOk X pins H b) (hlt:∀ b∈fp,b < s.heap.objs.size):(blkT X xs scope M C s H fp).Ok where
  mod:=I.ok.mod
  kind:=O.kind
  glob:=I.ok.glob
  blt:=I.ok.blt
  above:=hC
  inj:=fun y z c e1 e2=>I.ok.inj y z c (closOf_sound _ _ (fun _ _ z=>by simp at z) _ _ e1) (closOf_sound _ _ (fun _ _ z=>by simp at z) _ _ e2)
  has:=fun y hy=>by
    have q:scope.names.lookup y=some .free:=by
      rcases hy with hy | hy
      · rcases relabel_kind _ _ _ hy with z | ⟨_,z⟩
        · exact absurd rfl (O.cell _ (lookup_mem z))
        · exact z
      · rcases relabel_kind _ _ _ hy with z | ⟨z,_⟩
        · exact z
        · cases z
    have q2:=O.free _ (lookup_mem q) rfl
    rw [← hsc] at q2
    obtain ⟨c,hc⟩:=I.ok.has y q2
    exact Option.isSome_iff_exists.mp (closOf_has _ _ _ (lookup_mem q) (by rw [hc];rfl))
  cab:=fun y c h=>by cases h
  hd:=I.ok.hd
  frames:=I.ok.frames
  stk:=.inl rfl
  exf:=fun b hb=>⟨Nat.ne_of_lt (Nat.lt_of_lt_of_le (hlt b hb) hC),fun y c e=>(hf b hb).2.2.2.2.1 y c (closOf_sound _ _ (fun _ _ z=>by simp at z) _ _ e)⟩
  bs:=I.bs
  bsz:=Nat.le_trans I.ok.bsz I.sz
  noex:=fun b o e hb=>by
    rcases (hf b hb).2.2.2.1 with z | z
    · exact I.ok.noex b o e z
    · exact absurd (Nat.lt_of_lt_of_le (Heap.lt_size (I.ok.bs b o e).1) z) (Nat.lt_irrefl _)
  exfs:=fun b hb z=>by
    obtain ⟨_,f1,f2,_⟩:=hf b hb
    exact (List.mem_cons.mp (I.stkSub b z)).elim f1 f2
  funs:=I.stack
  frf:=I.stkFree

theorem blkT_inv {N M:List Str} {sc scope:Scope} {xs:List Str} {H:Hp} {s:Shared} {fp:List Addr} {h':Heap} {tk:Nat} (I:Inv X pins σ H s) (hX:X.N=N) (hsc:X.env.scope=sc) (O:CompOkT N M sc xs scope)
    (hf:∀ b∈fp,FpOk X pins H b) (hlt:∀ b∈fp,b < s.heap.objs.size) {m:Str→Option Value} (hns:h'.Ns s.heap.objs.size m) (k:∀ b u,s.heap.get? b=some u→h'.get? b=some u) :
    Inv (blkT X xs scope M s.heap.objs.size s H fp) [] (List.replicate xs.length none++σ) H { s with heap:=h',toks:=tk } where
  ok:=blkT_ok I hsc O (Nat.le_refl _) hf hlt
  os:=rfl
  bare:=I.bare
  base:=Un.kept k
  loc:=by
    refine ⟨m,hns,fun j y v e1 e2 e3=>?_⟩
    by_cases hj:j < xs.length
    · rw [List.getElem?_append_left (by simpa using hj),List.getElem?_replicate,if_pos hj] at e2
      cases e2
    · obtain ⟨i,rfl⟩:∃ i,j=xs.length+i:=⟨j - xs.length,by omega⟩
      have e1':M[i]?=some y:=by
        have:=e1
        rw [List.getElem?_append_right (by omega)] at this
        simpa using this
      have e2':σ[i]?=some (some v):=by
        rw [List.getElem?_append_right (by simp)] at e2
        simpa using e2
      have hyM:y∈M:=List.mem_of_getElem? e1'
      have hfree:scope.names.lookup y=some .free:=by
        rcases e3 with e3 | e3 | e3
        · rcases relabel_kind _ _ _ e3 with z | ⟨z,_⟩
          · exact absurd z (O.others y hyM)
          · cases z
        · rcases relabel_kind _ _ _ e3 with z | ⟨_,z⟩
          · exact absurd rfl (O.cell _ (lookup_mem z))
          · exact z
        · rcases relabel_kind _ _ _ e3 with z | ⟨z,_⟩
          · exact z
          · cases z
      have hN:X.N[i]?=some y:=by
        rw [hX]
        rw [← O.hid,List.getElem?_map] at e1'
        cases q:N[i]? with
        | none=>rw [q] at e1';cases e1'
        | some z =>
          rw [q] at e1'
          have e4:hideT xs z=y:=Option.some.inj e1'
          unfold hideT at e4
          by_cases hz:z∈xs
          · rw [if_pos hz] at e4
            rw [← e4,O.void] at hfree
            cases hfree
          · rw [if_neg hz] at e4
            rw [e4]
      have q2:=O.free _ (lookup_mem hfree) rfl
      rw [← hsc] at q2
      have hvis:Vis X.env.scope y:=q2.elim (fun z=>.inr (.inl z)) fun z=>.inr (.inr z)
      obtain ⟨m0,hn0,hl⟩:=I.loc
      obtain ⟨u,r,l⟩:=hl i y v hN e2' hvis
      refine ⟨u,r,?_⟩
      rcases l with ⟨l,_⟩ | ⟨l,c,hc,z⟩
      · exfalso
        have l':X.env.scope.names.lookup y=some .local:=l
        rcases q2 with q2 | q2
        · have q2':X.env.scope.names.lookup y=some .cell:=q2
          rw [l'] at q2';cases q2'
        · have q2':X.env.scope.names.lookup y=some .free:=q2
          rw [l'] at q2';cases q2'
      · have hsome:=closOf_has scope.names [] y (lookup_mem hfree) (cells:=X.env.cells) (by rw [hc];rfl)
        obtain ⟨c',hc'⟩:=Option.isSome_iff_exists.mp hsome
        have e5:=closOf_sound _ _ (fun _ _ z=>by simp at z) _ _ hc'
        rw [hc] at e5
        cases e5
        obtain ⟨o,ho,hd⟩:=z
        refine .inr ⟨?_,c,hc',o,k c o ho,hd⟩
        rcases relabel_free (env:=X.env) _ _ hfree with z | z
        · exact .inr z
        · exact .inl z
  cell:=fun y c e=>by
    obtain ⟨v,o,ho,hd⟩:=I.cell y c (closOf_sound _ _ (fun _ _ z=>by simp at z) _ _ e)
    exact ⟨v,o,k c o ho,hd⟩
  free:=I.hok.fresh (Nat.le_refl _)
  freeC:=fun y c e=>I.freeC y c (closOf_sound _ _ (fun _ _ z=>by simp at z) _ _ e)
  pin:=fun p hp=>by simp at hp
  hok:=I.hok.kept k
  len:=by
    have e:N.length=M.length:=by rw [← O.hid,List.length_map]
    rw [List.length_append,List.length_replicate,List.length_append]
    rw [I.len,hX,e]

variable {elt iter tg:Expr} {ifs:List Expr} {xs:List Str} {pos:Pos} {g:TG} {N M:List Str} {sc scope:Scope} {tt:TT} {te:TE} {it:Addr} {fp:List Addr} {tn:Nat→Heap→Prop} {J:It}
theorem comp_blockT (hcalm:X.calm=true) (hX:X.N=N) (hsc:X.env.scope=sc) (O:CompOkT N M sc xs scope)
    (hts:∀ (C:Addr) (s₀:Shared) (H₀:Hp) (fp:List Addr) (pins:List (Addr×Obj)) (s:Shared) (σ:St) (H:Hp) (Q:Bool→Hp→Prop),Inv (blkT X xs scope M C s₀ H₀ fp) pins σ H s→tt σ H Q →
      wpAny (model X.prog X.w) X.A (forIn ifs true fun c r=>if r=true then do let ok ← isTrue c (blkT X xs scope M C s₀ H₀ fp).env (eval c (blkT X xs scope M C s₀ H₀ fp).env);pure (ForInStep.yield ok) else pure (ForInStep.yield r)) (TP (blkT X xs scope M C s₀ H₀ fp) pins σ Q) (fun _ _=>False) s)
    (hel:∀ (C:Addr) (s₀:Shared) (H₀:Hp) (fp:List Addr),PE (blkT X xs scope M C s₀ H₀ fp) elt te)
    (hg:∀ (C:Addr) (s₀:Shared) (H₀:Hp) (fp:List Addr),PG (blkT X xs scope M C s₀ H₀ fp) tg g)
    (I2:Inv X pins σ H2 s2) (T:Turn X.prog X.w X.K tg J fp it tn) (st2:tn 0 s2.heap) (f2:∀ b∈fp,FpOk X pins H2 b) {Qd:Addr→Hp→Prop}
    (q:∀ D,H2 D=none→∃ W:Nat→Nat→List V→Hp→Prop,(∃ m,W 0 m [] (upd H2 D (.lst [])))∧∀ i m ys H3,W i m ys H3 →
      (J.stop i H3∧H3 D=some (.lst ys)∧Qd D H3)∨(J.go i H3∧ys.length < sizeLine∧∀ x H4,J.yld i H3 x H4→∀ o:St,o.length=xs.length→g x (o++σ) H4 fun σ' H4'=>(∃ o':St,o'.length=xs.length∧σ'=o'++σ)∧tt σ' H4' fun b H5 =>
        if b=true then te σ' H5 fun y H6=>H6 D=some (.lst ys)∧∃ m',m' < m∧W (i+1) m' (ys++[y]) (upd H6 D (.lst (ys++[y]))) else ∃ m',m' < m∧W (i+1) m' ys H5))
    {RR:Value→Addr→Result→Shared→Prop} (hRR:∀ D C H' s',Inv X pins σ H' s'→FpOk X pins H' C→(∃ m,s'.heap.Ns C m)→Qd D H'→RR (.ref D) C (.ok .next) s') :
    wpAny (model X.prog X.w) X.A (newList []) (fun acc s₃=>wpAny (model X.prog X.w) X.A (newFunctionEnv scope X.env.globals (closOf X.env.cells scope.names []) [] X.env.qual none .none (some X.env)) (fun cenv s₄ =>
      codeAny (model X.prog X.w) X.A (.compStart (.ListComp elt [⟨tg,iter,ifs,0⟩] scope pos) 0 (.ref it) acc { cenv with scope:=relabel scope X.env }) (RR acc cenv.locals) s₄) E s₃) E s2:=by
  have hlt2:∀ b∈fp,b < s2.heap.objs.size:=fun b hb=>let ⟨o,e,_⟩:=T.obj _ _ st2 b hb;Heap.lt_size e
  have nD:H2 s2.heap.objs.size=none:=I2.hok.fresh (Nat.le_refl _)
  obtain ⟨W,⟨m0,w0⟩,turn⟩:=q s2.heap.objs.size nD
  have I3:=I2.lnew (its:=[]) (ys:=[]) (t':=s2.toks) .nil (Nat.zero_le _)
  refine wpAny_newObj_type (wpAny_newFunctionEnv O.cell (by intro y hy;simp at hy) (fun h₁ hns₁ hsb₁=>?_) O.kind)
  dsimp only at hns₁ hsb₁ ⊢
  generalize hs3:({ s2 with heap:=s2.heap.push { cls:=.type "list",data:=.seq ([]:List Value).toArray },toks:=s2.toks }:Shared)=s3 at I3
  have eh:s3.heap=s2.heap.push { cls:=.type "list",data:=.seq ([]:List Value).toArray }:=by rw [← hs3]
  have es:s3={ s2 with heap:=s2.heap.push { cls:=.type "list",data:=.seq ([]:List Value).toArray } }:=hs3.symm
  have k1:∀ b u,s3.heap.get? b=some u→h₁.get? b=some u:=fun b u e=>by
    refine hsb₁.extBut b u ?_ (Heap.get?_push_of_some _ (by rw [← eh];exact e))
    rw [← eh]
    exact Nat.ne_of_lt (Heap.lt_size e)
  have f3:∀ b∈fp,FpOk X pins (upd H2 s2.heap.objs.size (.lst [])) b:=fun b hb=>⟨by rw [upd_ne (Nat.ne_of_lt (hlt2 b hb))];exact (f2 b hb).1,(f2 b hb).2⟩
  have hlt3:∀ b∈fp,b < s3.heap.objs.size:=fun b hb=>by
    rw [eh,Heap.size_push]
    exact Nat.lt_succ_of_lt (hlt2 b hb)
  have st3:tn 0 h₁:=T.keep _ _ _ st2 fun b hb o e=>k1 b o (by rw [eh];exact Heap.get?_push_of_some _ e)
  have hns3:h₁.Ns s3.heap.objs.size (fun x=>([]:List (Str×Value)).reverse.lookup x):=by rw [eh];exact hns₁
  have IB:=blkT_inv (tk:=s2.toks) I3 hX hsc O f3 hlt3 hns3 k1
  have eC:s3.heap.objs.size=(s2.heap.push { cls:=.type "list",data:=.seq ([]:List Value).toArray }).objs.size:=by rw [eh]
  have stat:∀ {H':Hp},(∀ b∈fp,H' b=none)→∀ b∈fp,FpOk (blkT X xs scope M s3.heap.objs.size s3 (upd H2 s2.heap.objs.size (.lst [])) fp) [] H' b:=fun hn b hb=>by
    obtain ⟨g0,g1,g2,g3,g4,g5⟩:=f3 b hb
    exact ⟨hn b hb,Nat.ne_of_lt (hlt3 b hb),fun z=>(List.mem_cons.mp (I3.stkSub b z)).elim g1 g2,.inl hb,fun y c e=>g4 y c (closOf_sound _ _ (fun _ _ z=>by simp at z) _ _ e),fun p hp=>by simp at hp⟩
  have loop:∀ s4:Shared,s4={ s3 with heap:=h₁,toks:=s2.toks } →
      codeAny (model X.prog X.w) X.A (.compLoop (.ListComp elt [⟨tg,iter,ifs,0⟩] scope pos) 0 (.ref it) (.ref s2.heap.objs.size) (compEnvC scope (closOf X.env.cells scope.names []) s3.heap.objs.size X.env))
        (RR (.ref s2.heap.objs.size) s3.heap.objs.size) s4:=by
    rintro s4 rfl
    refine compLoop_go (fun n s'=>∃ i ys,∃ o:St,∃ H',o.length=xs.length∧Inv (blkT X xs scope M s3.heap.objs.size s3 (upd H2 s2.heap.objs.size (.lst [])) fp) [] (o++σ) H' s'∧tn i s'.heap∧(∀ b∈fp,H' b=none)∧W i n ys H') ?_ m0
      ⟨0,[],_,_,List.length_replicate,IB,st3,fun b hb=>(f3 b hb).1,w0⟩
    rintro n s5 ⟨i,ys,o,H5,lo,I5,st5,fr5,w5⟩
    rcases turn i n ys H5 w5 with ⟨stop,hD,qd⟩ | ⟨go,hz,step⟩
    · refine thn (T.done (blkT X xs scope M s3.heap.objs.size s3 (upd H2 s2.heap.objs.size (.lst [])) fp) rfl rfl rfl hcalm i [] s5 _ H5 _ I5 (stat fr5) st5 stop) fun r s6 ⟨hr,I6⟩=>?_
      subst hr
      have IX:=I3.call' I6.os I6.base I6.hok I6.bare fun b hb=>let ⟨_,g1,_,g3,g4,g5⟩:=f3 b hb;⟨g3,g1,g4,g5⟩
      obtain ⟨mm,hmm,_⟩:=I6.loc
      exact hRR _ _ H5 s6 IX (I3.fpOk (Nat.le_refl _) I6.free) ⟨mm,hmm⟩ qd
    · refine thn (T.item (blkT X xs scope M s3.heap.objs.size s3 (upd H2 s2.heap.objs.size (.lst [])) fp) rfl rfl rfl hcalm i [] s5 _ H5 _ I5 (stat fr5) st5 go) fun r s6 ⟨u,hr,h6⟩=>?_
      subst hr
      refine thn h6 fun _ s7 ⟨y,H7,I7,r7,y7,st7,fr7⟩=>?_
      have I7':=I7.pinned (stat fr7) (T.obj _ _ st7)
      refine thn (wpAny_mono (hg _ _ _ _ _ s7 _ H7 y u _ I7' r7 (step y H7 y7 o lo)) (fun _ _ q=>q) fun _ _ f=>f.elim) fun _ s8 ⟨σ8,H8,I8',⟨o8,lo8,e8⟩,q8⟩=>?_
      subst e8
      refine thn (hts _ _ _ _ _ s8 _ H8 _ I8' q8) fun ok s9 ⟨H9,I9,q9⟩=>?_
      have again:∀ {ys':List V} {H':Hp} {s':Shared} {m:Nat},Inv (blkT X xs scope M s3.heap.objs.size s3 (upd H2 s2.heap.objs.size (.lst [])) fp) ([]++pinsAt fp s7.heap) (o8++σ) H' s'→m < n→W (i+1) m ys' H' →
          ∃ m,m < n∧∃ i ys,∃ o:St,∃ H',o.length=xs.length∧Inv (blkT X xs scope M s3.heap.objs.size s3 (upd H2 s2.heap.objs.size (.lst [])) fp) [] (o++σ) H' s'∧tn i s'.heap∧(∀ b∈fp,H' b=none)∧W i m ys H':=fun {ys' H' s' m} I' hm w'=>by
        refine ⟨m,hm,i+1,ys',o8,H',lo8,I'.unpinned,T.keep _ _ _ st7 fun b hb o e=>(I'.pin (b,o) (List.mem_append_right _ (List.mem_append_right _ (mem_pinsAt hb e)))).1,fun b hb=>?_,w'⟩
        obtain ⟨o,e,d⟩:=T.obj _ _ st7 b hb
        exact (I'.pin (b,o) (List.mem_append_right _ (List.mem_append_right _ (mem_pinsAt hb e)))).2.1
      cases ok with
      | false =>
        obtain ⟨m',hm,w'⟩:=q9
        exact again I9 hm w'
      | true =>
        refine thn (hel _ _ _ _ _ s9 _ H9 _ I9 q9) fun u2 s10 ⟨y2,H10,I10,r10,hD,m',hm,w'⟩=>?_
        refine thn (mt_append _ s10 _ H10 (.ref s2.heap.objs.size) [y2] (.ref s2.heap.objs.size) [u2] (fun _ H'=>H'=upd H10 s2.heap.objs.size (.lst (ys++[y2]))) I10 rfl (.cons r10 .nil) ⟨_,ys,y2,rfl,rfl,hD,hz,rfl⟩) fun _ s11 ⟨_,H11,I11,_,e11⟩=>?_
        subst e11
        exact again I11 hm w'
  have fin:=codeAny_compStart_list (loop _ rfl) (T.self X.A 0 _ _ _ st3 (loop _ rfl))
  rw [es] at fin
  exact fin
end
section
variable {X:Cx} {elt iter c tg:Expr} {ifs:List Expr} {xs:List Str} {y:Str} {py pos spos:Pos} {scope sc:Scope} {N M:List Str} {wi:TI} {tt:TT} {te:TE} {g:TG}
end
end L2

set_option Elab.async false
set_option linter.all false
set_option maxRecDepth 100000
set_option maxHeartbeats 4000000
namespace L2
open PySem PySem.Spec PyProof.Rows
section
variable {X:Cx} {pins:List (Addr×Obj)} {σ:St} {H:Hp} {s:Shared} {d:Addr} {kvs:List (Key×V)} {od:Obj}
theorem Inv.reH {H':Hp} (I:Inv X pins σ H s) (same:∀ b,b≠d→H' b=H b) (hd:∃ o,H d=some o) (hd':∃ o,H' d=some o) (nt:∀ xs,H d≠some (.tup xs)) (no:∀ y,H d≠some (.own y))
    (b1:∀ xs,X.H₀ d≠some (.tup xs)) (b2:∀ o u,X.H₀ d≠some (.frz o u)) (b3:∀ ps,X.H₀ d≠some (.tbl ps)) (new:∀ o,H' d=some o→ObjOk X.prog X.w H' s.heap d o):Inv X pins σ H' s:=by
  obtain ⟨o0,e0⟩:=hd
  have nn:∀ b,H b=none→H' b=none:=fun b hb=>by
    rw [same b (fun z=>by rw [z,e0] at hb;cases hb)];exact hb
  refine ⟨I.ok,I.os,I.bare,⟨I.base.keep,I.base.slot,fun b o e n hx=>nn b (I.base.free b o e n hx),I.base.there,fun b xs e=>?_,fun b o u e=>?_,fun b ps e=>?_⟩,I.loc,I.cell,nn _ I.free,fun x c e=>nn _ (I.freeC x c e),fun p hp=>?_,fun b u e=>?_,I.len⟩
  · rw [same b (fun z=>b1 xs (by rw [← z];exact e))];exact I.base.tups b xs e
  · rw [same b (fun z=>b2 o u (by rw [← z];exact e))];exact I.base.frzs b o u e
  · rw [same b (fun z=>b3 ps (by rw [← z];exact e))];exact I.base.tbls b ps e
  · obtain ⟨p1,p2,p3⟩:=I.pin p hp
    exact ⟨p1,nn _ p2,p3⟩
  · by_cases hb:b=d
    · subst hb;exact new u e
    · rw [same b hb] at e
      refine (I.hok b u e).stay (fun c v _ q=>q) (fun c q=>?_) fun c xs q=>?_
      · rw [same c (fun z=>no b (by rw [← z];exact q))];exact q
      · rw [same c (fun z=>nt xs (by rw [← z];exact q))];exact q
structure Cold (X:Cx) (d:Addr):Prop where
  tup:∀ xs,X.H₀ d≠some (.tup xs)
  frz:∀ o u,X.H₀ d≠some (.frz o u)
  tbl:∀ ps,X.H₀ d≠some (.tbl ps)
theorem Inv.cold (I:Inv X pins σ H s) (e:H d=some (.dK kvs)):Cold X d where
  tup:=fun xs z=>by have q:=I.base.tups d xs z;rw [e] at q;cases q
  frz:=fun o u z=>by have q:=I.base.frzs d o u z;rw [e] at q;cases q
  tbl:=fun ps z=>by obtain ⟨m,q⟩:=I.base.tbls d ps z;rw [e] at q;cases q
theorem Inv.freeze (I:Inv X pins σ H s) (e:H d=some (.dK kvs)):∃ od,s.heap.get? d=some od∧Inv X pins σ (upd H d (.frz od (.dK kvs))) s:=by
  have c:=I.cold e
  have ok:=I.hok d _ e
  obtain ⟨od,ho⟩:∃ od,s.heap.get? d=some od:=by
    obtain ⟨_,_,_,_,o,_,_,ho,_⟩:=ok
    exact ⟨o,ho⟩
  refine ⟨od,ho,I.reH (d:=d) (fun b hb=>upd_ne hb) ⟨_,e⟩ ⟨_,upd_same⟩ (fun xs z=>by rw [e] at z;cases z) (fun y z=>by rw [e] at z;cases z) c.tup c.frz c.tbl fun o q=>?_⟩
  rw [upd_same] at q
  cases q
  exact ⟨ho,ok⟩
theorem Inv.thaw (I:Inv X pins σ H s) (c:Cold X d) (e:H d=some (.frz od (.dK kvs))):Inv X pins σ (upd H d (.dK kvs)) s:=by
  have ok:=I.hok d _ e
  refine I.reH (d:=d) (fun b hb=>upd_ne hb) ⟨_,e⟩ ⟨_,upd_same⟩ (fun xs z=>by rw [e] at z;cases z) (fun y z=>by rw [e] at z;cases z) c.tup c.frz c.tbl fun o q=>?_
  rw [upd_same] at q
  cases q
  exact ok.2
theorem kV_of {P:Program} {w:World} {k:Key} {u:Value} (h:(mixKind P w).is k u=true):RelV (kV k) u:=by
  rcases keyIs_shape (show keyIs k u=true from h) with ⟨i,t,rfl,rfl⟩ | ⟨x,t,rfl,rfl⟩
  · exact ⟨t,rfl⟩
  · exact ⟨t,rfl⟩
theorem KV.getP {vs:List (Key×Value)}:∀ {kvs:List (Key×V)} {vs:List (Key×Value)} {i:Nat} {k:Key} {x:V},KV kvs vs→kvs[i]?=some (k,x)→∃ u,vs[i]?=some (k,u)∧RelV x u
  | _,_,_,_,_,.nil,e=>by simp at e
  | _,(k',u)::_,0,k,x,.cons r _,e=>by
    simp at e
    subst e
    obtain ⟨r1,r2⟩:=r
    simp only at r1 r2
    subst r1
    exact ⟨u,rfl,r2⟩
  | _,_,i+1,k,x,.cons _ t,e=>by
    obtain ⟨u,h1,h2⟩:=KV.getP (vs:=vs) (i:=i) (k:=k) (x:=x) t (by simpa using e)
    exact ⟨u,by simpa using h1,h2⟩
end
theorem valV_nd:∀ {kvs:List (Key×V)},(kvs.map (·.1)).Nodup→∀ {i:Nat} {k:Key} {x:V},kvs[i]?=some (k,x)→valV kvs k=some x
  | [],_,i,k,x,e=>by simp at e
  | p::r,h,0,k,x,e=>by
    have e':p=(k,x):=by simpa using e
    subst e'
    exact valV_pos rfl
  | p::r,h,i+1,k,x,e=>by
    have e':r[i]?=some (k,x):=by simpa using e
    rw [List.map_cons,List.nodup_cons] at h
    rw [valV_neg (fun z=>h.1 (by rw [z];exact List.mem_map.mpr ⟨_,List.mem_of_getElem? e',rfl⟩))]
    exact valV_nd h.2 e'
theorem valV_at:∀ {kvs:List (Key×V)} {k:Key} {x:V},valV kvs k=some x→∃ i:Nat,kvs[i]?=some (k,x)
  | [],k,x,e=>by cases e
  | p::r,k,x,e=>by
    by_cases h:p.1=k
    · rw [valV_pos h] at e
      cases e
      exact ⟨0,by subst h;rfl⟩
    · rw [valV_neg h] at e
      obtain ⟨i,hi⟩:=valV_at e
      exact ⟨i+1,by simpa using hi⟩
def Iti (d:Addr) (od:Obj) (kvs:List (Key×V)):It :=
  ⟨fun i H=>H d=some (.frz od (.dK kvs))∧i < kvs.length,fun i H v H'=>∃ T k x,v=.ref T∧H T=none∧H'=upd H T (.tup [kV k,x])∧kvs[i]?=some (k,x)∧valV kvs k=some x,fun i H=>H d=some (.frz od (.dK kvs))∧kvs.length≤i⟩
def Itk (d:Addr) (od:Obj) (kvs:List (Key×V)):It :=
  ⟨fun i H=>H d=some (.frz od (.dK kvs))∧i < kvs.length,fun i H v H'=>H'=H∧∃ k x,v=kV k∧kvs[i]?=some (k,x)∧valV kvs k=some x,fun i H=>H d=some (.frz od (.dK kvs))∧kvs.length≤i⟩
def Says (P:Program) (w:World) (d:Addr) (od:Obj) (kvs:List (Key×V)) (vs:List (Key×Value)) (ep:Nat):Prop:=KV kvs vs∧∀ h:Heap,h.get? d=some od→h.DictAt (mixKind P w) d vs ep
theorem says_of {P:Program} {w:World} {h:Heap} {d:Addr} {od:Obj} {kvs:List (Key×V)} {H:Hp} (ok:ObjOk P w H h d (.dK kvs)) (e:h.get? d=some od):∃ vs ep,Says P w d od kvs vs ep∧(d == sysModules)=false:=by
  obtain ⟨_,hs,vs,r,o,es,ep,e',c⟩:=ok
  rw [e] at e'
  cases e'
  exact ⟨vs,ep,⟨r,fun h' e'=>⟨od,es,e',c⟩⟩,hs⟩
theorem turn_items {P:Program} {w:World} {K:PySem.W.Frag} {elts:List Expr} {k0:Nat} {pos:Pos} {d it:Addr} {od:Obj} {kvs:List (Key×V)} {vs:List (Key×Value)} {ep:Nat} (S:Says P w d od kvs vs ep) (hne:d≠it) :
    Turn P w K (.Tuple elts k0 pos) (Iti d od kvs) [it] it (fun i h=>∃ ok ov,IsItemIter h it d i vs.length ep ok ov) where
  mem:=by simp
  obj:=fun i h st b hb=>by
    have e:b=it:=by simpa using hb
    subst e
    obtain ⟨ok,ov,st⟩:=st
    exact ⟨_,st,fun v z=>by cases z⟩
  keep:=fun i h h' st k=>by
    obtain ⟨ok,ov,st⟩:=st
    exact ⟨ok,ov,k it (by simp) _ st⟩
  item:=by
    intro X hP hw hK hc i pins s σ H E I hf st hg
    subst hP hw hK
    obtain ⟨ok,ov,st⟩:=st
    obtain ⟨hd,hi⟩:=hg
    obtain ⟨hod,_⟩:=I.hok d _ hd
    have D:=S.2 s.heap hod
    obtain ⟨⟨k,x⟩,hx⟩:∃ p,kvs[i]?=some p:=⟨kvs[i],by simp [hi]⟩
    obtain ⟨u,hu,ru⟩:=KV.getP (vs:=vs) S.1 hx
    obtain ⟨f0,f1,f2,f3,f4,f5⟩:=hf it (by simp)
    refine wpAny_pyNext_items_item st D hu fun key h' hkey ho hT hsz hk=>?_
    refine ⟨_,rfl,wpAny_letOwnedTupleGo_items ho fun h'' hz'' sb=>?_⟩
    have fT:FpOk X pins H s.heap.objs.size:=I.fpOk (Nat.le_refl _) I.fresh
    have I1:Inv X pins σ H { s with heap:=h'' }:=I.turned (t':=s.toks) (fun b o hb e=>sb.extBut _ _ hb (hk b o hb e)) f0 f1 f3 f4 f5
    have hTi:s.heap.objs.size≠it:=Nat.ne_of_gt (Heap.lt_size st)
    have hT'':h''.get? s.heap.objs.size=some { cls:=.type "tuple",data:=.seq #[key,u] }:=sb.extBut _ _ hTi hT
    have I2:Inv X pins σ (upd H s.heap.objs.size (.tup [kV k,x])) { s with heap:=h'' }:=I1.track (t':=s.toks) fT ⟨(by show 2≤sizeLine;decide),[key,u],.cons (kV_of hkey) (.cons ru .nil),_,hT'',rfl,_,rfl⟩ (fun _ _=>trivial)
    refine ⟨.ref s.heap.objs.size,_,I2,rfl,⟨_,k,x,rfl,I.fresh,rfl,hx,valV_nd (by rw [KV.keys S.1];obtain ⟨_,_,_,_,_,_,_,n⟩:=D;exact n) hx⟩,⟨_,_,hz''⟩,fun c hc'=>?_⟩
    have e:c=it:=by simpa using hc'
    subst e
    rw [upd_ne (Ne.symm hTi)]
    exact f0
  done:=by
    intro X hP hw hK hc i pins s σ H E I hf st hg
    subst hP hw hK
    obtain ⟨ok,ov,st⟩:=st
    obtain ⟨hd,hi⟩:=hg
    obtain ⟨hod,_⟩:=I.hok d _ hd
    have D:=S.2 s.heap hod
    obtain ⟨f0,f1,f2,f3,f4,f5⟩:=hf it (by simp)
    have hl:kvs.length=vs.length:=Paired.length S.1
    exact wpAny_pyNext_items_end (I.ok.hd hc) st D (by simp;omega) fun h' eb=>⟨rfl,I.turned (t':=s.toks) (fun b o hb e=>eb b o hb e) f0 f1 f3 f4 f5⟩
  self:=fun _ _ _ _ _ st h=>by
    obtain ⟨ok,ov,st⟩:=st
    exact PySem.W.kcp_self st h
theorem turn_keys {P:Program} {w:World} {K:PySem.W.Frag} {tg:Expr} {d it:Addr} {od:Obj} {kvs:List (Key×V)} {vs:List (Key×Value)} {ep:Nat} (S:Says P w d od kvs vs ep) (hne:d≠it) :
    Turn P w K tg (Itk d od kvs) [it] it (fun i h=>h.IsKeyIter it d i vs.length ep) where
  mem:=by simp
  obj:=fun i h st b hb=>by
    have e:b=it:=by simpa using hb
    subst e
    obtain ⟨o,e,c,q⟩:=st
    exact ⟨o,e,fun v z=>by rw [q] at z;cases z⟩
  keep:=fun i h h' st k=>st.at fun o e=>k it (by simp) o e
  item:=by
    intro X hP hw hK hc i pins s σ H E I hf st hg
    subst hP hw hK
    obtain ⟨hd,hi⟩:=hg
    obtain ⟨hod,_⟩:=I.hok d _ hd
    have D:=S.2 s.heap hod
    obtain ⟨⟨k,x⟩,hx⟩:∃ p,kvs[i]?=some p:=⟨kvs[i],by simp [hi]⟩
    obtain ⟨u,hu,ru⟩:=KV.getP (vs:=vs) S.1 hx
    obtain ⟨f0,f1,f2,f3,f4,f5⟩:=hf it (by simp)
    refine wpAny_pyNext_dict_item st D hu fun key h' hkey st' sb=>?_
    have I1:Inv X pins σ H { s with heap:=h' }:=I.turned (t':=s.toks) (fun b o hb e=>sb.extBut _ _ hb e) f0 f1 f3 f4 f5
    obtain ⟨o,e,c,q⟩:=id st'
    exact ⟨key,rfl,go_of (s:={ s with heap:=h' }) e c q (by decide) ⟨kV k,H,I1,kV_of hkey,⟨rfl,k,x,rfl,hx,valV_nd (by rw [KV.keys S.1];obtain ⟨_,_,_,_,_,_,_,n⟩:=D;exact n) hx⟩,st',fun b hb=>(hf b hb).1⟩⟩
  done:=by
    intro X hP hw hK hc i pins s σ H E I hf st hg
    subst hP hw hK
    obtain ⟨hd,hi⟩:=hg
    obtain ⟨hod,_⟩:=I.hok d _ hd
    have D:=S.2 s.heap hod
    obtain ⟨f0,f1,f2,f3,f4,f5⟩:=hf it (by simp)
    have hl:kvs.length=vs.length:=Paired.length S.1
    exact wpAny_pyNext_dict_end (I.ok.hd hc) st D (by simp;omega) fun h' eb=>⟨rfl,I.turned (t':=s.toks) (fun b o hb e=>eb b o hb e) f0 f1 f3 f4 f5⟩
  self:=fun _ _ _ _ _ st h=>wpAny_pyIter_keyiter st h
abbrev TIF:=St→Hp→(Addr→Obj→List (Key×V)→It→Hp→Prop)→Prop
def PIEF (X:Cx) (pins:List (Addr×Obj)) (σ:St) (tg:Expr) (R:Addr→Obj→List (Key×V)→It→Hp→Prop) (itv:Value) (s2:Shared):Prop :=
  ∃ (it:Addr) (fp:List Addr) (tn:Nat→Heap→Prop) (J:It) (H':Hp) (d:Addr) (od:Obj) (kvs:List (Key×V)),itv=.ref it∧Inv X pins σ H' s2∧Turn X.prog X.w X.K tg J fp it tn∧tn 0 s2.heap∧(∀ b∈fp,FpOk X pins H' b)∧Cold X d∧R d od kvs J H'
def PIF (X:Cx) (tg iter:Expr) (wi:TIF):Prop :=
  ∀ (pins:List (Addr×Obj)) (s:Shared) (σ:St) (H:Hp) (R:Addr→Obj→List (Key×V)→It→Hp→Prop),Inv X pins σ H s→wi σ H R →
    wpAny (model X.prog X.w) X.A (eval iter X.env) (fun v s1=>wpAny (model X.prog X.w) X.A (pyIter v) (PIEF X pins σ tg R) X.xe s1) X.xe s
def iItems (td:TE):TIF:=fun σ H R=>td σ H fun x H1=>∃ d kvs,x=.ref d∧H1 d=some (.dK kvs)∧∀ od,R d od kvs (Iti d od kvs) (upd H1 d (.frz od (.dK kvs)))
def iKeys (td:TE):TIF:=fun σ H R=>td σ H fun x H1=>∃ d kvs,x=.ref d∧H1 d=some (.dK kvs)∧∀ od,R d od kvs (Itk d od kvs) (upd H1 d (.frz od (.dK kvs)))
section
variable {X:Cx} {o:Expr} {apos cpos:Pos} {td:TE}
theorem pi_items {elts:List Expr} {k0:Nat} {tpos:Pos} (ho:PE X o td) (hbase:attributeBase o "items" X.env (eval o X.env)=eval o X.env:=by rfl) (hline:(apos.endLine == cpos.line)=true:=by rfl) :
    PIF X (.Tuple elts k0 tpos) (.Call (.Attribute o "items" apos) [] [] cpos) (iItems td):=by
  intro pins s σ H R I h
  refine wpAny_Call_method0_late hbase hline (thn (ho pins s σ H _ I h) fun v s1 ⟨x,H1,I1,r1,d,kvs,ex,ed,q1⟩=>?_)
  subst ex
  obtain rfl:v=Value.ref d:=r1
  obtain ⟨t1,t2,t3⟩:=isD_at I1 (.inl ⟨kvs,.inl ed⟩)
  refine ⟨"dict", "dict.items",PySem.F.plainAttrs_dict,PySem.F.slot_dict_items,PySem.F.type_dict_items,t1,t2,Calls.callWith_builtin rfl (PySem.evalArgs_none ?_)⟩
  obtain ⟨od,hod,IF⟩:=I1.freeze ed
  obtain ⟨vs,ep,S,_⟩:=says_of (I1.hok d _ ed) hod
  have D:=S.2 _ hod
  refine call_meetsIn PySem.F.slot_dict_items t1 PySem.F.entry_dict_items (PySem.F.args_dict_items_1 _) (meets_dict_items (mixKind X.prog X.w) d t3) ⟨⟨vs,D.dictOf⟩,?_⟩
  have e1:({ s1 with heap:=s1.heap.push { cls:=.type "dict_items",data:=.fields #[.ref d] } }:Shared).heap=s1.heap.push { cls:=.type "dict_items",data:=.fields #[.ref d] }:=rfl
  refine wpAny_pyIter_items (knd:=mixKind X.prog X.w) ⟨_,Heap.get?_push_size _ rfl,rfl,rfl⟩ (D.push _) ?_
  have I2:=IF.kept (t':=s1.toks) (h':=(s1.heap.push { cls:=.type "dict_items",data:=.fields #[.ref d] }).push { cls:=.type "dict_itemiterator",data:=.fields #[.none,.bool false,.ref d,.int 0 0,.int vs.length 0,.int ep 0,.none,.none] }) fun b ob e=>Heap.get?_push_of_some _ (Heap.get?_push_of_some _ e)
  have hsz:(s1.heap.push { cls:=.type "dict_items",data:=.fields #[.ref d] }).objs.size=s1.heap.objs.size+1:=Heap.size_push ..
  have hlt:d < s1.heap.objs.size:=Heap.lt_size hod
  have hne0:d≠(s1.heap.push { cls:=.type "dict_items",data:=.fields #[.ref d] }).objs.size:=by rw [hsz];exact Nat.ne_of_lt (Nat.lt_succ_of_lt hlt)
  refine ⟨(s1.heap.push { cls:=.type "dict_items",data:=.fields #[.ref d] }).objs.size,[(s1.heap.push { cls:=.type "dict_items",data:=.fields #[.ref d] }).objs.size],_,_,_,d,od,kvs,rfl,I2,turn_items S hne0,⟨.none,.none,Heap.get?_push_size _ rfl⟩,fun b hb=>?_,I1.cold ed,q1 od⟩
  have e:b=(s1.heap.push { cls:=.type "dict_items",data:=.fields #[.ref d] }).objs.size:=by simpa using hb
  subst e
  exact IF.fpOk (by rw [hsz];omega) (IF.hok.fresh (by rw [hsz];omega))
theorem pi_keys {tg:Expr} (ho:PE X o td):PIF X tg o (iKeys td):=by
  intro pins s σ H R I h
  refine thn (ho pins s σ H _ I h) fun v s1 ⟨x,H1,I1,r1,d,kvs,ex,ed,q1⟩=>?_
  subst ex
  obtain rfl:v=Value.ref d:=r1
  obtain ⟨t1,t2,t3⟩:=isD_at I1 (.inl ⟨kvs,.inl ed⟩)
  obtain ⟨od,hod,IF⟩:=I1.freeze ed
  obtain ⟨vs,ep,S,_⟩:=says_of (I1.hok d _ ed) hod
  have D:=S.2 _ hod
  refine wpAny_pyIter_dict t3 D ?_
  have I2:=IF.kept (t':=s1.toks) (h':=s1.heap.push { cls:=.type "dict_keyiterator",data:=.fields #[.ref d,.int 0 0,.int vs.length 0,.int ep 0] }) fun b ob e=>Heap.get?_push_of_some _ e
  have hlt:d < s1.heap.objs.size:=Heap.lt_size hod
  refine ⟨s1.heap.objs.size,[s1.heap.objs.size],_,_,_,d,od,kvs,rfl,I2,turn_keys S (Nat.ne_of_lt hlt),⟨_,Heap.get?_push_size _ rfl,rfl,rfl⟩,fun b hb=>?_,I1.cold ed,q1 od⟩
  have e:b=s1.heap.objs.size:=by simpa using hb
  subst e
  exact IF.fpOk (Nat.le_refl _) (IF.hok.fresh (Nat.le_refl _))
end
def thawE (d:Addr) (od:Obj) (kvs:List (Key×V)) (D:Ends):Ends :=
  { D with nx:=fun σ H=>H d=some (.frz od (.dK kvs))∧D.nx σ (upd H d (.dK kvs)),rt:=fun v H=>H d=some (.frz od (.dK kvs))∧D.rt v (upd H d (.dK kvs)) }
def tForD (wi:TIF) (g:TG) (tb:TS):TS:=fun D σ H=>wi σ H fun d od kvs J H1=>forW J g tb (thawE d od kvs D) σ H1
section
variable {X:Cx} {tg:Expr}
theorem ps_forD {iter:Expr} {body:List Stmt} {wi:TIF} {g:TG} {tb:TS} {pos:Pos} (hp:PassesOwn (model X.prog X.w) X.A X.env X.xe) (hc:X.calm=true) (hi:PIF X tg iter wi) (hg:PG X tg g) (hb:PSs X body tb)
    (hs:∀ x,foldedSetIterable iter X.env x=pure x:=by intro _;rfl):PS X (.For tg iter body [] pos) (tForD wi g tb):=by
  intro pins s σ H D I h
  refine wpAny_For (thn (hi pins s σ H _ I h) fun v s1 h1=>thn h1 fun itv s2 h2=>?_) hs
  obtain ⟨it,fp,tn,J,H2,d,od,kvs,e,I2,T,st2,f2,cold,W,⟨m0,w0⟩,turn⟩:=h2
  subst e
  have stat:∀ {H':Hp},(∀ b∈fp,H' b=none)→∀ b∈fp,FpOk X pins H' b:=fun hn b hb=>⟨hn b hb,(f2 b hb).2⟩
  refine codeAny_forLoop_any (fun n s'=>∃ i σ' H',Inv X pins σ' H' s'∧tn i s'.heap∧(∀ b∈fp,H' b=none)∧W i n σ' H') ?_ m0 ⟨0,σ,H2,I2,st2,fun b hb=>(f2 b hb).1,w0⟩
  rintro n s3 ⟨i,σ3,H3,I3,st3,fr3,w3⟩
  rcases turn i n σ3 H3 w3 with ⟨stop,qn1,qn2⟩ | ⟨go,N,hN,step⟩
  · refine wpAny_passesOwn hp (thn (T.done X rfl rfl rfl hc i pins s3 σ3 H3 X.xe I3 (stat fr3) st3 stop) fun r s4 ⟨hr,I4⟩=>?_)
    subst hr
    exact wpAny_execs_nil ⟨σ3,_,I4.thaw cold qn1,qn2⟩
  · refine wpAny_passesOwn hp (thn (T.item X rfl rfl rfl hc i pins s3 σ3 H3 X.xe I3 (stat fr3) st3 go) fun r s4 ⟨u,hr,h4⟩=>?_)
    subst hr
    refine wpAny_passesOwn hp (thn h4 fun _ s5 ⟨x,H5,I5,r5,y5,st5,fr5⟩=>?_)
    have I5':=I5.pinned (stat fr5) (T.obj _ _ st5)
    refine wpAny_passesOwn hp (thn (hg _ s5 σ3 H5 x u _ I5' r5 (step x H5 y5)) fun _ s6 ⟨σ6,H6,I6,q6⟩=>?_)
    refine wpAny_passesOwn hp (thn (hb _ s6 σ6 H6 _ I6 q6) fun f s7 q7=>?_)
    have again:∀ {σ7:St} {H7:Hp},Inv X (pins++pinsAt fp s5.heap) σ7 H7 s7→N σ7 H7→∃ m,m < n∧∃ i σ' H',Inv X pins σ' H' s7∧tn i s7.heap∧(∀ b∈fp,H' b=none)∧W i m σ' H':=fun {σ7 H7} I7 n7=>by
      obtain ⟨m',hm,w7⟩:=hN σ7 H7 n7
      refine ⟨m',hm,i+1,σ7,H7,I7.unpinned,T.keep _ _ _ st5 fun b hb o e=>(I7.pin (b,o) (List.mem_append_right _ (List.mem_append_right _ (mem_pinsAt hb e)))).1,fun b hb=>?_,w7⟩
      obtain ⟨o,e,d⟩:=T.obj _ _ st5 b hb
      exact (I7.pin (b,o) (List.mem_append_right _ (List.mem_append_right _ (mem_pinsAt hb e)))).2.1
    cases f with
    | next=>obtain ⟨σ7,H7,I7,n7⟩:=q7;exact again I7 n7
    | cont=>obtain ⟨σ7,H7,I7,n7⟩:=q7;exact again I7 n7
    | brk=>obtain ⟨σ7,H7,I7,q7,q8⟩:=q7;exact ⟨σ7,_,I7.unpinned.thaw cold q7,q8⟩
    | ret v=>obtain ⟨x7,σ7,H7,I7,r7,q7,q8⟩:=q7;exact ⟨x7,σ7,_,I7.unpinned.thaw cold q7,r7,q8⟩
end
theorem tForD_eq (wi:TIF) (g:TG) (tb:TS) (D:Ends) (σ:St) (H:Hp):tForD wi g tb D σ H=wi σ H fun d od kvs J H1=>forW J g tb (thawE d od kvs D) σ H1:=rfl
theorem forW_items {d:Addr} {od:Obj} {kvs:List (Key×V)} {g:TG} {tb:TS} {D:Ends} {σ:St} {H:Hp} (Pv:Nat→St→Hp→Prop) (h0:Pv 0 σ H) (hf:∀ i σ H,i≤kvs.length→Pv i σ H→H d=some (.frz od (.dK kvs)))
    (hs:∀ i k x σ H T,kvs[i]?=some (k,x)→valV kvs k=some x→H T=none→Pv i σ H→g (.ref T) σ (upd H T (.tup [kV k,x])) fun σ2 H2=>tb { D with nx:=Pv (i+1),ct:=Pv (i+1),bk:=D.nx } σ2 H2) (hd:∀ σ H,Pv kvs.length σ H→D.nx σ H) :
    forW (Iti d od kvs) g tb D σ H:=by
  refine ⟨fun i m σ H=>m=kvs.length - i∧i≤kvs.length∧Pv i σ H,⟨kvs.length,by simp,Nat.zero_le _,h0⟩,?_⟩
  rintro i m σ H ⟨rfl,hi,p⟩
  have q:=hf i σ H hi p
  by_cases hlt:i < kvs.length
  · refine .inr ⟨⟨q,hlt⟩,Pv (i+1),fun σ' H' p'=>⟨kvs.length - (i+1),by omega,rfl,hlt,p'⟩,fun x H' y=>?_⟩
    obtain ⟨T,k,v,rfl,hT,rfl,hx,hv⟩:=y
    exact hs i k v σ _ T hx hv hT p
  · have e:i=kvs.length:=by omega
    subst e
    exact .inl ⟨⟨q,Nat.le_refl _⟩,hd σ H p⟩
def tCompD (n:Nat) (wi:TIF) (g:TG) (tt:TT) (te:TE):TE:=fun σ H Q=>wi σ H fun d od kvs J H1=>∀ D,H1 D=none→∃ W:Nat→Nat→List V→Hp→Prop,(∃ m,W 0 m [] (upd H1 D (.lst [])))∧∀ i m ys H2,W i m ys H2 →
  (J.stop i H2∧H2 D=some (.lst ys)∧H2 d=some (.frz od (.dK kvs))∧Q (.ref D) (upd H2 d (.dK kvs)))∨(J.go i H2∧ys.length < sizeLine∧∀ x H3,J.yld i H2 x H3→∀ o:St,o.length=n→g x (o++σ) H3 fun σ' H3'=>(∃ o':St,o'.length=n∧σ'=o'++σ)∧tt σ' H3' fun b H4 =>
    if b=true then te σ' H4 fun y H5=>H5 D=some (.lst ys)∧∃ m',m' < m∧W (i+1) m' (ys++[y]) (upd H5 D (.lst (ys++[y]))) else ∃ m',m' < m∧W (i+1) m' ys H4)
section
variable {X:Cx} {elt iter c tg:Expr} {ifs:List Expr} {xs:List Str} {y:Str} {py pos spos:Pos} {scope sc:Scope} {N M:List Str} {wi:TIF} {tt:TT} {te:TE} {g:TG}
theorem ps_setcGD {i:Nat} (hcalm:X.calm=true) (hX:X.N=N) (hsc:X.env.scope=sc) (O:CompOkT N M sc xs scope) (hi:PIF X tg iter wi)
    (hts:∀ (C:Addr) (s₀:Shared) (H₀:Hp) (fp:List Addr) (pins:List (Addr×Obj)) (s:Shared) (σ:St) (H:Hp) (Q:Bool→Hp→Prop),Inv (blkT X xs scope M C s₀ H₀ fp) pins σ H s→tt σ H Q →
      wpAny (model X.prog X.w) X.A (forIn ifs true fun c r=>if r=true then do let ok ← isTrue c (blkT X xs scope M C s₀ H₀ fp).env (eval c (blkT X xs scope M C s₀ H₀ fp).env);pure (ForInStep.yield ok) else pure (ForInStep.yield r)) (TP (blkT X xs scope M C s₀ H₀ fp) pins σ Q) (fun _ _=>False) s)
    (hel:∀ (C:Addr) (s₀:Shared) (H₀:Hp) (fp:List Addr),PE (blkT X xs scope M C s₀ H₀ fp) elt te) (hg:∀ (C:Addr) (s₀:Shared) (H₀:Hp) (fp:List Addr),PG (blkT X xs scope M C s₀ H₀ fp) tg g)
    (hNd:X.N.Nodup) (hiy:X.N[i]?=some y) (hy:X.env.scope.names.lookup y=some .local)
    (hsw:swapsWith (.ListComp elt [⟨tg,iter,ifs,0⟩] scope pos) (some (.Name y py)) spos.line X.env=pure true) (hs:∀ x,foldedSetIterable iter X.env x=pure x:=by intro _;rfl) :
    PS X (.Assign [.Name y py] (.ListComp elt [⟨tg,iter,ifs,0⟩] scope pos) spos) (tAsg (tCompD xs.length wi g tt te) (gName i)):=by
  intro pins s σ H D I h
  have hcl:closureFor scope X.env=pure (closOf X.env.cells scope.names []):=closure_is fun z hz hf=>by
    have q:=O.free z hz hf
    rw [← hsc] at q
    exact I.ok.has z.1 q
  have key:wpAny (model X.prog X.w) X.A (comprehension (.ListComp elt [⟨tg,iter,ifs,0⟩] scope pos) scope X.env (firstIterPos [⟨tg,iter,ifs,0⟩] pos) (newList []) false (eval iter X.env) (some (assign (.Name y py) X.env)))
      (fun _ s'=>SP X pins D .next s') X.xe s:=by
    refine wpAny_comprehension_free (use:=some (assign (.Name y py) X.env)) (Q:=fun _ s'=>SP X pins D .next s') rfl hs hcl O.kind O.names (thn (hi pins s σ H _ I h) fun v s1 h1=>thn h1 fun itv s2 h2=>?_)
    obtain ⟨it,fp,tn,J,H2,d,od,kvs,e,I2,T,st2,f2,cold,q2⟩:=h2
    subst e
    refine comp_blockT (Qd:=fun D0 H'=>H' d=some (.frz od (.dK kvs))∧D.nx (σ.set i (some (.ref D0))) (upd H' d (.dK kvs))) (RR:=fun acc C=>compPost (model X.prog X.w) X.A X.xe (some (assign (.Name y py) X.env)) (fun _ s'=>SP X pins D .next s') acc C) hcalm hX hsc O hts hel hg I2 T st2 f2 (fun D0 hD=>q2 D0 hD) ?_
    intro D0 C H' s' I' hC hm q'
    obtain ⟨m,hm⟩:=hm
    obtain ⟨c0,c1,c2,c3,c4,c5⟩:=hC
    show wpAny _ _ (assign (.Name y py) X.env (.ref D0)) _ _ s'
    refine wpAny_assign_Name (store_ok2 (v:=.ref D0) (I'.thaw cold q'.1) hNd hiy (.inl hy) rfl (fun s'' I'' ⟨a,sb,ha⟩=>?_) (.inr hy))
    have hCa:C≠a:=by
      rcases ha with ha | ha
      · rw [ha];exact c1
      · exact (c4 _ _ ha).symm
    have c0':upd H' d (.dK kvs) C=none:=by rw [upd_ne (fun z=>by rw [z,q'.1] at c0;cases c0)];exact c0
    exact ⟨m,hm.sameBut sb hCa,fun h' hs'=>⟨_,_,I''.turned (t':=s''.toks) (fun b o hb e=>hs'.extBut b o hb e) c0' c1 c3 c4 c5,q'.2⟩⟩
  rw [exec_Assign_Name_used _ _ _ _ hsw]
  refine wpAny_bind (wpAny_standAt (wpAny_bind ?_))
  show wpAny _ _ (do let _ ← comprehension (.ListComp elt [⟨tg,iter,ifs,0⟩] scope pos) scope X.env (firstIterPos [⟨tg,iter,ifs,0⟩] pos) (newList []) false (eval iter X.env) (some (assign (.Name y py) X.env))) _ _ s
  exact wpAny_bind (wpAny_mono key (fun _ s' hq=>wpAny_pure (wpAny_pure hq)) fun _ _ e=>e)
theorem ps_setcDIf {i:Nat} (N M:List Str) (sc:Scope) (xs:List Str) (O:CompOkT N M sc xs scope) (hi:PIF X tg iter wi) (hg:∀ (C:Addr) (s₀:Shared) (H₀:Hp) (fp:List Addr),PG (blkT X xs scope M C s₀ H₀ fp) tg g) (hc:∀ (C:Addr) (s₀:Shared) (H₀:Hp) (fp:List Addr),PT (blkT X xs scope M C s₀ H₀ fp) c tt)
    (hel:∀ (C:Addr) (s₀:Shared) (H₀:Hp) (fp:List Addr),PE (blkT X xs scope M C s₀ H₀ fp) elt te)
    (hNd:X.N.Nodup) (hiy:X.N[i]?=some y:=by rfl) (hy:X.env.scope.names.lookup y=some .local:=by rfl)
    (hsw:swapsWith (.ListComp elt [⟨tg,iter,[c],0⟩] scope pos) (some (.Name y py)) spos.line X.env=pure true:=by rfl)
    (hcalm:X.calm=true:=by rfl) (hX:X.N=N:=by rfl) (hsc:X.env.scope=sc:=by rfl) (hs:∀ x,foldedSetIterable iter X.env x=pure x:=by intro _;rfl) :
    PS X (.Assign [.Name y py] (.ListComp elt [⟨tg,iter,[c],0⟩] scope pos) spos) (tAsg (tCompD xs.length wi g tt te) (gName i)) :=
  ps_setcGD hcalm hX hsc O hi (fun C s₀ H₀ fp pins s σ H Q I h=>wpAny_tests_one (hc C s₀ H₀ fp pins s σ H Q I h)) hel hg hNd hiy hy hsw hs
end
end L2

set_option Elab.async false
set_option linter.all false
set_option maxRecDepth 100000
set_option maxHeartbeats 4000000
namespace L2
open PySem PySem.Spec PyProof.Rows
def repL (n:Nat) (l:List Nat):List Nat:=(List.replicate n l).flatten
theorem foldl_app_toList (xs:List (Array Nat)):∀ a:Array Nat,(xs.foldl (·++·) a).toList=a.toList++(xs.map Array.toList).flatten:=by
  induction xs with
  | nil=>intro a;simp
  | cons x r ih=>intro a;rw [List.foldl_cons,ih];simp
theorem mul_S (l:List Nat) (n:Int):Txt.mul (S l) n=S (repL n.toNat l):=by
  unfold Txt.mul repL
  by_cases h1:n < 1
  · rw [if_pos h1]
    have:n.toNat=0:=by omega
    rw [this]
    rfl
  · rw [if_neg h1]
    by_cases h2:(n == 1 || (S l).length == 0)=true
    · rw [if_pos h2]
      rw [Bool.or_eq_true] at h2
      rcases h2 with h2 | h2
      · have:n=1:=by simpa using h2
        subst this
        simp
      · have:l=[]:=by
          have:(S l).length=0:=by simpa using h2
          rw [S_len] at this
          exact List.length_eq_zero_iff.mp this
        subst this
        congr 1
        simp
    · rw [if_neg h2]
      show (⟨_⟩:Str)=⟨_⟩
      congr 1
      apply Array.toList_inj.mp
      rw [foldl_app_toList]
      simp
def rRepT:R2:=fun x y H Q=>∃ l n,x=.str (S l)∧y=.int n∧-(2 ^ 62)≤n∧n≤65536∧l.length≤200∧Q (.str (S (repL n.toNat l))) H
section
variable {X:Cx}
theorem op_repT:OpR X (binaryOp .Mult) rRepT:=by
  intro pins s σ H x y v u Q I rx ry h
  obtain ⟨l,n,rfl,rfl,h0,h1,hl,q⟩:=h
  obtain ⟨t,rfl⟩:=rx
  obtain ⟨t',rfl⟩:=ry
  refine SB.mul ⟨?_,fun h2 _=>?_,fun h2 _=>?_⟩ fun t'' k=>⟨.str (S (repL n.toNat l)),H,I.tok k,⟨t'',by rw [mul_S]⟩,q⟩
  · rw [decide_eq_false (by omega),decide_eq_false (by omega)];rfl
  · rw [S_len]
    intro h3
    have h4:(2 ^ 63 - 1:Int) / n≥(2 ^ 63 - 1) / 65536:=by
      refine Int.le_ediv_of_mul_le (by omega) ?_
      have:(2 ^ 63 - 1:Int) / 65536 * n≤(2 ^ 63 - 1:Int) / 65536 * 65536:=Int.mul_le_mul_of_nonneg_left h1 (by decide)
      have:(2 ^ 63 - 1:Int) / 65536 * 65536≤2 ^ 63 - 1:=by decide
      omega
    have h5:(2 ^ 63 - 1:Int) / 65536 > 200:=by decide
    omega
  · rw [S_len]
    have h3:l.length * n.toNat≤200 * 65536:=Nat.mul_le_mul hl (by omega)
    have e:Builtin.Str.tooLong (l.length * n.toNat)=decide (l.length * n.toNat > sizeLine):=rfl
    rw [e,decide_eq_false]
    rw [sizeLine_eq]
    omega
def rMulA:R2:=fun x y H Q=>rI CMul (fun i j=>.int (i * j)) x y H Q∨rRepT x y H Q
theorem op_mulA:OpR X (binaryOp .Mult) rMulA:=op_mul.or op_repT
theorem rMul_ii {H:Hp} {Q:VK} (i j:Int):rMulA (.int i) (.int j) H Q=(CMul i j∧Q (.int (i * j)) H):=by
  simp [rMulA,rI,rRepT]
theorem rMul_si {H:Hp} {Q:VK} (z:Str) (n:Int):rMulA (.str z) (.int n) H Q=∃ l,z=S l∧-(2 ^ 62)≤n∧n≤65536∧l.length≤200∧Q (.str (S (repL n.toNat l))) H:=by
  simp [rMulA,rI,rRepT]
def tDClear (td:TE):TE:=fun σ H Q=>td σ H fun x H1=>∃ a kvs,x=.ref a∧H1 a=some (.dK kvs)∧Q .non (upd H1 a (.dK []))
end
def Itv' (K:PySem.W.Frag) (a:Addr) (n:Nat):It :=
  ⟨fun i H=>i < n∧∃ xs,SqL K H a xs∧xs.length=n,fun i H x H'=>H'=H∧∀ xs,SqL K H a xs→xs[n - 1 - i]?=some x,fun i H=>n≤i⟩
section
variable {X:Cx}
def iRev (K:PySem.W.Frag) (ta:TA):TI:=fun σ H R=>ta σ H fun vs H1=>∃ a xs,vs=[.ref a]∧SqL K H1 a xs∧R (Itv' K a xs.length) H1
end
end L2

set_option Elab.async false
set_option linter.all false
set_option maxRecDepth 100000
set_option maxHeartbeats 4000000
namespace L2
open PySem PySem.Spec PyProof.Rows
abbrev Loan:=Int×List Nat×Int
def loanV (x:Loan):List V:=[.int x.1,.str (S x.2.1),.int x.2.2]
structure LendM where
  row:Int
  start:Int
  turns:Int
  tries:Int
  width:Int
  lent:Int
  F:Int→Option Str
  T:Int→Int
  L:Int→Option Loan
  sz:Nat
def lend0 (r s t n w:Int):LendM:=⟨r,s,t,n,w,0,fun _=>none,fun _=>0,fun _=>none,0⟩
def lendF (M:LendM) (f t l:Addr):List (Str×V):=[("row",.int M.row),("start",.int M.start),("turns",.int M.turns),("tries",.int M.tries),("width",.int M.width),("lent",.int M.lent),("fates",.ref f),("tried",.ref t),("loans",.ref l)]
def LoanO (H:Hp):Option Loan→Option V→Prop
  | none,v=>v=none
  | some x,v=>∃ t,v=some (.ref t)∧H t=some (.tup (loanV x))
def LoanVal (H:Hp):Option Loan→V→Prop
  | none,v=>v=.non
  | some x,v=>∃ t,v=.ref t∧H t=some (.tup (loanV x))
theorem LoanO.val {H:Hp} {o:Option Loan} {v:Option V} (h:LoanO H o v):LoanVal H o (v.getD .non):=by
  cases o with
  | none=>rw [show v=none from h];rfl
  | some x=>obtain ⟨t,e,ht⟩:=h;exact ⟨t,by rw [e];rfl,ht⟩
theorem LoanO.chg {A:List Addr} {H H':Hp} {o:Option Loan} {v:Option V} (c:Chg A H H') (h:LoanO H o v):LoanO H' o v:=by
  cases o with
  | none=>exact h
  | some x=>obtain ⟨t,e,ht⟩:=h;exact ⟨t,e,c.tup _ _ ht⟩
def fateV:Option Str→V
  | none=>.non
  | some z=>.str z
structure LendAt (C:Addr) (H:Hp) (r f t l:Addr) (M:LendM):Prop where
  obj:∃ dx,H r=some (.ins C dx (lendF M f t l))
  fat:∃ kvs,H f=some (.dK kvs)∧kvs.length≤M.sz∧(∀ p:Int,valV kvs (.inl p)=(M.F p).map V.str)∧∀ z,valV kvs (.inr z)=none
  tri:∃ kvs,H t=some (.dK kvs)∧kvs.length≤M.sz∧∀ p:Int,(valV kvs (.inl p)).getD (.int 0)=.int (M.T p)
  loa:∃ kvs,H l=some (.dK kvs)∧kvs.length≤M.sz∧(∀ p:Int,LoanO H (M.L p) (valV kvs (.inl p)))∧∀ z,valV kvs (.inr z)=none
  rf:r≠f
  rt:r≠t
  rl:r≠l
  ft:f≠t
  fl:f≠l
  tl:t≠l
theorem LendAt.chg {A:List Addr} {C:Addr} {H H':Hp} {r f t l:Addr} {M:LendM} (h:LendAt C H r f t l M) (c:Chg A H H') (hr:r∉A) (hf:f∉A) (ht:t∉A) (hl:l∉A):LendAt C H' r f t l M:=by
  obtain ⟨dx,e⟩:=h.obj
  obtain ⟨k1,e1,l1,v1,w1⟩:=h.fat
  obtain ⟨k2,e2,l2,v2⟩:=h.tri
  obtain ⟨k3,e3,l3,v3,w3⟩:=h.loa
  exact ⟨⟨dx,c.keep _ _ e hr⟩,⟨k1,c.keep _ _ e1 hf,l1,v1,w1⟩,⟨k2,c.keep _ _ e2 ht,l2,v2⟩,⟨k3,c.keep _ _ e3 hl,l3,fun p=>(v3 p).chg c,w3⟩,h.rf,h.rt,h.rl,h.ft,h.fl,h.tl⟩
def LendM.lend (M:LendM) (p:Int) (tk:List Nat) (turn:Int):LendM :=
  { M with lent:=M.lent+1,L:=fun q=>if q=p then some (M.lent+1,tk,turn+M.turns) else M.L q,T:=fun q=>if q=p then M.T p+1 else M.T q,sz:=M.sz+1 }
def LendM.back (M:LendM) (p:Int):LendM:={ M with L:=fun q=>if q=p then none else M.L q }
def LendM.fate (M:LendM) (p:Int) (z:Str):LendM:={ M with L:=fun q=>if q=p then none else M.L q,F:=fun q=>if q=p then some z else M.F q,sz:=M.sz+1 }
def LendM.isLent (M:LendM) (p turn:Int):Bool:=match M.L p with
  | some x=>decide (turn < x.2.2)
  | none=>false
theorem lf_row (M:LendM) (f t l:Addr):(lendF M f t l).lookup (Str.ofString "row")=some (.int M.row):=rfl
theorem lf_start (M:LendM) (f t l:Addr):(lendF M f t l).lookup (Str.ofString "start")=some (.int M.start):=rfl
theorem lf_tries (M:LendM) (f t l:Addr):(lendF M f t l).lookup (Str.ofString "tries")=some (.int M.tries):=rfl
theorem lf_width (M:LendM) (f t l:Addr):(lendF M f t l).lookup (Str.ofString "width")=some (.int M.width):=rfl
theorem lf_lent (M:LendM) (f t l:Addr):(lendF M f t l).lookup (Str.ofString "lent")=some (.int M.lent):=rfl
theorem lf_fates (M:LendM) (f t l:Addr):(lendF M f t l).lookup (Str.ofString "fates")=some (.ref f):=rfl
theorem lf_tried (M:LendM) (f t l:Addr):(lendF M f t l).lookup (Str.ofString "tried")=some (.ref t):=rfl
theorem lf_loans (M:LendM) (f t l:Addr):(lendF M f t l).lookup (Str.ofString "loans")=some (.ref l):=rfl
def sp_l_init (C:Addr):Sp:=fun vs H Q _=>∃ (x dx:Addr) (r s t n w:Int),vs=[.ref x,.int r,.int s,.int t,.int n,.int w]∧H x=some (.ins C dx []) ∧
  ∀ f u l H',H f=none→H u=none→H l=none→Chg [x] H H'→LendAt C H' x f u l (lend0 r s t n w)→Q .non H'
def sp_l_tried_at (C:Addr):Sp:=fun vs H Q _=>∃ (r f t l:Addr) (M:LendM) (p:Int),vs=[.ref r,.int p]∧LendAt C H r f t l M∧Q (.int (M.T p)) H
def sp_l_fate_at (C:Addr):Sp:=fun vs H Q _=>∃ (r f t l:Addr) (M:LendM) (p:Int),vs=[.ref r,.int p]∧LendAt C H r f t l M∧Q (fateV (M.F p)) H
end L2

set_option Elab.async false
set_option linter.all false
set_option maxRecDepth 100000
set_option maxHeartbeats 4000000
namespace L2
open PySem PySem.Spec PyProof.Rows
abbrev L3:=Int×List Nat×Option (List Nat)
def l3V (x:L3):List V:=[.int x.1,.str (S x.2.1),wV x.2.2]
def lastW:List L3→List Nat→Option (Option (List Nat))
  | [],_=>none
  | x::r,k=>match lastW r k with
    | some y=>some y
    | none=>if x.2.1=k then some x.2.2 else none
theorem lastW_app (a b:List L3) (k:List Nat):lastW (a++b) k=match lastW b k with
    | some y=>some y
    | none=>lastW a k:=by
  induction a with
  | nil=>rw [List.nil_append];cases lastW b k<;>rfl
  | cons x r ih =>
    rw [List.cons_append,lastW,ih]
    cases hb:lastW b k with
    | some y=>rfl
    | none=>rw [lastW]
theorem lastW_snoc (a:List L3) (x:L3) (k:List Nat):lastW (a++[x]) k=if x.2.1=k then some x.2.2 else lastW a k:=by
  rw [lastW_app]
  by_cases h:x.2.1=k
  · rw [if_pos h];simp [lastW,h]
  · rw [if_neg h];simp [lastW,h]
def NdK (kvs:List (Key×V)):Prop:=(kvs.map (·.1)).Nodup
theorem nd_sub_len {α:Type} [DecidableEq α]:∀ {l m:List α},l.Nodup→(∀ x∈l,x∈m)→l.length≤m.length
  | [],m,_,_=>Nat.zero_le _
  | a::r,m,h,s=>by
    rw [List.nodup_cons] at h
    have ha:a∈m:=s a List.mem_cons_self
    have ih:=nd_sub_len (l:=r) (m:=m.erase a) h.2 fun x hx=>(List.mem_erase_of_ne (fun (z:x=a)=>h.1 (by rw [← z];exact hx))).mpr (s x (List.mem_cons_of_mem _ hx))
    rw [List.length_erase_of_mem ha] at ih
    have:0 < m.length:=List.length_pos_of_mem ha
    rw [List.length_cons]
    omega
theorem NdK.nil:NdK []:=List.nodup_nil
theorem NdK.put {kvs:List (Key×V)} (h:NdK kvs) (k:Key) (v:V):NdK (putK kvs k v):=by
  unfold putK
  by_cases a:(kvs.any fun kv=>decide (kv.1=k))=true
  · rw [if_pos a]
    unfold NdK
    rw [List.map_map]
    have e:((fun x:Key×V=>x.1)∘fun kv:Key×V=>if kv.1=k then (kv.1,v) else kv)=fun x=>x.1:=by
      funext x
      show (if x.1=k then (x.1,v) else x).1=x.1
      split<;>rfl
    rw [e]
    exact h
  · rw [if_neg a]
    unfold NdK
    rw [List.map_append,List.nodup_append]
    refine ⟨h,by simp,fun x hx y hy=>?_⟩
    have hy':y=k:=by simpa using hy
    subst hy'
    rintro rfl
    obtain ⟨p,hp,e⟩:=List.mem_map.mp hx
    exact a (List.any_eq_true.mpr ⟨p,hp,decide_eq_true e⟩)
theorem NdK.drop {kvs:List (Key×V)} (h:NdK kvs) (k:Key):NdK (dropK kvs k):=by
  unfold NdK dropK
  exact List.Nodup.sublist (List.Sublist.map _ List.filter_sublist) h
theorem NdK.len {a b:List (Key×V)} (ha:NdK a) (hb:NdK b) (h:∀ k,(valV a k).isSome=(valV b k).isSome):a.length=b.length:=by
  have sub:∀ {x y:List (Key×V)},(∀ k,(valV x k).isSome=(valV y k).isSome)→∀ k,k∈x.map (·.1)→k∈y.map (·.1):=by
    intro x y h k hk
    have h1:(valV x k).isSome=true:=by
      cases e:valV x k with
      | none=>exact absurd hk (valV_not e)
      | some v=>rfl
    rw [h k] at h1
    obtain ⟨v,hv⟩:=Option.isSome_iff_exists.mp h1
    exact valV_in hv
  have l1:(a.map (·.1)).length≤(b.map (·.1)).length:=nd_sub_len ha fun k hk=>sub h k hk
  have l2:(b.map (·.1)).length≤(a.map (·.1)).length:=nd_sub_len hb fun k hk=>sub (fun k=>(h k).symm) k hk
  simp only [List.length_map] at l1 l2
  omega
structure TabOf (H:Hp) (d:Addr) (f:List Nat→Option (List Nat)) (n:Nat):Prop where
  dict:∃ kvs,H d=some (.dK kvs)∧kvs.length≤n∧NdK kvs∧(∀ k:List Nat,valV kvs (.inr (S k))=(f k).map fun z=>V.str (S z))∧∀ i:Int,valV kvs (.inl i)=none
end L2

set_option Elab.async false
set_option linter.all false
set_option maxRecDepth 100000
set_option maxHeartbeats 4000000
namespace L2
open PySem PySem.Spec PyProof.Rows
end L2

set_option Elab.async false
set_option linter.all false
set_option maxRecDepth 100000
set_option maxHeartbeats 4000000
namespace L2
open PySem PySem.Spec PyProof.Rows
def tupV (H:Hp):V→List V
  | .ref t=>match H t with
    | some (.tup xs)=>xs
    | _=>[]
  | _=>[]
theorem TupsAt.comp {H:Hp} {ts:List Addr} {rows:List (List V)} (h:TupsAt H ts rows) (q:List V→Bool) (g:List V→V):((ts.map V.ref).filter fun x=>q (tupV H x)).map (fun x=>g (tupV H x))=(rows.filter q).map g:=by
  unfold TupsAt at h
  induction h with
  | nil=>rfl
  | @cons t xs ts' rows' e _ ih =>
    have et:tupV H (.ref t)=xs:=by simp only [tupV,e]
    simp only [List.map_cons,List.filter_cons,et]
    cases q xs with
    | true=>simp only [if_true,List.map_cons,et];rw [ih]
    | false=>simpa using ih
theorem TupsAt.mem {H:Hp} {ts:List Addr} {rows:List (List V)} (h:TupsAt H ts rows) {x:V} (hx:x∈ts.map V.ref):∃ t xs,x=.ref t∧xs∈rows∧H t=some (.tup xs):=by
  obtain ⟨t,ht,rfl⟩:=List.mem_map.mp hx
  obtain ⟨i,hi⟩:=List.getElem?_of_mem ht
  obtain ⟨xs,h1,h2⟩:=h.get hi
  exact ⟨t,xs,rfl,List.mem_of_getElem? h1,h2⟩
theorem compW_tupsIf {K:PySem.W.Frag} {tt:TT} {te:TE} {σ:St} {H:Hp} {Q:VK} {a:Addr} {rows:List (List V)} (hl:LTups H a rows) (hn:rows.length≤sizeLine) (q:List V→Bool) (g:List V→V)
    (ht:∀ t xs H',xs∈rows→Same H H'→H' t=some (.tup xs)→∀ Qt:Bool→Hp→Prop,(∀ H'',Same H' H''→Qt (q xs) H'')→tt (some (.ref t)::σ) H' Qt)
    (he:∀ t xs H',xs∈rows→Same H H'→H' t=some (.tup xs)→∀ Qe:VK,(∀ H'',Same H' H''→Qe (g xs) H'')→te (some (.ref t)::σ) H' Qe)
    (hd:∀ D H',H D=none→Same H H'→H' D=some (.lst ((rows.filter q).map g))→Q (.ref D) H'):compW (Itl K a) tt te σ H Q:=by
  obtain ⟨ts,e,hT⟩:=hl
  refine compW_listIf (xs:=ts.map V.ref) (.inl (.inl e)) (by rw [List.length_map,hT.length];exact hn) (fun x=>q (tupV H x)) (fun x=>g (tupV H x)) ?_ ?_ ?_
  · intro x H' hx s Qt qt
    obtain ⟨t,xs,rfl,hm,h1⟩:=hT.mem hx
    have et:tupV H (.ref t)=xs:=by simp only [tupV,h1]
    rw [et] at qt
    exact ht t xs H' hm s (s _ _ h1) Qt qt
  · intro x H' hx _ s Qe qe
    obtain ⟨t,xs,rfl,hm,h1⟩:=hT.mem hx
    have et:tupV H (.ref t)=xs:=by simp only [tupV,h1]
    rw [et] at qe
    exact he t xs H' hm s (s _ _ h1) Qe qe
  · intro D H' hD s h
    refine hd D H' hD s ?_
    rw [h,hT.comp]
theorem compW_tups {K:PySem.W.Frag} {te:TE} {σ:St} {H:Hp} {Q:VK} {a:Addr} {rows:List (List V)} (hl:LTups H a rows) (hn:rows.length≤sizeLine) (g:List V→V)
    (he:∀ t xs H',xs∈rows→Same H H'→H' t=some (.tup xs)→∀ Qe:VK,(∀ H'',Same H' H''→Qe (g xs) H'')→te (some (.ref t)::σ) H' Qe)
    (hd:∀ D H',H D=none→Same H H'→H' D=some (.lst (rows.map g))→Q (.ref D) H'):compW (Itl K a) tYes te σ H Q :=
  compW_tupsIf hl hn (fun _=>true) g (fun t xs H' _ s _ Qt qt=>qt H' (Same.refl _)) he (fun D H' h s e=>hd D H' h s (by rw [filter_true] at e;exact e))

inductive Thg (H:Hp):V→Prop
  | non:Thg H .non
  | bl (b:Bool):Thg H (.bl b)
  | int (i:Int):Thg H (.int i)
  | str (l:List Nat) (h:l.length≤1000):Thg H (.str (S l))
  | lst {p:Addr} {xs:List V} (h:H p=some (.lst xs)):Thg H (.ref p)
  | tup {p:Addr} {xs:List V} (h:H p=some (.tup xs)):Thg H (.ref p)
def T36:List Nat:=[97,98,99,100,101,102,103,104,105,106,107,108,109,110,111,112,113,114,115,116,117,118,119,120,121,122,48,49,50,51,52,53,54,55,56,57]
theorem T36_is:(Str.ofString "abcdefghijklmnopqrstuvwxyz0123456789")=S T36:=by decide +kernel
def inN (c:Nat):Bool:=decide (c∈T36)
def foldK (l:List Nat):Int:=l.foldl (fun (h:Int) (c:Nat)=>Builtin.bitAnd (h * 37+(c:Int)) 65535) 1
def sprN (l:List Nat):Int:=Builtin.bitXor (foldK l) (foldK l / 2 ^ (8:Int).toNat)
structure Shf where
  name:List Nat
  rows:Nat
  kind:Str
def Shf.v (x:Shf):List V:=[.str (S x.name),.int x.rows,.str x.kind]
def okShf (x:Shf):Prop:=(1≤x.name.length∧x.name.length≤12∧x.name.all inN=true)∧(1≤x.rows∧x.rows≤9)∧(x.kind=Str.ofString "table" ∨ x.kind=Str.ofString "stream")
structure OkShfs (xs:List Shf):Prop where
  lo:1≤xs.length
  hi:xs.length≤6
  each:∀ x∈xs,okShf x
  nd:(xs.map Shf.name).Nodup
structure ShAt (C:Addr) (H:Hp) (s l:Addr) (xs:List Shf):Prop where
  obj:∃ dx,H s=some (.ins C dx [("shelves",.ref l)])
  lst:LTups H l (xs.map Shf.v)
theorem ShAt.chg {A:List Addr} {C:Addr} {H H':Hp} {s l:Addr} {xs:List Shf} (h:ShAt C H s l xs) (c:Chg A H H') (hs:s∉A) (hl:l∉A):ShAt C H' s l xs:=by
  obtain ⟨dx,e⟩:=h.obj
  exact ⟨⟨dx,c.keep _ _ e hs⟩,h.lst.chg c hl⟩
abbrev KW:=List Nat×List Nat
def rowOf (c:List KW):RowM:=⟨0,c.length,0,fun p=>if 0≤p then (c[p.toNat]?).map fun x=>(x.1,some x.2,0) else none⟩
def it (i:Nat) (xs:List V):V:=xs.getD i .non
structure RowsAt (C:Addr) (H:Hp) (R:Addr) (rs:List (Addr×Addr)) (f:Nat→List KW):Prop where
  lst:H R=some (.lst (rs.map fun y=>V.ref y.1))
  row:∀ (i:Nat) r d,rs[i]?=some (r,d)→RowAt C H r d (rowOf (f i))
theorem RowsAt.same {C:Addr} {H H':Hp} {R:Addr} {rs:List (Addr×Addr)} {f:Nat→List KW} (h:RowsAt C H R rs f) (s:Same H H'):RowsAt C H' R rs f :=
  ⟨s _ _ h.lst,fun i r d e=>(h.row i r d e).chg (A:=[]) (Chg.of_same s) (by simp) (by simp)⟩
def ofKey (P:List KW) (key:List Nat):List V:=(P.filter fun x=>decide (x.1=key)).map fun x=>.str (S x.2)
structure Parted (P:List KW) (f:Nat→List KW) (lo n:Nat):Prop where
  pos:0 < n
  each:∀ i,lo≤i→i < lo+n→f i=P.filter fun x=>decide (lo+(sprN x.1 % (n:Int)).toNat=i)
  few:P.length≤63
  ok:∀ x∈P,okS x.1∧okS x.2
theorem Parted.found {P:List KW} {f:Nat→List KW} {lo n:Nat} (h:Parted P f lo n) (key:List Nat) {r0:Nat} (hr0:(sprN key % (n:Int)).toNat=r0) {i:Nat} (hi:i < n) :
    ((f (lo+i)).filter fun x=>decide (x.1=key)).map (fun x=>V.str (S x.2))=if i=r0 then ofKey P key else []:=by
  rw [h.each (lo+i) (by omega) (by omega),List.filter_filter]
  unfold ofKey
  by_cases e:i=r0
  · rw [if_pos e]
    congr 1
    refine List.filter_congr fun x _=>?_
    by_cases z:x.1=key
    · rw [z,hr0,e];simp
    · simp [z]
  · rw [if_neg e]
    have:(P.filter fun x=>decide (x.1=key) && decide (lo+(sprN x.1 % (n:Int)).toNat=lo+i))=[]:=by
      rw [List.filter_eq_nil_iff]
      intro x _ hx
      simp only [Bool.and_eq_true,decide_eq_true_eq] at hx
      rw [hx.1,hr0] at hx
      omega
    rw [this]
    rfl
def ltr36 (n:Int):Nat:=T36.getD (n % 36).toNat 0
theorem ltr36_at (n:Int):T36[(n % 36).toNat]?=some (ltr36 n):=by
  have h:(n % 36).toNat < T36.length:=by
    show (n % 36).toNat < 36
    omega
  unfold ltr36
  rw [List.getD_eq_getElem?_getD,List.getElem?_eq_getElem h]
  rfl
def sp_wholeI:Sp:=fun vs H Q _=>∃ x y:Int,vs=[.int x,.int y]∧Q (.bl (decide (x=y))) H
theorem Parted.put {P:List KW} {f:Nat→List KW} {lo n:Nat} (h:Parted P f lo n) (x:KW) (hf:P.length < 63) (ok:okS x.1∧okS x.2) :
    Parted (P++[x]) (fun i=>if i=lo+(sprN x.1 % (n:Int)).toNat then f i++[x] else f i) lo n:=by
  refine ⟨h.pos,fun i h1 h2=>?_,by simp;omega,fun y hy=>?_⟩
  · show (if i=lo+(sprN x.1 % (n:Int)).toNat then f i++[x] else f i)=_
    rw [List.filter_append,← h.each i h1 h2]
    by_cases e:i=lo+(sprN x.1 % (n:Int)).toNat
    · rw [if_pos e]
      simp [e]
    · rw [if_neg e]
      have e':¬ lo+(sprN x.1 % (n:Int)).toNat=i:=fun z=>e z.symm
      simp [e']
  · rcases List.mem_append.mp hy with z | z
    · exact h.ok y z
    · rw [List.mem_singleton.mp z];exact ok
theorem Parted.other {P:List KW} {f g:Nat→List KW} {lo n:Nat} (h:Parted P f lo n) (e:∀ i,lo≤i→i < lo+n→g i=f i):Parted P g lo n :=
  ⟨h.pos,fun i h1 h2=>(e i h1 h2).trans (h.each i h1 h2),h.few,h.ok⟩
end L2

set_option Elab.async false
set_option linter.all false
set_option maxRecDepth 100000
set_option maxHeartbeats 4000000
namespace L2
open PySem PySem.Spec PyProof.Rows
def cellN (ns:List Int) (k:Int):Int:=mixN (if k < (ns.length:Int) then ns.getD k.toNat 0 else 104729 * k+7) k
theorem cellN_bd (ns:List Int) (k:Int):0≤cellN ns k∧cellN ns k < 2147483647:=mixN_bd _ _
def sp_cellN (K:PySem.W.Frag):Sp:=fun vs H Q _=>∃ (p:Addr) (ns:List Int) (k:Int),vs=[.ref p,.int k]∧SqL K H p (ns.map V.int)∧0≤k∧Q (.int (cellN ns k)) H
def manyN (ns:List Int) (f m:Int):Int:=min m (max (cellN ns (f - 1) / 7 % (m+1)) ((ns.length:Int) - f))
theorem manyN_bd (ns:List Int) {f m:Int} (hm:0≤m):0≤manyN ns f m∧manyN ns f m≤m:=by
  unfold manyN
  have:=Int.emod_nonneg (cellN ns (f - 1) / 7) (show m+1≠0 by omega)
  omega
def sp_many (K:PySem.W.Frag):Sp:=fun vs H Q _=>∃ (p:Addr) (ns:List Int) (f m:Int),vs=[.ref p,.int f,.int m]∧SqL K H p (ns.map V.int)∧1≤f∧0≤m∧Q (.int (manyN ns f m)) H
end L2

set_option Elab.async false
set_option linter.all false
set_option maxRecDepth 100000
set_option maxHeartbeats 4000000
namespace L2
open PySem PySem.Spec PyProof.Rows
structure TabK (kvs:List (Key×V)) (f:List Nat→Option (List Nat)) (n:Nat):Prop where
  len:kvs.length≤n
  nd:NdK kvs
  val:∀ k:List Nat,valV kvs (.inr (S k))=(f k).map fun z=>V.str (S z)
  int:∀ i:Int,valV kvs (.inl i)=none
theorem TabK.nil:TabK [] (fun _=>none) 0:=⟨Nat.le_refl _,NdK.nil,fun _=>rfl,fun _=>rfl⟩
theorem inr_S {q k:List Nat}:(Sum.inr (S q):Key)=Sum.inr (S k)↔q=k:=⟨fun h=>S_inj (Sum.inr.inj h),fun h=>by rw [h]⟩
theorem TabK.put {kvs:List (Key×V)} {f:List Nat→Option (List Nat)} {n:Nat} (h:TabK kvs f n) (k w:List Nat):TabK (putK kvs (.inr (S k)) (.str (S w))) (fun q=>if q=k then some w else f q) (n+1):=by
  refine ⟨?_,h.nd.put _ _,fun q=>?_,fun i=>?_⟩
  · have:=length_putK kvs (.inr (S k):Key) (.str (S w));have:=h.len;omega
  · rw [valV_put]
    by_cases e:q=k
    · rw [if_pos (inr_S.mpr e),if_pos e];rfl
    · rw [if_neg (fun z=>e (inr_S.mp z)),if_neg e];exact h.val q
  · rw [valV_put,if_neg (by intro z;cases z)];exact h.int i
theorem TabK.drop {kvs:List (Key×V)} {f:List Nat→Option (List Nat)} {n:Nat} (h:TabK kvs f n) (k:List Nat):TabK (dropK kvs (.inr (S k))) (fun q=>if q=k then none else f q) n:=by
  refine ⟨Nat.le_trans (dropK_le _ _) h.len,h.nd.drop _,fun q=>?_,fun i=>?_⟩
  · rw [valV_drop]
    by_cases e:q=k
    · rw [if_pos (inr_S.mpr e),if_pos e];rfl
    · rw [if_neg (fun z=>e (inr_S.mp z)),if_neg e];exact h.val q
  · rw [valV_drop,if_neg (by intro z;cases z)];exact h.int i
theorem TabK.mono {kvs:List (Key×V)} {f g:List Nat→Option (List Nat)} {n m:Nat} (h:TabK kvs f n) (e:∀ q,f q=g q) (hn:n≤m):TabK kvs g m:=⟨Nat.le_trans h.len hn,h.nd,fun k=>by rw [← e k];exact h.val k,h.int⟩
def Tab (H:Hp) (d:Addr) (f:List Nat→Option (List Nat)) (n:Nat):Prop:=∃ kvs,H d=some (.dK kvs)∧TabK kvs f n
theorem Tab.same {H H':Hp} {d:Addr} {f:List Nat→Option (List Nat)} {n:Nat} (h:Tab H d f n) (s:Same H H'):Tab H' d f n:=let ⟨kvs,e,t⟩:=h;⟨kvs,s _ _ e,t⟩
theorem Tab.chg {A:List Addr} {H H':Hp} {d:Addr} {f:List Nat→Option (List Nat)} {n:Nat} (h:Tab H d f n) (c:Chg A H H') (hd:d∉A):Tab H' d f n:=let ⟨kvs,e,t⟩:=h;⟨kvs,c.keep _ _ e hd,t⟩
theorem Tab.ne {H:Hp} {d e:Addr} {f:List Nat→Option (List Nat)} {n:Nat} (h:Tab H d f n) (he:H e=none):d≠e:=fun z=>by
  obtain ⟨kvs,hk,_⟩:=h
  rw [z,he] at hk
  cases hk
theorem TupsAt.drop {H:Hp} {ts:List Addr} {rows:List (List V)} (h:TupsAt H ts rows) (n:Nat):TupsAt H (ts.drop n) (rows.drop n):=by
  unfold TupsAt at h ⊢
  induction h generalizing n with
  | nil=>simp;exact .nil
  | cons r t ih =>
    cases n with
    | zero=>exact .cons r t
    | succ n=>exact ih n
theorem LTups.at {K:PySem.W.Frag} {H:Hp} {p:Addr} {rows:List (List V)} (h:LTups H p rows):∃ ts:List Addr,SqL K H p (ts.map V.ref)∧ts.length=rows.length∧∀ (i:Nat) (x:V),(ts.map V.ref)[i]?=some x→∃ t r,x=.ref t∧rows[i]?=some r∧H t=some (.tup r):=by
  obtain ⟨ts,h1,h2⟩:=h
  refine ⟨ts,.inl (.inl h1),h2.length,fun i x hx=>?_⟩
  rw [List.getElem?_map] at hx
  cases e:ts[i]? with
  | none=>rw [e] at hx;cases hx
  | some t =>
    rw [e] at hx
    obtain ⟨r,hr,ht⟩:=h2.get e
    exact ⟨t,r,(Option.some.inj hx).symm,hr,ht⟩
theorem same_back {H H':Hp} {b:Addr} (s:Same H H') (h:H' b=none):H b=none:=by
  cases e:H b with
  | none=>rfl
  | some o=>rw [s _ _ e] at h;cases h
theorem Same.wr {H H':Hp} {b:Addr} {o:HO} (s:Same H H') (h:H b=none):Same H (L2.upd H' b o):=fun c u hc=>(upd_ne (ne_of_none hc h)).trans (s c u hc)
end L2

set_option Elab.async false
set_option linter.all false
set_option maxRecDepth 100000
set_option maxHeartbeats 4000000
namespace L2
open PySem PySem.Spec PyProof.Rows
def Pl (H:Hp):Nat→V→Prop
  | _,.non=>True
  | _,.int _=>True
  | _,.str _=>True
  | n+1,.ref a=>∃ xs,(H a=some (.lst xs)∨H a=some (.tup xs))∧∀ x∈xs,Pl H n x
  | _,_=>False
theorem Pl.same {H H':Hp} (s:Same H H'):∀ {n:Nat} {v:V},Pl H n v→Pl H' n v:=by
  intro n
  induction n with
  | zero =>
    intro v h
    cases v with
    | non=>trivial
    | int i=>trivial
    | str x=>trivial
    | _=>exact (show False from h).elim
  | succ n ih =>
    intro v h
    cases v with
    | non=>trivial
    | int i=>trivial
    | str x=>trivial
    | ref a =>
      obtain ⟨xs,h,hx⟩:=(show ∃ xs,(H a=some (.lst xs)∨H a=some (.tup xs))∧∀ x∈xs,Pl H n x from h)
      exact ⟨xs,h.elim (fun h=>.inl (s _ _ h)) fun h=>.inr (s _ _ h),fun x m=>ih (hx x m)⟩
    | _=>exact (show False from h).elim
end L2

set_option Elab.async false
set_option linter.all false
set_option maxRecDepth 100000
set_option maxHeartbeats 4000000
namespace L2
open PySem PySem.Spec PyProof.Rows
def RowM.rowL (M:RowM) (p:Int):L3:=match M.L p with
  | some x=>(p,x.1,x.2.1)
  | none=>(p,[],none)
def RowM.stand (M:RowM):List L3:=(M.standing 0 M.last.toNat).map M.rowL
def lastP:List L3→List Nat→Option Int
  | [],_=>none
  | x::r,k=>match lastP r k with
    | some y=>some y
    | none=>if x.2.1=k then some x.1 else none
theorem lastP_snoc (a:List L3) (x:L3) (k:List Nat):lastP (a++[x]) k=if x.2.1=k then some x.1 else lastP a k:=by
  induction a with
  | nil=>rw [List.nil_append];simp [lastP]
  | cons y r ih =>
    rw [List.cons_append,lastP,ih]
    by_cases h:x.2.1=k
    · rw [if_pos h,if_pos h]
    · rw [if_neg h,if_neg h,lastP]
open Classical in
noncomputable def tupP (H:Hp) (P:L3→Bool) (x:V):Bool:=decide (∃ t y,x=.ref t∧H t=some (.tup (l3V y))∧P y=true)
open Classical in
theorem Chg.wr {A:List Addr} {H H':Hp} {b:Addr} {o:HO} (c:Chg A H H') (h:H b=none):Chg A H (L2.upd H' b o) :=
  ⟨fun e u he n=>(upd_ne (ne_of_none he h)).trans (c.keep e u he n),fun e xs he=>(upd_ne (ne_of_none he h)).trans (c.tup e xs he)⟩
theorem wd.mono {n m:Nat} {d:PyData} (h:wd n d) (hn:n≤m):wd m d:=⟨h.1,Nat.le_trans h.2 hn⟩
theorem Pl.ints {H:Hp} {p:Addr} {ns:List Int} (h:H p=some (.lst (ns.map V.int))):Pl H 2 (.ref p):=⟨_,.inl h,fun x hx=>by
  obtain ⟨n,_,rfl⟩:=List.mem_map.mp hx
  trivial⟩
theorem Pl.l3 {H:Hp} {p:Addr} {ls:List L3} (h:LTups H p (ls.map l3V)):Pl H 2 (.ref p):=by
  obtain ⟨ts,hts,htl,hat⟩:=h.at (K:=[])
  obtain ⟨ts',h1,h2⟩:=h
  refine ⟨_,.inl h1,fun x hx=>?_⟩
  obtain ⟨t,ht,rfl⟩:=List.mem_map.mp hx
  obtain ⟨i,hi,e⟩:=List.getElem_of_mem ht
  obtain ⟨r,hr,htr⟩:=h2.get (i:=i) (t:=t) (by rw [List.getElem?_eq_getElem hi,e])
  rw [List.getElem?_map] at hr
  cases e2:ls[i]? with
  | none=>rw [e2] at hr;cases hr
  | some y =>
    rw [e2] at hr
    cases hr
    refine ⟨_,.inr htr,fun v hv=>?_⟩
    obtain ⟨p0,k,w⟩:=y
    simp only [l3V,List.mem_cons,List.not_mem_nil,or_false] at hv
    rcases hv with rfl | rfl | rfl
    · trivial
    · trivial
    · cases w<;>trivial
end L2

set_option Elab.async false
set_option linter.all false
set_option maxRecDepth 100000
set_option maxHeartbeats 4000000
namespace L2
open PySem PySem.Spec PyProof.Rows
def rIsB:R2:=fun x y H Q=>∃ b c,x=.bl b∧y=.bl c∧Q (.bl (decide (b=c))) H
def rNotB:R2:=fun x y H Q=>∃ b c,x=.bl b∧y=.bl c∧Q (.bl (!decide (b=c))) H
section
variable {X:Cx}
theorem rIsB_bb {H:Hp} {Q:VK} (b c:Bool):rIsB (.bl b) (.bl c) H Q=Q (.bl (decide (b=c))) H:=by simp [rIsB]
theorem rNotB_bb {H:Hp} {Q:VK} (b c:Bool):rNotB (.bl b) (.bl c) H Q=Q (.bl (!decide (b=c))) H:=by simp [rNotB]
end
def goes (ls:List L3) (pa:Int) (x:L3):Bool:=!(lastP ls x.2.1 == some x.1) || (x.2.2.isNone && decide (x.1 < pa))
end L2

set_option Elab.async false
set_option linter.all false
set_option maxRecDepth 100000
set_option maxHeartbeats 4000000
namespace L2
open PySem PySem.Spec PyProof.Rows
theorem inV_ints (k:Int) (ks:List Int):inV (.int k) (ks.map V.int)=decide (k∈ks):=by
  unfold inV
  induction ks with
  | nil=>rfl
  | cons x r ih =>
    rw [List.map_cons,List.any_cons,ih]
    show ((x == k) || decide (k∈r))=_
    by_cases e:k=x
    · subst e;simp
    · have e1:(x == k)=false:=by rw [beq_eq_false_iff_ne];exact Ne.symm e
      rw [e1];simp [e]
theorem ints_flat (ks:List Int):(ks.map V.int).all flatV=true:=by
  induction ks with
  | nil=>rfl
  | cons x r ih=>rw [List.map_cons,List.all_cons,ih];rfl
end L2

set_option Elab.async false
set_option linter.all false
set_option maxRecDepth 100000
set_option maxHeartbeats 4000000
namespace L2
open PySem PySem.Spec PyProof.Rows
section
variable {prog:Program} {w:World} {A:Around} {R:Result→Shared→Prop} {I:Addr} {fp wr:List Addr} {n:Nat} {P:Nat→Value→Prop} {St:Nat→Heap→Prop} {kw:List (Str×Value)}
end
section
variable {prog:Program} {w:World} {A:Around} {E:Value→Shared→Prop} {s:Shared}
end
section
variable {X:Cx}
end
end L2

set_option Elab.async false
set_option linter.all false
set_option maxRecDepth 100000
set_option maxHeartbeats 4000000
namespace L2
open PySem PySem.Spec PyProof.Rows
theorem TupsAt.append {H:Hp} {ts us:List Addr} {rows more:List (List V)} (h:TupsAt H ts rows) (h2:TupsAt H us more):TupsAt H (ts++us) (rows++more):=by
  unfold TupsAt at h h2 ⊢
  induction h with
  | nil=>exact h2
  | cons r t ih=>exact .cons r ih
def tblF (pl:Int) (w l:Addr):List (Str×V):=[("place",.int pl),("words",.ref w),("lasts",.ref l)]
structure WrdK (kvs:List (Key×V)) (tk:List L3):Prop where
  len:kvs.length≤tk.length
  nd:NdK kvs
  val:∀ k:List Nat,valV kvs (.inr (S k))=(lastW tk k).map wV
  int:∀ i:Int,valV kvs (.inl i)=none
structure LstK (kvs:List (Key×V)) (tk:List L3):Prop where
  len:kvs.length≤tk.length
  val:∀ k:List Nat,valV kvs (.inr (S k))=(lastP tk k).map V.int
theorem WrdK.nil:WrdK [] []:=⟨Nat.le_refl _,NdK.nil,fun _=>rfl,fun _=>rfl⟩
theorem LstK.nil:LstK [] []:=⟨Nat.le_refl _,fun _=>rfl⟩
theorem WrdK.put {kvs:List (Key×V)} {tk:List L3} (h:WrdK kvs tk) (x:L3):WrdK (putK kvs (.inr (S x.2.1)) (wV x.2.2)) (tk++[x]):=by
  refine ⟨?_,h.nd.put _ _,fun q=>?_,fun i=>?_⟩
  · have:=length_putK kvs (.inr (S x.2.1):Key) (wV x.2.2);have:=h.len;rw [List.length_append,List.length_singleton];omega
  · rw [valV_put,lastW_snoc]
    by_cases e:q=x.2.1
    · rw [if_pos (inr_S.mpr e),if_pos e.symm];rfl
    · rw [if_neg (fun z=>e (inr_S.mp z)),if_neg (Ne.symm e)];exact h.val q
  · rw [valV_put,if_neg (by intro z;cases z)];exact h.int i
theorem LstK.put {kvs:List (Key×V)} {tk:List L3} (h:LstK kvs tk) (x:L3):LstK (putK kvs (.inr (S x.2.1)) (.int x.1)) (tk++[x]):=by
  refine ⟨?_,fun q=>?_⟩
  · have:=length_putK kvs (.inr (S x.2.1):Key) (.int x.1);have:=h.len;rw [List.length_append,List.length_singleton];omega
  · rw [valV_put,lastP_snoc]
    by_cases e:q=x.2.1
    · rw [if_pos (inr_S.mpr e),if_pos e.symm];rfl
    · rw [if_neg (fun z=>e (inr_S.mp z)),if_neg (Ne.symm e)];exact h.val q
structure TblAt (C:Addr) (H:Hp) (t w l:Addr) (tk:List L3) (pl:Int):Prop where
  obj:∃ dx,H t=some (.ins C dx (tblF pl w l))
  words:∃ kvs,H w=some (.dK kvs)∧WrdK kvs tk
  lasts:∃ kvs,H l=some (.dK kvs)∧LstK kvs tk
  nwl:w≠l
theorem TblAt.chg {A:List Addr} {C:Addr} {H H':Hp} {t w l:Addr} {tk:List L3} {pl:Int} (h:TblAt C H t w l tk pl) (c:Chg A H H') (ht:t∉A) (hw:w∉A) (hl:l∉A):TblAt C H' t w l tk pl:=by
  obtain ⟨dx,e⟩:=h.obj
  obtain ⟨k1,e1,a1⟩:=h.words
  obtain ⟨k2,e2,a2⟩:=h.lasts
  exact ⟨⟨dx,c.keep _ _ e ht⟩,⟨k1,c.keep _ _ e1 hw,a1⟩,⟨k2,c.keep _ _ e2 hl,a2⟩,h.nwl⟩
theorem TblAt.same {C:Addr} {H H':Hp} {t w l:Addr} {tk:List L3} {pl:Int} (h:TblAt C H t w l tk pl) (s:Same H H'):TblAt C H' t w l tk pl:=h.chg (A:=[]) (Chg.of_same s) (by simp) (by simp) (by simp)
theorem TblAt.ntl {C:Addr} {H:Hp} {t w l:Addr} {tk:List L3} {pl:Int} (h:TblAt C H t w l tk pl):t≠l:=by
  obtain ⟨dx,e⟩:=h.obj
  obtain ⟨k1,e1,a1⟩:=h.lasts
  exact ne_of e e1 (by intro z;cases z)
theorem TblAt.apart {C:Addr} {H:Hp} {t w l b:Addr} {tk:List L3} {pl:Int} (h:TblAt C H t w l tk pl) (hb:∀ o,H b=some o→(∀ dx,o≠.ins C dx (tblF pl w l))∧∀ kvs,o≠.dK kvs):b∉[t,w,l]:=by
  obtain ⟨dx,e⟩:=h.obj
  obtain ⟨k1,e1,a1⟩:=h.words
  obtain ⟨k2,e2,a2⟩:=h.lasts
  intro m
  simp only [List.mem_cons,List.not_mem_nil,or_false] at m
  rcases m with rfl | rfl | rfl
  · exact (hb _ e).1 _ rfl
  · exact (hb _ e1).2 _ rfl
  · exact (hb _ e2).2 _ rfl
end L2

set_option Elab.async false
set_option linter.all false
set_option maxRecDepth 100000
set_option maxHeartbeats 4000000
namespace L2
open PySem PySem.Spec PyProof.Rows
def LoanAt (C:Addr) (H:Hp) (r l:Addr) (M:LendM):Prop:=(∃ dx f t,H r=some (.ins C dx (lendF M f t l)))∧∃ kvs,Rd H l (.dK kvs)∧∀ p:Int,LoanO H (M.L p) (valV kvs (.inl p))
theorem LendAt.loan {C:Addr} {H:Hp} {r f t l:Addr} {M:LendM} (h:LendAt C H r f t l M):LoanAt C H r l M:=by
  obtain ⟨dx,e⟩:=h.obj
  obtain ⟨kvs,e2,_,v,_⟩:=h.loa
  exact ⟨⟨dx,f,t,e⟩,kvs,.inl e2,v⟩
theorem LendAt.same {C:Addr} {H H':Hp} {r f t l:Addr} {M:LendM} (h:LendAt C H r f t l M) (s:Same H H'):LendAt C H' r f t l M:=h.chg (A:=[]) (Chg.of_same s) (by simp) (by simp) (by simp) (by simp)
theorem RowAt.same {C:Addr} {H H':Hp} {r d:Addr} {M:RowM} (h:RowAt C H r d M) (s:Same H H'):RowAt C H' r d M:=h.chg (A:=[]) (Chg.of_same s) (by simp) (by simp)
def LSz (H:Hp) (l:Addr) (c:Nat):Prop:=∃ kvs,H l=some (.dK kvs)∧kvs.length≤c
theorem LSz.same {H H':Hp} {l:Addr} {c:Nat} (h:LSz H l c) (s:Same H H'):LSz H' l c:=let ⟨k,e,b⟩:=h;⟨k,s _ _ e,b⟩
theorem LSz.chg {A:List Addr} {H H':Hp} {l:Addr} {c:Nat} (h:LSz H l c) (s:Chg A H H') (n:l∉A):LSz H' l c:=let ⟨k,e,b⟩:=h;⟨k,s.keep _ _ e n,b⟩
theorem LSz.mono {H:Hp} {l:Addr} {c d:Nat} (h:LSz H l c) (s:c≤d):LSz H l d:=let ⟨k,e,b⟩:=h;⟨k,e,Nat.le_trans b s⟩
def dueS (M:LendM) (turn:Int) (acc:List Int×Option Int) (p:Int):List Int×Option Int:=match acc.2 with
  | some _=>acc
  | none=>if M.isLent p turn=true then acc else if M.T p < M.tries then (acc.1,some p) else (acc.1++[p],none)
def dueG (M:LendM) (turn:Int) (l:List Int):List Int×Option Int:=l.foldl (dueS M turn) ([],none)
theorem dueG_snoc (M:LendM) (turn:Int) (l:List Int) (p:Int):dueG M turn (l++[p])=dueS M turn (dueG M turn l) p:=by unfold dueG;rw [List.foldl_append];rfl
theorem dueS_done {M:LendM} {turn:Int} {a:List Int} {d:Int}:∀ l:List Int,l.foldl (dueS M turn) (a,some d)=(a,some d)
  | []=>rfl
  | p::r=>by rw [List.foldl_cons];exact dueS_done r
theorem dueG_done {M:LendM} {turn:Int} {l m:List Int} {a:List Int} {d:Int} (h:dueG M turn l=(a,some d)):dueG M turn (l++m)=(a,some d):=by
  unfold dueG at h ⊢
  rw [List.foldl_append,h]
  exact dueS_done m
theorem dueG_len (M:LendM) (turn:Int) (l:List Int):(dueG M turn l).1.length≤l.length:=by
  unfold dueG
  suffices h:∀ (l:List Int) (acc:List Int×Option Int),(l.foldl (dueS M turn) acc).1.length≤acc.1.length+l.length by simpa using h l ([],none)
  intro l
  induction l with
  | nil=>intro acc;exact Nat.le_refl _
  | cons p r ih =>
    intro acc
    rw [List.foldl_cons]
    refine Nat.le_trans (ih _) ?_
    rw [List.length_cons]
    have:(dueS M turn acc p).1.length≤acc.1.length+1:=by
      unfold dueS
      split
      · omega
      · split
        · omega
        · split
          · exact Nat.le_succ _
          · rw [List.length_append];exact Nat.le_refl _
    omega
def oV:Option Int→V
  | none=>.non
  | some p=>.int p
def sp_r_loan_at (C:Addr):Sp:=fun vs H Q _=>∃ (r l:Addr) (M:LendM) (p:Int),vs=[.ref r,.int p]∧LoanAt C H r l M∧∀ v,LoanVal H (M.L p) v→Q v H
def sp_r_is_lent (C:Addr):Sp:=fun vs H Q _=>∃ (r l:Addr) (M:LendM) (p turn:Int),vs=[.ref r,.int p,.int turn]∧LoanAt C H r l M∧Q (.bl (M.isLent p turn)) H
def pwf (M:LendM) (R:RowM) (fr:Int):List Int:=(R.seenP M.start fr R.last).filter fun p=>(M.F p).isNone
def sp_pwf (C CR:Addr):Sp:=fun vs H Q _=>∃ (r f t l:Addr) (M:LendM) (row d:Addr) (R:RowM) (fr:Int),vs=[.ref r,.ref row,.int fr]∧LendAt C H r f t l M∧RowAt CR H row d R∧R.last≤1000∧0≤M.start∧M.start≤1000∧0≤fr ∧
  ∀ D H',H D=none→Same H H'→H' D=some (.lst ((pwf M R fr).map V.int))→Q (.ref D) H'
theorem pwf_len (M:LendM) (R:RowM) (fr:Int):(pwf M R fr).length≤R.last.toNat:=by
  unfold pwf RowM.seenP
  refine Nat.le_trans (List.length_filter_le _ _) ?_
  rw [List.length_take]
  exact Nat.min_le_left _ _
end L2

set_option Elab.async false
set_option linter.all false
set_option maxRecDepth 100000
set_option maxHeartbeats 4000000
namespace L2
open PySem PySem.Spec PyProof.Rows
section
variable {X:Cx}
end
end L2

set_option Elab.async false
set_option linter.all false
set_option maxRecDepth 100000
set_option maxHeartbeats 4000000
namespace L2
open PySem
def TrD (h B:Heap) (e:Addr) (cls:Value) (dc:Option Addr) (a0 fl:Value):Prop :=
  ∃ oe vs T oT ts,h.get? e=some oe∧oe.cls=cls∧oe.dict=dc∧oe.data=.fields vs∧vs[2]?=some a0∧vs[1]?=some (.ref T)∧B.get? T=none∧T≠e∧h.get? T=some oT∧oT.data=.fields ts∧ts[3]?=some fl
structure Fly (B:Heap) (l:List Env) (e:Addr) (cls:Value) (dc:Option Addr) (a0 fl:Value) (h:Heap):Prop where
  stay:B.StaysIn h
  new:B.get? e=none
  fun':h.FunFrames B l
  tale:TrD h B e cls dc a0 fl
section
variable {M:Model} {A:Around} {E:Value→Shared→Prop} {s:Shared}
theorem mapF_dict (g:Array Value→Array Value) (o:Obj):(o.mapFields g).dict=o.dict:=by
  obtain ⟨c,d,t,sl⟩:=o
  cases t<;>rfl
theorem entry_new {B:Heap} {env:Env} {out:List Env} {L e:Addr} {oe:Obj} {vs:Array Value} {top a0:Value} {nx:Bool} {Q:Unit→Shared→Prop}
    (fr:A.frames=some (env::out)) (ff:s.heap.FunFrames B (env::out)) (ef:env.frame=some L) (ge:s.heap.get? e=some oe) (kb:B.StaysIn s.heap) (nb:B.get? e=none) (dt:oe.data=.fields vs) (sz:1 < vs.size) (z0:vs[2]?=some a0)
    (k:∀ h',Fly B (env::out) e oe.cls oe.dict a0 (rawInt L) h'→s.heap.UpToSlots h'→Q () { s with heap:=h' }) :
    wpAny M A (do
      let fo ← frameOf env
      let pl ← entryPlaceOf L nx
      let en ← EntryCells.newEntry top fo .none (rawInt L) .none pl
      setField (.ref e) 1 en) Q E s:=by
  have apart:e∉(env::out).filterMap (·.frame):=by
    intro m
    obtain ⟨_,o,g,nf⟩:=ff.mem m
    rw [ge] at g
    cases g
    exact nf vs dt
  refine wpAny_bind (wpAny_frameOf_fun fr ff ef fun g1 so=>wpAny_bind (wpAny_entryPlaceOf fun pl ip=>?_))
  unfold EntryCells.newEntry newFields
  refine wpAny_bind (wpAny_newObj_type ?_ (ip.sizeOk5 _ _ _ _ _))
  generalize hen:([top,Value.ref L,Value.none,rawInt L,Value.none]++(if pl.isEmpty then List.replicate 6 Value.none else pl)).toArray=ts
  have e3:ts[3]?=some (rawInt L):=by rw [← hen];simp
  generalize ho:({ cls:=.type "traceback",dict:=none,data:=.fields ts }:Obj)=on
  have ge1:g1.get? e=some oe:=(so.2.1 e apart).trans ge
  have kb1:B.StaysIn g1:=fun b o q=>by
    refine (so.2.1 b fun m=>?_).trans (kb b o q)
    rw [(ff.mem m).1] at q
    cases q
  have ge2:(g1.push on).get? e=some oe:=Heap.get?_push_of_some _ ge1
  have norec:∀ b o,s.heap.get? b=some o→(∀ ws,o.data≠.fields ws)→b≠e:=fun b o q nf z=>by
    subst z
    rw [ge] at q
    cases q
    exact nf vs dt
  refine wpAny_setField ge2 dt sz (k _ ?_ ?_)
  all_goals have nTe:g1.objs.size≠e:=Nat.ne_of_gt (Heap.lt_size ge1)
  all_goals have dt3:=Obj.data_mapFields dt (·.setIfInBounds 1 (Value.ref g1.objs.size))
  all_goals have ge3:=Heap.get?_update_self (Obj.mapFields (·.setIfInBounds 1 (Value.ref g1.objs.size))) ge2 (Obj.isFreed_of_fields dt3)
  all_goals have gT:((g1.push on).update e (Obj.mapFields (·.setIfInBounds 1 (Value.ref g1.objs.size)))).get? g1.objs.size=some on:=(Heap.get?_update_other _ _ (Ne.symm nTe)).trans (Heap.get?_push_size g1 (by rw [← ho];rfl))
  all_goals have keep:∀ b o,b≠e→g1.get? b=some o→((g1.push on).update e (Obj.mapFields (·.setIfInBounds 1 (Value.ref g1.objs.size)))).get? b=some o:=fun b o nbe q=>(Heap.get?_update_other _ _ (Ne.symm nbe)).trans (Heap.get?_push_of_some _ q)
  · refine ⟨fun b o q=>keep b o (fun z=>by rw [z,nb] at q;cases q) (kb1 b o q),nb,ff.of_keeps fun b o q nf=>?_,?_⟩
    · obtain ⟨sl,q'⟩:=so.2.2 b o q
      exact ⟨_,keep b _ (norec b o q nf) q',rfl⟩
    · refine ⟨_,_,g1.objs.size,on,ts,ge3,Obj.cls_mapFields _ _,mapF_dict _ _,dt3,?_,by simp [sz],kb1.fresh,nTe,gT,by rw [← ho],e3⟩
      rw [Array.getElem?_setIfInBounds_ne (by decide)]
      exact z0
  · intro b o q nf
    obtain ⟨sl,q'⟩:=so.2.2 b o q
    exact ⟨sl,keep b _ (norec b o q nf) q'⟩
theorem note_first {B:Heap} {env:Env} {out:List Env} {L e:Addr} {oe:Obj} {vs:Array Value} {a0:Value} {Q:Unit→Shared→Prop}
    (fr:A.frames=some (env::out)) (ff:s.heap.FunFrames B (env::out)) (ef:env.frame=some L) (ge:s.heap.get? e=some oe) (kb:B.StaysIn s.heap) (nb:B.get? e=none) (dt:oe.data=.fields vs) (z1:vs[1]?=some .none) (z0:vs[2]?=some a0)
    (k:∀ h',Fly B (env::out) e oe.cls oe.dict a0 (rawInt L) h'→s.heap.UpToSlots h'→Q () { s with heap:=h' }):wpAny M A (noteFrame (.ref e) env) Q E s:=by
  unfold noteFrame
  simp only [ef]
  refine wpAny_bind (wpAny_field ge dt z1 ?_)
  rw [if_neg (by decide)]
  exact entry_new fr ff ef ge kb nb dt (Array.getElem?_eq_some_iff.mp z1).1 z0 k
theorem note_next {B:Heap} {env:Env} {out:List Env} {L e:Addr} {cls:Value} {dc:Option Addr} {a0:Value} {Q:Unit→Shared→Prop}
    (fr:A.frames=some (env::out)) (ef:env.frame=some L) (fl:Fly B (env::out) e cls dc a0 .none s.heap)
    (k:∀ h',Fly B (env::out) e cls dc a0 (rawInt L) h'→s.heap.UpToSlots h'→Q () { s with heap:=h' }):wpAny M A (noteFrame (.ref e) env) Q E s:=by
  obtain ⟨kb,nb,ff,oe,vs,T,oT,ts,ge,hc,hdc,dt,z0,z1,nT,nTe,gT,dT,z3⟩:=fl
  subst hc hdc
  unfold noteFrame
  simp only [ef]
  refine wpAny_bind (wpAny_field ge dt z1 ?_)
  rw [if_pos (by simp)]
  refine wpAny_bind (wpAny_field gT dT z3 ?_)
  rw [if_neg (by simp [rawInt])]
  refine wpAny_bind (wpAny_setField gT dT (Array.getElem?_eq_some_iff.mp z3).1 ?_)
  have oth:∀ b,b≠T→(s.heap.update T (Obj.mapFields (·.setIfInBounds 3 Value.none))).get? b=s.heap.get? b:=fun b q=>Heap.get?_update_other _ _ (Ne.symm q)
  have norec:∀ b o,s.heap.get? b=some o→(∀ ws,o.data≠.fields ws)→b≠T:=fun b o q nf z=>by
    subst z
    rw [gT] at q
    cases q
    exact nf ts dT
  refine entry_new fr (ff.of_keeps fun b o q nf=>⟨o,(oth b (norec b o q nf)).trans q,rfl⟩) ef ((oth e (Ne.symm nTe)).trans ge) (fun b o q=>(oth b fun z=>by rw [z,nT] at q;cases q).trans (kb b o q)) nb dt (Array.getElem?_eq_some_iff.mp z1).1 z0 fun h' f' u'=>k h' f' fun b o q nf=>u' b o ((oth b (norec b o q nf)).trans q) nf
theorem flight_none {B:Heap} {l:List Env} {e:Addr} {cls:Value} {dc:Option Addr} {a0 fl:Value} {Q:Unit→Shared→Prop} (f:Fly B l e cls dc a0 fl s.heap)
    (k:∀ h',Fly B l e cls dc a0 .none h'→s.heap.UpToSlots h'→Q () { s with heap:=h' }):wpAny M A (setFlight (.ref e) none) Q E s:=by
  obtain ⟨kb,nb,ff,oe,vs,T,oT,ts,ge,hc,hdc,dt,z0,z1,nT,nTe,gT,dT,z3⟩:=f
  have z3':3 < ts.size:=(Array.getElem?_eq_some_iff.mp z3).1
  have oth:∀ b,b≠T→(s.heap.update T (Obj.mapFields (·.setIfInBounds 3 ((none:Option Addr).elim Value.none fun f=>rawInt f)))).get? b=s.heap.get? b:=fun b q=>Heap.get?_update_other _ _ (Ne.symm q)
  have norec:∀ b o,s.heap.get? b=some o→(∀ ws,o.data≠.fields ws)→b≠T:=fun b o q nf z=>by
    subst z
    rw [gT] at q
    cases q
    exact nf ts dT
  unfold setFlight
  refine wpAny_bind (wpAny_field ge dt z1 ?_)
  rw [if_pos (by simp)]
  refine wpAny_setField gT dT z3' (k _ ⟨fun b o q=>(oth b fun z=>by rw [z,nT] at q;cases q).trans (kb b o q),nb,ff.of_keeps fun b o q nf=>⟨o,(oth b (norec b o q nf)).trans q,rfl⟩,?_⟩ fun b o q nf=>⟨o.slots,(oth b (norec b o q nf)).trans q⟩)
  exact ⟨oe,vs,T,_,_,(oth e (Ne.symm nTe)).trans ge,hc,hdc,dt,z0,z1,nT,nTe,Heap.get?_update_self _ gT (Obj.isFreed_of_fields (Obj.data_mapFields dT _)),Obj.data_mapFields dT _,by simp [z3']⟩
theorem Fly.pop {B:Heap} {env:Env} {out:List Env} {e:Addr} {cls:Value} {dc:Option Addr} {a0 fl:Value} {h:Heap} (f:Fly B (env::out) e cls dc a0 fl h):Fly B out e cls dc a0 fl h :=
  ⟨f.stay,f.new,let ⟨_,_,z⟩:=f.fun';z,f.tale⟩
theorem leave_first {B:Heap} {env:Env} {out:List Env} {L e:Addr} {oe:Obj} {vs:Array Value} {a0:Value} {Q:Unit→Shared→Prop}
    (fr:A.frames=some (env::out)) (ff:s.heap.FunFrames B (env::out)) (ef:env.frame=some L) (ge:s.heap.get? e=some oe) (kb:B.StaysIn s.heap) (nb:B.get? e=none) (dt:oe.data=.fields vs) (z1:vs[1]?=some .none) (z0:vs[2]?=some a0)
    (k:∀ h',Fly B out e oe.cls oe.dict a0 .none h'→s.heap.UpToSlots h'→Q () { s with heap:=h' }):wpAny M A (leaving env (.ref e)) Q E s:=by
  unfold leaving
  exact wpAny_bind (note_first fr ff ef ge kb nb dt z1 z0 fun h1 f1 u1=>flight_none f1 fun h2 f2 u2=>k h2 f2.pop (u1.trans u2))
end
end L2

set_option Elab.async false
set_option linter.all false
set_option maxRecDepth 100000
set_option maxHeartbeats 4000000
namespace L2
open PySem PySem.Spec PyProof.Rows
structure Bas (l:List Env) (H H':Hp) (h B:Heap):Prop where
  keep:∀ b o,h.get? b=some o→H b=none→b∉frs l→B.get? b=some o
  free:∀ b o,h.get? b=some o→H b=none→H' b=none
  there:∀ b o,h.get? b=some o→b∉frs l→∃ o',B.get? b=some o'
  tups:∀ b xs,H b=some (.tup xs)→H' b=some (.tup xs)
  frzs:∀ b o u,H b=some (.frz o u)→H' b=some (.frz o u)
  tbls:∀ b ps,H b=some (.tbl ps)→∃ more,H' b=some (.tbl (ps++more))
def Slo (l:List Env) (h h':Heap):Prop:=∀ b o,b∈frs l→h.get? b=some o→∃ sl,h'.get? b=some { o with slots:=sl }
structure Thr (P:Program) (w:World) (l:List Env) (H:Hp) (s:Shared) (ea C:Addr) (dx:Option Addr) (fl:Value) (B:Heap) (H':Hp) (s':Shared):Prop where
  os:s'.os=s.os
  bare:AllBare s'.gens
  fly:∃ a0,Fly B l ea (.ref C) dx a0 fl s'.heap
  hok:HOk P w H' B
  bas:Bas l H H' s.heap B
  slo:Slo l s.heap s'.heap
def CXv (P:Program) (w:World):CXT:=fun l H s E e s'=>∃ ea C dx B H',e=.ref ea∧Thr P w l H s ea C dx .none B H' s'∧E (.ref C) dx H'
section
variable {P:Program} {w:World} {l:List Env} {H H':Hp} {s s':Shared} {ea C:Addr} {dx:Option Addr} {fl:Value} {B:Heap}
theorem Thr.stay (t:Thr P w l H s ea C dx fl B H' s'):B.StaysIn s'.heap:=let ⟨_,f⟩:=t.fly;f.stay
theorem Thr.held (t:Thr P w l H s ea C dx fl B H' s'):HOk P w H' s'.heap:=t.hok.kept t.stay
theorem Thr.un (t:Thr P w l H s ea C dx fl B H' s'):Un (frs l) [] H H' s.heap s'.heap where
  keep:=fun b o e n hb _=>t.stay b o (t.bas.keep b o e n hb)
  slot:=fun b o e _ hb _=>t.slo b o hb e
  free:=fun b o e n _=>t.bas.free b o e n
  there:=fun b o e _=>by
    by_cases hb:b∈frs l
    · obtain ⟨sl,q⟩:=t.slo b o hb e;exact ⟨_,q⟩
    · obtain ⟨o',q⟩:=t.bas.there b o e hb;exact ⟨o',t.stay b o' q⟩
  tups:=t.bas.tups
  frzs:=t.bas.frzs
  tbls:=t.bas.tbls
theorem passv0 {X:Cx}:Passes (CXv P w) X E0:=fun _ _ _ _ _ _ _ ⟨_,_,_,_,_,_,_,h⟩=>h.elim
end
section
variable {X:Cx} {pins:List (Addr×Obj)} {σ:St} {H H':Hp} {s s':Shared} {ea C:Addr} {dx:Option Addr} {fl:Value} {B:Heap}
theorem Inv.low (I:Inv X pins σ H s) {b:Addr} {o:Obj} (e:X.s₀.heap.get? b=some o) (hb:b∉frs X.outer):b∉frs X.stack:=fun z=>by
  rcases List.mem_cons.mp (I.stkSub b z) with r | r
  · exact absurd (Heap.lt_size e) (by rw [r];exact Nat.not_lt.mpr I.ok.above)
  · exact hb r
theorem Bas.out (I:Inv X pins σ H s) (hex:X.ex=[]) (t:Bas X.stack H H' s.heap B):Bas X.outer X.H₀ H' X.s₀.heap B where
  keep:=fun b o e n hb=>t.keep b o (I.base.keep b o e n hb (by rw [hex];simp)) (I.base.free b o e n (by rw [hex];simp)) (I.low e hb)
  free:=fun b o e n=>by
    obtain ⟨o',q⟩:=I.base.there b o e (by rw [hex];simp)
    exact t.free b o' q (I.base.free b o e n (by rw [hex];simp))
  there:=fun b o e hb=>by
    obtain ⟨o',q⟩:=I.base.there b o e (by rw [hex];simp)
    exact t.there b o' q (I.low e hb)
  tups:=fun b xs q=>t.tups b xs (I.base.tups b xs q)
  frzs:=fun b o u q=>t.frzs b o u (I.base.frzs b o u q)
  tbls:=fun b ps q=>by
    obtain ⟨m1,e1⟩:=I.base.tbls b ps q
    obtain ⟨m2,e2⟩:=t.tbls b _ e1
    exact ⟨m1++m2,by rw [e2,Array.append_assoc]⟩
theorem Inv.inner (I:Inv X pins σ H s) {b:Addr} (hb:b∈frs X.outer):b∈frs X.stack:=by
  rcases I.ok.stk with e | ⟨e,hf⟩
  · rw [e];exact hb
  · rw [e]
    unfold frs
    rw [List.filterMap_cons,hf]
    exact List.mem_cons_of_mem _ hb
theorem Slo.out {h':Heap} (I:Inv X pins σ H s) (hex:X.ex=[]) (t:Slo X.stack s.heap s'.heap) (u:s'.heap.UpToSlots h'):Slo X.outer X.s₀.heap h':=fun b o hb e=>by
  obtain ⟨_,o1,ho1,nf⟩:=I.ok.funs.mem hb
  rw [e] at ho1
  cases ho1
  obtain ⟨sl,e1⟩:=I.base.slot b o e (I.ok.frf b hb) hb (by rw [hex];simp)
  obtain ⟨sl2,e2⟩:=t b _ (I.inner hb) e1
  obtain ⟨sl3,e3⟩:=u b _ e2 nf
  exact ⟨sl3,e3⟩
end
section
variable {P:Program} {w:World} {K:PySem.W.Frag} {mg:Str→Option Value} {base:Heap} {N:List Str} {qual:Str} {scope:Scope} {f:Addr} {cd:Value} {A:Around} {outer:List Env} {s:Shared} {H:Hp} {E:XK}
end
abbrev XObj (C t:Addr) (dx:Option Addr):Obj:={ cls:=.ref C,dict:=dx,data:=.fields #[.ref t,.none,.none,.none,.bool false,.none] }
def xo (ea C t:Addr) (dx:Option Addr):HO:=.ext fun h=>h.get? ea=some (XObj C t dx)
theorem xo_ok {P:Program} {w:World} {H:Hp} {h:Heap} {ea C t:Addr} {dx:Option Addr} (e:h.get? ea=some (XObj C t dx)):ObjOk P w H h ea (xo ea C t dx) :=
  ⟨e,⟨_,e⟩,fun _ _ q k=>k _ q⟩
theorem xo_get {P:Program} {w:World} {H:Hp} {h:Heap} {ea C t:Addr} {dx:Option Addr} (x:HOk P w H h) (e:H ea=some (xo ea C t dx)):h.get? ea=some (XObj C t dx) :=
  (show ObjOk P w H h ea (xo ea C t dx) from x _ _ e).1
def del (H:Hp) (a:Addr):Hp:=fun b=>if b=a then none else H b
theorem del_ne {H:Hp} {a b:Addr} (h:b≠a):del H a b=H b:=by unfold del;rw [if_neg h]
theorem del_self {H:Hp} {a:Addr}:del H a a=none:=by unfold del;rw [if_pos rfl]
def RaiseTo (X:Cx) (E:XK):Prop:=∀ (pins:List (Addr×Obj)) (σ:St) (H:Hp) (s:Shared) (ea C t:Addr) (dx:Option Addr),Inv X pins σ H s→H ea=some (xo ea C t dx)→X.s₀.heap.objs.size≤ea→E (.ref C) dx (del H ea)→X.xe (.ref ea) s
section
variable {X:Cx} {pins:List (Addr×Obj)} {σ:St} {H:Hp} {s:Shared} {ea C t:Addr} {dx:Option Addr}
def atThrow (X:Cx) (s:Shared) (ea:Addr):Heap:=PySem.W.hideAll s.heap (ea::frs X.stack)
theorem at_hok (I:Inv X pins σ H s) (he:H ea=some (xo ea C t dx)):HOk X.prog X.w (del H ea) (atThrow X s ea):=fun b u q=>by
  have nb:b≠ea:=fun z=>by rw [z,del_self] at q;cases q
  rw [del_ne nb] at q
  have nown:∀ c y,H c=some (.own y)→c≠ea:=fun c y r z=>by rw [z,he] at r;cases r
  have ntup:∀ c xs,H c=some (.tup xs)→c≠ea:=fun c xs r z=>by rw [z,he] at r;cases r
  have nfr:∀ c u,H c=some u→c∉frs X.stack:=fun c u r z=>by rw [I.stkFree c z] at r;cases r
  refine (I.hok b u q).stay (fun c v hc r=>PySem.W.hideAll_get _ r fun m=>?_) (fun c r=>by rw [del_ne (nown c b r)];exact r) fun c xs r=>by rw [del_ne (ntup c xs r)];exact r
  rcases List.mem_cons.mp m with z | z
  · rcases hc with r' | r'
    · exact nb (r'.symm.trans z)
    · exact nown c b r' z
  · rcases hc with r' | r'
    · rw [r'] at z;exact nfr b u q z
    · exact nfr c _ r' z
theorem at_bas (I:Inv X pins σ H s) (hex:X.ex=[]) (he:H ea=some (xo ea C t dx)) (hn:X.s₀.heap.objs.size≤ea):Bas X.outer X.H₀ (del H ea) X.s₀.heap (atThrow X s ea) where
  keep:=fun b o e n hb=>PySem.W.hideAll_get _ (I.base.keep b o e n hb (by rw [hex];simp)) fun m=>by
    rcases List.mem_cons.mp m with z | z
    · exact absurd (Heap.lt_size e) (by rw [z];exact Nat.not_lt.mpr hn)
    · exact I.low e hb z
  free:=fun b o e n=>by
    rw [del_ne fun z=>absurd (Heap.lt_size e) (by rw [z];exact Nat.not_lt.mpr hn)]
    exact I.base.free b o e n (by rw [hex];simp)
  there:=fun b o e hb=>by
    obtain ⟨o',q⟩:=I.base.there b o e (by rw [hex];simp)
    refine ⟨o',PySem.W.hideAll_get _ q fun m=>?_⟩
    rcases List.mem_cons.mp m with z | z
    · exact absurd (Heap.lt_size e) (by rw [z];exact Nat.not_lt.mpr hn)
    · exact I.low e hb z
  tups:=fun b xs q=>by
    have r:=I.base.tups b xs q
    rw [del_ne fun z=>by rw [z,he] at r;cases r]
    exact r
  frzs:=fun b o u q=>by
    have r:=I.base.frzs b o u q
    rw [del_ne fun z=>by rw [z,he] at r;cases r]
    exact r
  tbls:=fun b ps q=>by
    obtain ⟨m,r⟩:=I.base.tbls b ps q
    exact ⟨m,by rw [del_ne fun z=>by rw [z,he] at r;cases r];exact r⟩
theorem at_funs (I:Inv X pins σ H s):s.heap.FunFrames (atThrow X s ea) X.stack:=by
  refine PySem.W.funFrames_hide I.stack fun env hm a e=>List.mem_cons_of_mem _ ?_
  exact List.mem_filterMap.mpr ⟨env,hm,e⟩
end
section
variable {P:Program} {w:World} {K:PySem.W.Frag} {mg:Str→Option Value} {base:Heap} {N:List Str} {qual:Str} {scope:Scope} {f:Addr} {cd:Value} {A:Around} {outer:List Env} {s:Shared} {H:Hp} {E:XK}
theorem raiseX:RaiseTo (cxOf (CXv P w) P w K mg base N qual scope f cd A outer s H E) E:=by
  intro pins σ H1 s1 ea C t dx I he hn q
  have ge:=xo_get I.hok he
  show wpAny _ _ (leaving _ _) _ _ _
  refine leave_first (B:=atThrow _ s1 ea) I.ok.frames (at_funs I) rfl ge (fun b o z=>PySem.W.of_hideAll _ z) (PySem.W.hideAll_none _ List.mem_cons_self) rfl rfl rfl fun h2 f2 u2=>?_
  exact ⟨ea,C,dx,_,_,rfl,⟨I.os,I.bare,⟨_,f2⟩,at_hok I he,at_bas I rfl he hn,Slo.out I rfl (fun b o _ e=>⟨o.slots,e⟩) u2⟩,q⟩
end
section
variable {P:Program} {w:World} {K:PySem.W.Frag} {mg:Str→Option Value} {base:Heap}
theorem Fun.okX {x qual:Str} {st:Stmt} {f:Addr} {fd:FuncData} {N ps:List Str} {k:Nat} {sp:Sp} (F:Fun K x qual st f fd) (S:FnScope N ps (defScope st)) (len:∀ vs H Q E,sp vs H Q E→vs.length=ps.length)
    (hbody:∀ (cdv:Value) (A:Around) (outer:List Env) (s:Shared) (H:Hp) (vs:List V) (Q:VK) (E:XK),Room k (A.deeper (envOfC qual (defScope st) s.heap.objs.size f cdv))→sp vs H Q E →
      ∃ t,PSs (cxOf (CXv P w) P w K mg base N qual (defScope st) f cdv A outer s H E) (defBody st) t∧t { nx:=fun _ H'=>Q .non H',rt:=Q } (start N vs) H):FnOk P w K mg base (CXv P w) (k+1) f fd ps sp:=by
  obtain ⟨oc,od,kV,doc,pm,an,cdv,ct,osl,rfl,lk,hcd⟩:=F.ex
  exact fn_of lk hcd S len fun A outer s H vs Q E hr hsp=>hbody cdv A outer s H vs Q E hr hsp
end
end L2

set_option Elab.async false
set_option linter.all false
set_option maxRecDepth 100000
set_option maxHeartbeats 4000000
namespace L2
open PySem PySem.Spec PyProof.Rows Builtin Builtin.ObjectAttr
def valTail:List Value:=[.type "ValueError",.type "Exception",.type "BaseException",.type "object"]
def xOver:List Value→Bool
  | .ref _::r=>xOver r
  | l=>l == valTail
theorem xOver_shape:∀ {l:List Value},xOver l=true→∃ rs:List Addr,l=rs.map Value.ref++valTail
  | [],h=>by cases h
  | v::r,h=>by
    cases v with
    | ref a =>
      obtain ⟨rs,e⟩:=xOver_shape (l:=r) h
      exact ⟨a::rs,by rw [e];rfl⟩
    | _=>exact ⟨[],beq_iff_eq.mp h⟩
theorem tail_has {X:String} {b:Bool} (e:valTail.contains (.type X)=b):∀ rs:List Addr,(rs.map Value.ref++valTail).contains (.type X)=b
  | []=>e
  | a::r=>by
    rw [List.map_cons,List.cons_append,List.contains_cons,tail_has e r]
    rfl
theorem xOver_has {l:List Value} (h:xOver l=true) {X:String} {b:Bool} (e:valTail.contains (.type X)=b):l.contains (.type X)=b:=by
  obtain ⟨rs,rfl⟩:=xOver_shape h
  exact tail_has e rs
theorem xOver_pass (self:Value) {l:List Value} (h:xOver l=true):refuseLoop self "__setattr__" l=pure ():=by
  obtain ⟨rs,rfl⟩:=xOver_shape h
  clear h
  induction rs with
  | nil=>exact PySem.F.store_ValueError.passes self
  | cons a r ih=>rw [List.map_cons,List.cons_append,refuseLoop_ref];exact ih
def xIn (K:PySem.W.Frag) (C:Addr):Bool:=match K.lookup C with
  | some ⟨.type "type",_,.cls cd,sl⟩=>(match cd.mro,sl.toList with
    | .ref C'::bm,[_,_,_,_,some (.builtin n),_]=>C' == C && (!cd.hasDel && (cd.hasDict && (xOver bm && n == "ValueError.__new__")))
    | _,_=>false)
  | _=>false
theorem xIn_cls {K:PySem.W.Frag} {C:Addr} (q:xIn K C=true):∃ nm qn N bs bm sn sub ab col dd k0 k1 k2 k3 k5,
    K.lookup C=some (excClassObj nm qn C N bs bm true sn sub ab col dd k0 k1 k2 k3 k5 "ValueError.__new__")∧xOver bm=true:=by
  unfold xIn at q
  split at q
  · rename_i dd cd sl ho
    split at q
    · rename_i C' bm k0 k1 k2 k3 n k5 hm hs
      simp only [Bool.and_eq_true,beq_iff_eq,Bool.not_eq_true'] at q
      obtain ⟨rfl,q1,q2,q3,rfl⟩:=q
      obtain ⟨nm,bs,mro,ns,qn,hd,sn,sub,ab,col,de⟩:=cd
      dsimp only at hm q1 q2
      subst hm q1 q2
      obtain ⟨sl⟩:=sl
      dsimp only at hs
      subst hs
      exact ⟨nm,qn,ns,bs,bm,sn,sub,ab,col,dd,k0,k1,k2,k3,k5,ho,q3⟩
    · cases q
  · cases q
structure XCls (K:PySem.W.Frag) (C:Addr):Prop where
  x:xIn K C=true
  kp:PySem.W.keepIn K (.ref C)=true
  sa:PySem.W.findIn K (.ref C) "__setattr__" = some (some (.builtin "object.__setattr__"))
  ga:PySem.W.findIn K (.ref C) "__getattribute__" = some (some (.builtin "BaseException.__getattribute__"))
  gn:PySem.W.findIn K (.ref C) "__getattr__" = some none
  hd:PySem.W.hasDictIn K C=true
section
variable {M:Model} {A:Around} {E:Value→Shared→Prop} {h:Heap} {g:Array GenState} {d:Drawn} {t:Nat} {os:OsState}
variable {nm qn:Str} {C N:Addr} {bs bm:List Value} {hdct:Bool} {sn:List Str} {sub:List Value} {ab:Bool} {col:Option Bool} {dd:Option Addr} {k0 k1 k2 k3 k5:Option Value}
theorem x_check {us:List Value} {Q:Unit→Shared→Prop} (hC:h.get? C=some (excClassObj nm qn C N bs bm hdct sn sub ab col dd k0 k1 k2 k3 k5 "ValueError.__new__")) (ho:xOver bm=true)
    (q:Q () ⟨h,g,d,t,os⟩):wpAny M A (checkBuiltinCall "ValueError.__new__" ⟨.ref C::us,[]⟩) Q E ⟨h,g,d,t,os⟩:=by
  have F:=PySem.F.excBase_ValueError
  have c1:(Value.ref C::bm).contains (.type "ValueError")=true:=by rw [List.contains_cons,xOver_has ho (b:=true) (by decide),Bool.or_true]
  have st:=F.noStar
  simp only [checkBuiltinCall,F.newKind,F.newSplit,F.newRow]
  repeat (first | (refine wpAny_loadPart_at hC ?_) | (refine wpAny_isSubtype_exc hC ?_;rw [c1]) | (refine wpAny_staticBase_exc hC ?_) | (refine wpAny_madeBy_exc hC ?_) | (simp only [bne_self_eq_false,Bool.false_eq_true,if_false]) | wp_step)
  exact q
end
section
variable {prog:Program} {w:World} {A:Around} {R:Result→Shared→Prop} {h:Heap} {g:Array GenState} {d:Drawn} {t:Nat} {os:OsState}
variable {nm qn:Str} {C N:Addr} {bs bm:List Value} {hdct:Bool} {sn:List Str} {sub:List Value} {ab:Bool} {col:Option Bool} {dd:Option Addr} {k0 k1 k2 k3 k5:Option Value}
abbrev xTup (us:List Value):Obj:={ cls:=.type "tuple",data:=.seq us.toArray }
theorem x_new {us:List Value} (hC:h.get? C=some (excClassObj nm qn C N bs bm hdct sn sub ab col dd k0 k1 k2 k3 k5 "ValueError.__new__")) (ho:xOver bm=true)
    (q:R (.ok (.ret (.ref (h.objs.size+1)))) ⟨(h.push (xTup us)).push (XObj C h.objs.size none),g,d,t,os⟩) (hl:us.length≤sizeLine) :
    codeAny (model prog w) A (.builtin "ValueError.__new__" ⟨.ref C::us,[]⟩) R ⟨h,g,d,t,os⟩:=by
  have F:=PySem.F.excBase_ValueError
  have en:=F.ends
  have c1:(Value.ref C::bm).contains (.type "ValueError")=true:=by rw [List.contains_cons,xOver_has ho (b:=true) (by decide),Bool.or_true]
  have c2:(Value.ref C::bm).contains (.type "AttributeError")=false:=by rw [List.contains_cons,xOver_has ho (b:=false) (by decide)];rfl
  have c3:(Value.ref C::bm).contains (.type "NameError")=false:=by rw [List.contains_cons,xOver_has ho (b:=false) (by decide)];rfl
  refine codeAny_builtinAt F.entry ?_
  unfold Builtin.«BaseException.__new__»
  refine PySem.wpAt_bind ?_
  show PySem.wpAt _ _ _ (stack >>= _) _ _ _
  refine PySem.wpAt_bind (PySem.wpAt_stack fun _ _=>PySem.wpAt_of_wpAny ?_)
  wp_walk
  refine PySem.wpAt_of_wpAny ?_
  rw [F.owner]
  repeat (first | (with_reducible refine wpAny_madeHere_exc F.canon hC ?_) | (with_reducible refine wpAny_loadPart_at hC ?_) | (with_reducible refine wpAny_isSubtype_exc hC ?_;first | rw [c1] | rw [c2] | rw [c3]) | wp_step)
  show R _ _
  rw [Heap.size_push]
  exact q
theorem x_tcall {K:PySem.W.Frag} {f:Addr} {hh:Heap} {us:List Value} {Q:Fin→Shared→Prop} {E:Value→Shared→Prop} (X:K.In hh) (c:XCls K C) (hi:PySem.W.findIn K (.ref C) "__init__" = some (some (.ref f))) (hf:PySem.W.isFn K (.ref f)=true) (hl:us.length≤sizeLine)
    (hq:wpAny (model prog w) A (call (.ref f) (.ref (hh.objs.size+1)::us)) (fun r s'=>r=.none∧Q (.done (.ret (.ref (hh.objs.size+1)))) s') E ⟨(hh.push (xTup us)).push (XObj C hh.objs.size none),g,d,t,os⟩) :
    wpAny (model prog w) A (Builtin.«type.__call__» ⟨.ref C::us,[]⟩) Q E ⟨hh,g,d,t,os⟩:=by
  obtain ⟨nm,qn,N,bs,bm,sn,sub,ab,col,dd,k0,k1,k2,k3,k5,hK,ho⟩:=xIn_cls c.x
  have hC:=X _ _ hK
  have F:=PySem.F.excBase_ValueError
  have k:∀ b o,hh.get? b=some o→((hh.push (xTup us)).push (XObj C hh.objs.size none)).get? b=some o:=fun b o e=>Heap.get?_push_of_some _ (Heap.get?_push_of_some _ e)
  repeat (first | (with_reducible refine wpAny_loadPart_at hC ?_) | (with_reducible refine wpAny_madeBy_exc hC ?_) | wp_step)
  refine codeAny_call_builtin_code (Code.quiet_builtin _ F.quiet) (x_check hC ho ?_)
  refine x_new hC ho ?_ hl
  show wpAny _ _ _ _ _ _
  have hC1:=k _ _ hC
  have hx:((hh.push (xTup us)).push (XObj C hh.objs.size none)).get? (hh.objs.size+1)=some ({ cls:=.ref C,dict:=none,data:=.fields #[.ref hh.objs.size,.none,.none,.none,.bool false,.none] }:Obj):=by heap_get
  have c4:(Value.ref C::bm).contains (.ref C)=true:=by simp
  unfold isInstance
  repeat (first | (with_reducible refine wpAny_loadPart_at hx ?_) | (with_reducible refine wpAny_isSubtype_exc hC1 ?_;rw [c4]) | wp_step)
  show wpAny _ _ (typeLookup (.ref C) _) _ _ _
  refine ((PySem.W.looks_findIn X hi).keeps k).at ?_
  refine wpAny_holding (wpAny_bind (((PySem.W.bind_fn X (.ref (hh.objs.size+1)) (beq_iff_eq.mp hf)).keeps k).at ?_))
  refine wpAny_bind (wpAny_mono hq (fun r s' z=>?_) fun _ _ z=>z)
  obtain ⟨rfl,z⟩:=z
  wp_walk
  exact z
theorem x_call {K:PySem.W.Frag} {f:Addr} {s:Shared} {us:List Value} {Q:Value→Shared→Prop} {E:Value→Shared→Prop} (X:K.In s.heap) (c:XCls K C) (hi:PySem.W.findIn K (.ref C) "__init__" = some (some (.ref f))) (hf:PySem.W.isFn K (.ref f)=true) (hl:us.length≤sizeLine)
    (hq:wpAny (model prog w) (A.under (.builtin "type.__call__" ⟨.ref C::us,[]⟩)) (call (.ref f) (.ref (s.heap.objs.size+1)::us)) (fun r s'=>r=.none∧Q (.ref (s.heap.objs.size+1)) s') E
      { s with heap:=(s.heap.push (xTup us)).push (XObj C s.heap.objs.size none) }):wpAny (model prog w) A (call (.ref C) us) Q E s:=by
  obtain ⟨hh,g,d,t,os⟩:=s
  obtain ⟨nm,qn,N,bs,bm,sn,sub,ab,col,dd,k0,k1,k2,k3,k5,hK,ho⟩:=xIn_cls c.x
  have hC:=X _ _ hK
  dsimp only at hC
  have f1:=tc_lookup
  have f2:=tc_bind (.ref C)
  have hT:(⟨hh,g,d,t,os⟩:Shared).TypeIs (.ref C) "type" := ⟨_,hC,rfl⟩
  refine wpAny_call (codeAny_of_tree ?_)
  show wpAny _ _ (callAny (.ref C) _) _ _ _
  repeat (any_goals (first | assumption | (with_reducible refine wpAny_loadPart_at hC ?_) | wp_step))
  refine ⟨rfl,?_⟩
  exact codeAny_call_builtin_at (Code.quiet_builtin _ (by decide +kernel)) entry_typeCall (wpAny_check_type_call_sub hC (x_tcall X c hi hf hl hq))
end
section
variable {prog:Program} {w:World} {A:Around} {E:Value→Shared→Prop} {s:Shared} {K:PySem.W.Frag} {x C:Addr} {name:Str} {v:Value}
end
end L2

set_option Elab.async false
set_option linter.all false
set_option maxRecDepth 100000
set_option maxHeartbeats 4000000
namespace L2
open PySem PySem.Spec PyProof.Rows Builtin Builtin.ObjectAttr
def xdo (d:Addr) (fs:List (Str×V)):HO:=.ext fun h=>∃ mA,h.Ns1 d mA∧∀ f,RelO (fs.lookup f) (mA f)
theorem xdo_ok {P:Program} {w:World} {H:Hp} {h:Heap} {d:Addr} {fs:List (Str×V)} {mA:Str→Option Value} (e:h.Ns1 d mA) (r:∀ f,RelO (fs.lookup f) (mA f)):ObjOk P w H h d (xdo d fs):=by
  refine ⟨⟨mA,e,r⟩,?_,fun h1 h2 ⟨m,e1,r1⟩ k=>⟨m,?_,r1⟩⟩
  · obtain ⟨o,_,_,e1,_⟩:=e
    exact ⟨o,e1⟩
  · exact e1.at k
theorem xdo_get {P:Program} {w:World} {H:Hp} {h:Heap} {d:Addr} {fs:List (Str×V)} (x:HOk P w H h) (e:H d=some (xdo d fs)):∃ mA,h.Ns1 d mA∧∀ f,RelO (fs.lookup f) (mA f) :=
  (show ObjOk P w H h d (xdo d fs) from x _ _ e).1
theorem within_of {fs:List (Str×V)} {mA:Str→Option Value} (r:∀ f,RelO (fs.lookup f) (mA f)):PySem.Within mA (fs.map (·.1)):=fun y hy=>by
  cases e:fs.lookup y with
  | none =>
    have:=r y
    rw [e] at this
    exact absurd (RelO.none_of this) hy
  | some v=>exact List.mem_map.mpr ⟨(y,v),PySem.mem_of_lookup e,rfl⟩
section
variable {prog:Program} {w:World} {A:Around} {E:Value→Shared→Prop} {s:Shared} {K:PySem.W.Frag} {x C t dx:Addr} {name:Str} {v:Value}
theorem osa_x {ox:Obj} {od:Option Obj} {tk:Tok} {R:Result→Shared→Prop} (X:K.In s.heap) (I:PySem.W.InstAt s.heap x ox C od) (c:XCls K C) (ht:PySem.W.takerIn K C name=some none)
    (h:∀ b,wpAny (model prog w) A.in1 (storeInOwnDict (.ref x) (.ref C) (.str name tk) name v b)
      (fun fin s'=>match fin with | .done f=>R (.ok f) s' | .again c'=>c'.quiet=true∧codeAny (model prog w) A c' R s') (fun e s'=>R (.error e) s') s) :
    codeAny (model prog w) A (.call (.builtin "object.__setattr__") ⟨[.ref x,.str name tk,v],[]⟩) R s:=by
  have SF:=PySem.F.store_object
  obtain ⟨nm,qn,N,bs,bm,sn,sub,ab,col,dd,k0,k1,k2,k3,k5,hK,ho⟩:=xIn_cls c.x
  obtain ⟨cd,hc,hcm⟩:∃ cd,PySem.W.clsIn K C=some cd∧cd.mro=.ref C::bm:=⟨_,by unfold PySem.W.clsIn;rw [hK],rfl⟩
  have hsub:PySem.W.Looks (model prog w) s.heap (isInstance (.ref x) (.type "object")) true:=I.type.andThen (PySem.W.looks_mroIn X (by
    unfold PySem.W.mroIn
    rw [hc,Option.bind_some,hcm,if_neg (by simp)]
    rw [List.contains_cons,xOver_has ho (b:=true) (by decide),Bool.or_true]))
  refine codeAny_call_builtin SF.slot.plain SF.entry (@PySem.W.check_slot (model prog w) _ _ s "object.__setattr__" "object" "__setattr__" (.ref x) [.str name tk,v] [] _ SF.kind SF.split hsub (SF.args (.ref x) (.str name tk) v) ?_)
  obtain ⟨attr,ha,hr⟩:=Option.bind_eq_some_iff.mp ht
  have hm:PySem.W.Looks (model prog w) s.heap (mroOf (.ref C)) (.ref C::bm):=hcm▸(PySem.W.looks_clsIn X hc).andThen .now
  have L3:PySem.W.Looks (model prog w) s.heap (storeTaker? attr) none:=by
    cases attr with
    | none=>cases hr;exact .now
    | some a =>
      obtain ⟨b,hb,e⟩:=Option.map_eq_some_iff.mp hr
      cases b with
      | true=>cases e
      | false=>exact (PySem.W.looks_takesIn X hb).andThen .now
  rw [PySem.W.osa_eq,refuse_eq]
  refine wpAny_bind (wpAny_bind (I.type.here (wpAny_bind (hm.here ?_))))
  rw [refuseLoop_ref,xOver_pass _ ho]
  refine wpAny_pure (wpAny_bind (I.type.here (wpAny_bind ((PySem.W.looks_findIn X ha).here (wpAny_bind (L3.here ?_))))))
  exact h _
theorem set_x0 {Q:Unit→Shared→Prop} (X:K.In s.heap) (hx:s.heap.get? x=some (XObj C t none)) (c:XCls K C) (ht:PySem.W.takerIn K C name=some none)
    (h:∀ h' tk,h'.Ns1 s.heap.objs.size (fun y=>if y=name then some v else none)→h'.get? x=some (XObj C t (some s.heap.objs.size))→(∀ b o,b≠x→s.heap.get? b=some o→h'.get? b=some o)→Q () { s with heap:=h',toks:=tk }) :
    wpAny (model prog w) A (setAttr (.ref x) name v) Q E s:=by
  have J:PySem.W.InstAt s.heap x (XObj C t none) C none:=⟨hx,rfl,rfl,trivial⟩
  refine PySem.W.set_plain X J c.sa (osa_x (s:={ s with toks:=s.toks+1 }) X J c ht fun b=>?_)
  obtain ⟨cd,hc,hd⟩:=PySem.W.any_some c.hd
  obtain ⟨hh,g,dr,tk,os⟩:=s
  dsimp only at hx X h ⊢
  refine wpAny_bind (wpAny_pure (wpAny_bind (wpAny_bind (wpAny_loadPart hx (wpAny_bind (PySem.W.Looks.here (s:=⟨hh,g,dr,tk+1,os⟩) (PySem.W.looks_clsIn X hc) ?_))))))
  rw [hd]
  have hx1:(hh.push PySem.W.emptyDict).get? x=some (XObj C t none):=Heap.get?_push_of_some _ hx
  have nx:x≠hh.objs.size:=Nat.ne_of_lt (Heap.lt_size hx)
  refine wpAny_bind (wpAny_alloc' (wpAny_bind (wpAny_update' hx1 (wpAny_pure (wpAny_bind (wpAny_pure (wpAny_bind ?_)))))))
  have gd:((hh.push PySem.W.emptyDict).update x fun o=>{ o with dict:=some hh.objs.size }).get? hh.objs.size=some PySem.W.emptyDict :=
    (Heap.get?_update_ne _ _ _ _ (Ne.symm nx)).trans (Heap.get?_push_at rfl rfl)
  have nd:((hh.push PySem.W.emptyDict).update x fun o=>{ o with dict:=some hh.objs.size }).Ns hh.objs.size (fun _=>none):=⟨_,#[],_,gd,rfl,fun e he=>absurd he (by simp),fun _=>rfl⟩
  refine wpAny_nsSet1 (Heap.Ns1.of_empty nd) fun h' n' sb=>?_
  obtain ⟨oD,esD,epD,hoD,hdD,hcD⟩:=n'.count (Within.cons name v Within.nil)
  refine wpAny_bind (wpAny_lookBehind hoD (by rw [hdD];exact pastItsLine_dict (Nat.le_trans hcD (by rw [List.length_cons,List.length_nil,sizeLine_eq];omega))) ?_)
  refine wpAny_pure (h h' _ n' ?_ fun b o hb e=>?_)
  · refine (sb.2 x nx).trans ?_
    exact Heap.get?_update_self _ hx1 rfl
  · exact (sb.2 b (Nat.ne_of_lt (Heap.lt_size e))).trans ((Heap.get?_update_ne _ _ _ _ hb).trans (Heap.get?_push_of_some _ e))
theorem set_x1 {mA:Str→Option Value} {ns:List Str} {Q:Unit→Shared→Prop} (X:K.In s.heap) (hx:s.heap.get? x=some (XObj C t (some dx))) (hn:s.heap.Ns1 dx mA) (ne:dx≠x) (c:XCls K C) (ht:PySem.W.takerIn K C name=some none)
    (hw:PySem.Within mA ns) (hz:ns.length≤1000) (h:∀ h' tk,h'.Ns1 dx (fun y=>if y=name then some v else mA y)→Heap.SameBut dx s.heap h'→Q () { s with heap:=h',toks:=tk }) :
    wpAny (model prog w) A (setAttr (.ref x) name v) Q E s:=by
  obtain ⟨od,ho,_⟩:=lookIn_ns hn
  have J:PySem.W.InstAt s.heap x (XObj C t (some dx)) C (some od):=⟨hx,rfl,rfl,ho⟩
  refine PySem.W.set_plain X J c.sa (osa_x (s:={ s with toks:=s.toks+1 }) X J c ht fun b=>?_)
  obtain ⟨cd,hc,hd⟩:=PySem.W.any_some c.hd
  refine wpAny_bind (wpAny_pure (wpAny_bind (wpAny_bind (wpAny_loadPart hx (wpAny_bind (PySem.W.Looks.here (s:={ s with toks:=s.toks+1 }) (PySem.W.looks_clsIn X hc) ?_))))))
  rw [hd]
  refine wpAny_pure (a:=some dx) (wpAny_bind (wpAny_pure (wpAny_bind ?_)))
  refine wpAny_nsSet1 (s:={ s with toks:=s.toks+1 }) hn fun h' n' sb=>?_
  obtain ⟨oD,esD,epD,hoD,hdD,hcD⟩:=n'.count (Within.cons name v hw)
  refine wpAny_bind (wpAny_lookBehind hoD (by rw [hdD];exact pastItsLine_dict (Nat.le_trans hcD (by rw [List.length_cons,sizeLine_eq];omega))) ?_)
  exact wpAny_pure (h h' _ n' sb)
end
def sXs (K:PySem.W.Frag) (ta tv:TE) (f:Str):TS:=fun D σ H=>tv σ H fun y H1=>ta σ H1 fun x H2=>∃ ea C t,x=.ref ea∧XCls K C∧NoAttr K C f ∧
  ((H2 ea=some (xo ea C t none)∧∀ d,H2 d=none→d≠ea→D.nx σ (upd (upd H2 d (xdo d [(f,y)])) ea (xo ea C t (some d)))) ∨
   ∃ d fs,d≠ea∧H2 ea=some (xo ea C t (some d))∧H2 d=some (xdo d fs)∧fs.length≤100∧D.nx σ (upd H2 d (xdo d (putF f y fs))))
section
variable {X:Cx} {o value:Expr} {f:Str} {pos pos':Pos} {ta tv:TE}
theorem ps_setx (ha:PE X o ta) (hv:PE X value tv) (hs:swapsWith value (some (.Attribute o f pos')) pos.line X.env=pure false):PS X (.Assign [.Attribute o f pos'] value pos) (sXs X.K ta tv f):=by
  intro pins s σ H D I h
  refine plainObj_wpAny_Assign_Attribute (thn (hv pins s σ H _ I h) fun u s1 ⟨y,H1,I1,ry,q⟩=>thn (ha pins s1 σ H1 _ I1 q) fun ov s2 ⟨x,H2,I2,rx,ea,C,t,ex,c,n,q2⟩=>?_) hs
  subst ex
  obtain rfl:ov=Value.ref ea:=rx
  rcases q2 with ⟨he,q3⟩ | ⟨d,fs,nd,he,hd,hl,q3⟩
  · have ge:=xo_get I2.hok he
    refine set_x0 I2.kIn ge c n.taker fun h' tk n' gx k=>?_
    have hfr:H2 s2.heap.objs.size=none:=I2.hok.fresh (Nat.le_refl _)
    have nde:s2.heap.objs.size≠ea:=Nat.ne_of_gt (Heap.lt_size ge)
    refine ⟨σ,_,I2.un (t':=tk) (h':=h') ?_ ?_,q3 _ hfr nde⟩
    · have ne1:∀ b,H2 b=none→b≠ea:=fun b e z=>by rw [z,he] at e;cases e
      have kp:∀ b o,s2.heap.get? b=some o→H2 b=none→h'.get? b=some o:=fun b o e n=>k b o (ne1 b n) e
      refine ⟨fun b o e n _ _=>kp b o e n,fun b o e n _ _=>⟨o.slots,kp b o e n⟩,fun b o e n _=>?_,fun b o e _=>?_,fun b xs e=>?_,fun b o u e=>?_,fun b ps e=>⟨#[],?_⟩⟩
      · rw [upd_ne (ne1 b n),upd_ne (Nat.ne_of_lt (Heap.lt_size e))];exact n
      · by_cases hb:b=ea
        · rw [hb];exact ⟨_,gx⟩
        · exact ⟨o,k b o hb e⟩
      · rw [upd_ne (ne_of e he (by unfold xo;intro z;cases z)),upd_ne (ne_of_none e hfr)];exact e
      · rw [upd_ne (ne_of e he (by unfold xo;intro z;cases z)),upd_ne (ne_of_none e hfr)];exact e
      · rw [upd_ne (ne_of e he (by unfold xo;intro z;cases z)),upd_ne (ne_of_none e hfr),e];simp
    · intro b u e
      by_cases hb:b=ea
      · subst hb;rw [upd_same] at e;cases e;exact xo_ok gx
      · rw [upd_ne hb] at e
        by_cases hb2:b=s2.heap.objs.size
        · subst hb2;rw [upd_same] at e;cases e
          refine xdo_ok n' fun g=>?_
          show RelO (List.lookup g [(f,y)]) (if g=f then some u else none)
          by_cases z:g=f
          · subst z;rw [if_pos rfl];simp only [List.lookup,beq_self_eq_true];exact ry
          · have zb:(g == f)=false:=beq_eq_false_iff_ne.mpr z
            rw [if_neg z];simp only [List.lookup,zb];trivial
        · rw [upd_ne hb2] at e
          have nc:∀ c z,H2 c=some z→(∀ φ,z≠.ext φ)→c≠ea∧c≠s2.heap.objs.size:=fun c z r hz=>⟨fun w'=>by rw [w',he] at r;exact hz _ (Option.some.inj r).symm,ne_of_none r hfr⟩
          refine (I2.hok b u e).stay (fun c v hc r=>k c v ?_ r) (fun c r=>?_) fun c xs r=>?_
          · rcases hc with z | z
            · rw [z];exact hb
            · exact (nc c _ z (fun φ w'=>by cases w')).1
          · rw [upd_ne (nc c _ r (fun φ w'=>by cases w')).1,upd_ne (nc c _ r (fun φ w'=>by cases w')).2];exact r
          · rw [upd_ne (nc c _ r (fun φ w'=>by cases w')).1,upd_ne (nc c _ r (fun φ w'=>by cases w')).2];exact r
  · have ge:=xo_get I2.hok he
    obtain ⟨mA,hn,hr⟩:=xdo_get I2.hok hd
    refine set_x1 I2.kIn ge hn nd c n.taker (within_of hr) (by rw [List.length_map];omega) fun h' tk n' sb=>?_
    refine ⟨σ,_,I2.write (x:=d) (e:=d) (t':=tk) (h':=h') (by rw [hd];exact True.intro) (.inl rfl) (fun b o hb e=>(sb.2 b hb).trans e) ?_ (xdo_ok n' fun g=>?_),q3⟩
    · obtain ⟨o,_,_,e,_⟩:=n';exact ⟨o,e⟩
    · show RelO ((putF f y fs).lookup g) (if g=f then some u else mA g)
      rw [lookup_putF]
      by_cases z:g=f
      · rw [if_pos z,if_pos z];exact ry
      · rw [if_neg z,if_neg z];exact hr g
end
def sp_xs (C:Addr) (names:List Str):Sp:=fun vs H Q _=>∃ (ea t:Addr) (ys:List V),vs=.ref ea::ys∧ys.length=names.length∧H ea=some (xo ea C t none) ∧
  ∀ d H',H d=none→d≠ea→(∀ b,b≠d→b≠ea→H' b=H b)→H' ea=some (xo ea C t (some d))→H' d=some (xdo d (names.zip ys))→Q .non H'
def tRaise (C:Addr) (names:List Str) (E:XK) (t:TA):TS:=fun _ σ H=>t σ H fun ys H1=>ys.length=names.length∧∀ d H',H1 d=none→Same H1 H'→H' d=some (xdo d (names.zip ys))→E (.ref C) (some d) H'
section
variable {X:Cx} {k:Nat} {f C:Addr} {fd:FuncData} {ps names:List Str} {E:XK} {x:Str} {np cpos pos:Pos} {e:Expr} {es:List Expr} {t:TA}
theorem ps_raise (c:XCls X.K C) (hi:PySem.W.findIn X.K (.ref C) "__init__" = some (some (.ref f))) (hf:PySem.W.isFn X.K (.ref f)=true) (F:FnOk X.prog X.w X.K X.mg X.base CX0 k f fd ps (sp_xs C names)) (hr:Room (k+1) X.A)
    (hg:Gl X x) (hm:X.mg x=some (.ref C)) (hb:Binds X.K fd ps []) (hnl:names.length≤100) (hx:RaiseTo X E) (ha:PA X (e::es) t) (hdb:(x == ("__debug__" : Str))=false:=by decide)
    (hst:starEach (e::es) X.env=(false,eval e X.env)::starEach es X.env:=by rfl) (hpl:(backTo cpos (starEach es X.env)).any (·.1)=false:=by rfl) :
    PS X (.Raise (some (.Call (.Name x np) (e::es) [] cpos)) none pos) (tRaise C names E t):=by
  intro pins s σ H D I h
  rw [arm_exec_Raise]
  show wpAny _ _ (do standAt pos;raiseStmt X.env (some (do let v ← eval (.Call (.Name x np) (e::es) [] cpos) X.env;standAt pos;pure v)) none) _ _ s
  refine wpAny_bind (wpAny_standAt ?_)
  unfold raiseStmt
  refine wpAny_bind (wpAny_bind (thn (Q:=fun u s1=>∃ ea tt dx H2,u=Value.ref ea∧X.s₀.heap.objs.size≤ea∧Inv X pins σ H2 s1∧H2 ea=some (xo ea C tt dx)∧E (.ref C) dx (del H2 ea)) ?_ ?_))
  · refine wpAny_Call_Name_kw (ld_glob I hg hm ?_ hdb)
    refine PySem.W.callWith_K (h₀:=X.base) I.ok.mod.kin c.kp (thn (ha cpos pins s σ H _ I h) fun us s1 ⟨ys,H1,I1,r,hlen,q⟩=>⟨I1.kIn,?_⟩) hst hpl
    have hul:us.length≤100:=by rw [← r.length,hlen];exact hnl
    refine x_call I1.kIn c hi hf (Nat.le_trans hul (by decide)) (wpAny_call ?_)
    have e2:((s1.heap.push (xTup us)).push (XObj C s1.heap.objs.size none)).get? (s1.heap.objs.size+1)=some (XObj C s1.heap.objs.size none):=by
      have:=Heap.get?_push_size (s1.heap.push (xTup us)) (o:=XObj C s1.heap.objs.size none) rfl
      rwa [Heap.size_push] at this
    have I2:=(I1.kept (h':=s1.heap.push (xTup us)) (t':=s1.toks) (fun b u q=>Heap.get?_push_of_some _ q)).laid (a:=s1.heap.objs.size+1) (o:=xo (s1.heap.objs.size+1) C s1.heap.objs.size none) (h':=(s1.heap.push (xTup us)).push (XObj C s1.heap.objs.size none)) (t':=s1.toks) (fun b u q=>Heap.get?_push_of_some _ q) (Nat.le_of_eq (Heap.size_push _ _)) (xo_ok e2)
    have hfr:H1 (s1.heap.objs.size+1)=none:=I1.hok.fresh (Nat.le_succ _)
    have r2:Vals (V.ref (s1.heap.objs.size+1)::ys) (Value.ref (s1.heap.objs.size+1)::us):=.cons rfl r
    have hsp:sp_xs C names (V.ref (s1.heap.objs.size+1)::ys) (upd H1 (s1.heap.objs.size+1) (xo (s1.heap.objs.size+1) C s1.heap.objs.size none))
        (fun v H2=>v=.non∧∃ tt dx,H2 (s1.heap.objs.size+1)=some (xo (s1.heap.objs.size+1) C tt dx)∧E (.ref C) dx (del H2 (s1.heap.objs.size+1))) E0:=by
      refine ⟨_,_,ys,rfl,hlen,upd_same,fun d H' hd nd ho hea hdd=>⟨rfl,_,_,hea,q d _ ?_ (fun b o hb=>?_) ?_⟩⟩
      · rw [upd_ne nd] at hd;exact hd
      · have n1:b≠s1.heap.objs.size+1:=ne_of_none hb hfr
        have n2:b≠d:=fun z=>by rw [z,← upd_ne (H:=H1) nd,hd] at hb;cases hb
        rw [del_ne n1,ho b n2 n1,upd_ne n1];exact hb
      · rw [del_ne nd];exact hdd
    have hl:(Value.ref (s1.heap.objs.size+1)::us++[]).length=ps.length:=by
      have e:=r2.length
      rw [F.len _ _ _ _ hsp] at e
      rw [List.append_nil]
      exact e.symm
    have hbd:=hb _ (Value.ref (s1.heap.objs.size+1)::us) I2.kIn hl
    rw [List.append_nil] at hbd
    refine codeAny_mono (F.run _ X.stack _ _ ⟨Value.ref (s1.heap.objs.size+1)::us,[]⟩ _ _ _ E0 (hr.make C us []) (I2.env0.make C us []) hbd r2 hsp) fun r s' hq'=>?_
    cases r with
    | error e=>exact False.elim hq'
    | ok fl =>
      cases fl with
      | ret u =>
        obtain ⟨v,H',I3,rv,ev,tt,dx,g1,g2⟩:=I2.after hq'
        subst ev
        exact ⟨rv,_,tt,dx,H',rfl,Nat.le_trans I1.sz (Nat.le_succ _),I3,g1,g2⟩
      | next=>exact False.elim hq'
      | brk=>exact False.elim hq'
      | cont=>exact False.elim hq'
  · rintro u s1 ⟨ea,tt,dx,H2,rfl,hn,I2,he2,q2⟩
    refine wpAny_bind (wpAny_standAt (wpAny_pure ?_))
    have ge:=xo_get I2.hok he2
    have hE:X.xe (.ref ea) s1:=hx pins σ H2 s1 ea C tt dx I2 he2 hn q2
    obtain ⟨nm,qn,N,bs,bm,sn,sub,ab,col,dd,k0,k1,k2,k3,k5,hK,ho⟩:=xIn_cls c.x
    have hC:=I2.kIn _ _ hK
    have cB:(Value.ref C::bm).contains (.type "BaseException")=true:=by rw [List.contains_cons,xOver_has ho (b:=true) (by decide),Bool.or_true]
    obtain ⟨hp,g,d,tk,os⟩:=s1
    dsimp only at ge hC
    repeat (first | (with_reducible refine wpAny_loadPart_at ge ?_) | (with_reducible refine wpAny_loadPart_at hC ?_) | (with_reducible refine wpAny_isSubtype_exc hC ?_;rw [cB]) | wp_step)
    exact wpAny_raiseNew_none hr.hd hE
end
end L2

set_option Elab.async false
set_option linter.all false
set_option maxRecDepth 100000
set_option maxHeartbeats 4000000
namespace L2
open PySem PySem.Spec PyProof.Rows
theorem ObjOk.here {P:Program} {w:World} {H:Hp} {h:Heap} {a:Addr} {o:HO} (x:ObjOk P w H h a o):∃ u,h.get? a=some u:=by
  cases o with
  | lst xs=>obtain ⟨_,_,_,_,e⟩:=x;exact ⟨_,e⟩
  | tup xs=>obtain ⟨_,_,_,ob,e,_⟩:=x;exact ⟨_,e⟩
  | dK kvs=>obtain ⟨_,_,_,_,o,_,_,e,_⟩:=x;exact ⟨_,e⟩
  | dT kvs=>obtain ⟨_,_,_,_,o,_,_,e,_⟩:=x;exact ⟨_,e⟩
  | set S n=>obtain ⟨o,_,_,_,e,_⟩:=x;exact ⟨_,e⟩
  | ins C dx fs=>obtain ⟨_,_,_,e,_⟩:=x;exact ⟨_,e⟩
  | own y=>exact x
  | xd fs=>obtain ⟨_,⟨_,_,_,e,_⟩,_⟩:=x;exact ⟨_,e⟩
  | rng lo hi=>obtain ⟨_,_,_,e⟩:=x;exact ⟨_,e⟩
  | frz ob u=>obtain ⟨e,_⟩:=x;exact ⟨_,e⟩
  | tbl ps=>exact ⟨_,(show h.get? a=some _ from x)⟩
  | met f y=>exact ⟨_,(show h.get? a=some _ from x)⟩
  | ext φ=>obtain ⟨_,e,_⟩:=x;exact e
def Lands (X:Cx) (pins:List (Addr×Obj)) (σ:St) (E:XK) (e:Value) (s':Shared):Prop :=
  ∃ (s:Shared) (H:Hp) (ea C:Addr) (dx:Option Addr) (B:Heap) (H':Hp),e=.ref ea∧Inv X pins σ H s∧Thr X.prog X.w X.stack H s ea C dx .none B H' s'∧E (.ref C) dx H'
abbrev TX:=XK→St→Hp→Prop
def PEx (X:Cx) (e:Expr) (t:TX):Prop:=∀ (pins:List (Addr×Obj)) (s:Shared) (σ:St) (H:Hp) (E:XK),Inv X pins σ H s→t E σ H→wpAny (model X.prog X.w) X.A (eval e X.env) (fun _ _=>False) (Lands X pins σ E) s
def PSx (X:Cx) (st:Stmt) (t:TX):Prop:=∀ (pins:List (Addr×Obj)) (s:Shared) (σ:St) (H:Hp) (E:XK),Inv X pins σ H s→t E σ H→wpAny (model X.prog X.w) X.A (exec st X.env) (fun _ _=>False) (Lands X pins σ E) s
def PSsx (X:Cx) (st:List Stmt) (t:TX):Prop:=∀ (pins:List (Addr×Obj)) (s:Shared) (σ:St) (H:Hp) (E:XK),Inv X pins σ H s→t E σ H→wpAny (model X.prog X.w) X.A (execs st X.env) (fun _ _=>False) (Lands X pins σ E) s
def xCall (sp:Sp) (dvs:List V) (t:TA):TX:=fun E σ H=>t σ H fun vs H1=>sp (vs++dvs) H1 (fun _ _=>False) E
def xMeth (C:Addr) (m:Str) (sp:Sp) (dvs:List V) (ta:TE) (t:TA):TX:=fun E σ H=>ta σ H fun x H1=>∃ a dx fs,x=.ref a∧H1 a=some (.ins C dx fs)∧fs.lookup m=none∧t σ H1 fun vs H2=>sp (x::(vs++dvs)) H2 (fun _ _=>False) E
def xNo:TX:=fun _ _ _=>False
section
variable {X:Cx} {k:Nat} {f C:Addr} {fd:FuncData} {ps:List Str} {sp:Sp} {dvs:List V} {ds:List Value} {E:XK} {x m:Str} {p pos apos:Pos} {e o:Expr} {es:List Expr} {ta:TE} {t:TA} {pins:List (Addr×Obj)} {σ:St} {H:Hp} {s:Shared}
theorem thx {α:Type} {t:Sem α} {Q Q':α→Shared→Prop} {M:Model} {A:Around} {E:Value→Shared→Prop} {s:Shared} (h:wpAny M A t Q (fun _ _=>False) s) (hQ:∀ a s,Q a s→Q' a s):wpAny M A t Q' E s:=wpAny_mono h hQ fun _ _ z=>z.elim
theorem run_x {us:List Value} {vs:List V} (F:FnOk X.prog X.w X.K X.mg X.base (CXv X.prog X.w) k f fd ps sp) (hr:Room k X.A) (hb:Binds X.K fd ps ds) (hd:Vals dvs ds)
    (I:Inv X pins σ H s) (r:Vals vs us) (h:sp (vs++dvs) H (fun _ _=>False) E):wpAny (model X.prog X.w) X.A (call (.ref f) us) (fun _ _=>False) (Lands X pins σ E) s:=by
  have r2:Vals (vs++dvs) (us++ds):=r.append hd
  have hl:(us++ds).length=ps.length:=by rw [← r2.length];exact F.len _ _ _ _ h
  refine wpAny_call (codeAny_mono (F.run X.A X.stack s H ⟨us,[]⟩ (us++ds) (vs++dvs) _ E hr I.env0 (hb s us I.kIn hl) r2 h) fun r s' hq=>?_)
  cases r with
  | error e =>
    obtain ⟨ea,C,dx,B,H',rfl,T,q⟩:=hq
    exact ⟨s,H,ea,C,dx,B,H',rfl,I,T,q⟩
  | ok fl =>
    cases fl with
    | ret u=>obtain ⟨_,_,_,_,_,_,_,q⟩:=hq;exact q
    | next=>exact False.elim hq
    | brk=>exact False.elim hq
    | cont=>exact False.elim hq
theorem px_meth {pl:Sem Bool} (he:PE X.nox o ta) (c:Cls X.K C) (hm:Meth X.K C m f) (F:FnOk X.prog X.w X.K X.mg X.base (CXv X.prog X.w) k f fd ps sp) (hr:Room k X.A) (hb:Binds X.K fd ps ds) (hd:Vals dvs ds) (ha:PA X.nox (e::es) t)
    (hst:starEach (e::es) X.env=(false,eval e X.env)::starEach es X.env:=by rfl) (hpl:(backTo pos (starEach es X.env)).any (·.1)=false:=by rfl)
    (ht:eval (.Call (.Attribute o m apos) (e::es) [] pos) X.env=(do
      let ov ← eval o X.env
      standAt apos.atName
      let (f,first) ← holding [ov] (getMethod ov m pl)
      callWith pos f first (backTo pos (starEach (e::es) X.env)) (backToKw pos (keywordEach [] X.env))):=by rfl) :
    PEx X (.Call (.Attribute o m apos) (e::es) [] pos) (xMeth C m sp dvs ta t):=by
  intro pins s σ H E I h
  refine PySem.W.methodCall_KW (pl:=pl) (thx (he pins s σ H _ (I.wish _) h) fun u s1 ⟨x,H1,I1,rx,a,dx,fs,ex,ea,l,q⟩=>?_) ht
  subst ex
  obtain rfl:u=Value.ref a:=rx
  refine getmeth_ok I1.unwish ea c hm l ?_
  refine PySem.W.callWith_K (first:=[.ref a]) (h₀:=X.base) I.ok.mod.kin hm.kp (thx (ha pos pins s1 σ H1 _ I1 q) fun us s2 ⟨vs,H2,I2,r,q2⟩=>⟨I2.kIn,?_⟩) hst hpl
  exact run_x (us:=.ref a::us) (vs:=.ref a::vs) F hr hb hd I2.unwish (.cons rfl r) q2
theorem px_set {y:Str} {pos':Pos} {tx:TX} (he:PEx X e tx) (hs:swapsWith e (some (.Name y pos')) pos.line X.env=pure false:=by rfl):PSx X (.Assign [.Name y pos'] e pos) tx:=by
  intro pins s σ H E I h
  exact wpAny_Assign_Name (thn (he pins s σ H E I h) fun _ _ z=>z.elim) hs
theorem pxs_one {st:Stmt} {rest:List Stmt} {t:TX} (h1:PSx X st t):PSsx X (st::rest) t:=by
  intro pins s σ H E I h
  exact wpAny_execs_cons (thn (h1 pins s σ H E I h) fun _ _ z=>z.elim)
end
def xh (ea C:Addr) (dx:Option Addr):HO:=.ext fun h=>∃ o vs,h.get? ea=some o∧o.cls=.ref C∧o.dict=dx∧o.data=.fields vs
theorem xh_ok {P:Program} {w:World} {H:Hp} {h:Heap} {ea C:Addr} {dx:Option Addr} {o:Obj} {vs:Array Value} (e:h.get? ea=some o) (e1:o.cls=.ref C) (e2:o.dict=dx) (e3:o.data=.fields vs):ObjOk P w H h ea (xh ea C dx) :=
  ⟨⟨o,vs,e,e1,e2,e3⟩,⟨_,e⟩,fun _ _ ⟨o,vs,q,r⟩ k=>⟨o,vs,k _ q,r⟩⟩
def tXFld (K:PySem.W.Frag) (ta:TE) (f:Str):TE:=fun σ H Q=>ta σ H fun x H1=>∃ ea C d fs v,x=.ref ea∧H1 ea=some (xh ea C (some d))∧H1 d=some (xdo d fs)∧XCls K C∧NoAttr K C f∧fs.lookup f=some v∧Q v H1
section
variable {X:Cx} {e:Expr} {f:Str} {pos:Pos} {ta:TE}
end
abbrev Cx.han (X:Cx) (ea:Addr):Cx:={ X with A:=X.A.mark (some (.ref ea)),calm:=false }
theorem Inv.han {X:Cx} {pins:List (Addr×Obj)} {σ:St} {H:Hp} {s:Shared} (I:Inv X pins σ H s) (ea:Addr):Inv (X.han ea) pins σ H s :=
  ⟨⟨I.ok.mod,I.ok.kind,I.ok.glob,I.ok.blt,I.ok.above,I.ok.inj,I.ok.has,I.ok.cab,(fun z=>nomatch z),I.ok.frames,I.ok.stk,I.ok.exf,I.ok.bs,I.ok.bsz,I.ok.noex,I.ok.exfs,I.ok.funs,I.ok.frf⟩,I.os,I.bare,I.base,I.loc,I.cell,I.free,I.freeC,I.pin,I.hok,I.len⟩
theorem Inv.unhan {X:Cx} {pins:List (Addr×Obj)} {σ:St} {H:Hp} {s:Shared} {ea:Addr} (ok:X.Ok) (I:Inv (X.han ea) pins σ H s):Inv X pins σ H s :=
  ⟨ok,I.os,I.bare,I.base,I.loc,I.cell,I.free,I.freeC,I.pin,I.hok,I.len⟩
section
variable {X:Cx} {pins:List (Addr×Obj)} {σ:St} {H H':Hp} {s s':Shared} {ea C:Addr} {dx:Option Addr} {B:Heap} {fl:Value}
theorem Thr.new (T:Thr X.prog X.w X.stack H s ea C dx fl B H' s') (I:Inv X pins σ H s) {b:Addr} {o:Obj} (e:s.heap.get? b=some o):b≠ea:=by
  rintro rfl
  obtain ⟨a0,f⟩:=T.fly
  by_cases hb:b∈frs X.stack
  · obtain ⟨sl,e1⟩:=T.slo b o hb e
    obtain ⟨oe,vs,_,_,_,ge,_,_,dt,_⟩:=f.tale
    obtain ⟨_,o1,ho1,nf⟩:=f.fun'.mem hb
    rw [ge] at ho1
    cases ho1
    exact nf _ dt
  · obtain ⟨o',e1⟩:=T.bas.there b o e hb
    rw [f.new] at e1
    cases e1
theorem Thr.none (T:Thr X.prog X.w X.stack H s ea C dx fl B H' s'):H' ea=none:=by
  obtain ⟨a0,f⟩:=T.fly
  cases q:H' ea with
  | none=>rfl
  | some u =>
    obtain ⟨o,e⟩:=(T.hok ea u q).here
    rw [f.new] at e
    cases e
theorem Thr.inv (T:Thr X.prog X.w X.stack H s ea C dx fl B H' s') (I:Inv X pins σ H s):Inv X pins σ H' s':=I.call' (ch:=[]) T.os T.un T.held T.bare (fun b z=>nomatch z)
theorem Thr.seen (T:Thr X.prog X.w X.stack H s ea C dx fl B H' s') (I:Inv X pins σ H s):Inv X pins σ (upd H' ea (xh ea C dx)) s':=by
  have hn:=T.none
  obtain ⟨a0,f⟩:=T.fly
  obtain ⟨oe,vs,_,_,_,ge,gc,gd,dt,_⟩:=f.tale
  have un:=T.un
  refine I.call' (ch:=[]) T.os ⟨un.keep,un.slot,fun b o e n hx=>?_,un.there,fun b xs e=>?_,fun b o u e=>?_,fun b ps e=>?_⟩ (fun b u e=>?_) T.bare (fun b z=>nomatch z)
  · rw [upd_ne (T.new I e)];exact un.free b o e n hx
  · have:=un.tups b xs e;rw [upd_ne (ne_of_none this hn)];exact this
  · have:=un.frzs b o u e;rw [upd_ne (ne_of_none this hn)];exact this
  · obtain ⟨m,this⟩:=un.tbls b ps e;exact ⟨m,by rw [upd_ne (ne_of_none this hn)];exact this⟩
  · by_cases hb:b=ea
    · subst hb;rw [upd_same] at e;cases e;exact xh_ok ge gc gd dt
    · rw [upd_ne hb] at e
      exact (T.held b u e).stay (fun c v _ r=>r) (fun c r=>by rw [upd_ne (ne_of_none r hn)];exact r) fun c xs r=>by rw [upd_ne (ne_of_none r hn)];exact r
theorem Thr.on {fl':Value} {h2:Heap} {a0:Value} (T:Thr X.prog X.w X.stack H s ea C dx fl B H' s') (f2:Fly B X.stack ea (.ref C) dx a0 fl' h2) (u:s'.heap.UpToSlots h2) (I:Inv X pins σ H s):Thr X.prog X.w X.stack H s ea C dx fl' B H' { s' with heap:=h2 } :=
  ⟨T.os,T.bare,⟨a0,f2⟩,T.hok,T.bas,fun b o hb e=>by
    obtain ⟨sl,e1⟩:=T.slo b o hb e
    obtain ⟨_,o1,ho1,nf⟩:=I.stack.mem hb
    rw [e] at ho1
    cases ho1
    obtain ⟨sl2,e2⟩:=u b _ e1 nf
    exact ⟨sl2,e2⟩⟩
end
section
variable {X:Cx} {pins:List (Addr×Obj)} {σ:St} {H:Hp} {s:Shared} {M:Model} {A:Around} {E:Value→Shared→Prop}
end
abbrev THs:=Addr→Addr→Option Addr→TS
def PH (X:Cx) (hs:List ExceptHandler) (th:THs):Prop :=
  ∀ (pins:List (Addr×Obj)) (σ:St) (H H':Hp) (D:Ends) (s s':Shared) (ea C:Addr) (dx:Option Addr) (B:Heap),Inv X pins σ H s→Thr X.prog X.w X.stack H s ea C dx .none B H' s'→th C ea dx D σ H' →
    wpAny (model X.prog X.w) X.A (handleBy (.ref ea) X.env hs) (SP X pins D) X.xe s'
def Ends.less (D:Ends) (i:Nat):Ends:={ nx:=fun σ H=>D.nx (σ.set i none) H,rt:=D.rt,bk:=fun σ H=>D.bk (σ.set i none) H,ct:=fun σ H=>D.ct (σ.set i none) H }
def tAs (K:PySem.W.Frag) (Ck:Addr) (i:Nat) (ts:TS) (rest:THs):THs:=fun C ea dx D σ H =>
  (PySem.W.exmOne K (.ref C) (.ref Ck)=some true∧ts (D.less i) (σ.set i (some (.ref ea))) (upd H ea (xh ea C dx)))∨(PySem.W.exmOne K (.ref C) (.ref Ck)=some false∧rest C ea dx D σ H)
def tBare (K:PySem.W.Frag) (Ck:Addr) (ts:TS) (rest:THs):THs:=fun C ea dx D σ H =>
  (PySem.W.exmOne K (.ref C) (.ref Ck)=some true∧ts D σ (upd H ea (xh ea C dx)))∨(PySem.W.exmOne K (.ref C) (.ref Ck)=some false∧rest C ea dx D σ H)
def tNoH:THs:=fun _ _ _ _ _ _=>False
def tTry (tb:TS) (tx:TX) (th:THs):TS:=fun D σ H=>tb D σ H∨∃ E,tx E σ H∧∀ C dx H' ea,E (.ref C) dx H'→H' ea=none→th C ea dx D σ H'
section
variable {X:Cx} {x n:Str} {np hpos pos:Pos} {b₀:Stmt} {suite body:List Stmt} {h₀:ExceptHandler} {rest:List ExceptHandler} {Ck:Addr} {i:Nat} {ts tb:TS} {tx:TX} {tr:THs}
theorem ph_nil:PH X [] tNoH:=fun _ _ _ _ _ _ _ _ _ _ _ _ _ h=>h.elim
theorem Thr.looks {M:Model} {P:Program} {w:World} {l:List Env} {H H':Hp} {s s':Shared} {ea C:Addr} {dx:Option Addr} {fl:Value} {B:Heap} (T:Thr P w l H s ea C dx fl B H' s'):PySem.W.Looks M s'.heap (typeOf (.ref ea)) (.ref C):=by
  obtain ⟨a0,f⟩:=T.fly
  obtain ⟨oe,vs,_,_,_,ge,gc,_⟩:=f.tale
  exact gc▸(PySem.W.Looks.ld ge).andThen .now
theorem ph_bare (hg:Gl X x) (hm:X.mg x=some (.ref Ck)) (hs:∀ ea,PSs (X.han ea).nox (b₀::suite) ts) (hr:PH X rest tr) (hdb:(x == ("__debug__" : Str))=false:=by decide) :
    PH X (.ExceptHandler (some (.Name x np)) none (b₀::suite) hpos::rest) (tBare X.K Ck ts tr):=by
  intro pins σ H H' D s s' ea C dx B I T h
  have I1:=T.inv I
  refine wpAny_handleBy_cons (codeAny_handlers_test (ld_glob (X:=X.han ea) (I1.han ea) hg hm ?_ hdb)) (by intro q;cases q)
  rcases h with ⟨hx,h⟩ | ⟨hx,h⟩
  · refine PySem.W.Looks.here (PySem.W.exm_one I1.kIn T.looks hx) ?_
    refine codeAny_handlers_suite ?_
    obtain ⟨a0,f⟩:=T.fly
    refine flight_none f fun h2 f2 u2=>?_
    have I2:=((T.on f2 u2 I).seen I).han ea
    refine wpAny_mono (hs ea pins _ _ _ _ (I2.wish _) h) (fun fl s4 q=>?_) (fun _ _ z=>z.elim)
    cases fl with
    | next=>obtain ⟨σ4,H4,I4,q⟩:=q;exact ⟨_,_,I4.unwish.unhan I.ok,q⟩
    | brk=>obtain ⟨σ4,H4,I4,q⟩:=q;exact ⟨_,_,I4.unwish.unhan I.ok,q⟩
    | cont=>obtain ⟨σ4,H4,I4,q⟩:=q;exact ⟨_,_,I4.unwish.unhan I.ok,q⟩
    | ret u=>obtain ⟨v,σ4,H4,I4,r,q⟩:=q;exact ⟨v,_,_,I4.unwish.unhan I.ok,r,q⟩
  · refine PySem.W.Looks.here (PySem.W.exm_one I1.kIn T.looks hx) ?_
    exact hr pins σ H H' D s s' ea C dx B I T h
theorem ps_try (hb:PSs X.nox body tb) (hx:PSsx X body tx) (hh:PH X (h₀::rest) tr) (hk:X.stack=X.env::X.outer:=by rfl) (hf:X.env.frame=some X.env.locals:=by rfl):PS X (.Try body (h₀::rest) [] [] pos) (tTry tb tx tr):=by
  intro pins s σ H D I h
  refine wpAny_Try_except ?_
  rcases h with h | ⟨E,h,q⟩
  · refine wpAny_mono (hb pins s σ H D (I.wish _) h) (fun f s1 z=>?_) (fun _ _ z=>z.elim)
    cases f with
    | next=>exact wpAny_execs_nil z.unwish
    | brk=>exact z.unwish
    | cont=>exact z.unwish
    | ret u=>exact z.unwish
  · refine wpAny_mono (hx pins s σ H E I h) (fun _ _ z=>z.elim) ?_
    rintro e s1 ⟨s0,H0,ea,C,dx,B,H',rfl,I0,T,qE⟩
    obtain ⟨a0,f⟩:=T.fly
    rw [hk] at f
    refine note_next (by rw [I0.ok.frames,hk]) hf f fun h1 f1 u1=>?_
    rw [← hk] at f1
    have T1:=T.on f1 u1 I0
    refine flight_none f1 fun h2 f2 u2=>?_
    have T2:=T1.on f2 u2 I0
    exact hh pins σ H0 H' D s0 _ ea C dx B I0 T2 (q C dx H' ea qE T2.none)
end
theorem PS.nox {X:Cx} {st:Stmt} {t:TS} (h:PS X.nox st t):PS X st t:=fun pins s σ H D I hw =>
  wpAny_mono (h pins s σ H D (I.wish _) hw) (fun _ _ q=>q.unwish) fun _ _ z=>False.elim z
def Bears (E:XK) (H:Hp) (C:Addr) (fs:List (Str×V)):Prop:=∀ d H',H d=none→Same H H'→H' d=some (xdo d fs)→E (.ref C) (some d) H'
def Got (H:Hp) (C:Addr) (fs:List (Str×V)):XK:=fun c dx H'=>c=.ref C∧∃ d,dx=some d∧H d=none∧Same H H'∧H' d=some (xdo d fs)
theorem bears_got {H:Hp} {C:Addr} {fs:List (Str×V)}:Bears (Got H C fs) H C fs:=fun d H' hd s e=>⟨rfl,d,rfl,hd,s,e⟩
theorem Got.at {H H':Hp} {C D ea:Addr} {fs:List (Str×V)} {dx:Option Addr} (g:Got H C fs (.ref D) dx H') (he:H' ea=none):D=C∧∃ d,dx=some d∧Same H (upd H' ea (xh ea C (some d)))∧upd H' ea (xh ea C (some d)) ea=some (xh ea C (some d))∧upd H' ea (xh ea C (some d)) d=some (xdo d fs):=by
  obtain ⟨e,d,rfl,hd,sm,hdd⟩:=g
  cases e
  have ned:d≠ea:=fun z=>by rw [z,he] at hdd;cases hdd
  exact ⟨rfl,d,rfl,fun b o hb=>(upd_ne (ne_of_none (sm _ _ hb) he)).trans (sm _ _ hb),upd_same,(upd_ne ned).trans hdd⟩
end L2

set_option Elab.async false
set_option linter.all false
set_option maxRecDepth 100000
set_option maxHeartbeats 4000000
namespace L2
open PySem PySem.Spec PyProof.Rows
def LKs (H:Hp) (l:Addr) (ks:List Int):Prop:=∃ kvs:List (Key×V),H l=some (.dK kvs)∧kvs.map (·.1)=ks.map Sum.inl
theorem LKs.same {H H':Hp} {l:Addr} {ks:List Int} (h:LKs H l ks) (s:Same H H'):LKs H' l ks:=let ⟨k,e,b⟩:=h;⟨k,s _ _ e,b⟩
theorem LKs.chg {A:List Addr} {H H':Hp} {l:Addr} {ks:List Int} (h:LKs H l ks) (s:Chg A H H') (n:l∉A):LKs H' l ks:=let ⟨k,e,b⟩:=h;⟨k,s.keep _ _ e n,b⟩
def addK (ks:List Int) (p:Int):List Int:=if p∈ks then ks else ks++[p]
def delK (ks:List Int) (p:Int):List Int:=ks.filter fun q=>decide (q≠p)
theorem keys_mem {kvs:List (Key×V)} {ks:List Int} (h:kvs.map (·.1)=ks.map Sum.inl) (p:Int):(valV kvs (.inl p)).isSome=true↔p∈ks:=by
  rw [← valV_any,List.any_eq_true]
  constructor
  · rintro ⟨kv,hm,e⟩
    have e':kv.1=(.inl p:Key):=of_decide_eq_true e
    have:(.inl p:Key)∈ks.map Sum.inl:=by rw [← h,← e'];exact List.mem_map.mpr ⟨kv,hm,rfl⟩
    obtain ⟨q,hq,e2⟩:=List.mem_map.mp this
    cases e2
    exact hq
  · intro hp
    have:(.inl p:Key)∈kvs.map (·.1):=by rw [h];exact List.mem_map.mpr ⟨p,hp,rfl⟩
    obtain ⟨kv,hm,e⟩:=List.mem_map.mp this
    exact ⟨kv,hm,by rw [e];simp⟩
theorem keys_put {kvs:List (Key×V)} {ks:List Int} (h:kvs.map (·.1)=ks.map Sum.inl) (p:Int) (v:V):(putK kvs (.inl p) v).map (·.1)=(addK ks p).map Sum.inl:=by
  unfold putK addK
  rw [valV_any]
  by_cases c:p∈ks
  · rw [if_pos ((keys_mem h p).mpr c),if_pos c,List.map_map,← h]
    refine List.map_congr_left fun kv _=>?_
    show (if kv.1=(.inl p:Key) then (kv.1,v) else kv).1=kv.1
    split<;>rfl
  · rw [if_neg (fun z=>c ((keys_mem h p).mp z)),if_neg c,List.map_append,List.map_append,h]
    rfl
theorem keys_drop {kvs:List (Key×V)} {ks:List Int} (h:kvs.map (·.1)=ks.map Sum.inl) (p:Int):(dropK kvs (.inl p)).map (·.1)=(delK ks p).map Sum.inl:=by
  unfold dropK delK
  induction kvs generalizing ks with
  | nil =>
    cases ks with
    | nil=>rfl
    | cons=>cases h
  | cons kv r ih =>
    cases ks with
    | nil=>cases h
    | cons q ks =>
      rw [List.map_cons,List.map_cons] at h
      injection h with h1 h2
      have ih':=ih h2
      by_cases c:q=p
      · subst c
        rw [List.filter_cons_of_neg (by simp [h1]),List.filter_cons_of_neg (by simp)]
        exact ih'
      · rw [List.filter_cons_of_pos (by simp [h1];exact c),List.filter_cons_of_pos (by simp [c]),List.map_cons,List.map_cons,h1,ih']
theorem delK_none {ks:List Int} {p:Int} (h:p∉ks):delK ks p=ks:=by
  unfold delK
  rw [List.filter_eq_self]
  intro q hq
  simp
  rintro rfl
  exact h hq
def runL (M:LendM) (turn:Int) (ks:List Int):List Int:=ks.filter fun p=>M.isLent p turn
def due33 (M:LendM) (R:RowM) (fr turn:Int) (ks:List Int):List Int×Option Int:=if ((runL M turn ks).length:Int) < M.width then dueG M turn (pwf M R fr) else ([],none)
def sp_lend33 (C:Addr):Sp:=fun vs H Q _=>∃ (r f t l:Addr) (M:LendM) (p:Int) (tk:List Nat) (turn:Int) (ks:List Int),vs=[.ref r,.int p,.str (S tk),.int turn]∧LendAt C H r f t l M∧LKs H l ks∧M.sz≤100000 ∧
  ∀ H',Chg [r,t,l] H H'→LendAt C H' r f t l (M.lend p tk turn)→LKs H' l (addK ks p)→Q (.int (M.lent+1)) H'
def sp_back33 (C:Addr):Sp:=fun vs H Q _=>∃ (r f t l:Addr) (M:LendM) (p:Int) (ks:List Int),vs=[.ref r,.int p]∧LendAt C H r f t l M∧LKs H l ks∧∀ H',Chg [l] H H'→LendAt C H' r f t l (M.back p)→LKs H' l (delK ks p)→Q .non H'
def sp_fate33 (C:Addr) (z:Str):Sp:=fun vs H Q _=>∃ (r f t l:Addr) (M:LendM) (p:Int) (ks:List Int),vs=[.ref r,.int p]∧LendAt C H r f t l M∧LKs H l ks∧M.sz≤100000∧∀ H',Chg [f,l] H H'→LendAt C H' r f t l (M.fate p z)→LKs H' l (delK ks p)→Q .non H'
def sp_due33 (C CR:Addr):Sp:=fun vs H Q _=>∃ (r f t l:Addr) (M:LendM) (row d:Addr) (R:RowM) (fr turn:Int) (ks:List Int),vs=[.ref r,.ref row,.int fr,.int turn]∧LendAt C H r f t l M∧RowAt CR H row d R∧R.last≤1000∧0≤M.start∧M.start≤1000∧0≤fr∧LKs H l ks∧ks.length≤1000 ∧
  ∀ A u H',H A=none→H u=none→Same H H'→H' A=some (.lst ((due33 M R fr turn ks).1.map V.int))→H' u=some (.tup [.ref A,oV (due33 M R fr turn ks).2])→Q (.ref u) H'
end L2

set_option Elab.async false
set_option linter.all false
set_option maxRecDepth 100000
set_option maxHeartbeats 4000000
namespace L2
open PySem PySem.Spec PyProof.Rows
def aliveC (cs:List Int) (p:Int):Bool:=decide (cs.getD p.toNat 0 % 5≠0)
def rng (a b:Int):List Int:=(List.range (b - a).toNat).map fun (i:Nat)=>a+(i:Int)
theorem mem_rng {a b p:Int}:p∈rng a b↔a≤p∧p < b:=by
  unfold rng
  rw [List.mem_map]
  constructor
  · rintro ⟨i,hi,rfl⟩
    have:=List.mem_range.mp hi
    omega
  · rintro ⟨h1,h2⟩
    exact ⟨(p - a).toNat,List.mem_range.mpr (by omega),by omega⟩
theorem rng_len (a b:Int):(rng a b).length=(b - a).toNat:=by unfold rng;rw [List.length_map,List.length_range]
theorem rng_succ {a b:Int} (h:a≤b):rng a (b+1)=rng a b++[b]:=by
  unfold rng
  rw [show (b+1 - a).toNat=(b - a).toNat+1 by omega,List.range_succ,List.map_append]
  congr 1
  simp
  omega
structure RowC (R:RowM) (cs:List Int):Prop where
  first:R.first=0
  last:R.last=cs.length
  L:∀ p,(R.L p).isSome=(decide (0≤p) && (decide (p < cs.length) && aliveC cs p))
theorem pwf_rng {M:LendM} {R:RowM} {cs:List Int} (h:RowC R cs) (h0:0≤M.start) (fr:Int):pwf M R fr=((rng M.start (min fr cs.length)).filter (aliveC cs)).filter fun p=>(M.F p).isNone:=by
  unfold pwf RowM.seenP RowM.standing
  rw [h.first,h.last,Int.max_eq_left h0]
  congr 1
  have e1:((List.range (min fr (cs.length:Int) - M.start).toNat).map fun (i:Nat)=>M.start+(i:Int))=rng M.start (min fr cs.length):=rfl
  rw [e1]
  have e2:(rng M.start (min fr cs.length)).filter (fun q=>(R.L q).isSome)=(rng M.start (min fr cs.length)).filter (aliveC cs):=by
    refine List.filter_congr fun p hp=>?_
    have hp':=mem_rng.mp hp
    rw [h.L,decide_eq_true (show 0≤p by omega),decide_eq_true (show p < (cs.length:Int) by omega)]
    rfl
  rw [e2,Int.toNat_natCast]
  refine List.take_of_length_le ?_
  refine Nat.le_trans (List.length_filter_le _ _) ?_
  rw [rng_len]
  omega
theorem getD_app {cs:List Int} {c:Int} {k:Nat}:(cs++[c]).getD k 0=if k < cs.length then cs.getD k 0 else if k=cs.length then c else 0:=by
  rw [List.getD_eq_getElem?_getD,List.getD_eq_getElem?_getD]
  by_cases h:k < cs.length
  · rw [if_pos h,List.getElem?_append_left h]
  · rw [if_neg h,List.getElem?_append_right (by omega)]
    by_cases e:k=cs.length
    · rw [if_pos e,e,Nat.sub_self];rfl
    · rw [if_neg e,List.getElem?_eq_none (by simp;omega)];rfl
theorem RowC.put {R:RowM} {cs:List Int} {c:Int} {x:Ltr} {o:Option Ltr} (h:RowC R cs) (ho:o.isSome=decide (c % 5≠0)):RowC { R.add x with L:=fun q=>if q=R.last then o else R.L q } (cs++[c]):=by
  refine ⟨h.first,?_,fun p=>?_⟩
  · show R.last+1=_
    rw [h.last,List.length_append];rfl
  · show (if p=R.last then o else R.L p).isSome=_
    rw [h.last]
    have el:((cs++[c]).length:Int)=(cs.length:Int)+1:=by rw [List.length_append];rfl
    rw [el]
    by_cases e:p=(cs.length:Int)
    · rw [if_pos e,ho,decide_eq_true (show 0≤p by omega),decide_eq_true (show p < (cs.length:Int)+1 by omega)]
      unfold aliveC
      rw [getD_app,if_neg (by omega),if_pos (by omega)]
      rfl
    · rw [if_neg e,h.L]
      by_cases h0:0≤p
      · by_cases h1:p < (cs.length:Int)
        · rw [decide_eq_true h0,decide_eq_true h1,decide_eq_true (show p < (cs.length:Int)+1 by omega)]
          unfold aliveC
          rw [getD_app,if_pos (by omega)]
        · rw [decide_eq_false h1,decide_eq_false (show ¬ p < (cs.length:Int)+1 by omega)]
          simp
      · rw [decide_eq_false h0]
        rfl
theorem RowC.add {R:RowM} {cs:List Int} {c:Int} {x:Ltr} (h:RowC R cs) (hc:¬ c % 5=0):RowC (R.add x) (cs++[c]):=h.put (x:=x) (o:=some x) (by rw [decide_eq_true hc];rfl)
structure Wk (M0 M:LendM) (turn:Int) (dn td:List Int):Prop where
  start:M.start=M0.start
  tries:M.tries=M0.tries
  width:M.width=M0.width
  turns:M.turns=M0.turns
  dn:∀ p∈dn,(M.F p).isSome=true∨M.isLent p turn=true
  td:∀ p∈td,M.F p=none∧M.L p=none∧M.T p=0
  fat:∀ p,(M0.F p).isSome=true→(M.F p).isSome=true
theorem Wk.lend {M0 M:LendM} {turn:Int} {dn td:List Int} {p:Int} {tk:List Nat} (h:Wk M0 M turn dn (p::td)) (hp:p∉td) (ht:1≤M0.turns):Wk M0 (M.lend p tk turn) turn (dn++[p]) td:=by
  have lp:(M.lend p tk turn).isLent p turn=true:=by
    unfold LendM.isLent
    show (match (if p=p then some (M.lent+1,tk,turn+M.turns) else M.L p) with | some x=>decide (turn < x.2.2) | none=>false)=true
    rw [if_pos rfl,h.turns]
    exact decide_eq_true (by show turn < turn+M0.turns;omega)
  refine ⟨h.start,h.tries,h.width,h.turns,fun q hq=>?_,fun q hq=>?_,h.fat⟩
  · rcases List.mem_append.mp hq with hq | hq
    · by_cases e:q=p
      · subst e;exact .inr lp
      · rcases h.dn q hq with z | z
        · exact .inl z
        · refine .inr ?_
          unfold LendM.isLent at z ⊢
          show (match (if q=p then some (M.lent+1,tk,turn+M.turns) else M.L q) with | some x=>decide (turn < x.2.2) | none=>false)=true
          rw [if_neg e]
          exact z
    · simp only [List.mem_cons,List.not_mem_nil,or_false] at hq
      subst hq
      exact .inr lp
  · have e:q≠p:=fun z=>hp (z▸hq)
    obtain ⟨a,b,c⟩:=h.td q (List.mem_cons_of_mem _ hq)
    refine ⟨a,?_,?_⟩
    · show (if q=p then some (M.lent+1,tk,turn+M.turns) else M.L q)=none
      rw [if_neg e];exact b
    · show (if q=p then M.T p+1 else M.T q)=0
      rw [if_neg e];exact c
theorem Wk.fate {M0 M:LendM} {turn:Int} {dn td:List Int} {p:Int} {z:Str} (h:Wk M0 M turn dn td) (hp:p∉td):Wk M0 (M.fate p z) turn dn td:=by
  refine ⟨h.start,h.tries,h.width,h.turns,fun q hq=>?_,fun q hq=>?_,fun q hq=>?_⟩
  · by_cases e:q=p
    · refine .inl ?_
      show (if q=p then some z else M.F q).isSome=true
      rw [if_pos e];rfl
    · rcases h.dn q hq with y | y
      · refine .inl ?_
        show (if q=p then some z else M.F q).isSome=true
        rw [if_neg e];exact y
      · refine .inr ?_
        unfold LendM.isLent at y ⊢
        show (match (if q=p then none else M.L q) with | some x=>decide (turn < x.2.2) | none=>false)=true
        rw [if_neg e];exact y
  · have e:q≠p:=fun y=>hp (y▸hq)
    obtain ⟨a,b,c⟩:=h.td q hq
    refine ⟨?_,?_,c⟩
    · show (if q=p then some z else M.F q)=none
      rw [if_neg e];exact a
    · show (if q=p then none else M.L q)=none
      rw [if_neg e];exact b
  · show (if q=p then some z else M.F q).isSome=true
    by_cases e:q=p
    · rw [if_pos e];rfl
    · rw [if_neg e];exact h.fat q hq
theorem dueG_lent {M:LendM} {turn:Int}:∀ {l:List Int},(∀ p∈l,M.isLent p turn=true)→dueG M turn l=([],none):=by
  intro l h
  unfold dueG
  induction l with
  | nil=>rfl
  | cons p r ih =>
    rw [List.foldl_cons]
    have:dueS M turn ([],none) p=([],none):=by
      unfold dueS
      rw [if_pos (h p List.mem_cons_self)]
    rw [this]
    exact ih fun q hq=>h q (List.mem_cons_of_mem _ hq)
theorem dueG_free {M:LendM} {turn:Int} {l:List Int} (h:∀ p∈l,M.isLent p turn=false∧M.T p < M.tries):dueG M turn l=([],l.head?):=by
  cases l with
  | nil=>rfl
  | cons p r =>
    unfold dueG
    rw [List.foldl_cons]
    obtain ⟨a,b⟩:=h p List.mem_cons_self
    have:dueS M turn ([],none) p=([],some p):=by
      unfold dueS
      rw [if_neg (by rw [a];exact Bool.false_ne_true),if_pos b]
    rw [this,dueS_done]
    rfl
theorem dueG_app {M:LendM} {turn:Int} {l m:List Int} (h:∀ p∈l,M.isLent p turn=true):dueG M turn (l++m)=dueG M turn m:=by
  have e:=dueG_lent h
  unfold dueG at e ⊢
  rw [List.foldl_append,e]
theorem Wk.due {M0 M:LendM} {turn:Int} {dn td al:List Int} {fz:Int→Bool} (h:Wk M0 M turn dn td) (hal:al.filter (fun p=>!fz p)=dn++td) (hfz:∀ p∈al,fz p=true→(M0.F p).isSome=true) (ht:0 < M0.tries):dueG M turn (al.filter fun p=>(M.F p).isNone)=([],td.head?):=by
  have e1:al.filter (fun p=>(M.F p).isNone)=(dn++td).filter fun p=>(M.F p).isNone:=by
    rw [← hal,List.filter_filter]
    refine List.filter_congr fun p hp=>?_
    cases e:fz p with
    | false=>simp
    | true =>
      have:=h.fat p (hfz p hp e)
      cases z:M.F p with
      | none=>rw [z] at this;cases this
      | some _=>rfl
  have e2:td.filter (fun p=>(M.F p).isNone)=td:=List.filter_eq_self.mpr fun p hp=>by rw [(h.td p hp).1];rfl
  rw [e1,List.filter_append,e2,dueG_app]
  · refine dueG_free fun p hp=>?_
    obtain ⟨_,b,c⟩:=h.td p hp
    refine ⟨by unfold LendM.isLent;rw [b],by rw [c,h.tries];exact ht⟩
  · intro p hp
    obtain ⟨hm,hf⟩:=List.mem_filter.mp hp
    rcases h.dn p hm with z | z
    · cases y:M.F p with
      | none=>rw [y] at z;cases z
      | some _=>rw [y] at hf;cases hf
    · exact z
structure Wd (M:LendM) (ks:List Int) (turn n:Int):Prop where
  start:M.start=0
  tries:M.tries=3
  width:M.width=n
  turns:M.turns=5
  F:∀ p,M.F p=none
  inn:∀ p∈ks,∃ x,M.L p=some x∧x.2.2=turn+5
  out:∀ p,p∉ks→M.L p=none∧M.T p=0
theorem Wd.lend {M:LendM} {ks:List Int} {turn n p:Int} {tk:List Nat} (h:Wd M ks turn n):Wd (M.lend p tk turn) (ks++[p]) turn n:=by
  refine ⟨h.start,h.tries,h.width,h.turns,h.F,fun q hq=>?_,fun q hq=>?_⟩
  · show ∃ x,(if q=p then some (M.lent+1,tk,turn+M.turns) else M.L q)=some x∧x.2.2=turn+5
    by_cases e:q=p
    · rw [if_pos e]
      exact ⟨_,rfl,by show turn+M.turns=turn+5;rw [h.turns]⟩
    · rw [if_neg e]
      rcases List.mem_append.mp hq with hq | hq
      · exact h.inn q hq
      · simp only [List.mem_cons,List.not_mem_nil,or_false] at hq
        exact absurd hq e
  · have hq':q∉ks∧q≠p:=⟨fun z=>hq (List.mem_append.mpr (.inl z)),fun z=>hq (List.mem_append.mpr (.inr (by simp [z])))⟩
    obtain ⟨a,b⟩:=h.out q hq'.1
    refine ⟨?_,?_⟩
    · show (if q=p then some (M.lent+1,tk,turn+M.turns) else M.L q)=none
      rw [if_neg hq'.2];exact a
    · show (if q=p then M.T p+1 else M.T q)=0
      rw [if_neg hq'.2];exact b
theorem Wd.free {M:LendM} {ks ks':List Int} {turn t n:Int} {R:RowM} {cs:List Int} {fr:Int} (RC:RowC R cs) (hs:M.start=0) (ht:M.tries=3) (hw:M.width=n) (hF:∀ p,M.F p=none) (hout:∀ p,p∉ks→M.L p=none∧M.T p=0) (hr:((runL M t ks').length:Int) < n) (hks:∀ p∈ks,¬ (0≤p∧p < cs.length∧aliveC cs p=true)) :
    due33 M R fr t ks'=([],((rng 0 (min fr cs.length)).filter (aliveC cs)).head?):=by
  unfold due33
  rw [hw,if_pos hr,pwf_rng RC (by rw [hs];exact Int.le_refl _),hs]
  have e1:((rng 0 (min fr cs.length)).filter (aliveC cs)).filter (fun p=>(M.F p).isNone)=(rng 0 (min fr cs.length)).filter (aliveC cs):=List.filter_eq_self.mpr fun p _=>by rw [hF p];rfl
  rw [e1]
  refine dueG_free fun p hp=>?_
  obtain ⟨h1,h2⟩:=List.mem_filter.mp hp
  have h1':=mem_rng.mp h1
  obtain ⟨a,b⟩:=hout p fun z=>hks p z ⟨by omega,by omega,h2⟩
  exact ⟨by unfold LendM.isLent;rw [a],by rw [b,ht];decide⟩
theorem Wd.none {M:LendM} {ks:List Int} {turn n:Int} (h:Wd M ks turn n):runL M (turn+5) ks=[]:=List.filter_eq_nil_iff.mpr fun p hp=>by
  obtain ⟨x,e1,e2⟩:=h.inn p hp
  unfold LendM.isLent
  rw [e1]
  simp
  omega
theorem rng_sorted (a b:Int):(rng a b).Pairwise (· < ·):=by
  unfold rng
  refine List.Pairwise.map _ (fun i j hij=>?_) List.pairwise_lt_range
  omega
end L2

set_option Elab.async false
set_option linter.all false
set_option maxRecDepth 100000
set_option maxHeartbeats 4000000
namespace L2
open PySem PySem.Spec PyProof.Rows
abbrev Spot:=Int×Int
def spotV (x:Spot):List V:=[.int x.1,.int x.2]
structure SendM where
  L:Str→Option Int
  T:Str→Int
  P:Str→List Spot
  sz:Nat
def sendF (l t p:Addr):List (Str×V):=[("lives",.ref l),("lasts",.ref t),("spots",.ref p)]
structure SendAt (C:Addr) (H:Hp) (r l t p:Addr) (Z:List Addr) (M:SendM):Prop where
  obj:∃ dx,H r=some (.ins C dx (sendF l t p))
  liv:∃ kvs,H l=some (.dK kvs)∧kvs.length≤M.sz∧∀ z,valV kvs (.inr z)=(M.L z).map V.int
  las:∃ kvs,H t=some (.dK kvs)∧kvs.length≤M.sz∧∀ z,valV kvs (.inr z)=(M.L z).map fun _=>V.int (M.T z)
  spo:∃ kvs,H p=some (.dK kvs)∧kvs.length≤M.sz∧∀ z,(M.L z).isSome=true→∃ q,valV kvs (.inr z)=some (.ref q)∧LTups H q ((M.P z).map spotV)∧q∉Z
  len:∀ z,(M.P z).length≤8
  rl:r≠l
  rt:r≠t
  rp:r≠p
  lt:l≠t
  lp:l≠p
  tp:t≠p
theorem SendAt.chg {A:List Addr} {C:Addr} {H H':Hp} {r l t p:Addr} {Z:List Addr} {M:SendM} (h:SendAt C H r l t p Z M) (c:Chg A H H') (hr:r∉A) (hl:l∉A) (ht:t∉A) (hp:p∉A) (hz:∀ b∈A,b∈Z∨∀ xs,H b≠some (.lst xs)):SendAt C H' r l t p Z M:=by
  obtain ⟨dx,e⟩:=h.obj
  obtain ⟨k1,e1,l1,v1⟩:=h.liv
  obtain ⟨k2,e2,l2,v2⟩:=h.las
  obtain ⟨k3,e3,l3,v3⟩:=h.spo
  refine ⟨⟨dx,c.keep _ _ e hr⟩,⟨k1,c.keep _ _ e1 hl,l1,v1⟩,⟨k2,c.keep _ _ e2 ht,l2,v2⟩,⟨k3,c.keep _ _ e3 hp,l3,fun z hzz=>?_⟩,h.len,h.rl,h.rt,h.rp,h.lt,h.lp,h.tp⟩
  obtain ⟨q,a1,a2,a3⟩:=v3 z hzz
  refine ⟨q,a1,a2.chg c fun m=>?_,a3⟩
  rcases hz q m with y | y
  · exact a3 y
  · obtain ⟨ts,b1,_⟩:=a2
    exact y _ b1
theorem SendAt.same {C:Addr} {H H':Hp} {r l t p:Addr} {Z:List Addr} {M:SendM} (h:SendAt C H r l t p Z M) (s:Same H H'):SendAt C H' r l t p Z M:=h.chg (A:=[]) (Chg.of_same s) (by simp) (by simp) (by simp) (by simp) (by simp)
theorem SendAt.less {C:Addr} {H:Hp} {r l t p:Addr} {Z Z':List Addr} {M:SendM} (h:SendAt C H r l t p Z M) (hz:∀ b∈Z',b∈Z∨H b=none):SendAt C H r l t p Z' M:=by
  obtain ⟨k3,e3,l3,v3⟩:=h.spo
  refine ⟨h.obj,h.liv,h.las,⟨k3,e3,l3,fun z hzz=>?_⟩,h.len,h.rl,h.rt,h.rp,h.lt,h.lp,h.tp⟩
  obtain ⟨q,a1,a2,a3⟩:=v3 z hzz
  refine ⟨q,a1,a2,fun m=>?_⟩
  rcases hz q m with y | y
  · exact a3 y
  · obtain ⟨ts,b1,_⟩:=a2
    rw [y] at b1
    cases b1
end L2

set_option Elab.async false
set_option linter.all false
set_option maxRecDepth 100000
set_option maxHeartbeats 4000000
namespace L2
open PySem PySem.Spec PyProof.Rows
end L2

set_option Elab.async false
set_option linter.all false
set_option maxRecDepth 100000
set_option maxHeartbeats 4000000
namespace L2
open PySem PySem.Spec PyProof.Rows Builtin Builtin.ObjectAttr
structure XIs (K:PySem.W.Frag) (C:Addr):Prop where
  ha:PySem.W.findIn K (.ref C) "__class__" = some (some (.builtin "object.__class__"))
  hn:PySem.W.specialIn K (.builtin "object.__class__") "__get__" = some (some (.builtin "getset_descriptor.__get__"))
  htk:PySem.W.takesIn K (.builtin "object.__class__")=some true
section
variable {prog:Program} {w:World} {A:Around} {E:Value→Shared→Prop} {s:Shared} {K:PySem.W.Frag} {x C:Addr} {v:Value}
end
end L2

set_option Elab.async false
set_option linter.all false
namespace L2
open PySem PySem.Spec PyProof.Rows
theorem cut1 {t1 tR:TS} {D:Ends} {σ:L2.St} {H:Hp} (h:∀ R,R=tR→tSeq t1 R D σ H):tSeq t1 tR D σ H:=h _ rfl
theorem cut2 {t1 t2 tR:TS} {D:Ends} {σ:L2.St} {H:Hp} (h:∀ R,R=tR→tSeq t1 (tSeq t2 R) D σ H):tSeq t1 (tSeq t2 tR) D σ H:=h _ rfl
theorem cut3 {t1 t2 t3 tR:TS} {D:Ends} {σ:L2.St} {H:Hp} (h:∀ R,R=tR→tSeq t1 (tSeq t2 (tSeq t3 R)) D σ H):tSeq t1 (tSeq t2 (tSeq t3 tR)) D σ H:=h _ rfl
theorem el1 {α:Type} {p:List α→Prop} (h:∀ a,p [a]):∀ us:List α,us.length=1→p us
  | [a],_=>h a
theorem el2 {α:Type} {p:List α→Prop} (h:∀ a b,p [a,b]):∀ us:List α,us.length=2→p us
  | [a,b],_=>h a b
theorem el3 {α:Type} {p:List α→Prop} (h:∀ a b c,p [a,b,c]):∀ us:List α,us.length=3→p us
  | [a,b,c],_=>h a b c
theorem el4 {α:Type} {p:List α→Prop} (h:∀ a b c d,p [a,b,c,d]):∀ us:List α,us.length=4→p us
  | [a,b,c,d],_=>h a b c d
theorem el5 {α:Type} {p:List α→Prop} (h:∀ a b c d e,p [a,b,c,d,e]):∀ us:List α,us.length=5→p us
  | [a,b,c,d,e],_=>h a b c d e
theorem el6 {α:Type} {p:List α→Prop} (h:∀ a b c d e f,p [a,b,c,d,e,f]):∀ us:List α,us.length=6→p us
  | [a,b,c,d,e,f],_=>h a b c d e f
end L2

set_option Elab.async false
set_option linter.all false
set_option maxRecDepth 100000
set_option maxHeartbeats 4000000
namespace L2
open PySem PySem.Spec PyProof.Rows
theorem Bears.mono {E:XK} {H H1:Hp} {C:Addr} {fs:List (Str×V)} (s:Same H H1) (h:Bears E H C fs):Bears E H1 C fs:=fun d H' hd s1 e=>h d H' (same_back s hd) (s.trans s1) e
theorem LendAt.sm {C:Addr} {H H':Hp} {r f t l:Addr} {M:LendM} (h:LendAt C H r f t l M) (s:Same H H'):LendAt C H' r f t l M:=h.chg (A:=[]) (Chg.of_same s) (by simp) (by simp) (by simp) (by simp)
def sp_place_y (C CL:Addr):Sp:=fun vs H Q E=>∃ (r f t l:Addr) (M:LendM) (k turn:Int),vs=[.ref r,.int k,.int turn]∧LendAt C H r f t l M ∧
  ((∃ p x,M.L p=some x∧x.1=k∧1≤k∧turn < x.2.2∧(∀ q y,M.L q=some y→y.1=k→q=p)∧∀ H',Same H H'→Q (.int p) H') ∨
   ((∀ q y,M.L q=some y→¬ (y.1=k∧1≤k∧turn < y.2.2))∧Bears E H CL [("row",.int M.row),("loan",.int k)]))
abbrev Two:=Int→Option (Int×Int)
structure In35 (M:LendM) (W Z:Two):Prop where
  lent:0≤M.lent
  lz:∀ p y,M.L p=some y→Z p=some (y.1,y.2.2)
  lw:∀ p y,M.L p=some y→W y.1=some (p,y.2.2)
  wl:∀ k p e,W k=some (p,e)→∃ y,M.L p=some y∧y.1=k∧y.2.2=e
  zz:∀ p p' n e e',Z p=some (n,e)→Z p'=some (n,e')→p=p'
  zb:∀ p n e,Z p=some (n,e)→1≤n∧n≤M.lent
def del2 (W:Two) (n:Int):Two:=fun k=>if k=n then none else W k
def put2 (W:Two) (n:Int) (x:Int×Int):Two:=fun k=>if k=n then some x else W k
theorem In35.less {M M':LendM} {W Z:Two} {p n e:Int} (h:In35 M W Z) (hz:Z p=some (n,e)) (h3:M'.lent=M.lent) (hL:∀ q,M'.L q=if q=p then none else M.L q):In35 M' (del2 W n) Z:=by
  refine ⟨by rw [h3];exact h.lent,fun q y hy=>?_,fun q y hy=>?_,fun k q e' hw=>?_,h.zz,fun q n' e' hq=>by rw [h3];exact h.zb q n' e' hq⟩
  · rw [hL] at hy
    by_cases c:q=p
    · rw [if_pos c] at hy;cases hy
    · rw [if_neg c] at hy;exact h.lz q y hy
  · rw [hL] at hy
    by_cases c:q=p
    · rw [if_pos c] at hy;cases hy
    · rw [if_neg c] at hy
      show (if y.1=n then none else W y.1)=_
      rw [if_neg (fun z=>c (h.zz q p n _ _ (by rw [← z];exact h.lz q y hy) hz))]
      exact h.lw q y hy
  · have hw':(if k=n then none else W k)=some (q,e'):=hw
    by_cases c:k=n
    · rw [if_pos c] at hw';cases hw'
    · rw [if_neg c] at hw'
      obtain ⟨y,y1,y2,y3⟩:=h.wl k q e' hw'
      refine ⟨y,?_,y2,y3⟩
      rw [hL,if_neg (fun z=>c ?_)]
      · exact y1
      · have:=h.lz q y y1
        rw [z,hz] at this
        cases this
        exact y2.symm
theorem In35.lend {M:LendM} {W Z:Two} {p n:Int} {tk:List Nat} {turn:Int} (h:In35 M W Z) (hn:∀ m e,Z p=some (m,e)→n=m) (h0:Z p=none→n=0) :
    In35 (M.lend p tk turn) (put2 (del2 W n) (M.lent+1) (p,turn+M.turns)) (put2 Z p (M.lent+1,turn+M.turns)):=by
  have hl:=h.lent
  have eL:∀ q,(M.lend p tk turn).L q=if q=p then some (M.lent+1,tk,turn+M.turns) else M.L q:=fun q=>rfl
  have eZ:∀ q,put2 Z p (M.lent+1,turn+M.turns) q=if q=p then some (M.lent+1,turn+M.turns) else Z q:=fun q=>rfl
  have eW:∀ q,put2 (del2 W n) (M.lent+1) (p,turn+M.turns) q=if q=M.lent+1 then some (p,turn+M.turns) else if q=n then none else W q:=fun q=>rfl
  refine ⟨by show 0≤M.lent+1;omega,fun q y hy=>?_,fun q y hy=>?_,fun k q e' hw=>?_,fun q q' m e e' h1 h2=>?_,fun q m e hq=>?_⟩
  · rw [eL] at hy
    rw [eZ]
    by_cases c:q=p
    · rw [if_pos c] at hy ⊢;cases hy;rfl
    · rw [if_neg c] at hy ⊢;exact h.lz q y hy
  · rw [eL] at hy
    rw [eW]
    by_cases c:q=p
    · rw [if_pos c] at hy;cases hy;rw [if_pos rfl,c]
    · rw [if_neg c] at hy
      have z1:=h.lz q y hy
      have b:=h.zb q _ _ z1
      rw [if_neg (by omega),if_neg (fun z=>?_)]
      · exact h.lw q y hy
      · cases zp:Z p with
        | none=>have:=h0 zp;omega
        | some x=>exact c (h.zz q p y.1 _ x.2 z1 (by rw [zp,z,hn x.1 x.2 zp]))
  · rw [eW] at hw
    by_cases c:k=M.lent+1
    · rw [if_pos c] at hw
      cases hw
      exact ⟨_,by rw [eL,if_pos rfl],c.symm,rfl⟩
    · rw [if_neg c] at hw
      by_cases c2:k=n
      · rw [if_pos c2] at hw;cases hw
      · rw [if_neg c2] at hw
        obtain ⟨y,y1,y2,y3⟩:=h.wl k q e' hw
        refine ⟨y,?_,y2,y3⟩
        rw [eL,if_neg (fun z=>c2 ?_)]
        · exact y1
        · have:=h.lz q y y1
          rw [z] at this
          rw [← y2,hn _ _ this]
  · rw [eZ] at h1 h2
    by_cases c:q=p
    · by_cases c':q'=p
      · rw [c,c']
      · rw [if_pos c] at h1
        rw [if_neg c'] at h2
        cases h1
        have:=(h.zb _ _ _ h2).2
        omega
    · rw [if_neg c] at h1
      by_cases c':q'=p
      · rw [if_pos c'] at h2
        cases h2
        have:=(h.zb _ _ _ h1).2
        omega
      · rw [if_neg c'] at h2
        exact h.zz q q' m e e' h1 h2
  · rw [eZ] at hq
    show 1≤m∧m≤M.lent+1
    by_cases c:q=p
    · rw [if_pos c] at hq;cases hq;exact ⟨by omega,Int.le_refl _⟩
    · rw [if_neg c] at hq;have:=h.zb q m e hq;omega
def PrO (H:Hp):Option (Int×Int)→Option V→Prop
  | none,v=>v=none
  | some x,v=>∃ t,v=some (.ref t)∧H t=some (.tup [.int x.1,.int x.2])
theorem PrO.chg {A:List Addr} {H H':Hp} {o:Option (Int×Int)} {v:Option V} (h:PrO H o v) (c:Chg A H H'):PrO H' o v:=by
  cases o with
  | none=>exact h
  | some x=>obtain ⟨t,e1,e2⟩:=h;exact ⟨t,e1,c.tup _ _ e2⟩
def TwoAt (H:Hp) (d:Addr) (W:Two) (n:Nat):Prop:=∃ kvs,H d=some (.dK kvs)∧kvs.length≤n∧(∀ z,valV kvs (.inr z)=none)∧∀ k:Int,PrO H (W k) (valV kvs (.inl k))
theorem TwoAt.chg {A:List Addr} {H H':Hp} {d:Addr} {W:Two} {n:Nat} (h:TwoAt H d W n) (c:Chg A H H') (hd:d∉A):TwoAt H' d W n:=by
  obtain ⟨kvs,e,l,z,v⟩:=h
  exact ⟨kvs,c.keep _ _ e hd,l,z,fun k=>(v k).chg c⟩
theorem TwoAt.same {H H':Hp} {d:Addr} {W:Two} {n:Nat} (h:TwoAt H d W n) (s:Same H H'):TwoAt H' d W n:=h.chg (A:=[]) (Chg.of_same s) (by simp)
theorem TwoAt.put {H:Hp} {d t:Addr} {W:Two} {n:Nat} {k:Int} {x:Int×Int} {kvs:List (Key×V)} (e:H d=some (.dK kvs)) (l:kvs.length≤n) (hz:∀ z,valV kvs (.inr z)=none) (v:∀ k:Int,PrO H (W k) (valV kvs (.inl k))) (ht:H t=some (.tup [.int x.1,.int x.2])) :
    TwoAt (upd H d (.dK (putK kvs (.inl k) (.ref t)))) d (put2 W k x) (n+1):=by
  have c:Chg [d] H (upd H d (.dK (putK kvs (.inl k) (.ref t)))):=Chg.upd (by simp) (mut_dK e)
  refine ⟨_,upd_same,?_,fun z=>?_,fun j=>?_⟩
  · have:=length_putK kvs (.inl k:Key) (.ref t);omega
  · rw [valV_put,if_neg (fun h=>by cases h)];exact hz z
  · rw [valV_put]
    show PrO _ (if j=k then some x else W j) _
    by_cases ej:j=k
    · rw [if_pos ej,if_pos (by rw [ej])];exact ⟨t,rfl,c.tup _ _ ht⟩
    · rw [if_neg ej,if_neg (fun h=>ej (Sum.inl.inj h))];exact (v j).chg c
theorem TwoAt.pop {H:Hp} {d:Addr} {W:Two} {n:Nat} {k:Int} {kvs:List (Key×V)} {Q:VK} (e:H d=some (.dK kvs)) (l:kvs.length≤n) (hz:∀ z,valV kvs (.inr z)=none) (v:∀ k:Int,PrO H (W k) (valV kvs (.inl k)))
    (q:∀ u H',Chg [d] H H'→TwoAt H' d (del2 W k) n→Q u H'):(∀ u,valV kvs (.inl k)=some u→Q u (upd H d (.dK (dropK kvs (.inl k)))))∧(valV kvs (.inl k)=none→Q .non H):=by
  refine ⟨fun u hu=>q u _ (Chg.upd (by simp) (mut_dK e)) ⟨_,upd_same,Nat.le_trans (dropK_le _ _) l,fun z=>?_,fun j=>?_⟩,fun hn=>q _ _ (Chg.refl _) ⟨kvs,e,l,hz,fun j=>?_⟩⟩
  · rw [valV_drop,if_neg (fun h=>by cases h)];exact hz z
  · rw [valV_drop]
    show PrO _ (if j=k then none else W j) _
    by_cases ej:j=k
    · rw [if_pos ej,if_pos (by rw [ej])];rfl
    · rw [if_neg ej,if_neg (fun h=>ej (Sum.inl.inj h))];exact (v j).chg (Chg.upd (A:=[d]) (by simp) (mut_dK e))
  · show PrO _ (if j=k then none else W j) _
    by_cases ej:j=k
    · rw [if_pos ej,ej];exact hn
    · rw [if_neg ej];exact v j
end L2

set_option Elab.async false
set_option linter.all false
set_option maxRecDepth 100000
set_option maxHeartbeats 4000000
namespace L2
open PySem PySem.Spec PyProof.Rows
section
variable {X:Cx}
end
section
variable {X:Cx} {o:Expr} {apos cpos:Pos} {td:TE}
end
end L2

set_option Elab.async false
set_option linter.all false
set_option maxRecDepth 100000
set_option maxHeartbeats 4000000
namespace L2
open PySem PySem.Spec PyProof.Rows
section
variable {X:Cx} {o:Expr} {apos cpos:Pos} {td:TE}
end
end L2

set_option Elab.async false
set_option linter.all false
set_option maxRecDepth 100000
set_option maxHeartbeats 4000000
namespace L2
open PySem PySem.Spec PyProof.Rows
def rListD:List V→Hp→VK→Prop:=fun xs H Q=>∃ d kvs,xs=[.ref d]∧H d=some (.dK kvs)∧kvs.length≤1000000∧(NdK kvs→∀ l,H l=none→Q (.ref l) (upd H l (.lst (kvs.map fun kv=>kV kv.1))))
section
variable {X:Cx}
theorem call_listD (hc:X.calm=true):CallR X (.type "list") rListD:=by
  intro pins s σ H xs us Q I r h
  obtain ⟨d,kvs,rfl,ed,hz,q⟩:=h
  obtain ⟨u,rfl,rx⟩:=vals1 r
  cases rx
  obtain ⟨t1,t2,t3⟩:=isD_at I (.inl ⟨kvs,.inl ed⟩)
  obtain ⟨od,hod,IF⟩:=I.freeze ed
  obtain ⟨vs,ep,S,_⟩:=says_of (I.hok d _ ed) hod
  have D:=S.2 _ hod
  have hl:kvs.length=vs.length:=Paired.length S.1
  have hz':kvs.length≤sizeLine:=Nat.le_trans hz (by decide)
  refine PySem.W.kdl_call (PySem.W.kdl_dict (knd:=mixKind X.prog X.w) (kvs:=vs) (ep:=ep) t3) (I.ok.hd hc) D (by omega) fun h' tk acc' c' hk hS hacc=>?_
  have hvals:Vals (kvs.map fun kv=>kV kv.1) acc'.toList:=by
    have key:∀ (n:Nat) (ks:List (Key×V)) (l:List Value),ks.length=n→l.length=n→(∀ (i:Nat) k x v,ks[i]?=some (k,x)→l[i]?=some v→RelV (kV k) v)→Vals (ks.map fun kv=>kV kv.1) l:=by
      intro n
      induction n with
      | zero =>
        intro ks l h1 h2 _
        rw [List.length_eq_zero_iff.mp h1,List.length_eq_zero_iff.mp h2]
        exact .nil
      | succ n ih =>
        intro ks l h1 h2 h3
        match ks,l,h1,h2 with
        | (k,x)::ks,v::l,h1,h2 =>
          exact .cons (h3 0 k x v rfl rfl) (ih ks l (by simpa using h1) (by simpa using h2) fun i k x v a b=>h3 (i+1) k x v (by simpa using a) (by simpa using b))
    refine key kvs.length kvs acc'.toList rfl (by rw [Array.length_toList,hacc.1,hl]) fun i k x v h1 h2=>?_
    obtain ⟨k',x',e1,e2⟩:=hacc.2 i v (by rw [← Array.getElem?_toList];exact h2)
    obtain ⟨u,hu,ru⟩:=KV.getP (vs:=vs) S.1 h1
    rw [hu] at e1
    cases e1
    exact kV_of e2
  refine ⟨.ref _,_,I.laid (t':=tk) (fun b o hb=>hk b o hb) (Nat.le_refl _) (show ObjOk X.prog X.w _ h' _ (.lst _) from ⟨by rw [List.length_map];exact hz',acc'.toList,c',hvals,by rw [Array.toArray_toList];exact hS⟩),rfl,q (by unfold NdK;rw [KV.keys S.1];obtain ⟨_,_,_,_,_,_,_,n⟩:=D;exact n) _ (I.hok.fresh (Nat.le_refl _))⟩
end
def rListO (K:PySem.W.Frag):List V→Hp→VK→Prop:=fun xs H Q=>rListOf K xs H Q∨rListD xs H Q
theorem call_listO {X:Cx} {K:PySem.W.Frag} (hc:X.calm=true:=by rfl) (hK:X.K=K:=by rfl):CallR X (.type "list") (rListO K):=by
  subst hK
  intro pins s σ H xs us Q I r h
  rcases h with h | h
  · exact call_list_of pins s σ H xs us Q I r h
  · exact call_listD hc pins s σ H xs us Q I r h
theorem rListO_d {K:PySem.W.Frag} {H:Hp} {Q:VK} {d:Addr} {kvs:List (Key×V)} (e:H d=some (.dK kvs)) (l:kvs.length≤1000000) (q:NdK kvs→∀ l,H l=none→Q (.ref l) (upd H l (.lst (kvs.map fun kv=>kV kv.1)))):rListO K [.ref d] H Q:=.inr ⟨d,kvs,rfl,e,l,q⟩
end L2

set_option Elab.async false
set_option linter.all false
set_option maxRecDepth 100000
set_option maxHeartbeats 4000000
namespace L2
open PySem PySem.Spec PyProof.Rows
def zrY (y:Loan):Option Loan:=some (0,y.2)
def goY (tk:List Nat) (y:Loan):Option Loan:=if S y.2.1=S tk then none else some y
def LendM.upto (M:LendM) (φ:Loan→Option Loan) (dn:List Int):LendM:={ M with L:=fun p=>if p∈dn then (M.L p).bind φ else M.L p }
def LendM.allL (M:LendM) (φ:Loan→Option Loan):LendM:={ M with L:=fun p=>(M.L p).bind φ }
theorem upto_nil (M:LendM) (φ:Loan→Option Loan):M.upto φ []=M:=by
  unfold LendM.upto
  have:(fun p=>if p∈([]:List Int) then (M.L p).bind φ else M.L p)=M.L:=by funext p;rw [if_neg (by simp)]
  rw [this]
theorem upto_all {M:LendM} {φ:Loan→Option Loan} {ks:List Int} (h:∀ p y,M.L p=some y→p∈ks):M.upto φ ks=M.allL φ:=by
  unfold LendM.upto LendM.allL
  have:(fun p=>if p∈ks then (M.L p).bind φ else M.L p)=fun p=>(M.L p).bind φ:=by
    funext p
    by_cases c:p∈ks
    · rw [if_pos c]
    · rw [if_neg c]
      cases e:M.L p with
      | none=>rfl
      | some y=>exact absurd (h p y e) c
  rw [this]
theorem upto_keep {M:LendM} {φ:Loan→Option Loan} {dn:List Int} {p:Int} {y:Loan} (h:M.L p=some y) (hφ:φ y=some y):M.upto φ (dn++[p])=M.upto φ dn:=by
  unfold LendM.upto
  have:(fun q=>if q∈dn++[p] then (M.L q).bind φ else M.L q)=fun q=>if q∈dn then (M.L q).bind φ else M.L q:=by
    funext q
    by_cases c:q∈dn
    · rw [if_pos c,if_pos (List.mem_append_left _ c)]
    · rw [if_neg c]
      by_cases e:q=p
      · rw [if_pos (by rw [e];simp),e,h];exact hφ
      · rw [if_neg (by simp [c,e])]
  rw [this]
theorem upto_back {M:LendM} {φ:Loan→Option Loan} {dn:List Int} {p:Int} {y:Loan} (h:M.L p=some y) (hφ:φ y=none):M.upto φ (dn++[p])=(M.upto φ dn).back p:=by
  unfold LendM.upto LendM.back
  have:(fun q=>if q∈dn++[p] then (M.L q).bind φ else M.L q)=fun q=>if q=p then none else (if q∈dn then (M.L q).bind φ else M.L q):=by
    funext q
    by_cases e:q=p
    · rw [if_pos (by rw [e];simp),if_pos e,e,h];exact hφ
    · rw [if_neg e]
      by_cases c:q∈dn
      · rw [if_pos c,if_pos (List.mem_append_left _ c)]
      · rw [if_neg c,if_neg (by simp [c,e])]
  rw [this]
theorem lks_mem {C:Addr} {H:Hp} {r f t l:Addr} {M:LendM} {ks:List Int} (h:LendAt C H r f t l M) (k:LKs H l ks):(∀ p y,M.L p=some y→p∈ks)∧ks.length≤M.sz:=by
  obtain ⟨kvs,e,l1,v,_⟩:=h.loa
  obtain ⟨kc,e',hc⟩:=k
  rw [e] at e'
  cases e'
  refine ⟨fun p y hy=>(keys_mem hc p).mp ?_,?_⟩
  · have:=v p
    rw [hy] at this
    obtain ⟨tt,z,_⟩:=this
    rw [z];rfl
  · have:=congrArg List.length hc
    rw [List.length_map,List.length_map] at this
    omega
def sp_callb (C:Addr):Sp:=fun vs H Q _=>∃ (r f t l:Addr) (M:LendM) (ks:List Int),vs=[.ref r]∧LendAt C H r f t l M∧LKs H l ks∧M.sz≤1000∧∀ H',Chg [l] H H'→LendAt C H' r f t l (M.allL zrY)→LKs H' l ks→Q .non H'
def RecAt (H:Hp) (g:Addr) (L:Int→Option Loan) (n:Nat):Prop:=∃ kvs,H g=some (.dK kvs)∧kvs.length≤n∧(∀ z,valV kvs (.inr z)=none)∧∀ p:Int,LoanO H (L p) (valV kvs (.inl p))
theorem RecAt.chg {A:List Addr} {H H':Hp} {g:Addr} {L:Int→Option Loan} {n:Nat} (h:RecAt H g L n) (c:Chg A H H') (hg:g∉A):RecAt H' g L n:=by
  obtain ⟨kvs,e,l,z,v⟩:=h
  exact ⟨kvs,c.keep _ _ e hg,l,z,fun k=>(v k).chg c⟩
theorem RecAt.same {H H':Hp} {g:Addr} {L:Int→Option Loan} {n:Nat} (h:RecAt H g L n) (s:Same H H'):RecAt H' g L n:=h.chg (A:=[]) (Chg.of_same s) (by simp)
theorem RecAt.le {H:Hp} {g:Addr} {L:Int→Option Loan} {n m:Nat} (h:RecAt H g L n) (hm:n≤m):RecAt H g L m:=let ⟨k,e,l,r⟩:=h;⟨k,e,Nat.le_trans l hm,r⟩
theorem RecAt.put {H:Hp} {g t:Addr} {L:Int→Option Loan} {n:Nat} {k:Int} {y:Loan} {kvs:List (Key×V)} (e:H g=some (.dK kvs)) (l:kvs.length≤n) (hz:∀ z,valV kvs (.inr z)=none) (v:∀ p:Int,LoanO H (L p) (valV kvs (.inl p))) (ht:H t=some (.tup (loanV y))) :
    RecAt (upd H g (.dK (putK kvs (.inl k) (.ref t)))) g (fun p=>if p=k then some y else L p) (n+1):=by
  have c:Chg [g] H (upd H g (.dK (putK kvs (.inl k) (.ref t)))):=Chg.upd (by simp) (mut_dK e)
  refine ⟨_,upd_same,?_,fun z=>?_,fun j=>?_⟩
  · have:=length_putK kvs (.inl k:Key) (.ref t);omega
  · rw [valV_put,if_neg (fun h=>by cases h)];exact hz z
  · rw [valV_put]
    show LoanO _ (if j=k then some y else L j) _
    by_cases ej:j=k
    · rw [if_pos ej,if_pos (by rw [ej])];exact ⟨t,rfl,c.tup _ _ ht⟩
    · rw [if_neg ej,if_neg (fun h=>ej (Sum.inl.inj h))];exact (v j).chg c
theorem putK_len_old {kvs:List (Key×V)} {k:Key} {v:V} (h:(valV kvs k).isSome=true):(putK kvs k v).length=kvs.length:=by
  unfold putK
  split
  · rw [List.length_map]
  · rename_i hn
    exfalso
    obtain ⟨x,hx⟩:=Option.isSome_iff_exists.mp h
    obtain ⟨i,hi⟩:=valV_at hx
    exact hn (by simpa using ⟨_,List.mem_of_getElem? hi⟩)
theorem RecAt.drop {H:Hp} {g:Addr} {L:Int→Option Loan} {n:Nat} {k:Int} {kvs:List (Key×V)} (e:H g=some (.dK kvs)) (l:kvs.length≤n) (hz:∀ z,valV kvs (.inr z)=none) (v:∀ p:Int,LoanO H (L p) (valV kvs (.inl p))) :
    RecAt (upd H g (.dK (dropK kvs (.inl k)))) g (fun p=>if p=k then none else L p) n:=by
  refine ⟨_,upd_same,Nat.le_trans (dropK_le _ _) l,fun z=>?_,fun j=>?_⟩
  · rw [valV_drop,if_neg (fun h=>by cases h)];exact hz z
  · rw [valV_drop]
    show LoanO _ (if j=k then none else L j) _
    by_cases ej:j=k
    · rw [if_pos ej,if_pos (by rw [ej])];rfl
    · rw [if_neg ej,if_neg (fun h=>ej (Sum.inl.inj h))];exact (v j).chg (Chg.upd (A:=[g]) (by simp) (mut_dK e))
theorem RecAt.pop {H:Hp} {g:Addr} {L:Int→Option Loan} {n:Nat} {k:Int} {kvs:List (Key×V)} {Q:VK} (e:H g=some (.dK kvs)) (l:kvs.length≤n) (hz:∀ z,valV kvs (.inr z)=none) (v:∀ p:Int,LoanO H (L p) (valV kvs (.inl p)))
    (q:∀ u H',Chg [g] H H'→RecAt H' g (fun p=>if p=k then none else L p) n→Q u H'):(∀ u,valV kvs (.inl k)=some u→Q u (upd H g (.dK (dropK kvs (.inl k)))))∧(valV kvs (.inl k)=none→Q .non H):=by
  refine ⟨fun u hu=>q u _ (Chg.upd (by simp) (mut_dK e)) (RecAt.drop e l hz v),fun hn=>q _ _ (Chg.refl _) ⟨kvs,e,l,hz,fun j=>?_⟩⟩
  show LoanO _ (if j=k then none else L j) _
  by_cases ej:j=k
  · rw [if_pos ej,ej,hn];rfl
  · rw [if_neg ej];exact v j
def FatAt (H:Hp) (d:Addr) (F:Int→Option Str) (n:Nat):Prop:=∃ kvs,H d=some (.dK kvs)∧kvs.length≤n∧∀ p:Int,valV kvs (.inl p)=(F p).map fun _=>V.bl true
theorem FatAt.chg {A:List Addr} {H H':Hp} {d:Addr} {F:Int→Option Str} {n:Nat} (h:FatAt H d F n) (c:Chg A H H') (hd:d∉A):FatAt H' d F n:=let ⟨k,e,r⟩:=h;⟨k,c.keep _ _ e hd,r⟩
theorem FatAt.same {H H':Hp} {d:Addr} {F:Int→Option Str} {n:Nat} (h:FatAt H d F n) (s:Same H H'):FatAt H' d F n:=let ⟨k,e,r⟩:=h;⟨k,s _ _ e,r⟩
theorem FatAt.le {H:Hp} {d:Addr} {F:Int→Option Str} {n m:Nat} (h:FatAt H d F n) (hm:n≤m):FatAt H d F m:=let ⟨k,e,l,r⟩:=h;⟨k,e,Nat.le_trans l hm,r⟩
theorem FatAt.put {H:Hp} {d:Addr} {F:Int→Option Str} {n:Nat} {k:Int} {z:Str} {kvs:List (Key×V)} (e:H d=some (.dK kvs)) (l:kvs.length≤n) (v:∀ p:Int,valV kvs (.inl p)=(F p).map fun _=>V.bl true) :
    FatAt (upd H d (.dK (putK kvs (.inl k) (.bl true)))) d (fun p=>if p=k then some z else F p) (n+1):=by
  refine ⟨_,upd_same,?_,fun j=>?_⟩
  · have:=length_putK kvs (.inl k:Key) (.bl true);omega
  · rw [valV_put]
    show _=(if j=k then some z else F j).map fun _=>V.bl true
    by_cases ej:j=k
    · rw [if_pos ej,if_pos (by rw [ej])];rfl
    · rw [if_neg ej,if_neg (fun h=>ej (Sum.inl.inj h))];exact v j
def uptoL (L:Int→Option Loan) (φ:Loan→Option Loan) (dn:List Int):Int→Option Loan:=fun p=>if p∈dn then (L p).bind φ else L p
theorem uptoL_all {L:Int→Option Loan} {φ:Loan→Option Loan} {ks:List Int} (h:∀ p y,L p=some y→p∈ks):uptoL L φ ks=fun p=>(L p).bind φ:=by
  funext p
  unfold uptoL
  by_cases c:p∈ks
  · rw [if_pos c]
  · rw [if_neg c]
    cases e:L p with
    | none=>rfl
    | some y=>exact absurd (h p y e) c
theorem uptoL_nil {L:Int→Option Loan} {φ:Loan→Option Loan}:uptoL L φ []=L:=by
  funext p
  exact if_neg (by simp)
theorem uptoL_snoc {L:Int→Option Loan} {φ:Loan→Option Loan} {dn:List Int} {p:Int} (h:p∉dn):uptoL L φ (dn++[p])=fun q=>if q=p then (L p).bind φ else uptoL L φ dn q:=by
  funext q
  unfold uptoL
  by_cases e:q=p
  · rw [if_pos (by rw [e];simp),if_pos e,e]
  · rw [if_neg e]
    by_cases c:q∈dn
    · rw [if_pos c,if_pos (List.mem_append_left _ c)]
    · rw [if_neg c,if_neg (by simp [c,e])]
theorem RecAt.set {H:Hp} {g t:Addr} {L:Int→Option Loan} {n:Nat} {k:Int} {y y0:Loan} {kvs:List (Key×V)} (e:H g=some (.dK kvs)) (l:kvs.length≤n) (hz:∀ z,valV kvs (.inr z)=none) (v:∀ p:Int,LoanO H (L p) (valV kvs (.inl p))) (ht:H t=some (.tup (loanV y))) (h0:L k=some y0) :
    RecAt (upd H g (.dK (putK kvs (.inl k) (.ref t)))) g (fun p=>if p=k then some y else L p) n:=by
  obtain ⟨k2,e2,_,z2,v2⟩:=RecAt.put (k:=k) e l hz v ht
  rw [upd_same] at e2
  cases e2
  have vk:=v k
  rw [h0] at vk
  obtain ⟨tt,ett,_⟩:=vk
  exact ⟨_,upd_same,by rw [putK_len_old (by rw [ett];rfl)];exact l,z2,v2⟩
theorem RecAt.eq {H:Hp} {g:Addr} {L L':Int→Option Loan} {n:Nat} (h:RecAt H g L n) (e:∀ p,L' p=L p):RecAt H g L' n:=by
  have:L'=L:=funext e
  rw [this];exact h
structure In36 (M:LendM) (ns:List Int):Prop where
  lent:M.lent=ns.length
  cnt:∀ p,M.T p=(ns.count p:Nat)
  pl:∀ p y,M.L p=some y→y.1=0∨∃ i:Nat,y.1=i+1∧ns[i]?=some p
theorem In36.lend {M:LendM} {ns:List Int} (h:In36 M ns) (p:Int) (tk:List Nat) (turn:Int):In36 (M.lend p tk turn) (ns++[p]):=by
  refine ⟨?_,fun q=>?_,fun q y hy=>?_⟩
  · show M.lent+1=_
    rw [h.lent,List.length_append];rfl
  · show (if q=p then M.T p+1 else M.T q)=_
    rw [List.count_append]
    by_cases c:q=p
    · rw [if_pos c,h.cnt p,c];simp
    · rw [if_neg c,h.cnt q,List.count_cons_of_ne (fun z=>c z.symm)];simp
  · have hy':(if q=p then some (M.lent+1,tk,turn+M.turns) else M.L q)=some y:=hy
    by_cases c:q=p
    · rw [if_pos c] at hy'
      cases hy'
      exact .inr ⟨ns.length,by show M.lent+1=_;rw [h.lent],by rw [List.getElem?_append_right (Nat.le_refl _),Nat.sub_self,c];rfl⟩
    · rw [if_neg c] at hy'
      rcases h.pl q y hy' with z | ⟨i,z1,z2⟩
      · exact .inl z
      · exact .inr ⟨i,z1,by rw [List.getElem?_append_left (List.getElem?_eq_some_iff.mp z2).1];exact z2⟩
theorem In36.less {M M':LendM} {ns:List Int} (h:In36 M ns) (h1:M'.lent=M.lent) (h2:∀ p,M'.T p=M.T p) (h3:∀ p y,M'.L p=some y→y.1=0∨M.L p=some y):In36 M' ns :=
  ⟨h1.trans h.lent,fun p=>(h2 p).trans (h.cnt p),fun p y hy=>(h3 p y hy).elim .inl (h.pl p y)⟩
end L2

set_option Elab.async false
set_option linter.all false
set_option maxRecDepth 100000
set_option maxHeartbeats 4000000
namespace L2
open PySem PyProof.Rows
section
variable {prog:Program} {w:World} {A:Around} {E:Value→Shared→Prop} {s:Shared} {a₀:Array Keyed}
def Beyond (m:Nat) (xs ys:Array Keyed):Prop:=∀ i,m≤i→ys[i]?=xs[i]?
theorem Beyond.K {m:Nat} {xs ys:Array Keyed} (h:Beyond m xs ys) {i:Nat} (hi:m≤i):PyProof.Rows.K ys i=PyProof.Rows.K xs i:=K_congr (h i hi)
theorem beyond_mirror {xs:Array Keyed} {i j m:Nat} (hj:j≤xs.size) (hm:j≤m):Beyond m xs (mirror xs i j ((j - i) / 2)):=fun k hk=>by
  rw [getElem?_mirror_all hj,if_neg (by omega)]
theorem so_desc {st:SortSt} {n nrem:Nat} {Q:DescSt→SortSt→Prop} (h0:IntKeys a₀) (hn:nrem≤a₀.size) (h1:1≤n) (hnn:n≤nrem) (hB:SBase a₀ st) (hs:NonInc (arrOf st) n)
    (h:∀ m neq st',SBase a₀ st'→n≤m→m≤nrem→NonInc (arrOf st') m→neq+1≤m→(∀ i,m - (neq+1)≤i→i < m→K (arrOf st') i=K (arrOf st') (m - 1))→Beyond m (arrOf st) (arrOf st')→Q (none,m,neq) st') :
    wpS (model prog w) A E s (descLoop n nrem) Q st:=by
  unfold descLoop
  refine wpS_forRange (I:=fun x c st'=>∃ neq,c=(none,x,neq)∧SBase a₀ st'∧NonInc (arrOf st') x∧neq+1≤x∧(∀ i,x - (neq+1)≤i→i < x→K (arrOf st') i=K (arrOf st') (x - 1))∧Beyond x (arrOf st) (arrOf st')) ?turn ?last
    ⟨0,rfl,hB,hs,by omega,fun i _ _=>by rw [show i=n - 1 by omega],fun _ _=>rfl⟩
  case last =>
    rintro c st' ⟨q,rfl,b,z,e1,e2,e3⟩
    rw [Nat.max_eq_right hnn] at z e1 e2 e3 ⊢
    exact h _ _ _ b hnn (Nat.le_refl _) z e1 e2 e3
  case turn =>
    rintro x c st' hx1 hx2 ⟨q,rfl,b,z,e1,e2,e3⟩
    dsimp only
    have up:∀ ys:Array Keyed,(∀ k,K ys k=K (arrOf st') k)→K (arrOf st') x≤K (arrOf st') (x - 1)→NonInc ys (x+1):=fun ys hk le i j hij hj=>by
      rw [hk,hk]
      rcases Nat.lt_or_ge j x with g | g
      · exact z i j hij g
      · obtain rfl:j=x:=by omega
        rcases Nat.lt_or_ge i j with g2 | g2
        · exact Int.le_trans le (z i (j - 1) (by omega) (by omega))
        · obtain rfl:i=j:=by omega
          exact Int.le_refl _
    have hsz:x≤(arrOf st').size:=by rw [b.size];omega
    refine wpS_bind (wpS_ltK b h0 (by omega) (by omega) ?_)
    by_cases lt:K (arrOf st') x < K (arrOf st') (x - 1)
    · simp only [lt,decide_true,if_true]
      by_cases hq:q > 0
      · rw [if_pos hq]
        refine wpS_bind (wpS_reverse (wpS_pure ⟨0,rfl,b.setArr (mirror_perm _ _ _ _),up _ (K_mirror_equal hsz e2) (Int.le_of_lt lt),by omega,fun i _ _=>by rw [show i=x+1 - 1 by omega],fun i hi=>?_⟩))
        exact (beyond_mirror hsz (Nat.le_refl _) i (by omega)).trans (e3 i (by omega))
      · rw [if_neg hq]
        exact wpS_pure ⟨0,rfl,b,up _ (fun _=>rfl) (Int.le_of_lt lt),by omega,fun i _ _=>by rw [show i=x+1 - 1 by omega],fun i hi=>e3 i (by omega)⟩
    · simp only [lt,decide_false,Bool.false_eq_true,if_false]
      refine wpS_bind (wpS_ltK b h0 (by omega) (by omega) ?_)
      by_cases gt:K (arrOf st') (x - 1) < K (arrOf st') x
      · simp only [gt,decide_true,if_true]
        exact wpS_pure (h _ _ _ b hx1 (by omega) z e1 e2 e3)
      · simp only [gt,decide_false,Bool.false_eq_true,if_false]
        have eq:K (arrOf st') x=K (arrOf st') (x - 1):=by omega
        refine wpS_pure ⟨q+1,rfl,b,up _ (fun _=>rfl) (by omega),by omega,fun i g1 g2=>?_,fun i hi=>e3 i (by omega)⟩
        rw [Nat.add_sub_cancel]
        rcases Nat.lt_or_ge i x with g | g
        · rw [eq];exact e2 i (by omega) g
        · rw [show i=x by omega]
theorem so_tail {st:SortSt} {n nrem:Nat} {Q:Option Nat→SortSt→Prop} (h0:IntKeys a₀) (hn:nrem≤a₀.size) (h1:1≤n) (hnn:n≤nrem) (hB:SBase a₀ st) (hs:NonInc (arrOf st) n)
    (h:∀ m st',SBase a₀ st'→n≤m→m≤nrem→SortedTo (arrOf st') m→Beyond m (arrOf st) (arrOf st')→Q (some m) st'):wpS (model prog w) A E s (tail3 n nrem) Q st:=by
  unfold tail3
  have hsz:n≤(arrOf st).size:=by rw [hB.size];omega
  have b:SBase a₀ (setArr st (mirror (arrOf st) 0 n ((n - 0) / 2))):=hB.setArr (mirror_perm _ _ _ _)
  refine wpS_bind (wpS_reverse (wpS_bind (wpS_ascLoop h0 hn h1 hnn b (fun i j hij hj=>?_) fun m g1 g2 g3 _=>wpS_pure (h m _ b g1 g2 g3 (beyond_mirror hsz g1)))))
  show K (mirror (arrOf st) 0 n ((n - 0) / 2)) i≤K (mirror (arrOf st) 0 n ((n - 0) / 2)) j
  rw [K_mirror hsz,K_mirror hsz,if_pos ⟨Nat.zero_le _,by omega⟩,if_pos ⟨Nat.zero_le _,hj⟩]
  exact hs _ _ (by omega) (by omega)
theorem so_down {st:SortSt} {n nrem:Nat} {Q:Option Nat→SortSt→Prop} (h0:IntKeys a₀) (hn:nrem≤a₀.size) (hnn:n+1≤nrem) (hB:SBase a₀ st) (hs:NonInc (arrOf st) (n+1))
    (h:∀ m st',SBase a₀ st'→n+1≤m→m≤nrem→SortedTo (arrOf st') m→Beyond m (arrOf st) (arrOf st')→Q (some m) st'):wpS (model prog w) A E s (descPart n nrem) Q st:=by
  unfold descPart
  refine wpS_bind (wpS_lift (wpAny_rule ⟨rfl,wpS_bind (so_desc h0 hn (by omega) hnn hB hs fun m q st' b g1 g2 z e1 e2 e3=>?_)⟩))
  dsimp only
  have hsz:m≤(arrOf st').size:=by rw [b.size];omega
  by_cases hq:q > 0
  · rw [if_pos hq]
    refine wpS_bind (wpS_reverse (so_tail h0 hn (by omega) g2 (b.setArr (mirror_perm _ _ _ _)) (fun i j hij hj=>?_) fun m' st2 b2 k1 k2 k3 k4=>h m' st2 b2 (by omega) k2 k3 fun i hi=>?_))
    · show K (mirror (arrOf st') _ _ _) j≤K (mirror (arrOf st') _ _ _) i
      rw [K_mirror_equal hsz e2,K_mirror_equal hsz e2]
      exact z i j hij hj
    · exact (k4 i hi).trans ((beyond_mirror hsz (Nat.le_refl _) i (by omega)).trans (e3 i (by omega)))
  · rw [if_neg hq]
    exact so_tail h0 hn (by omega) g2 b z fun m' st2 b2 k1 k2 k3 k4=>h m' st2 b2 (by omega) k2 k3 fun i hi=>(k4 i hi).trans (e3 i (by omega))
theorem so_count {st:SortSt} {nrem:Nat} {Q:Option Nat→SortSt→Prop} (h0:IntKeys a₀) (hn:nrem≤a₀.size) (h1:1≤nrem) (hB:SBase a₀ st)
    (h:∀ m st',SBase a₀ st'→1≤m→m≤nrem→SortedTo (arrOf st') m→Beyond m (arrOf st) (arrOf st')→Q (some m) st'):wpS (model prog w) A E s (countRun' 0 nrem) Q st:=by
  rw [countRun0_eq]
  refine wpS_bind (wpS_ascLoop h0 hn (Nat.le_refl 1) h1 hB (fun i j _ _=>by rw [show i=j by omega];exact Int.le_refl _) fun n g1 g2 g3 g4=>?_)
  dsimp only
  by_cases e:n=nrem
  · rw [if_pos (by simpa using e)]
    exact wpS_pure (h n st hB g1 g2 g3 fun _ _=>rfl)
  rw [if_neg (by simpa using e)]
  have lt:=g4.resolve_left e
  by_cases gt:n > 1
  · rw [if_pos gt]
    refine wpS_bind (wpS_ltK hB h0 (by omega) (by omega) ?_)
    by_cases ro:K (arrOf st) 0 < K (arrOf st) (n - 1)
    · simp only [ro,decide_true,if_true]
      exact wpS_pure (h n st hB g1 g2 g3 fun _ _=>rfl)
    · simp only [ro,decide_false,Bool.false_eq_true,if_false]
      have hsz:n≤(arrOf st).size:=by rw [hB.size];omega
      have al:∀ k,0≤k→k < n→K (arrOf st) k=K (arrOf st) (n - 1):=fun k _ hk=>by
        have a1:=g3 0 k (by omega) hk
        have a2:=g3 k (n - 1) (by omega) (by omega)
        omega
      refine wpS_bind (wpS_reverse (so_down h0 hn (by omega) (hB.setArr (mirror_perm _ _ _ _)) (fun i j hij hj=>?_) fun m st2 b2 k1 k2 k3 k4=>?_))
      · show K (mirror (arrOf st) _ _ _) j≤K (mirror (arrOf st) _ _ _) i
        rw [K_mirror_equal hsz al,K_mirror_equal hsz al]
        rcases Nat.lt_or_ge j n with g | g
        · rw [al i (by omega) (by omega),al j (by omega) g];exact Int.le_refl _
        · rw [show j=n by omega]
          rcases Nat.lt_or_ge i n with g5 | g5
          · rw [al i (by omega) g5];exact Int.le_of_lt lt
          · rw [show i=n by omega];exact Int.le_refl _
      · exact h m st2 b2 (by omega) k2 k3 fun i hi=>(k4 i hi).trans (beyond_mirror hsz (by omega) i hi)
  · rw [if_neg gt]
    obtain rfl:n=1:=by omega
    refine so_down h0 hn (by omega) hB (fun i j hij hj=>?_) fun m st2 b2 k1 k2 k3 k4=>h m st2 b2 (by omega) k2 k3 k4
    rcases Nat.lt_or_ge i j with g | g
    · rw [show i=0 by omega,show j=1 by omega];exact Int.le_of_lt lt
    · rw [show i=j by omega];exact Int.le_refl _
theorem so_bin {st:SortSt} {n ok:Nat} {Q:Bool→SortSt→Prop} (h0:IntKeys a₀) (hn:n≤a₀.size) (hok:ok≤n) (hB:SBase a₀ st) (hs:SortedTo (arrOf st) ok)
    (h:∀ st',SBase a₀ st'→SortedTo (arrOf st') n→Beyond n (arrOf st) (arrOf st')→Q true st'):wpS (model prog w) A E s (binarySort' 0 n ok) Q st:=by
  rw [binarySort'_eq]
  simp only [Nat.zero_add]
  refine wpS_bind (wpS_mono (wpS_forRange (I:=fun k c st'=>c=(none,())∧SBase a₀ st'∧SortedTo (arrOf st') (min k n)∧Beyond n (arrOf st) (arrOf st')) (Q:=fun c st'=>c=(none,())∧SBase a₀ st'∧SortedTo (arrOf st') n∧Beyond n (arrOf st) (arrOf st')) ?turn ?last ?first) ?post)
  case post =>
    rintro c st' ⟨rfl,b,z,y⟩
    exact wpS_pure (h st' b z y)
  case first =>
    refine ⟨rfl,hB,fun i j hij hj=>?_,fun _ _=>rfl⟩
    by_cases e:ok=0
    · rw [show i=j by omega];exact Int.le_refl _
    · exact hs i j hij (by omega)
  case last =>
    rintro c st' ⟨e,b,z,y⟩
    rw [show min (max (max ok 1) n) n=n by omega] at z
    exact ⟨e,b,z,y⟩
  case turn =>
    rintro k c st' hk1 hk2 ⟨rfl,b,z,y⟩
    rw [Nat.min_eq_left (by omega)] at z
    have hk:k < a₀.size:=by omega
    refine wpS_bind (wpS_mono (wpS_forRange (I:=fun x c st2=>st2=st'∧∃ l r,c=(none,l,r)∧l≤r∧r≤k∧r - l≤k - x∧(∀ i,i < l→K (arrOf st') i≤K (arrOf st') k)∧(∀ i,r≤i→i < k→K (arrOf st') k < K (arrOf st') i))
      (Q:=fun c st2=>st2=st'∧∃ l r,c=(none,l,r)∧l≤k∧(∀ i,i < l→K (arrOf st') i≤K (arrOf st') k)∧(∀ i,l≤i→i < k→K (arrOf st') k < K (arrOf st') i)) ?t2 ?l2 ⟨rfl,0,k,rfl,by omega,by omega,by omega,fun i hi=>by omega,fun i _ _=>by omega⟩) ?p2)
    case l2 =>
      rintro c st2 ⟨rfl,l,r,rfl,g1,g2,g3,g4,g5⟩
      obtain rfl:l=r:=by omega
      exact ⟨rfl,l,l,rfl,g2,g4,g5⟩
    case t2 =>
      rintro x c st2 _ hx ⟨rfl,l,r,rfl,g1,g2,g3,g4,g5⟩
      dsimp only
      by_cases ge:l≥r
      · rw [if_pos ge]
        obtain rfl:l=r:=by omega
        exact wpS_pure ⟨rfl,l,l,rfl,g2,g4,g5⟩
      · rw [if_neg ge]
        refine wpS_bind (wpS_ltK b h0 hk (by omega) ?_)
        by_cases lt:K (arrOf st2) k < K (arrOf st2) ((l+r) / 2)
        · simp only [lt,decide_true,if_true]
          exact wpS_pure ⟨rfl,l,(l+r) / 2,rfl,by omega,by omega,by omega,g4,fun i a1 a2=>Int.lt_of_lt_of_le lt (z _ _ a1 a2)⟩
        · simp only [lt,decide_false,Bool.false_eq_true,if_false]
          exact wpS_pure ⟨rfl,(l+r) / 2+1,r,rfl,by omega,by omega,by omega,fun i a1=>Int.le_trans (z i ((l+r) / 2) (by omega) (by omega)) (Int.not_lt.mp lt),g5⟩
    case p2 =>
      rintro c st2 ⟨rfl,l,r,rfl,g1,g4,g5⟩
      show wpS _ _ _ _ (do moveDown' k l;pure (ForInStep.yield (none,()))) _ _
      have hks:k < (arrOf st2).size:=by rw [b.size];exact hk
      rw [moveDown'_eq]
      refine wpS_bind (wpS_modify (wpS_pure ⟨rfl,b.setArr (bubble_perm _ _ _),fun i j hij hj=>?_,fun i hi=>?_⟩))
      · rw [Nat.min_eq_left (by omega)] at hj
        show K (bubble (arrOf st2) k (k - l)) i≤K (bubble (arrOf st2) k (k - l)) j
        rw [K_bubble hks (by omega),K_bubble hks (by omega),show k - (k - l)=l by omega]
        repeat' split
        all_goals first
          | (exfalso;omega)
          | exact Int.le_refl _
          | exact g4 _ (by omega)
          | exact Int.le_of_lt (g5 _ (by omega) (by omega))
          | exact z _ _ (by omega) (by omega)
      · show (bubble (arrOf st2) k (k - l))[i]?=_
        rw [getElem?_bubble hks _ (by omega),if_neg (by omega),if_neg (by omega)]
        exact y i hi
structure Ints (st:SortSt):Prop where
  kind:kindOf st=oneType'
  num:∀ i,i < (arrOf st).size→∃ t q,(arrOf st)[i]?=some (.int (K (arrOf st) i) t,q)
theorem so_lt {st:SortSt} {i j:Nat} {Q:Option Bool→SortSt→Prop} (hI:Ints st) (hi:i < (arrOf st).size) (hj:j < (arrOf st).size) (h:Q (some (decide (K (arrOf st) i < K (arrOf st) j))) st):wpS (model prog w) A E s (ltAt' i j) Q st:=by
  obtain ⟨t,p,e1⟩:=hI.num i hi
  obtain ⟨u,q,e2⟩:=hI.num j hj
  exact wpS_ltAt hI.kind e1 e2 h
theorem so_rise {st:SortSt} {lo nrem:Nat} {Q:Option Nat→SortSt→Prop} (hI:Ints st) (hn:lo+nrem≤(arrOf st).size) (h1:1≤nrem) (hr:∀ i,1≤i→i < nrem→K (arrOf st) (lo+i - 1) < K (arrOf st) (lo+i)) (h:Q (some nrem) st) :
    wpS (model prog w) A E s (countRun' lo nrem) Q st:=by
  rw [countRun'_eq]
  refine wpS_bind (wpS_mono (wpS_forRange (I:=fun x c st'=>st'=st∧c=(none,x)) (Q:=fun c st'=>st'=st∧c=(none,nrem)) ?turn ?last ⟨rfl,rfl⟩) ?post)
  case last =>
    rintro c st' ⟨rfl,rfl⟩
    exact ⟨rfl,by rw [Nat.max_eq_right h1]⟩
  case turn =>
    rintro x c st' hx1 hx2 ⟨rfl,rfl⟩
    dsimp only
    refine wpS_bind (so_lt hI (by omega) (by omega) ?_)
    have:=hr x hx1 hx2
    rw [decide_eq_false (by omega)]
    exact wpS_pure ⟨rfl,rfl⟩
  case post =>
    rintro c st' ⟨rfl,rfl⟩
    dsimp only
    rw [if_pos (by simp)]
    exact wpS_pure h
def gallop':Bool→Keyed→Array Keyed→Nat→Nat→Nat→StateT SortSt Sem (Option Nat):=sortPriv% PySem.Builtin.gallop
def gB (key:Keyed) (arr:Array Keyed) (i:Nat):StateT SortSt Sem (Option Bool):=elem' arr i >>= fun x=>lt' key x >>= fun r=>pure (r.map fun y=>!y)
def gUp (key:Keyed) (arr:Array Keyed) (b n:Nat):StateT SortSt Sem (Option (Option Nat)×Nat×Nat):=forIn [:n] ((none,0,1):Option (Option Nat)×Nat×Nat) fun _ c =>
  if c.2.2≥n - 0 then pure (.done (none,c.2.1,c.2.2)) else gB key arr (b+(0+c.2.2)) >>= fun o=>match o with
    | some y=>if (!y)=true then pure (.done (none,c.2.1,c.2.2)) else pure (.yield (none,c.2.2,2 * c.2.2+1))
    | _=>pure (.done (some none,c.2.1,c.2.2))
def gBin (key:Keyed) (arr:Array Keyed) (b n lo hi:Nat):StateT SortSt Sem (Option (Option Nat)×Nat×Nat):=forIn [:n] ((none,lo,hi):Option (Option Nat)×Nat×Nat) fun _ c =>
  if c.2.1≥c.2.2 then pure (.done (none,c.2.1,c.2.2)) else gB key arr (b+(c.2.1+(c.2.2 - c.2.1) / 2)) >>= fun o=>match o with
    | some y=>if y=true then pure (.yield (none,c.2.1+(c.2.2 - c.2.1) / 2+1,c.2.2)) else pure (.yield (none,c.2.1,c.2.1+(c.2.2 - c.2.1) / 2))
    | _=>pure (.done (some none,c.2.1,c.2.2))
theorem gallop_eq (key:Keyed) (arr:Array Keyed) (b n:Nat):∃ (F F2:Option (Option Nat)×Nat×Nat→StateT SortSt Sem (Option Nat)) (G:StateT SortSt Sem (Option Nat)),
    gallop' false key arr b n 0=(gB key arr (b+0) >>= fun o=>match o with | some y=>if y=true then gUp key arr b n >>= F else G | _=>pure none) ∧
    (∀ l o,F (none,l,o)=gBin key arr b n (0+l+1) (0+min o (n - 0)) >>= F2)∧∀ l h,F2 (none,l,h)=pure (some h):=⟨_,_,_,rfl,fun _ _=>rfl,fun _ _=>rfl⟩
theorem so_gB {st:SortSt} {key:Keyed} {arr:Array Keyed} {i:Nat} {a b:Int} {t u:Tok} {p q:Value} {Q:Option Bool→SortSt→Prop} (hk:kindOf st=oneType') (ek:key=(.int a t,p)) (ei:arr[i]?=some (.int b u,q)) (hle:b≤a) (h:Q (some true) st) :
    wpS (model prog w) A E s (gB key arr i) Q st:=by
  unfold gB
  rw [elem'_eq,ei]
  refine wpS_bind (wpS_pure (wpS_bind ?_))
  rw [lt'_eq,ek]
  refine wpS_bind (wpS_get ?_)
  rw [hk,keyLt'_oneType]
  refine wpS_bind (wpS_lift (wpAny_attempt (oneLt_int ⟨rfl,wpS_pure (wpS_pure ?_)⟩)))
  rw [decide_eq_false (by omega)]
  exact h
theorem so_gallop {st:SortSt} {key:Keyed} {arr:Array Keyed} {b n:Nat} {a:Int} {t:Tok} {p:Value} {Q:Option Nat→SortSt→Prop} (hk:kindOf st=oneType') (ek:key=(.int a t,p)) (hn:1≤n)
    (hi:∀ i,i < n→∃ c u q,arr[b+i]?=some (.int c u,q)∧c≤a) (h:Q (some n) st):wpS (model prog w) A E s (gallop' false key arr b n 0) Q st:=by
  obtain ⟨F,F2,G,e,eF,eF2⟩:=gallop_eq key arr b n
  rw [e]
  have step:∀ {i:Nat} {R:Option Bool→SortSt→Prop},i < n→R (some true) st→wpS (model prog w) A E s (gB key arr (b+i)) R st:=fun {i R} hin r=>by
    obtain ⟨c,u,q,e1,e2⟩:=hi i hin
    exact so_gB hk ek e1 e2 r
  refine wpS_bind (step (by omega) ?_)
  dsimp only
  rw [if_pos rfl]
  unfold gUp
  refine wpS_bind (wpS_mono (wpS_forRange (I:=fun x c st'=>st'=st∧∃ l o,c=(none,l,o)∧l < n∧x+1≤o) (Q:=fun c st'=>st'=st∧∃ l o,c=(none,l,o)∧l < n∧n≤o) ?turn ?last ⟨rfl,0,1,rfl,by omega,by omega⟩) ?post)
  case last =>
    rintro c st' ⟨rfl,l,o,rfl,h1,h2⟩
    exact ⟨rfl,l,o,rfl,h1,by omega⟩
  case turn =>
    rintro x c st' _ hx ⟨rfl,l,o,rfl,h1,h2⟩
    dsimp only
    by_cases ge:o≥n - 0
    · rw [if_pos ge]
      exact wpS_pure ⟨rfl,l,o,rfl,h1,by omega⟩
    · rw [if_neg ge]
      refine wpS_bind ?_
      rw [Nat.zero_add]
      refine step (by omega) ?_
      dsimp only
      rw [if_neg (by decide)]
      exact wpS_pure ⟨rfl,o,2 * o+1,rfl,by omega,by omega⟩
  case post =>
    rintro c st' ⟨rfl,l,o,rfl,h1,h2⟩
    rw [eF,show 0+min o (n - 0)=n by omega]
    unfold gBin
    refine wpS_bind (wpS_mono (wpS_forRange (I:=fun x c st2=>st2=st'∧∃ l,c=(none,l,n)) (Q:=fun c st2=>st2=st'∧∃ l,c=(none,l,n)) ?t2 ?l2 ⟨rfl,_,rfl⟩) ?p2)
    case l2=>exact fun _ _ z=>z
    case t2 =>
      rintro x c st2 _ hx ⟨rfl,l,rfl⟩
      dsimp only
      by_cases ge:l≥n
      · rw [if_pos ge]
        exact wpS_pure ⟨rfl,l,rfl⟩
      · rw [if_neg ge]
        refine wpS_bind (step (by omega) ?_)
        dsimp only
        rw [if_pos rfl]
        exact wpS_pure ⟨rfl,_,rfl⟩
    case p2 =>
      rintro c st2 ⟨rfl,l,rfl⟩
      rw [eF2]
      exact wpS_pure h
theorem so_merge {st:SortSt} {sa na sb nb q1 q2:Nat} {a:Int} {t:Tok} {p:Value} {Q:Bool→SortSt→Prop} (hk:kindOf st=oneType') (hp:pendingOf st=#[(sa,na,q1),(sb,nb,q2)]) (hn:1≤na) (ek:(arrOf st)[sb]?=some (.int a t,p))
    (hi:∀ i,i < na→∃ c u q,(arrOf st)[sa+i]?=some (.int c u,q)∧c≤a) (h:Q true (setPending st #[(sa,na+nb,q1)])):wpS (model prog w) A E s (mergeAt' 0) Q st:=by
  refine wpS_bind (m:=(get:StateT SortSt Sem SortSt)) (wpS_get ?_)
  have hp':(sortPriv% PySem.Builtin.SortState.pending) st=#[(sa,na,q1),(sb,nb,q2)]:=hp
  dsimp only
  rw [hp']
  have h0:#[(sa,na,q1),(sb,nb,q2)][0]?=some (sa,na,q1):=rfl
  have h1:#[(sa,na,q1),(sb,nb,q2)][0+1]?=some (sb,nb,q2):=rfl
  have hz:(#[(sa,na,q1),(sb,nb,q2)].setIfInBounds 0 (sa,na+nb,q1)).eraseIdxIfInBounds (0+1)=#[(sa,na+nb,q1)]:=by first | (simp;done) | (apply Array.ext';simp [Array.eraseIdxIfInBounds];done) | (unfold Array.eraseIdxIfInBounds;simp;done)
  rw [h0,h1]
  dsimp only
  rw [hz]
  refine wpS_bind (m:=(set (setPending st #[(sa,na+nb,q1)]):StateT SortSt Sem PUnit)) ?_
  refine wpS_modify (f:=fun _=>setPending st #[(sa,na+nb,q1)]) ?_
  show wpS _ _ _ _ (elem' (arrOf st) sb >>= fun x=>gallop' false x (arrOf st) sa na 0 >>= _) Q _
  rw [elem'_eq,ek]
  refine wpS_bind (wpS_pure (wpS_bind (so_gallop hk rfl hn hi ?_)))
  dsimp only
  rw [if_pos (by simp)]
  exact wpS_pure h
theorem minRun_ge:∀ (fuel n r:Nat),32≤n→32≤minRun' fuel n r
  | 0,n,r,h=>Nat.le_trans h (Nat.le_add_right n r)
  | f+1,n,r,h=>by
    rw [minRun'_succ]
    split
    · omega
    · exact minRun_ge f _ _ (by omega)
theorem so_bin0 {st:SortSt} {lo n:Nat} {Q:Bool→SortSt→Prop} (h1:1≤n) (h:Q true st):wpS (model prog w) A E s (binarySort' lo n n) Q st:=by
  rw [binarySort'_eq]
  refine wpS_bind (wpS_mono (wpS_forRange (I:=fun _ c st'=>c=(none,())∧st'=st) (Q:=fun c st'=>c=(none,())∧st'=st) (fun i c st' a1 a2 _=>absurd a1 (by omega)) (fun _ _ z=>z) ⟨rfl,rfl⟩) ?_)
  rintro c st' ⟨rfl,rfl⟩
  exact wpS_pure h
theorem low_part {xs ys:Array Keyed} {n:Nat} (hp:ys.Perm xs) (hb:Beyond n xs ys) (hn:n≤xs.size) {i:Nat} (hi:i < n):∃ j,j < n∧K ys i=K xs j:=by
  have hs:=hp.size_eq
  have p1:(ys.toList.take n++ys.toList.drop n).Perm (xs.toList.take n++xs.toList.drop n):=by
    rw [List.take_append_drop,List.take_append_drop]
    exact Array.perm_iff_toList_perm.mp hp
  have e:ys.toList.drop n=xs.toList.drop n:=by
    refine List.ext_getElem? fun k=>?_
    rw [List.getElem?_drop,List.getElem?_drop,Array.getElem?_toList,Array.getElem?_toList]
    exact hb (n+k) (by omega)
  rw [e] at p1
  have p2:=(List.perm_append_right_iff _).mp p1
  have hy:ys[i]?=some ys[i]:=getElem?_pos _ i (by omega)
  have m1:ys[i]∈ys.toList.take n:=List.mem_of_getElem? (i:=i) (by rw [List.getElem?_take,if_pos hi,Array.getElem?_toList,hy])
  obtain ⟨j,hj⟩:=List.getElem?_of_mem (p2.mem_iff.mp m1)
  rw [List.getElem?_take] at hj
  by_cases hjn:j < n
  · rw [if_pos hjn,Array.getElem?_toList] at hj
    exact ⟨j,hjn,K_congr (hy.trans hj.symm)⟩
  · rw [if_neg hjn] at hj;cases hj
structure One (a₀ xs:Array Keyed) (n:Nat) (st:SortSt):Prop where
  perm:(arrOf st).Perm a₀
  kind:kindOf st=oneType'
  failed:failedOf st=none
  lo:32≤n
  hi:n≤a₀.size
  srt:SortedTo (arrOf st) n
  bey:Beyond n xs (arrOf st)
theorem One.ints {xs:Array Keyed} {n:Nat} {st:SortSt} (h:One a₀ xs n st) (h0:IntKeys a₀):Ints st :=
  ⟨h.kind,fun i hi=>(show SBase a₀ (setPending st #[]) from ⟨h.perm,h.kind,h.failed,rfl⟩).at h0 (by rw [← h.perm.size_eq];exact hi)⟩
theorem One.all {xs:Array Keyed} {n:Nat} {st:SortSt} (h:One a₀ xs n st) (hx:xs.Perm a₀) (hr:∀ i j,j < i→32≤i→i < a₀.size→K xs j < K xs i):(∀ i j,i < n→n≤j→j < a₀.size→K (arrOf st) i < K (arrOf st) j)∧SortedTo (arrOf st) a₀.size:=by
  have hl:=h.lo
  have up:∀ i j,i < n→n≤j→j < a₀.size→K (arrOf st) i < K (arrOf st) j:=fun i j h1 h2 h3=>by
    obtain ⟨k,hk,e⟩:=low_part (h.perm.trans hx.symm) h.bey (by rw [hx.size_eq];exact h.hi) h1
    rw [e,h.bey.K h2]
    exact hr j k (by omega) (by omega) h3
  refine ⟨up,fun i j hij hj=>?_⟩
  rcases Nat.lt_or_ge j n with g | g
  · exact h.srt i j hij g
  · rcases Nat.lt_or_ge i n with g2 | g2
    · exact Int.le_of_lt (up i j g2 g hj)
    · rw [h.bey.K g,h.bey.K g2]
      rcases Nat.lt_or_ge i j with g3 | g3
      · exact Int.le_of_lt (hr j i g3 (by omega) hj)
      · rw [show i=j by omega];exact Int.le_refl _
theorem so_sort {st:SortSt} {Q:Unit→SortSt→Prop} (h0:IntKeys a₀) (hB:SBase a₀ st) (h64:64≤a₀.size) (hr:∀ i j,j < i→32≤i→i < a₀.size→K (arrOf st) j < K (arrOf st) i)
    (h:∀ st',(arrOf st').Perm a₀→failedOf st'=none→SortedTo (arrOf st') a₀.size→Q () st'):wpS (model prog w) A E s sortRuns' Q st:=by
  rw [sortRuns'_eq]
  refine wpS_bind (wpS_get ?_)
  dsimp only
  have hmr:=minRun_ge a₀.size a₀.size 0 (by omega)
  simp only [hB.size]
  generalize minRun' a₀.size a₀.size 0=mr at hmr
  refine wpS_bind (wpS_mono (wpS_forRange
    (I:=fun x c st'=>(x=0∧c=(none,0)∧st'=st)∨∃ n,One a₀ (arrOf st) n st'∧((x=1∧c=(none,n)∧pendingOf st'=#[(0,n,0)])∨(2≤x∧n < a₀.size∧c=(none,a₀.size)∧∃ q,pendingOf st'=#[(0,n,q),(n,a₀.size - n,0)])))
    (Q:=fun c st'=>c=(none,a₀.size)∧∃ n,One a₀ (arrOf st) n st'∧(pendingOf st'=#[(0,n,0)]∨(n < a₀.size∧∃ q,pendingOf st'=#[(0,n,q),(n,a₀.size - n,0)]))) ?turn ?last (.inl ⟨rfl,rfl,rfl⟩)) ?post)
  case last =>
    rintro c st' (⟨hx,_⟩ | ⟨n,O,(⟨hx,_⟩ | ⟨_,h1,rfl,q,e⟩)⟩)
    · omega
    · omega
    · exact ⟨rfl,n,O,.inr ⟨h1,q,e⟩⟩
  case turn =>
    rintro x c st' _ hx (⟨rfl,rfl,rfl⟩ | ⟨n,O,(⟨rfl,rfl,hp⟩ | ⟨h2,h1,rfl,q,hp⟩)⟩)
    · dsimp only
      rw [if_neg (by omega)]
      simp only [Nat.sub_zero,Nat.zero_add]
      have fin:∀ n st2,SBase a₀ st2→32≤n→n≤a₀.size→SortedTo (arrOf st2) n→Beyond n (arrOf st') (arrOf st2)→One a₀ (arrOf st') n (setPending st2 ((pendingOf st2).push (0,n,0)))∧(pendingOf st2).push (0,n,0)=#[(0,n,0)]:=fun n st2 b g1 g2 g3 g4 =>
        ⟨⟨b.perm,b.kind,b.failed,g1,g2,g3,g4⟩,by rw [b.pend];rfl⟩
      refine wpS_bind (so_count h0 (Nat.le_refl _) (by omega) hB fun m st2 b m1 m2 m3 m4=>?_)
      dsimp only
      by_cases lt:m < mr
      · rw [if_pos lt]
        refine wpS_bind (wpS_lift (wpAny_rule ⟨rfl,wpS_bind (so_bin h0 (Nat.min_le_left _ _) (by omega) b m3 fun st3 b3 s3 y3=>?_)⟩))
        simp only [Bool.not_true,Bool.false_eq_true,if_false]
        refine wpS_bind (wpS_get ?_)
        rw [show (pendingOf st3).back?=none by rw [b3.pend];rfl]
        dsimp only
        obtain ⟨f1,f2⟩:=fin (min a₀.size mr) st3 b3 (by omega) (by omega) s3 fun i hi=>(y3 i hi).trans (m4 i (by omega))
        exact wpS_bind (wpS_modify (wpS_pure (.inr ⟨_,f1,.inl ⟨trivial,rfl,f2⟩⟩)))
      · rw [if_neg lt]
        refine wpS_bind (wpS_get ?_)
        rw [show (pendingOf st2).back?=none by rw [b.pend];rfl]
        dsimp only
        obtain ⟨f1,f2⟩:=fin m st2 b (by omega) m2 m3 m4
        exact wpS_bind (wpS_modify (wpS_pure (.inr ⟨_,f1,.inl ⟨trivial,rfl,f2⟩⟩)))
    · dsimp only
      by_cases ge:n≥a₀.size
      · rw [if_pos ge]
        obtain rfl:n=a₀.size:=by have:=O.hi;omega
        exact wpS_pure ⟨rfl,_,O,.inl hp⟩
      rw [if_neg ge]
      have hsz:(arrOf st').size=a₀.size:=O.perm.size_eq
      have hlo:=O.lo
      refine wpS_bind (so_rise (O.ints h0) (by omega) (by omega) (fun i g1 g2=>?_) ?_)
      · rw [O.bey.K (by omega),O.bey.K (by omega)]
        exact hr _ _ (by omega) (by omega) (by omega)
      dsimp only
      by_cases lt:a₀.size - n < mr
      · rw [if_pos lt,show min (a₀.size - n) mr=a₀.size - n by omega]
        refine wpS_bind (wpS_lift (wpAny_rule ⟨rfl,wpS_bind (so_bin0 (by omega) ?_)⟩))
        simp only [Bool.not_true,Bool.false_eq_true,if_false]
        refine wpS_bind (wpS_get ?_)
        rw [show (pendingOf st').back?=some (0,n,0) by rw [hp];rfl]
        dsimp only
        refine wpS_bind (wpS_mono (wpS_forRange (I:=fun _ c st2=>c=(none,())∧st2=st') (Q:=fun c st2=>c=(none,())∧st2=st') ?_ (fun _ _ z=>z) ⟨rfl,rfl⟩) ?_)
        · rintro y c st2 _ _ ⟨rfl,rfl⟩
          refine wpS_bind (wpS_get ?_)
          rw [if_neg (by rw [hp];exact (show ¬ 1 > 1 by decide))]
          exact wpS_pure ⟨rfl,rfl⟩
        · rintro c st2 ⟨rfl,rfl⟩
          dsimp only
          refine wpS_bind (wpS_modify (wpS_bind (wpS_modify (wpS_pure (.inr ⟨n,⟨O.perm,O.kind,O.failed,O.lo,O.hi,O.srt,O.bey⟩,.inr ⟨by omega,by omega,?_,power' a₀.size (2 * 0+n) (2 * 0+n+n+(a₀.size - n)) a₀.size,?_⟩⟩)))))
          · rw [show n+(a₀.size - n)=a₀.size by omega]
          · show ((pendingOf st2).modify ((pendingOf st2).size - 1) _).push _=_
            rw [hp]
            rfl
      · rw [if_neg lt]
        refine wpS_bind (wpS_get ?_)
        rw [show (pendingOf st').back?=some (0,n,0) by rw [hp];rfl]
        dsimp only
        refine wpS_bind (wpS_mono (wpS_forRange (I:=fun _ c st2=>c=(none,())∧st2=st') (Q:=fun c st2=>c=(none,())∧st2=st') ?_ (fun _ _ z=>z) ⟨rfl,rfl⟩) ?_)
        · rintro y c st2 _ _ ⟨rfl,rfl⟩
          refine wpS_bind (wpS_get ?_)
          rw [if_neg (by rw [hp];exact (show ¬ 1 > 1 by decide))]
          exact wpS_pure ⟨rfl,rfl⟩
        · rintro c st2 ⟨rfl,rfl⟩
          dsimp only
          refine wpS_bind (wpS_modify (wpS_bind (wpS_modify (wpS_pure (.inr ⟨n,⟨O.perm,O.kind,O.failed,O.lo,O.hi,O.srt,O.bey⟩,.inr ⟨by omega,by omega,?_,power' a₀.size (2 * 0+n) (2 * 0+n+n+(a₀.size - n)) a₀.size,?_⟩⟩)))))
          · rw [show n+(a₀.size - n)=a₀.size by omega]
          · show ((pendingOf st2).modify ((pendingOf st2).size - 1) _).push _=_
            rw [hp]
            rfl
    · dsimp only
      rw [if_pos (Nat.le_refl _)]
      exact wpS_pure ⟨rfl,n,O,.inr ⟨h1,q,hp⟩⟩
  case post =>
    rintro c st' ⟨rfl,n,O,hp⟩
    dsimp only
    obtain ⟨up,all⟩:=O.all hB.perm hr
    refine wpS_bind (wpS_mono (wpS_forRange (I:=fun x c st2=>c=(none,())∧((x=0∧st2=st')∨∃ q,pendingOf st2=#[q]∧arrOf st2=arrOf st'∧failedOf st2=none)) (Q:=fun c st2=>c=(none,())∧arrOf st2=arrOf st'∧failedOf st2=none) ?t2 ?l2 ⟨rfl,.inl ⟨rfl,rfl⟩⟩) ?p2)
    case l2 =>
      rintro c st2 ⟨rfl,(⟨hx,_⟩ | ⟨q,_,e2,e3⟩)⟩
      · omega
      · exact ⟨rfl,e2,e3⟩
    case p2 =>
      rintro c st2 ⟨rfl,e2,e3⟩
      exact wpS_pure (h st2 (by rw [e2];exact O.perm) e3 (by rw [e2];exact all))
    case t2 =>
      rintro x c st2 _ _ ⟨rfl,hx⟩
      refine wpS_bind (wpS_get ?_)
      rcases hx with ⟨rfl,rfl⟩ | ⟨q,e1,e2,e3⟩
      · rcases hp with hp | ⟨hn,q,hp⟩
        · rw [if_pos (by rw [hp];exact Nat.le_refl 1)]
          exact wpS_pure ⟨rfl,rfl,O.failed⟩
        · rw [if_neg (by rw [hp];exact (show ¬ 2≤1 by decide))]
          have e2:(pendingOf st2).size - 2=0:=by rw [hp];rfl
          rw [e2,if_neg (show ¬ 0 > 0 by decide)]
          rw [if_neg (show ¬ Option.any _ none=true by simp)]
          have hsz:(arrOf st2).size=a₀.size:=O.perm.size_eq
          have hlo:=O.lo
          obtain ⟨t,v,ek⟩:=(O.ints h0).num n (by omega)
          refine wpS_bind (so_merge O.kind hp (by omega) ek (fun i hi=>?_) ?_)
          · obtain ⟨u,v2,e3⟩:=(O.ints h0).num i (by omega)
            rw [Nat.zero_add]
            exact ⟨_,u,v2,e3,Int.le_of_lt (up i n hi (Nat.le_refl _) hn)⟩
          · rw [if_neg (by decide)]
            exact wpS_pure ⟨rfl,.inr ⟨_,rfl,rfl,O.failed⟩⟩
      · rw [if_pos (by rw [e1];exact Nat.le_refl 1)]
        exact wpS_pure ⟨rfl,e2,e3⟩
end
end L2

set_option Elab.async false
set_option linter.all false
set_option maxRecDepth 100000
set_option maxHeartbeats 4000000
namespace L2
open PySem PySem.Spec PyProof.Rows
def srtI (l:List Int):List Int:=l.mergeSort fun a b=>decide (a≤b)
theorem srtI_perm (l:List Int):(srtI l).Perm l:=List.mergeSort_perm _ _
theorem srtI_pw (l:List Int):(srtI l).Pairwise (·≤·):=by
  refine (List.pairwise_mergeSort (le:=fun (a b:Int)=>decide (a≤b)) (fun a b c h1 h2=>?_) (fun a b=>?_) l).imp fun h=>of_decide_eq_true h
  · simp only [decide_eq_true_eq] at *;omega
  · simp only [Bool.or_eq_true,decide_eq_true_eq];omega
theorem srtI_uniq {l m:List Int} (h:m.Perm l) (hs:m.Pairwise (·≤·)):m=srtI l :=
  List.Perm.eq_of_pairwise (le:=fun a b=>a≤b) (fun a b _ _ h1 h2=>Int.le_antisymm h1 h2) hs (srtI_pw l) (h.trans (srtI_perm l).symm)
theorem srtI_len (l:List Int):(srtI l).length=l.length:=(srtI_perm l).length_eq
theorem upd_size (h:Heap) (a:Addr) (f:Obj→Obj):h.objs.size≤(h.update a f).objs.size:=by
  unfold Heap.update
  simp
theorem runs_size {M:Model} {Γ:PySem.Ctx} {p:Pos} {t:Sem PySem.Fin} {fs:List Frame} {s s':Shared} {e:End} (h:Runs M Γ p t fs s e s'):s.heap.objs.size≤s'.heap.objs.size:=by
  induction h<;>first
    | exact Nat.le_refl _
    | assumption
    | (rename_i ih;exact ih)
    | (rename_i ih;exact Nat.le_trans (upd_size _ _ _) ih)
    | (rename_i ih;exact Nat.le_trans (by rw [size_push'];exact Nat.le_succ _) ih)
    | (rename_i ih1 ih2;exact Nat.le_trans ih1 ih2)
theorem wakes_size {M:Model} {Γ:PySem.Ctx} {p:Pos} {g:Nat} {r:Resume} {s s':Shared} {res:GenResult} (h:Wakes M Γ p g r s res s'):s.heap.objs.size≤s'.heap.objs.size:=by
  unfold Wakes at h
  split at h
  · exact h.elim
  · split at h
    · obtain ⟨e,s1,hr,_,_,rfl⟩:=h
      have:=runs_size hr
      exact this
    · rw [h.2];exact Nat.le_refl _
    · rw [h.2];exact Nat.le_refl _
  · obtain ⟨e,s1,hr,_,_,rfl⟩:=h
    have:=runs_size hr
    exact this
  · rw [h.2];exact Nat.le_refl _
  · rw [h.2];exact Nat.le_refl _
theorem wp_size {α:Type} {M:Model} {Γ:PySem.Ctx} (t:Sem α):∀ (Q:α→Pos→Shared→Prop) (E:Value→Pos→Shared→Prop) (p:Pos) (s:Shared) (n:Nat),n≤s.heap.objs.size→Sem.wp M Γ t Q E p s →
    Sem.wp M Γ t (fun a p' s'=>Q a p' s'∧n≤s'.heap.objs.size) (fun e p' s'=>E e p' s'∧n≤s'.heap.objs.size) p s:=by
  induction t with
  | pure a=>intro Q E p s n hn h;rw [Sem.wp] at h ⊢;exact ⟨h,hn⟩
  | raise a=>intro Q E p s n hn h;rw [Sem.wp] at h ⊢;exact ⟨h,hn⟩
  | load a pt k ih=>intro Q E p s n hn h;rw [Sem.wp] at h ⊢;obtain ⟨o,h1,h2⟩:=h;exact ⟨o,h1,ih _ _ _ _ _ _ hn h2⟩
  | update a pt f k ih=>intro Q E p s n hn h;rw [Sem.wp] at h ⊢;exact ⟨h.1,ih _ _ _ _ _ _ (Nat.le_trans hn (upd_size _ _ _)) h.2⟩
  | alloc o k ih=>intro Q E p s n hn h;rw [Sem.wp] at h ⊢;exact ih _ _ _ _ _ _ (Nat.le_trans hn (by rw [size_push'];exact Nat.le_succ _)) h
  | choose src m k ih=>intro Q E p s n hn h;rw [Sem.wp] at h ⊢;exact ⟨h.1,ih _ _ _ _ _ _ hn h.2⟩
  | call c hd g l k ih =>
    intro Q E p s n hn h
    rw [Sem.wp] at h ⊢
    obtain ⟨r,s',hr,h2⟩:=h
    exact ⟨r,s',hr,ih _ _ _ _ _ _ (Nat.le_trans hn (runs_size hr)) h2⟩
  | genState g k ih=>intro Q E p s n hn h;rw [Sem.wp] at h ⊢;obtain ⟨o,h1,h2⟩:=h;exact ⟨o,h1,ih _ _ _ _ _ _ hn h2⟩
  | resume g r l k ih =>
    intro Q E p s n hn h
    rw [Sem.wp] at h ⊢
    obtain ⟨r,s',hr,h2⟩:=h
    exact ⟨r,s',hr,ih _ _ _ _ _ _ (Nat.le_trans hn (wakes_size hr)) h2⟩
  | _ =>
    intro Q E p s n hn h
    rw [Sem.wp] at h
    first
    | exact h.elim
    | (rw [Sem.wp];rename_i ih;exact ih _ _ _ _ _ _ hn h)
theorem any_size {α:Type} {M:Model} {A:Around} {t:Sem α} {Q:α→Shared→Prop} {E:Value→Shared→Prop} {s:Shared} (h:wpAny M A t Q E s) :
    wpAny M A t (fun a s'=>Q a s'∧s.heap.objs.size≤s'.heap.objs.size) E s:=fun Γ p hΓ =>
  Sem.wp_mono M Γ t (fun _ _ _ x=>x) (fun _ _ _ x=>x.1) p s (wp_size t _ _ p s s.heap.objs.size (Nat.le_refl _) (h Γ p hΓ))
section
variable {X:Cx}
theorem keys_vals {kvs:List (Key×V)} {vs:List (Key×Value)} {acc:Array Value} (S:KV kvs vs) (hacc:acc.size=vs.length) (h:∀ (i:Nat) (v:Value),acc[i]?=some v→∃ (k:Key) (x:Value),vs[i]?=some (k,x)∧(mixKind X.prog X.w).is k v=true):Vals (kvs.map fun kv=>kV kv.1) acc.toList:=by
  have key:∀ (n:Nat) (ks:List (Key×V)) (l:List Value),ks.length=n→l.length=n→(∀ (i:Nat) k x v,ks[i]?=some (k,x)→l[i]?=some v→RelV (kV k) v)→Vals (ks.map fun kv=>kV kv.1) l:=by
    intro n
    induction n with
    | zero =>
      intro ks l h1 h2 _
      rw [List.length_eq_zero_iff.mp h1,List.length_eq_zero_iff.mp h2]
      exact .nil
    | succ n ih =>
      intro ks l h1 h2 h3
      match ks,l,h1,h2 with
      | (k,x)::ks,v::l,h1,h2 =>
        exact .cons (h3 0 k x v rfl rfl) (ih ks l (by simpa using h1) (by simpa using h2) fun i k x v a b=>h3 (i+1) k x v (by simpa using a) (by simpa using b))
  have hl:kvs.length=vs.length:=Paired.length S
  refine key kvs.length kvs acc.toList rfl (by rw [Array.length_toList,hacc,hl]) fun i k x v h1 h2=>?_
  obtain ⟨k',x',e1,e2⟩:=h i v (by rw [← Array.getElem?_toList];exact h2)
  obtain ⟨u,hu,ru⟩:=KV.getP (vs:=vs) S h1
  rw [hu] at e1
  cases e1
  exact kV_of e2
end
section
variable {K:PySem.W.Frag} {H:Hp} {Q:VK} {p:Addr}
end
def flatO:V→Prop
  | .non=>True
  | .bl _=>True
  | .int _=>True
  | .str _=>True
  | _=>False
inductive ItEq (K:PySem.W.Frag) (H:Hp):V→V→Prop
  | den {u v:V} {d:PyData}:Den K H u d→Den K H v d→SeqAt.shaped d=true→PyData.eqv d d=true→ItEq K H u v
  | dic {a b:Addr} {kvs:List (Key×V)}:a≠b→H a=some (.dK kvs)→H b=some (.dK kvs)→(∀ kv∈kvs,∃ i,kv.1=Sum.inl i)→(∀ kv∈kvs,flatO kv.2)→ItEq K H (.ref a) (.ref b)
section
variable {X:Cx} {pins:List (Addr×Obj)} {σ:St} {H:Hp} {s:Shared}
end
theorem ItEq.same {K:PySem.W.Frag} {H:Hp} {u v:V} {n:Nat} {d:PyData} (h1:Den K H u d) (h2:Den K H v d) (hw:wd n d) (hn:n≤64:=by decide):ItEq K H u v:=.den h1 h2 (hw.shaped hn) (SeqAt.eqv_refl d hw.1)
end L2

set_option Elab.async false
set_option linter.all false
set_option maxRecDepth 100000
set_option maxHeartbeats 4000000
namespace L2
open PySem PySem.Spec PyProof.Rows
def Rise32 (ks:List Int):Prop:=∀ (i j:Nat) a b,j < i→32≤i→ks[j]?=some a→ks[i]?=some b→a < b
section
variable {prog:Program} {w:World} {A:Around} {E:Value→Shared→Prop} {s:Shared}
theorem ints_at:∀ {vs:List Value} {ns:List Int},IntsAre vs ns→∀ i:Nat,(vs[i]?).map numOf=ns[i]?
  | _,_,.nil,i=>by simp
  | _,_,.cons _ _ h,0=>by simp [numOf]
  | _,_,.cons _ _ h,i+1=>by simpa using ints_at h i
theorem K_pairs {vs:List Value} {ns:List Int} (hI:IntsAre vs ns) {i:Nat} (hi:i < vs.length):∃ a,ns[i]?=some a∧K (pairsOf vs) i=a:=by
  have e:=ints_at hI i
  rw [List.getElem?_eq_getElem hi] at e
  refine ⟨numOf vs[i],e.symm,?_⟩
  rw [K_eq (by rw [pairsOf_size];exact hi)]
  simp [pairsOf]
theorem so_list {a:Addr} {vs:List Value} {ns:List Int} {n:Nat} {P:Fin→Shared→Prop} (ho:s.heap.get? a=some (seqObj "list" vs.toArray n)) (hI:IntsAre vs ns) (h64:64≤vs.length) (hz:vs.length≤sizeLine) (hr:Rise32 ns)
    (h:∀ (out:Array Value) (ns':List Int),IntsAre out.toList ns'→ns'.Perm ns→ns'.Pairwise (·≤·)→P (.done (.ret .none)) { s with heap:=sortedHeap s.heap a vs out }):wpAny (model prog w) A (Builtin.«list.sort» ⟨[.ref a],[]⟩) P E s:=by
  rw [list_sort_plain]
  have hlt:a < s.heap.objs.size:=Heap.lt_size ho
  refine wpAny_bind (listItems_at ho rfl (wpAny_bind (listUpdate_at ho rfl ?_)))
  obtain ⟨c1,g1⟩:∃ c,(s.heap.update a (Obj.mapSeq fun _=>#[])).get? a=some (seqObj "list" #[] c):=⟨_,get?_update_seq ho (fun _=>#[])⟩
  refine wpAny_bind (seqEpoch_at g1 rfl (wpAny_bind (wpAny_newTuple (wpAny_bind (wpAny_newList (wpAny_holding ?_))))))
  have g6:(((s.heap.update a (Obj.mapSeq fun _=>#[])).push (seqObj "tuple" vs.toArray 0)).push (seqObj "list" #[] 0)).get? a=some (seqObj "list" #[] c1):=by
    rw [Heap.get?_push_ne _ _ _ (by rw [size_push',Heap.size_update];exact Nat.ne_of_lt (Nat.lt_succ_of_lt hlt)),Heap.get?_push_ne _ _ _ (by rw [Heap.size_update];exact Nat.ne_of_lt hlt)]
    exact g1
  show wpAny (model prog w) A _ P E { s with heap:=((s.heap.update a (Obj.mapSeq fun _=>#[])).push (seqObj "tuple" vs.toArray 0)).push (seqObj "list" #[] 0) }
  dsimp only
  have n2:¬ vs.toArray.size < 2:=by simp;omega
  rw [if_neg n2,if_neg n2]
  match vs,h64,hI,hz,g6,h,n2,ho,g1 with
  | v₁::v₂::rest,h64,hI,hz,g6,h,n2,ho,g1 =>
    rw [keyKind_ints hI]
    refine wpAny_bind (wpAny_pure (wpAny_bind (wpAny_mono (so_sort (a₀:=pairsOf (v₁::v₂::rest)) (st:=SortSt.mk' oneType' ((v₁::v₂::rest).toArray.zip (v₁::v₂::rest).toArray) #[] 7 none)
      (Q:=fun _ st'=>(arrOf st').Perm (pairsOf (v₁::v₂::rest))∧failedOf st'=none∧SortedTo (arrOf st') (pairsOf (v₁::v₂::rest)).size) hI.intKeys ⟨Array.Perm.refl _,rfl,rfl,rfl⟩ (by rw [pairsOf_size];exact h64) (fun i j hij h32 hi=>?_) fun st' b1 b2 b3=>⟨b1,b2,b3⟩) ?_ fun _ _ e=>e)))
    · rw [pairsOf_size] at hi
      obtain ⟨x,e1,e2⟩:=K_pairs hI (show j < _ by omega)
      obtain ⟨y,e3,e4⟩:=K_pairs hI hi
      show K (pairsOf (v₁::v₂::rest)) j < K (pairsOf (v₁::v₂::rest)) i
      rw [e2,e4]
      exact hr i j x y hij h32 e1 e3
    · rintro ⟨⟨⟩,st'⟩ s' ⟨rfl,hp,hf,hs⟩
      dsimp only
      refine wpAny_bind (seqEpoch_at g6 rfl (wpAny_bind (listUpdate_at g6 rfl ?_ (hsz2:=?_))))
      · rw [hf]
        simp only [bne_self_eq_false,Bool.false_eq_true,if_false]
        obtain ⟨ns',h1,h2,h3⟩:=sorted_out hI hp hs
        exact wpAny_pure (h _ ns' h1 h2 h3)
      · refine Nat.le_trans (Nat.le_of_eq ((Array.size_map ..).trans (hp.size_eq.trans (pairsOf_size _)))) ?_
        exact Nat.le_succ_of_le hz
theorem so_any {a:Addr} {vs:List Value} {ns:List Int} {n:Nat} {P:Fin→Shared→Prop} (ho:s.heap.get? a=some (seqObj "list" vs.toArray n)) (hI:IntsAre vs ns) (hz:vs.length≤sizeLine) (hr:vs.length < 64∨Rise32 ns)
    (h:∀ (out:Array Value) (ns':List Int),IntsAre out.toList ns'→ns'.Perm ns→ns'.Pairwise (·≤·)→P (.done (.ret .none)) { s with heap:=sortedHeap s.heap a vs out }):wpAny (model prog w) A (Builtin.«list.sort» ⟨[.ref a],[]⟩) P E s:=by
  rcases Nat.lt_or_ge vs.length 64 with g | g
  · exact list_sort_tree ho hI g h
  · exact so_list ho hI g hz (hr.resolve_left (by omega)) h
end
def rSortR:List V→Hp→VK→Prop:=fun xs H Q=>∃ (d:Addr) (kvs:List (Key×V)) (ks:List Int),xs=[.ref d]∧H d=some (.dK kvs)∧kvs.map (·.1)=ks.map Sum.inl∧ks.length≤1000∧(ks.length < 64∨Rise32 ks)∧(NdK kvs→∀ l,H l=none→Q (.ref l) (upd H l (.lst ((srtI ks).map V.int))))
theorem call_sortedR {X:Cx} (hc:X.calm=true):CallR X (.builtin "sorted") rSortR:=by
  intro pins s σ H xs us Q I r h
  obtain ⟨d,kvs,ks,rfl,ed,hk,hn,h64,q⟩:=h
  have hn':ks.length≤sizeLine:=Nat.le_trans hn (by decide)
  obtain ⟨u,rfl,rx⟩:=vals1 r
  cases rx
  obtain ⟨t1,t2,t3⟩:=isD_at I (.inl ⟨kvs,.inl ed⟩)
  obtain ⟨od,hod,IF⟩:=I.freeze ed
  obtain ⟨vs,ep,SS,_⟩:=says_of (I.hok d _ ed) hod
  have D:=SS.2 _ hod
  have hkl:kvs.length=ks.length:=by have:=congrArg List.length hk;rwa [List.length_map,List.length_map] at this
  have hvl:vs.length=ks.length:=by rw [← hkl];exact (Paired.length SS.1).symm
  refine Calls.call_function_entry kind_sorted plain_sorted entry_sorted (args_sorted1 _) ?_
  unfold Builtin.«sorted»
  refine wpAny_bind (m:=checkCount "sorted" 1 1 _) (wpAny_pure ?_)
  refine wpAny_bind (thn (any_size (PySem.W.kdu_collect (A:=X.A.in1) (s:=s) (R:=fun l s'=>∃ (h':Heap) (tk:Nat) (acc:Array Value),l=acc.toList∧s'={ s with heap:=h',toks:=tk }∧(∀ b o,s.heap.get? b=some o→h'.get? b=some o)∧ItemsOf (fun (i:Nat) (v:Value)=>∃ (k:Key) (x:Value),vs[i]?=some (k,x)∧(mixKind X.prog X.w).is k v=true) acc vs.length) (PySem.W.kdl_dict (knd:=mixKind X.prog X.w) (kvs:=vs) (ep:=ep) t3) (I.ok.hd hc) D (by rw [hvl];exact hn') fun h' tk acc hkp hacc=>⟨h',tk,acc,rfl,rfl,hkp,hacc⟩)) fun l s' hh=>?_)
  obtain ⟨⟨h',tk,acc,rfl,rfl,hkp,hacc⟩,hsz1⟩:=hh
  have hsz1:s.heap.objs.size≤h'.objs.size:=hsz1
  have hvals:=keys_vals (X:=X) SS.1 hacc.1 hacc.2
  have ekv:(kvs.map fun kv=>kV kv.1)=ks.map V.int:=by
    have:(kvs.map (·.1)).map kV=(ks.map Sum.inl).map kV:=by rw [hk]
    rw [List.map_map,List.map_map] at this
    exact this
  rw [ekv] at hvals
  have hi:=intsAre_of hvals
  have hal:acc.toList.length=ks.length:=by have:=hvals.length;rw [List.length_map] at this;exact this.symm
  refine wpAny_bind (wpAny_newList ?_ (by rw [hal];exact hn'))
  have hoL:(h'.push (seqObj "list" acc.toList.toArray 0)).get? h'.objs.size=some (seqObj "list" acc.toList.toArray 0):=Heap.get?_push_size _ rfl
  show wpAny _ _ _ _ _ { s with heap:=h'.push (seqObj "list" acc.toList.toArray 0),toks:=tk }
  refine wpAny_bind (wpAny_holding (wpAny_call_entry slot_list_sort ⟨_,hoL,rfl⟩ entry_list_sort (so_any hoL hi (by rw [hal];exact hn') (by rw [hal];exact h64) fun out ns' a1 a2 a3=>⟨_,rfl,?_⟩) (args_list_sort _)))
  refine wpAny_pure ⟨_,rfl,?_⟩
  obtain ⟨e,he'⟩:=sortedHeap_at (out:=out) hoL
  have hns:=srtI_uniq a2 a3
  subst hns
  have hz':((srtI ks).map V.int).length≤sizeLine:=by
    rw [List.length_map,srtI_len]
    exact hn'
  refine ⟨.ref _,_,I.laid (t':=tk) (fun b o hb=>?_) hsz1 (show ObjOk X.prog X.w _ (sortedHeap (h'.push (seqObj "list" acc.toList.toArray 0)) h'.objs.size acc.toList out) _ (.lst _) from ⟨hz',out.toList,e,vals_ints a1,he'⟩),rfl,q (by unfold NdK;rw [KV.keys SS.1];obtain ⟨_,_,_,_,_,_,_,n⟩:=D;exact n) _ (I.hok.fresh hsz1)⟩
  have hb':=hkp b o hb
  have hlt:=Heap.lt_size hb'
  rw [sortedHeap_old (Nat.ne_of_lt hlt) (by rw [size_push'];exact Nat.lt_succ_of_lt hlt)]
  exact Heap.get?_push_of_some _ hb'
theorem call_sortedRK {X:Cx} (hc:X.calm=true:=by rfl):CallR X (.builtin "sorted") rSortR:=call_sortedR hc
end L2

set_option Elab.async false
set_option linter.all false
set_option maxRecDepth 100000
set_option maxHeartbeats 4000000
namespace L2
open PySem PySem.Spec PyProof.Rows
theorem nd_nin {l A:List Addr} {x:Addr} (h:l.Nodup) (i:Nat) (js:List Nat) (hx:l[i]?=some x) (hA:A.map some=js.map fun j=>l[j]?) (hij:i∉js):x∉A:=fun m=>by
  have m2:some x∈A.map some:=List.mem_map.mpr ⟨x,m,rfl⟩
  rw [hA] at m2
  obtain ⟨j,hj,ej⟩:=List.mem_map.mp m2
  obtain ⟨hi,ei⟩:=List.getElem?_eq_some_iff.mp hx
  obtain ⟨hj',ej'⟩:=List.getElem?_eq_some_iff.mp ej
  have hne:i≠j:=fun z=>hij (by rw [z];exact hj)
  have hp:=List.pairwise_iff_getElem.mp h
  rcases Nat.lt_or_gt_of_ne hne with z | z
  · exact hp i j hi hj' z (ei.trans ej'.symm)
  · exact hp j i hj' hi z (ej'.trans ei.symm)
def stK (st fr tu:Int) (lo fa tr fi sp:Addr):List (Key×V):=[(.inr "start",.int st),(.inr "front",.int fr),(.inr "turn",.int tu),(.inr "loans",.ref lo),(.inr "fates",.ref fa),(.inr "tried",.ref tr),(.inr "firsts",.ref fi),(.inr "spots",.ref sp)]
section
variable {K:PySem.W.Frag} {H:Hp} {Q:VK} {sd lo fa tr fi sp:Addr} {st fr tu:Int}
theorem st_get (h:H sd=some (.dK (stK st fr tu lo fa tr fi sp))) (k:Str) (v:V) (e:valV (stK st fr tu lo fa tr fi sp) (.inr k)=some v) (q:Q v H):rIxA K (.ref sd) (.str k) H Q:=by
  have g:=DGet.k (k:=.inr k) h
  rw [e] at g
  exact rIxA_d g q
theorem st_start (h:H sd=some (.dK (stK st fr tu lo fa tr fi sp))) (q:Q (.int st) H):rIxA K (.ref sd) (.str (Str.ofString "start")) H Q:=st_get h _ _ rfl q
theorem st_front (h:H sd=some (.dK (stK st fr tu lo fa tr fi sp))) (q:Q (.int fr) H):rIxA K (.ref sd) (.str (Str.ofString "front")) H Q:=st_get h _ _ rfl q
theorem st_turn (h:H sd=some (.dK (stK st fr tu lo fa tr fi sp))) (q:Q (.int tu) H):rIxA K (.ref sd) (.str (Str.ofString "turn")) H Q:=st_get h _ _ rfl q
theorem st_loans (h:H sd=some (.dK (stK st fr tu lo fa tr fi sp))) (q:Q (.ref lo) H):rIxA K (.ref sd) (.str (Str.ofString "loans")) H Q:=st_get h _ _ rfl q
theorem st_fates (h:H sd=some (.dK (stK st fr tu lo fa tr fi sp))) (q:Q (.ref fa) H):rIxA K (.ref sd) (.str (Str.ofString "fates")) H Q:=st_get h _ _ rfl q
theorem st_tried (h:H sd=some (.dK (stK st fr tu lo fa tr fi sp))) (q:Q (.ref tr) H):rIxA K (.ref sd) (.str (Str.ofString "tried")) H Q:=st_get h _ _ rfl q
theorem st_firsts (h:H sd=some (.dK (stK st fr tu lo fa tr fi sp))) (q:Q (.ref fi) H):rIxA K (.ref sd) (.str (Str.ofString "firsts")) H Q:=st_get h _ _ rfl q
theorem st_spots (h:H sd=some (.dK (stK st fr tu lo fa tr fi sp))) (q:Q (.ref sp) H):rIxA K (.ref sd) (.str (Str.ofString "spots")) H Q:=st_get h _ _ rfl q
theorem st_setF {x:Int} {Qh:Hp→Prop} (h:H sd=some (.dK (stK st fr tu lo fa tr fi sp))) (q:Qh (upd H sd (.dK (stK st x tu lo fa tr fi sp)))):rSetA (.ref sd) (.str (Str.ofString "front")) (.int x) H Qh :=
  rSetA_d (DPut.k (k:=.inr (Str.ofString "front")) h (show 8 < sizeLine by decide)) q
theorem st_setT {x:Int} {Qh:Hp→Prop} (h:H sd=some (.dK (stK st fr tu lo fa tr fi sp))) (q:Qh (upd H sd (.dK (stK st fr x lo fa tr fi sp)))):rSetA (.ref sd) (.str (Str.ofString "turn")) (.int x) H Qh :=
  rSetA_d (DPut.k (k:=.inr (Str.ofString "turn")) h (show 8 < sizeLine by decide)) q
end
def LoAt (H:Hp) (d:Addr) (L:Int→Option Loan) (ks:List Int):Prop:=∃ kvs:List (Key×V),H d=some (.dK kvs)∧kvs.map (·.1)=ks.map Sum.inl∧∀ p:Int,LoanO H (L p) (valV kvs (.inl p))
def FtAt (H:Hp) (d:Addr) (F:Int→Option Str) (ks:List Int):Prop:=∃ kvs:List (Key×V),H d=some (.dK kvs)∧kvs.map (·.1)=ks.map Sum.inl∧∀ p:Int,valV kvs (.inl p)=(F p).map V.str
def TrAt (H:Hp) (d:Addr) (T:Int→Int) (n:Nat):Prop:=∃ kvs:List (Key×V),H d=some (.dK kvs)∧kvs.length≤n∧∀ p:Int,valV kvs (.inl p)=if T p=0 then none else some (.int (T p))
theorem LoAt.chg {A:List Addr} {H H':Hp} {d:Addr} {L:Int→Option Loan} {ks:List Int} (h:LoAt H d L ks) (c:Chg A H H') (n:d∉A):LoAt H' d L ks:=let ⟨k,e,l,v⟩:=h;⟨k,c.keep _ _ e n,l,fun p=>(v p).chg c⟩
theorem FtAt.chg {A:List Addr} {H H':Hp} {d:Addr} {F:Int→Option Str} {ks:List Int} (h:FtAt H d F ks) (c:Chg A H H') (n:d∉A):FtAt H' d F ks:=let ⟨k,e,r⟩:=h;⟨k,c.keep _ _ e n,r⟩
theorem TrAt.chg {A:List Addr} {H H':Hp} {d:Addr} {T:Int→Int} {n:Nat} (h:TrAt H d T n) (c:Chg A H H') (m:d∉A):TrAt H' d T n:=let ⟨k,e,r⟩:=h;⟨k,c.keep _ _ e m,r⟩
theorem TrAt.le {H:Hp} {d:Addr} {T:Int→Int} {n m:Nat} (h:TrAt H d T n) (l:n≤m):TrAt H d T m:=let ⟨k,e,b,r⟩:=h;⟨k,e,Nat.le_trans b l,r⟩
theorem keys_len {kvs:List (Key×V)} {ks:List Int} (h:kvs.map (·.1)=ks.map Sum.inl):kvs.length=ks.length:=by have:=congrArg List.length h;rwa [List.length_map,List.length_map] at this
theorem LoAt.put {H:Hp} {d t:Addr} {L:Int→Option Loan} {ks:List Int} {k:Int} {y:Loan} {kvs:List (Key×V)} (e:H d=some (.dK kvs)) (hk:kvs.map (·.1)=ks.map Sum.inl) (v:∀ p:Int,LoanO H (L p) (valV kvs (.inl p))) (ht:H t=some (.tup (loanV y))) :
    LoAt (upd H d (.dK (putK kvs (.inl k) (.ref t)))) d (fun p=>if p=k then some y else L p) (addK ks k):=by
  have c:Chg [d] H (upd H d (.dK (putK kvs (.inl k) (.ref t)))):=Chg.upd (by simp) (mut_dK e)
  refine ⟨_,upd_same,keys_put hk k _,fun j=>?_⟩
  rw [valV_put]
  show LoanO _ (if j=k then some y else L j) _
  by_cases ej:j=k
  · rw [if_pos ej,if_pos (by rw [ej])];exact ⟨t,rfl,c.tup _ _ ht⟩
  · rw [if_neg ej,if_neg (fun h=>ej (Sum.inl.inj h))];exact (v j).chg c
theorem LoAt.drop {H:Hp} {d:Addr} {L:Int→Option Loan} {ks:List Int} {k:Int} {kvs:List (Key×V)} (e:H d=some (.dK kvs)) (hk:kvs.map (·.1)=ks.map Sum.inl) (v:∀ p:Int,LoanO H (L p) (valV kvs (.inl p))) :
    LoAt (upd H d (.dK (dropK kvs (.inl k)))) d (fun p=>if p=k then none else L p) (delK ks k):=by
  refine ⟨_,upd_same,keys_drop hk k,fun j=>?_⟩
  rw [valV_drop]
  show LoanO _ (if j=k then none else L j) _
  by_cases ej:j=k
  · rw [if_pos ej,if_pos (by rw [ej])];rfl
  · rw [if_neg ej,if_neg (fun h=>ej (Sum.inl.inj h))];exact (v j).chg (Chg.upd (A:=[d]) (by simp) (mut_dK e))
theorem LoAt.pop {H:Hp} {d:Addr} {L:Int→Option Loan} {ks:List Int} {k:Int} {kvs:List (Key×V)} {Q:VK} (e:H d=some (.dK kvs)) (hk:kvs.map (·.1)=ks.map Sum.inl) (v:∀ p:Int,LoanO H (L p) (valV kvs (.inl p)))
    (q:∀ u H',Chg [d] H H'→LoAt H' d (fun p=>if p=k then none else L p) (delK ks k)→Q u H'):(∀ u,valV kvs (.inl k)=some u→Q u (upd H d (.dK (dropK kvs (.inl k)))))∧(valV kvs (.inl k)=none→Q .non H):=by
  refine ⟨fun u hu=>q u _ (Chg.upd (by simp) (mut_dK e)) (LoAt.drop e hk v),fun hn=>q _ _ (Chg.refl _) ⟨kvs,e,?_,fun j=>?_⟩⟩
  · rw [delK_none (fun z=>by have:=(keys_mem hk k).mpr z;rw [hn] at this;cases this)];exact hk
  · show LoanO _ (if j=k then none else L j) _
    by_cases ej:j=k
    · rw [if_pos ej,ej,hn];rfl
    · rw [if_neg ej];exact v j
theorem FtAt.put {H:Hp} {d:Addr} {F:Int→Option Str} {ks:List Int} {k:Int} {z:Str} {kvs:List (Key×V)} (e:H d=some (.dK kvs)) (hk:kvs.map (·.1)=ks.map Sum.inl) (v:∀ p:Int,valV kvs (.inl p)=(F p).map V.str) (hn:F k=none) :
    FtAt (upd H d (.dK (putK kvs (.inl k) (.str z)))) d (fun p=>if p=k then some z else F p) (ks++[k]):=by
  refine ⟨_,upd_same,?_,fun j=>?_⟩
  · rw [keys_put hk k,addK,if_neg (fun m=>?_)]
    have:=(keys_mem hk k).mpr m
    rw [v k,hn] at this
    cases this
  · rw [valV_put]
    show _=(if j=k then some z else F j).map V.str
    by_cases ej:j=k
    · rw [if_pos ej,if_pos (by rw [ej])];rfl
    · rw [if_neg ej,if_neg (fun h=>ej (Sum.inl.inj h))];exact v j
theorem FtAt.mem {H:Hp} {d:Addr} {F:Int→Option Str} {ks:List Int} (h:FtAt H d F ks) (p:Int):p∈ks↔(F p).isSome=true:=by
  obtain ⟨kvs,e,hk,v⟩:=h
  rw [← keys_mem hk p,v p,Option.isSome_map]
theorem LoAt.mem {H:Hp} {d:Addr} {L:Int→Option Loan} {ks:List Int} (h:LoAt H d L ks) (p:Int):p∈ks↔(L p).isSome=true:=by
  obtain ⟨kvs,e,hk,v⟩:=h
  rw [← keys_mem hk p]
  have:=v p
  cases c:L p with
  | none=>rw [c] at this;rw [show valV kvs (.inl p)=none from this];simp
  | some y=>rw [c] at this;obtain ⟨t,z,_⟩:=this;rw [z];simp
theorem TrAt.put {H:Hp} {d:Addr} {T:Int→Int} {n:Nat} {k:Int} {kvs:List (Key×V)} (e:H d=some (.dK kvs)) (hl:kvs.length≤n) (v:∀ p:Int,valV kvs (.inl p)=if T p=0 then none else some (.int (T p))) (h0:0≤T k) :
    TrAt (upd H d (.dK (putK kvs (.inl k) (.int (T k+1))))) d (fun p=>if p=k then T k+1 else T p) (n+1):=by
  refine ⟨_,upd_same,?_,fun j=>?_⟩
  · have:=length_putK kvs (.inl k:Key) (.int (T k+1));omega
  · rw [valV_put]
    show _=if (if j=k then T k+1 else T j)=0 then none else some (V.int (if j=k then T k+1 else T j))
    by_cases ej:j=k
    · rw [if_pos (by rw [ej]),if_pos ej,if_neg (by omega)]
    · rw [if_neg (fun h=>ej (Sum.inl.inj h)),if_neg ej];exact v j
theorem TrAt.getD {T:Int→Int} {p:Int} {o:Option V} (v:o=if T p=0 then none else some (V.int (T p))):o.getD (.int 0)=.int (T p):=by
  subst v
  by_cases c:T p=0
  · rw [if_pos c,c];rfl
  · rw [if_neg c];rfl
structure A39 where
  r:Addr
  f:Addr
  t:Addr
  l:Addr
  rw:Addr
  rd:Addr
  sd:Addr
  lo:Addr
  fa:Addr
  tr:Addr
  fi:Addr
  sp:Addr
def A39.all (A:A39):List Addr:=[A.r,A.f,A.t,A.l,A.rw,A.rd,A.sd,A.lo,A.fa,A.tr,A.fi,A.sp]
structure S39 where
  M:LendM
  R:RowM
  st:Int
  fr:Int
  tu:Int
  ks:List Int
  L:Int→Option Loan
  lks:List Int
  F:Int→Option Str
  fk:List Int
  T:Int→Int
  tn:Nat
  fi:List Int
  sp:List Int
structure P39 (C CR:Addr) (H:Hp) (A:A39) (s:S39):Prop where
  la:LendAt C H A.r A.f A.t A.l s.M
  lk:LKs H A.l s.ks
  ra:RowAt CR H A.rw A.rd s.R
  sd:H A.sd=some (.dK (stK s.st s.fr s.tu A.lo A.fa A.tr A.fi A.sp))
  lo:LoAt H A.lo s.L s.lks
  fa:FtAt H A.fa s.F s.fk
  tr:TrAt H A.tr s.T s.tn
  fi:H A.fi=some (.lst (s.fi.map V.int))
  sp:H A.sp=some (.lst (s.sp.map V.int))
  nd:A.all.Nodup
theorem P39.lnd1 {C CR:Addr} {H H':Hp} {A:A39} {s:S39} (h:P39 C CR H A s) (c:Chg [A.f,A.l] H H') {M:LendM} {ks:List Int} (la:LendAt C H' A.r A.f A.t A.l M) (lk:LKs H' A.l ks):P39 C CR H' A { s with M:=M,ks:=ks } :=
  ⟨la,lk,h.ra.chg c (nd_nin h.nd 4 [1,3] rfl rfl (by decide)) (nd_nin h.nd 5 [1,3] rfl rfl (by decide)),c.keep _ _ h.sd (nd_nin h.nd 6 [1,3] rfl rfl (by decide)),h.lo.chg c (nd_nin h.nd 7 [1,3] rfl rfl (by decide)),h.fa.chg c (nd_nin h.nd 8 [1,3] rfl rfl (by decide)),h.tr.chg c (nd_nin h.nd 9 [1,3] rfl rfl (by decide)),c.keep _ _ h.fi (nd_nin h.nd 10 [1,3] rfl rfl (by decide)),c.keep _ _ h.sp (nd_nin h.nd 11 [1,3] rfl rfl (by decide)),h.nd⟩
theorem P39.lnd2 {C CR:Addr} {H H':Hp} {A:A39} {s:S39} (h:P39 C CR H A s) (c:Chg [A.r,A.t,A.l] H H') {M:LendM} {ks:List Int} (la:LendAt C H' A.r A.f A.t A.l M) (lk:LKs H' A.l ks):P39 C CR H' A { s with M:=M,ks:=ks } :=
  ⟨la,lk,h.ra.chg c (nd_nin h.nd 4 [0,2,3] rfl rfl (by decide)) (nd_nin h.nd 5 [0,2,3] rfl rfl (by decide)),c.keep _ _ h.sd (nd_nin h.nd 6 [0,2,3] rfl rfl (by decide)),h.lo.chg c (nd_nin h.nd 7 [0,2,3] rfl rfl (by decide)),h.fa.chg c (nd_nin h.nd 8 [0,2,3] rfl rfl (by decide)),h.tr.chg c (nd_nin h.nd 9 [0,2,3] rfl rfl (by decide)),c.keep _ _ h.fi (nd_nin h.nd 10 [0,2,3] rfl rfl (by decide)),c.keep _ _ h.sp (nd_nin h.nd 11 [0,2,3] rfl rfl (by decide)),h.nd⟩
theorem P39.lnd3 {C CR:Addr} {H H':Hp} {A:A39} {s:S39} (h:P39 C CR H A s) (c:Chg [A.l] H H') {M:LendM} {ks:List Int} (la:LendAt C H' A.r A.f A.t A.l M) (lk:LKs H' A.l ks):P39 C CR H' A { s with M:=M,ks:=ks } :=
  ⟨la,lk,h.ra.chg c (nd_nin h.nd 4 [3] rfl rfl (by decide)) (nd_nin h.nd 5 [3] rfl rfl (by decide)),c.keep _ _ h.sd (nd_nin h.nd 6 [3] rfl rfl (by decide)),h.lo.chg c (nd_nin h.nd 7 [3] rfl rfl (by decide)),h.fa.chg c (nd_nin h.nd 8 [3] rfl rfl (by decide)),h.tr.chg c (nd_nin h.nd 9 [3] rfl rfl (by decide)),c.keep _ _ h.fi (nd_nin h.nd 10 [3] rfl rfl (by decide)),c.keep _ _ h.sp (nd_nin h.nd 11 [3] rfl rfl (by decide)),h.nd⟩
theorem P39.row {C CR:Addr} {H H':Hp} {A:A39} {s:S39} (h:P39 C CR H A s) (c:Chg [A.rw,A.rd] H H') {R:RowM} (ra:RowAt CR H' A.rw A.rd R):P39 C CR H' A { s with R:=R } :=
  ⟨h.la.chg c (nd_nin h.nd 0 [4,5] rfl rfl (by decide)) (nd_nin h.nd 1 [4,5] rfl rfl (by decide)) (nd_nin h.nd 2 [4,5] rfl rfl (by decide)) (nd_nin h.nd 3 [4,5] rfl rfl (by decide)),h.lk.chg c (nd_nin h.nd 3 [4,5] rfl rfl (by decide)),ra,c.keep _ _ h.sd (nd_nin h.nd 6 [4,5] rfl rfl (by decide)),h.lo.chg c (nd_nin h.nd 7 [4,5] rfl rfl (by decide)),h.fa.chg c (nd_nin h.nd 8 [4,5] rfl rfl (by decide)),h.tr.chg c (nd_nin h.nd 9 [4,5] rfl rfl (by decide)),c.keep _ _ h.fi (nd_nin h.nd 10 [4,5] rfl rfl (by decide)),c.keep _ _ h.sp (nd_nin h.nd 11 [4,5] rfl rfl (by decide)),h.nd⟩
theorem P39.std {C CR:Addr} {H H':Hp} {A:A39} {s:S39} (h:P39 C CR H A s) (c:Chg [A.sd] H H') {fr tu:Int} (e:H' A.sd=some (.dK (stK s.st fr tu A.lo A.fa A.tr A.fi A.sp))):P39 C CR H' A { s with fr:=fr,tu:=tu } :=
  ⟨h.la.chg c (nd_nin h.nd 0 [6] rfl rfl (by decide)) (nd_nin h.nd 1 [6] rfl rfl (by decide)) (nd_nin h.nd 2 [6] rfl rfl (by decide)) (nd_nin h.nd 3 [6] rfl rfl (by decide)),h.lk.chg c (nd_nin h.nd 3 [6] rfl rfl (by decide)),h.ra.chg c (nd_nin h.nd 4 [6] rfl rfl (by decide)) (nd_nin h.nd 5 [6] rfl rfl (by decide)),e,h.lo.chg c (nd_nin h.nd 7 [6] rfl rfl (by decide)),h.fa.chg c (nd_nin h.nd 8 [6] rfl rfl (by decide)),h.tr.chg c (nd_nin h.nd 9 [6] rfl rfl (by decide)),c.keep _ _ h.fi (nd_nin h.nd 10 [6] rfl rfl (by decide)),c.keep _ _ h.sp (nd_nin h.nd 11 [6] rfl rfl (by decide)),h.nd⟩
theorem P39.los {C CR:Addr} {H H':Hp} {A:A39} {s:S39} (h:P39 C CR H A s) (c:Chg [A.lo] H H') {L:Int→Option Loan} {ks:List Int} (e:LoAt H' A.lo L ks):P39 C CR H' A { s with L:=L,lks:=ks } :=
  ⟨h.la.chg c (nd_nin h.nd 0 [7] rfl rfl (by decide)) (nd_nin h.nd 1 [7] rfl rfl (by decide)) (nd_nin h.nd 2 [7] rfl rfl (by decide)) (nd_nin h.nd 3 [7] rfl rfl (by decide)),h.lk.chg c (nd_nin h.nd 3 [7] rfl rfl (by decide)),h.ra.chg c (nd_nin h.nd 4 [7] rfl rfl (by decide)) (nd_nin h.nd 5 [7] rfl rfl (by decide)),c.keep _ _ h.sd (nd_nin h.nd 6 [7] rfl rfl (by decide)),e,h.fa.chg c (nd_nin h.nd 8 [7] rfl rfl (by decide)),h.tr.chg c (nd_nin h.nd 9 [7] rfl rfl (by decide)),c.keep _ _ h.fi (nd_nin h.nd 10 [7] rfl rfl (by decide)),c.keep _ _ h.sp (nd_nin h.nd 11 [7] rfl rfl (by decide)),h.nd⟩
theorem P39.fas {C CR:Addr} {H H':Hp} {A:A39} {s:S39} (h:P39 C CR H A s) (c:Chg [A.fa] H H') {F:Int→Option Str} {ks:List Int} (e:FtAt H' A.fa F ks):P39 C CR H' A { s with F:=F,fk:=ks } :=
  ⟨h.la.chg c (nd_nin h.nd 0 [8] rfl rfl (by decide)) (nd_nin h.nd 1 [8] rfl rfl (by decide)) (nd_nin h.nd 2 [8] rfl rfl (by decide)) (nd_nin h.nd 3 [8] rfl rfl (by decide)),h.lk.chg c (nd_nin h.nd 3 [8] rfl rfl (by decide)),h.ra.chg c (nd_nin h.nd 4 [8] rfl rfl (by decide)) (nd_nin h.nd 5 [8] rfl rfl (by decide)),c.keep _ _ h.sd (nd_nin h.nd 6 [8] rfl rfl (by decide)),h.lo.chg c (nd_nin h.nd 7 [8] rfl rfl (by decide)),e,h.tr.chg c (nd_nin h.nd 9 [8] rfl rfl (by decide)),c.keep _ _ h.fi (nd_nin h.nd 10 [8] rfl rfl (by decide)),c.keep _ _ h.sp (nd_nin h.nd 11 [8] rfl rfl (by decide)),h.nd⟩
theorem P39.trs {C CR:Addr} {H H':Hp} {A:A39} {s:S39} (h:P39 C CR H A s) (c:Chg [A.tr] H H') {T:Int→Int} {n:Nat} (e:TrAt H' A.tr T n):P39 C CR H' A { s with T:=T,tn:=n } :=
  ⟨h.la.chg c (nd_nin h.nd 0 [9] rfl rfl (by decide)) (nd_nin h.nd 1 [9] rfl rfl (by decide)) (nd_nin h.nd 2 [9] rfl rfl (by decide)) (nd_nin h.nd 3 [9] rfl rfl (by decide)),h.lk.chg c (nd_nin h.nd 3 [9] rfl rfl (by decide)),h.ra.chg c (nd_nin h.nd 4 [9] rfl rfl (by decide)) (nd_nin h.nd 5 [9] rfl rfl (by decide)),c.keep _ _ h.sd (nd_nin h.nd 6 [9] rfl rfl (by decide)),h.lo.chg c (nd_nin h.nd 7 [9] rfl rfl (by decide)),h.fa.chg c (nd_nin h.nd 8 [9] rfl rfl (by decide)),e,c.keep _ _ h.fi (nd_nin h.nd 10 [9] rfl rfl (by decide)),c.keep _ _ h.sp (nd_nin h.nd 11 [9] rfl rfl (by decide)),h.nd⟩
theorem P39.fis {C CR:Addr} {H H':Hp} {A:A39} {s:S39} (h:P39 C CR H A s) (c:Chg [A.fi] H H') {xs:List Int} (e:H' A.fi=some (.lst (xs.map V.int))):P39 C CR H' A { s with fi:=xs } :=
  ⟨h.la.chg c (nd_nin h.nd 0 [10] rfl rfl (by decide)) (nd_nin h.nd 1 [10] rfl rfl (by decide)) (nd_nin h.nd 2 [10] rfl rfl (by decide)) (nd_nin h.nd 3 [10] rfl rfl (by decide)),h.lk.chg c (nd_nin h.nd 3 [10] rfl rfl (by decide)),h.ra.chg c (nd_nin h.nd 4 [10] rfl rfl (by decide)) (nd_nin h.nd 5 [10] rfl rfl (by decide)),c.keep _ _ h.sd (nd_nin h.nd 6 [10] rfl rfl (by decide)),h.lo.chg c (nd_nin h.nd 7 [10] rfl rfl (by decide)),h.fa.chg c (nd_nin h.nd 8 [10] rfl rfl (by decide)),h.tr.chg c (nd_nin h.nd 9 [10] rfl rfl (by decide)),e,c.keep _ _ h.sp (nd_nin h.nd 11 [10] rfl rfl (by decide)),h.nd⟩
theorem P39.sps {C CR:Addr} {H H':Hp} {A:A39} {s:S39} (h:P39 C CR H A s) (c:Chg [A.sp] H H') {xs:List Int} (e:H' A.sp=some (.lst (xs.map V.int))):P39 C CR H' A { s with sp:=xs } :=
  ⟨h.la.chg c (nd_nin h.nd 0 [11] rfl rfl (by decide)) (nd_nin h.nd 1 [11] rfl rfl (by decide)) (nd_nin h.nd 2 [11] rfl rfl (by decide)) (nd_nin h.nd 3 [11] rfl rfl (by decide)),h.lk.chg c (nd_nin h.nd 3 [11] rfl rfl (by decide)),h.ra.chg c (nd_nin h.nd 4 [11] rfl rfl (by decide)) (nd_nin h.nd 5 [11] rfl rfl (by decide)),c.keep _ _ h.sd (nd_nin h.nd 6 [11] rfl rfl (by decide)),h.lo.chg c (nd_nin h.nd 7 [11] rfl rfl (by decide)),h.fa.chg c (nd_nin h.nd 8 [11] rfl rfl (by decide)),h.tr.chg c (nd_nin h.nd 9 [11] rfl rfl (by decide)),c.keep _ _ h.fi (nd_nin h.nd 10 [11] rfl rfl (by decide)),e,h.nd⟩
theorem P39.same {C CR:Addr} {H H':Hp} {A:A39} {s:S39} (h:P39 C CR H A s) (c:Same H H'):P39 C CR H' A s:=⟨h.la.same c,h.lk.same c,h.ra.same c,c _ _ h.sd,h.lo.chg (A:=[]) (Chg.of_same c) (by simp),h.fa.chg (A:=[]) (Chg.of_same c) (by simp),h.tr.chg (A:=[]) (Chg.of_same c) (by simp),c _ _ h.fi,c _ _ h.sp,h.nd⟩
structure N39 where
  st:Int
  tr:Int
  wi:Int
  tn:Int
structure G39 where
  M:LendM
  R:RowM
  fr:Int
  tu:Int
  ks:List Int
  fk:List Int
  sp:List Int
  k:Nat
def G39.s (N:N39) (g:G39):S39:=⟨g.M,g.R,N.st,g.fr,g.tu,g.ks,g.M.L,g.ks,g.M.F,g.fk,g.M.T,g.M.sz,rng N.st (N.st+g.k),g.sp⟩
structure I39 (N:N39) (g:G39):Prop where
  st:g.M.start=N.st
  tr:g.M.tries=N.tr
  wi:g.M.width=N.wi
  tn:g.M.turns=N.tn
  s0:0≤N.st
  s1:N.st≤1
  t1:1≤N.tr
  w1:1≤N.wi
  u1:1≤N.tn
  r0:g.R.first=0
  rl:∀ p,0≤p→p < g.R.last→(g.R.L p).isSome=true
  f0:0≤g.fr
  f1:g.fr≤g.R.last
  ln:g.M.lent=g.sp.length
  pl:∀ p y,g.M.L p=some y→y.1=0∨∃ i:Nat,y.1=i+1∧g.sp[i]?=some p
  T0:∀ p,0≤g.M.T p
  T1:∀ p,g.M.T p≤N.tr
  Tk:∀ p,1≤g.M.T p↔N.st≤p∧p < N.st+g.k
  kf:g.k=0∨N.st+g.k≤g.fr
  LT:∀ p y,g.M.L p=some y→1≤g.M.T p
  FT:∀ p z,g.M.F p=some z→1≤g.M.T p
  LF:∀ p y,g.M.L p=some y→g.M.F p=none
  ub:∀ p y,g.M.L p=some y→y.2.2≤g.tu+N.tn
  sz:g.M.sz≤g.sp.length+g.fk.length
  fn:g.fk.Nodup
  fm:∀ p,p∈g.fk↔(g.M.F p).isSome=true
structure W39 (C CR:Addr) (H:Hp) (A:A39) (N:N39) (g:G39):Prop where
  p:P39 C CR H A (g.s N)
  i:I39 N g
theorem W39.same {C CR:Addr} {H H':Hp} {A:A39} {N:N39} {g:G39} (h:W39 C CR H A N g) (s:Same H H'):W39 C CR H' A N g:=⟨h.p.same s,h.i⟩
def G39.fate (g:G39) (p:Int) (z:Str):G39:={ g with M:=g.M.fate p z,ks:=delK g.ks p,fk:=g.fk++[p] }
def G39.back (g:G39) (p:Int):G39:={ g with M:=g.M.back p,ks:=delK g.ks p }
def G39.lend (g:G39) (p:Int) (tk:List Nat):G39:={ g with M:=g.M.lend p tk g.tu,ks:=addK g.ks p,sp:=g.sp++[p],k:=if g.M.T p=0 then g.k+1 else g.k }
def G39.asides (g:G39) (as:List Int):G39:=as.foldl (fun g p=>g.fate p (Str.ofString "aside")) g
def G39.take (g:G39) (as:List Int) (o:Option Int) (tk:List Nat):G39:=match o with
  | none=>g.asides as
  | some p=>(g.asides as).lend p tk
theorem if_none {α:Type} {c:Prop} [Decidable c] {x:Option α} {y:α} (h:(if c then none else x)=some y):¬ c∧x=some y:=by
  by_cases e:c
  · rw [if_pos e] at h;cases h
  · rw [if_neg e] at h;exact ⟨e,h⟩
theorem I39.fate {N:N39} {g:G39} {p:Int} {z:Str} (h:I39 N g) (hF:g.M.F p=none) (hT:1≤g.M.T p):I39 N (g.fate p z):=by
  have eL:∀ q,(g.fate p z).M.L q=if q=p then none else g.M.L q:=fun q=>rfl
  have eF:∀ q,(g.fate p z).M.F q=if q=p then some z else g.M.F q:=fun q=>rfl
  refine ⟨h.st,h.tr,h.wi,h.tn,h.s0,h.s1,h.t1,h.w1,h.u1,h.r0,h.rl,h.f0,h.f1,h.ln,fun q y hy=>?_,h.T0,h.T1,h.Tk,h.kf,fun q y hy=>?_,fun q y hy=>?_,fun q y hy=>?_,fun q y hy=>?_,?_,?_,fun q=>?_⟩
  · rw [eL] at hy;exact h.pl q y (if_none hy).2
  · rw [eL] at hy;exact h.LT q y (if_none hy).2
  · rw [eF] at hy
    by_cases c:q=p
    · rw [c];exact hT
    · rw [if_neg c] at hy;exact h.FT q y hy
  · rw [eL] at hy
    obtain ⟨c,hy⟩:=if_none hy
    rw [eF,if_neg c];exact h.LF q y hy
  · rw [eL] at hy;exact h.ub q y (if_none hy).2
  · show g.M.sz+1≤g.sp.length+(g.fk++[p]).length
    have:=h.sz
    rw [List.length_append];simp;omega
  · show (g.fk++[p]).Nodup
    rw [List.nodup_append]
    refine ⟨h.fn,by simp,fun a ha b hb=>?_⟩
    simp only [List.mem_cons,List.not_mem_nil,or_false] at hb
    subst hb
    rintro rfl
    have:=(h.fm a).mp ha
    rw [hF] at this;cases this
  · show q∈g.fk++[p]↔_
    rw [eF,List.mem_append]
    by_cases c:q=p
    · rw [if_pos c];simp [c]
    · rw [if_neg c,← h.fm q];simp [c]
theorem I39.back {N:N39} {g:G39} {p:Int} (h:I39 N g):I39 N (g.back p):=by
  have eL:∀ q,(g.back p).M.L q=if q=p then none else g.M.L q:=fun q=>rfl
  refine ⟨h.st,h.tr,h.wi,h.tn,h.s0,h.s1,h.t1,h.w1,h.u1,h.r0,h.rl,h.f0,h.f1,h.ln,fun q y hy=>?_,h.T0,h.T1,h.Tk,h.kf,fun q y hy=>?_,h.FT,fun q y hy=>?_,fun q y hy=>?_,h.sz,h.fn,h.fm⟩
  · rw [eL] at hy;exact h.pl q y (if_none hy).2
  · rw [eL] at hy;exact h.LT q y (if_none hy).2
  · rw [eL] at hy;exact h.LF q y (if_none hy).2
  · rw [eL] at hy;exact h.ub q y (if_none hy).2
theorem I39.allL {N:N39} {g:G39} {φ:Loan→Option Loan} {ks:List Int} (h:I39 N g) (hφ:∀ y y',φ y=some y'→(y'.1=0∨y'=y)∧y'.2.2=y.2.2):I39 N { g with M:=g.M.allL φ,ks:=ks }:=by
  have eL:∀ q y,(g.M.allL φ).L q=some y→∃ y0,g.M.L q=some y0∧φ y0=some y:=fun q y hy=>Option.bind_eq_some_iff.mp hy
  refine ⟨h.st,h.tr,h.wi,h.tn,h.s0,h.s1,h.t1,h.w1,h.u1,h.r0,h.rl,h.f0,h.f1,h.ln,fun q y hy=>?_,h.T0,h.T1,h.Tk,h.kf,fun q y hy=>?_,h.FT,fun q y hy=>?_,fun q y hy=>?_,h.sz,h.fn,h.fm⟩
  · obtain ⟨y0,e1,e2⟩:=eL q y hy
    rcases (hφ y0 y e2).1 with z | z
    · exact .inl z
    · rw [z];exact h.pl q y0 e1
  · obtain ⟨y0,e1,e2⟩:=eL q y hy;exact h.LT q y0 e1
  · obtain ⟨y0,e1,e2⟩:=eL q y hy;exact h.LF q y0 e1
  · obtain ⟨y0,e1,e2⟩:=eL q y hy
    show y.2.2≤g.tu+N.tn
    rw [(hφ y0 y e2).2];exact h.ub q y0 e1
theorem I39.lend {N:N39} {g:G39} {p:Int} {tk:List Nat} (h:I39 N g) (hF:g.M.F p=none) (hT:g.M.T p < N.tr) (h0:N.st≤p) (h1:p < g.fr) (hk:g.M.T p=0→p=N.st+g.k):I39 N (g.lend p tk):=by
  have eL:∀ q,(g.lend p tk).M.L q=if q=p then some (g.M.lent+1,tk,g.tu+g.M.turns) else g.M.L q:=fun q=>rfl
  have eT:∀ q,(g.lend p tk).M.T q=if q=p then g.M.T p+1 else g.M.T q:=fun q=>rfl
  have up:∀ q,g.M.T q≤(g.lend p tk).M.T q:=fun q=>by
    rw [eT]
    by_cases c:q=p
    · rw [if_pos c,c];omega
    · rw [if_neg c];exact Int.le_refl _
  refine ⟨h.st,h.tr,h.wi,h.tn,h.s0,h.s1,h.t1,h.w1,h.u1,h.r0,h.rl,h.f0,h.f1,?_,fun q y hy=>?_,fun q=>Int.le_trans (h.T0 q) (up q),fun q=>?_,fun q=>?_,?_,fun q y hy=>?_,fun q y hy=>Int.le_trans (h.FT q y hy) (up q),fun q y hy=>?_,fun q y hy=>?_,?_,h.fn,h.fm⟩
  · show g.M.lent+1=((g.sp++[p]).length:Int)
    rw [h.ln,List.length_append];rfl
  · show y.1=0∨∃ i:Nat,y.1=i+1∧(g.sp++[p])[i]?=some q
    rw [eL] at hy
    by_cases c:q=p
    · rw [if_pos c] at hy
      cases hy
      exact .inr ⟨g.sp.length,by show g.M.lent+1=_;rw [h.ln],by rw [List.getElem?_append_right (Nat.le_refl _),Nat.sub_self,c];rfl⟩
    · rw [if_neg c] at hy
      rcases h.pl q y hy with z | ⟨i,z1,z2⟩
      · exact .inl z
      · exact .inr ⟨i,z1,by rw [List.getElem?_append_left (List.getElem?_eq_some_iff.mp z2).1];exact z2⟩
  · rw [eT]
    by_cases c:q=p
    · rw [if_pos c];omega
    · rw [if_neg c];exact h.T1 q
  · show 1≤(g.lend p tk).M.T q↔N.st≤q∧q < N.st+((if g.M.T p=0 then g.k+1 else g.k:Nat):Int)
    rw [eT]
    have a:=h.T0 p
    by_cases c:q=p
    · rw [if_pos c,c]
      by_cases z:g.M.T p=0
      · rw [if_pos z]
        have:=hk z
        constructor
        · intro _;omega
        · intro _;omega
      · rw [if_neg z]
        have:=(h.Tk p).mp (by omega)
        constructor
        · intro _;exact this
        · intro _;omega
    · rw [if_neg c,h.Tk q]
      by_cases z:g.M.T p=0
      · rw [if_pos z]
        have:=hk z
        constructor
        · rintro ⟨a,b⟩;omega
        · rintro ⟨a,b⟩;omega
      · rw [if_neg z]
  · show (if g.M.T p=0 then g.k+1 else g.k:Nat)=0∨N.st+((if g.M.T p=0 then g.k+1 else g.k:Nat):Int)≤g.fr
    by_cases z:g.M.T p=0
    · rw [if_pos z];have:=hk z;exact .inr (by omega)
    · rw [if_neg z];exact h.kf
  · rw [eL] at hy
    rw [eT]
    have a:=h.T0 p
    by_cases c:q=p
    · rw [if_pos c];omega
    · rw [if_neg c] at hy ⊢;exact h.LT q y hy
  · rw [eL] at hy
    by_cases c:q=p
    · show g.M.F q=none
      rw [c];exact hF
    · rw [if_neg c] at hy;exact h.LF q y hy
  · rw [eL] at hy
    show y.2.2≤g.tu+N.tn
    by_cases c:q=p
    · rw [if_pos c] at hy
      cases hy
      show g.tu+g.M.turns≤g.tu+N.tn
      rw [h.tn];exact Int.le_refl _
    · rw [if_neg c] at hy;exact h.ub q y hy
  · show g.M.sz+1≤(g.sp++[p]).length+g.fk.length
    have:=h.sz
    rw [List.length_append];simp;omega
theorem I39.front {N:N39} {g:G39} {x:Int} (h:I39 N g) (h1:g.fr≤x) (h2:x≤g.R.last):I39 N { g with fr:=x } :=
  ⟨h.st,h.tr,h.wi,h.tn,h.s0,h.s1,h.t1,h.w1,h.u1,h.r0,h.rl,Int.le_trans h.f0 h1,h2,h.ln,h.pl,h.T0,h.T1,h.Tk,h.kf.imp id fun z=>Int.le_trans z h1,h.LT,h.FT,h.LF,h.ub,h.sz,h.fn,h.fm⟩
theorem I39.turn {N:N39} {g:G39} {x:Int} (h:I39 N g) (h1:g.tu≤x):I39 N { g with tu:=x } :=
  ⟨h.st,h.tr,h.wi,h.tn,h.s0,h.s1,h.t1,h.w1,h.u1,h.r0,h.rl,h.f0,h.f1,h.ln,h.pl,h.T0,h.T1,h.Tk,h.kf,h.LT,h.FT,h.LF,fun q y hy=>by have:=h.ub q y hy;show y.2.2≤x+N.tn;omega,h.sz,h.fn,h.fm⟩
theorem I39.add {N:N39} {g:G39} {x:Ltr} (h:I39 N g):I39 N { g with R:=g.R.add x } :=
  ⟨h.st,h.tr,h.wi,h.tn,h.s0,h.s1,h.t1,h.w1,h.u1,h.r0,fun p h0 hp=>by
    show (if p=g.R.last then some x else g.R.L p).isSome=true
    by_cases c:p=g.R.last
    · rw [if_pos c];rfl
    · rw [if_neg c]
      have hp':p < g.R.last+1:=hp
      exact h.rl p h0 (by omega),h.f0,by have:=h.f1;show g.fr≤g.R.last+1;omega,h.ln,h.pl,h.T0,h.T1,h.Tk,h.kf,h.LT,h.FT,h.LF,h.ub,h.sz,h.fn,h.fm⟩
theorem dueS_acc (M:LendM) (turn:Int):∀ (l acc:List Int),l.foldl (dueS M turn) (acc,none)=(acc++(dueG M turn l).1,(dueG M turn l).2)
  | [],acc=>by unfold dueG;simp
  | p::r,acc=>by
    unfold dueG
    rw [List.foldl_cons,List.foldl_cons]
    by_cases c:M.isLent p turn=true
    · have e:∀ acc:List Int,dueS M turn (acc,none) p=(acc,none):=fun acc=>by unfold dueS;rw [if_pos c]
      rw [e,e,dueS_acc M turn r acc,dueS_acc M turn r []]
      simp
    · by_cases d:M.T p < M.tries
      · have e:∀ acc:List Int,dueS M turn (acc,none) p=(acc,some p):=fun acc=>by unfold dueS;rw [if_neg c,if_pos d]
        rw [e,e,dueS_done,dueS_done]
        simp
      · have e:∀ acc:List Int,dueS M turn (acc,none) p=(acc++[p],none):=fun acc=>by unfold dueS;rw [if_neg c,if_neg d]
        rw [e,e,dueS_acc M turn r (acc++[p]),dueS_acc M turn r ([]++[p])]
        simp
theorem dueG_cons (M:LendM) (turn p:Int) (r:List Int):dueG M turn (p::r)=if M.isLent p turn=true then dueG M turn r else if M.T p < M.tries then ([],some p) else (p::(dueG M turn r).1,(dueG M turn r).2):=by
  conv=>lhs;unfold dueG
  rw [List.foldl_cons]
  by_cases c:M.isLent p turn=true
  · rw [if_pos c,show dueS M turn ([],none) p=([],none) by unfold dueS;rw [if_pos c],dueS_acc];simp
  · rw [if_neg c]
    by_cases d:M.T p < M.tries
    · rw [if_pos d,show dueS M turn ([],none) p=([],some p) by unfold dueS;rw [if_neg c,if_pos d],dueS_done]
    · rw [if_neg d,show dueS M turn ([],none) p=([p],none) by unfold dueS;rw [if_neg c,if_neg d];rfl,dueS_acc];simp
theorem dueG_du (M:LendM) (turn:Int):∀ l:List Int,l.Pairwise (· < ·)→(∀ x∈(dueG M turn l).1,x∈l∧M.isLent x turn=false∧M.tries≤M.T x)∧(dueG M turn l).1.Pairwise (· < ·) ∧
    (∀ p,(dueG M turn l).2=some p→p∈l∧M.isLent p turn=false∧M.T p < M.tries∧∀ x∈(dueG M turn l).1,x < p)∧(∀ x∈l,(∀ p,(dueG M turn l).2=some p→x < p)→x∈(dueG M turn l).1∨M.isLent x turn=true)
  | [],_=>⟨fun x h=>(by cases h),List.Pairwise.nil,fun p h=>(by cases h),fun x h=>(by cases h)⟩
  | p::r,h=>by
    rw [List.pairwise_cons] at h
    obtain ⟨i1,i2,i3,i4⟩:=dueG_du M turn r h.2
    rw [dueG_cons]
    by_cases c:M.isLent p turn=true
    · rw [if_pos c]
      refine ⟨fun x hx=>⟨List.mem_cons_of_mem _ (i1 x hx).1,(i1 x hx).2⟩,i2,fun x hx=>⟨List.mem_cons_of_mem _ (i3 x hx).1,(i3 x hx).2⟩,fun x hx hq=>?_⟩
      rcases List.mem_cons.mp hx with rfl | hx
      · exact .inr c
      · exact i4 x hx hq
    · rw [if_neg c]
      by_cases d:M.T p < M.tries
      · rw [if_pos d]
        refine ⟨fun x hx=>(by cases hx),List.Pairwise.nil,fun x hx=>?_,fun x hx hq=>?_⟩
        · cases hx
          exact ⟨List.mem_cons_self,by simpa using c,d,fun x hx=>(by cases hx)⟩
        · have:=hq p rfl
          rcases List.mem_cons.mp hx with rfl | hx
          · omega
          · have:=h.1 x hx;omega
      · rw [if_neg d]
        refine ⟨fun x hx=>?_,List.pairwise_cons.mpr ⟨fun x hx=>h.1 x (i1 x hx).1,i2⟩,fun x hx=>?_,fun x hx hq=>?_⟩
        · rcases List.mem_cons.mp hx with rfl | hx
          · exact ⟨List.mem_cons_self,by simpa using c,by omega⟩
          · exact ⟨List.mem_cons_of_mem _ (i1 x hx).1,(i1 x hx).2⟩
        · obtain ⟨a,b,e,f⟩:=i3 x hx
          refine ⟨List.mem_cons_of_mem _ a,b,e,fun y hy=>?_⟩
          rcases List.mem_cons.mp hy with rfl | hy
          · exact h.1 x a
          · exact f y hy
        · rcases List.mem_cons.mp hx with rfl | hx
          · exact .inl List.mem_cons_self
          · exact (i4 x hx hq).imp (List.mem_cons_of_mem _) id
theorem pwf39 {N:N39} {g:G39} (h:I39 N g):pwf g.M g.R g.fr=(rng N.st g.fr).filter fun p=>(g.M.F p).isNone:=by
  unfold pwf RowM.seenP RowM.standing
  have s0:=h.s0
  have f1:=h.f1
  rw [h.r0,h.st,Int.max_eq_left h.s0,Int.min_eq_left h.f1]
  congr 1
  have e1:((List.range (g.fr - N.st).toNat).map fun (i:Nat)=>N.st+(i:Int))=rng N.st g.fr:=rfl
  rw [e1]
  have e2:(rng N.st g.fr).filter (fun q=>(g.R.L q).isSome)=rng N.st g.fr:=List.filter_eq_self.mpr fun p hp=>by
    have hp':=mem_rng.mp hp
    exact h.rl p (by omega) (by omega)
  rw [e2]
  refine List.take_of_length_le ?_
  rw [rng_len]
  omega
structure Du39 (N:N39) (g:G39) (as:List Int) (o:Option Int):Prop where
  ha:∀ p∈as,N.st≤p∧p < g.fr∧g.M.F p=none∧g.M.isLent p g.tu=false∧N.tr≤g.M.T p
  asc:as.Pairwise (· < ·)
  ho:∀ p,o=some p→N.st≤p∧p < g.fr∧g.M.F p=none∧g.M.isLent p g.tu=false∧g.M.T p < N.tr∧∀ x∈as,x < p
  al:N.wi≤((runL g.M g.tu g.ks).length:Int)∧as=[]∧o=none∨((runL g.M g.tu g.ks).length:Int) < N.wi∧∀ p,N.st≤p→p < o.getD g.fr→(g.M.F p).isSome=true∨p∈as∨g.M.isLent p g.tu=true
theorem I39.due {N:N39} {g:G39} (h:I39 N g):Du39 N g (due33 g.M g.R g.fr g.tu g.ks).1 (due33 g.M g.R g.fr g.tu g.ks).2:=by
  unfold due33
  rw [h.wi]
  by_cases c:((runL g.M g.tu g.ks).length:Int) < N.wi
  · rw [if_pos c,pwf39 h]
    obtain ⟨i1,i2,i3,i4⟩:=dueG_du g.M g.tu ((rng N.st g.fr).filter fun p=>(g.M.F p).isNone) ((rng_sorted N.st g.fr).filter _)
    have mm:∀ x,x∈(rng N.st g.fr).filter (fun p=>(g.M.F p).isNone)↔(N.st≤x∧x < g.fr)∧g.M.F x=none:=fun x=>by
      rw [List.mem_filter,mem_rng];simp
    refine ⟨fun p hp=>?_,i2,fun p hp=>?_,.inr ⟨c,fun p h0 h1=>?_⟩⟩
    · obtain ⟨a,b,e⟩:=i1 p hp
      obtain ⟨a1,a2⟩:=(mm p).mp a
      exact ⟨a1.1,a1.2,a2,b,by rw [← h.tr];exact e⟩
    · obtain ⟨a,b,e,f⟩:=i3 p hp
      obtain ⟨a1,a2⟩:=(mm p).mp a
      exact ⟨a1.1,a1.2,a2,b,by rw [← h.tr];exact e,f⟩
    · cases hf:g.M.F p with
      | some z=>exact .inl rfl
      | none =>
        refine .inr (i4 p ((mm p).mpr ⟨⟨h0,?_⟩,hf⟩) fun x hx=>?_)
        · cases e:(dueG g.M g.tu ((rng N.st g.fr).filter fun p=>(g.M.F p).isNone)).2 with
          | none=>rw [e] at h1;exact h1
          | some x =>
            rw [e] at h1
            have h1:p < x:=h1
            have:=((mm x).mp (i3 x e).1).1.2
            omega
        · rw [hx] at h1;exact h1
  · rw [if_neg c]
    exact ⟨fun p hp=>(by cases hp),List.Pairwise.nil,fun p hp=>(by cases hp),.inl ⟨by omega,rfl,rfl⟩⟩
theorem asides_snoc (g:G39) (as:List Int) (p:Int):g.asides (as++[p])=(g.asides as).fate p (Str.ofString "aside"):=by unfold G39.asides;rw [List.foldl_append];rfl
structure Asd (g g':G39) (as:List Int):Prop where
  F:∀ q,g'.M.F q=if q∈as then some (Str.ofString "aside") else g.M.F q
  L:∀ q,g'.M.L q=if q∈as then none else g.M.L q
  T:∀ q,g'.M.T q=g.M.T q
  R:g'.R=g.R
  fr:g'.fr=g.fr
  tu:g'.tu=g.tu
  fk:g'.fk=g.fk++as
  sp:g'.sp=g.sp
  k:g'.k=g.k
  tn:g'.M.turns=g.M.turns
  ln:g'.M.lent=g.M.lent
theorem Asd.snoc {g g':G39} {as:List Int} (h:Asd g g' as) (p:Int):Asd g (g'.fate p (Str.ofString "aside")) (as++[p]):=by
  refine ⟨fun q=>?_,fun q=>?_,h.T,h.R,h.fr,h.tu,?_,h.sp,h.k,h.tn,h.ln⟩
  · show (if q=p then some (Str.ofString "aside") else g'.M.F q)=_
    rw [h.F]
    by_cases c:q=p
    · rw [if_pos c,if_pos (by simp [c])]
    · rw [if_neg c];simp [c]
  · show (if q=p then none else g'.M.L q)=_
    rw [h.L]
    by_cases c:q=p
    · rw [if_pos c,if_pos (by simp [c])]
    · rw [if_neg c];simp [c]
  · show g'.fk++[p]=_
    rw [h.fk,List.append_assoc]
theorem asd0 (g:G39):Asd g g []:=⟨fun q=>by simp,fun q=>by simp,fun _=>rfl,rfl,rfl,rfl,by simp,rfl,rfl,rfl,rfl⟩
theorem Du39.next {N:N39} {g g':G39} {as:List Int} {p:Int} (d:Du39 N g as (some p)) (i:I39 N g) (h0:g.M.T p=0):p=N.st+g.k:=by
  obtain ⟨a,b,_,_,_,_⟩:=d.ho p rfl
  have hp:¬ (N.st≤p∧p < N.st+g.k):=fun z=>by have:=(i.Tk p).mpr z;omega
  rcases d.al with ⟨_,_,z⟩ | ⟨_,al⟩
  · cases z
  · rcases Int.lt_or_le (N.st+g.k) p with c | c
    · exfalso
      have hn:¬ 1≤g.M.T (N.st+g.k):=fun z=>by have:=(i.Tk _).mp z;omega
      rcases al (N.st+g.k) (by omega) c with z | z | z
      · obtain ⟨y,hy⟩:=Option.isSome_iff_exists.mp z
        exact hn (i.FT _ y hy)
      · have:=(d.ha _ z).2.2.2.2
        have:=i.t1
        omega
      · unfold LendM.isLent at z
        cases e:g.M.L (N.st+g.k) with
        | none=>rw [e] at z;cases z
        | some y=>exact hn (i.LT _ y e)
    · omega
theorem nd_len:∀ (n:Nat) (a:Int) (l:List Int),l.Nodup→(∀ p∈l,a≤p∧p < a+n)→l.length≤n
  | 0,a,l,_,h=>by
    cases l with
    | nil=>exact Nat.le_refl _
    | cons x r=>have:=h x List.mem_cons_self;omega
  | n+1,a,l,nd,h=>by
    have ih:=nd_len n a (delK l (a+n)) (nd.sublist List.filter_sublist) fun p hp=>by
      obtain ⟨h1,h2⟩:=List.mem_filter.mp hp
      have:=h p h1
      have h3:p≠a+n:=of_decide_eq_true h2
      omega
    have:∀ (l:List Int) (x:Int),l.Nodup→l.length≤(delK l x).length+1:=by
      intro l x
      induction l with
      | nil=>intro _;exact Nat.zero_le _
      | cons y r ih =>
        intro nd
        rw [List.nodup_cons] at nd
        have:=ih nd.2
        unfold delK at this ⊢
        by_cases c:y=x
        · subst c
          rw [List.filter_cons_of_neg (by simp)]
          have e:delK r y=r:=delK_none nd.1
          unfold delK at e
          rw [e];exact Nat.le_refl _
        · rw [List.filter_cons_of_pos (by simp [c]),List.length_cons,List.length_cons];omega
    have:=this l (a+n) nd
    omega
theorem I39.fkl {N:N39} {g:G39} (h:I39 N g):g.fk.length≤g.k:=nd_len g.k N.st g.fk h.fn fun p hp=>by
  obtain ⟨z,hz⟩:=Option.isSome_iff_exists.mp ((h.fm p).mp hp)
  exact (h.Tk p).mp (h.FT p z hz)
theorem I39.kle {N:N39} {g:G39} (h:I39 N g):(g.k:Int)≤g.R.last:=by
  have:=h.s0
  have:=h.f1
  have:=h.f0
  rcases h.kf with z | z<;>omega
theorem W39.szb {C CR:Addr} {H:Hp} {A:A39} {N:N39} {g:G39} (h:W39 C CR H A N g) (h1:g.sp.length≤400) (h2:g.R.last≤160):g.M.sz≤560∧g.ks.length≤560∧g.fk.length≤160:=by
  have a:=h.i.fkl
  have b:=h.i.kle
  have c:=h.i.sz
  have d:=(lks_mem h.p.la h.p.lk).2
  have d:g.ks.length≤g.M.sz:=d
  omega
def lentL (L:Int→Option Loan) (p tu:Int):Bool:=match L p with
  | some x=>decide (tu < x.2.2)
  | none=>false
def numV (N:N39):List V:=[.int N.tr,.int N.wi,.int N.tn]
def Ans39 (g:G39) (n:Int) (bk:Bool) (g':G39):Prop:=(g'=g∧∀ q y,g.M.L q=some y→¬ (y.1=n∧1≤n∧g.tu < y.2.2))∨∃ p y,g.M.L p=some y∧y.1=n∧1≤n∧g.tu < y.2.2∧g'=if bk=true then g.back p else g.fate p (Str.ofString "answered")
structure Gn39 (g g':G39):Prop where
  R:g'.R=g.R
  fr:g'.fr=g.fr
  tu:g'.tu=g.tu
  fk:g'.fk=g.fk
  sp:g'.sp=g.sp
  k:g'.k=g.k
structure Cn39 (g:G39) (a b:Nat):Prop where
  r:g.R.last≤3 * (a:Int)
  k:g.k≤b
  s:g.sp.length≤b
structure Fin39 (N:N39) (g:G39):Prop where
  fr:g.fr=g.R.last
  F:∀ p,N.st≤p→p < g.R.last→(g.M.F p).isSome=true
  fk:g.fk.length < 64∨Rise32 g.fk
  r:g.R.last≤160
def sp_runs39:Sp:=fun vs H Q _=>∃ (sd lo fa tr fi sp:Addr) (st fr tu p:Int) (L:Int→Option Loan) (kvs:List (Key×V)),vs=[.ref sd,.int p]∧H sd=some (.dK (stK st fr tu lo fa tr fi sp))∧Rd H lo (.dK kvs)∧(∀ q:Int,LoanO H (L q) (valV kvs (.inl q)))∧Q (.bl (lentL L p tu)) H
def sp_open39 (C CR:Addr):Sp:=fun vs H Q _=>∃ (A:A39) (N:N39) (g:G39) (p:Int),vs=[.ref A.r,.ref A.sd,.int p]∧W39 C CR H A N g∧N.st≤p∧p < g.fr∧g.M.F p=none∧g.M.isLent p g.tu=false∧Q (.bl true) H
def sp_good39 (C CR:Addr):Sp:=fun vs H Q _=>∃ (A:A39) (N:N39) (g:G39) (u B nb:Addr) (as:List Int) (o:Option Int),vs=[.ref A.r,.ref A.sd,.ref u,.ref nb]∧W39 C CR H A N g∧H nb=some (.tup (numV N))∧H u=some (.tup [.ref B,oV o])∧H B=some (.lst (as.map V.int))∧Du39 N g as o∧g.ks.length≤1000∧g.fr≤1000∧∀ H',Same H H'→Q (.bl true) H'
def sp_take39 (C CR:Addr):Sp:=fun vs H Q _=>∃ (A:A39) (N:N39) (g:G39) (tk:List Nat) (nb:Addr),vs=[.ref A.r,.ref A.rw,.ref A.sd,.str (S tk),.ref nb]∧W39 C CR H A N g∧H nb=some (.tup (numV N))∧g.sp.length≤400∧g.R.last≤160 ∧
  ∀ as o H',Du39 N g as o→Chg A.all H H'→W39 C CR H' A N (g.take as o tk)→Q (.bl true) H'
def sp_found39 (C:Addr):Sp:=fun vs H Q _=>∃ (r f t l:Addr) (M:LendM) (n turn:Int),vs=[.ref r,.int n,.int turn]∧LendAt C H r f t l M ∧
  ((∃ p x,M.L p=some x∧x.1=n∧1≤n∧turn < x.2.2∧(∀ q y,M.L q=some y→y.1=n→q=p)∧∀ H',Same H H'→Q (.int p) H')∨((∀ q y,M.L q=some y→¬ (y.1=n∧1≤n∧turn < y.2.2))∧∀ H',Same H H'→Q .non H'))
def sp_answer39 (C CR:Addr):Sp:=fun vs H Q _=>∃ (A:A39) (N:N39) (g:G39) (n:Int) (bk:Bool),vs=[.ref A.r,.ref A.sd,.int n,.bl bk]∧W39 C CR H A N g∧g.sp.length≤400∧g.R.last≤160 ∧
  ∀ g' H',Ans39 g n bk g'→Chg A.all H H'→W39 C CR H' A N g'→Q (.bl true) H'
def sp_gone39 (C CR:Addr):Sp:=fun vs H Q _=>∃ (A:A39) (N:N39) (g:G39) (v:V),vs=[.ref A.r,.ref A.sd,v]∧(v=.non∨∃ tk:List Nat,v=.str (S tk))∧W39 C CR H A N g∧g.sp.length≤400∧g.R.last≤160 ∧
  ∀ g' H',Gn39 g g'→Chg A.all H H'→W39 C CR H' A N g'→Q (.bl true) H'
def sp_deed39 (C CR:Addr):Sp:=fun vs H Q _=>∃ (A:A39) (N:N39) (g:G39) (c:Int) (nl nb:Addr) (n0 n1 n2:List Nat) (a b:Nat),vs=[.ref A.r,.ref A.rw,.ref A.sd,.int c,.ref nl,.ref nb]∧0≤c∧W39 C CR H A N g∧H nl=some (.lst [.str (S n0),.str (S n1),.str (S n2)])∧nl∉A.all∧H nb=some (.tup (numV N))∧Cn39 g a b∧a+b≤50 ∧
  ∀ g' a' b' H',Cn39 g' a' b'→a'+b'≤a+b+1→Chg A.all H H'→W39 C CR H' A N g'→Q (.bl true) H'
def sp_end39 (C CR:Addr):Sp:=fun vs H Q _=>∃ (A:A39) (N:N39) (g:G39) (tk:List Nat) (nb:Addr) (a b:Nat),vs=[.ref A.r,.ref A.rw,.ref A.sd,.str (S tk),.ref nb]∧W39 C CR H A N g∧H nb=some (.tup (numV N))∧Cn39 g a b∧a+b≤50 ∧
  ∀ g' H',Fin39 N g'→Chg A.all H H'→W39 C CR H' A N g'→Q (.bl true) H'
def upK (L:Int→Option Loan) (φ:Loan→Option Loan) (dn ks:List Int):List Int:=ks.filter fun q=>!(decide (q∈dn) && ((L q).bind φ).isNone)
theorem upK_nil (L:Int→Option Loan) (φ:Loan→Option Loan) (ks:List Int):upK L φ [] ks=ks:=List.filter_eq_self.mpr fun q _=>by simp
theorem upK_drop {L:Int→Option Loan} {φ:Loan→Option Loan} {dn ks:List Int} {p:Int} (h:(L p).bind φ=none):upK L φ (dn++[p]) ks=delK (upK L φ dn ks) p:=by
  unfold upK delK
  rw [List.filter_filter]
  refine List.filter_congr fun q _=>?_
  by_cases c:q=p
  · subst c;simp [h]
  · simp [c]
theorem upK_keep {L:Int→Option Loan} {φ:Loan→Option Loan} {dn ks:List Int} {p:Int} {y:Loan} (h:(L p).bind φ=some y):upK L φ (dn++[p]) ks=upK L φ dn ks:=by
  unfold upK
  refine List.filter_congr fun q _=>?_
  by_cases c:q=p
  · subst c;simp [h]
  · simp [c]
def sp_letgo39 (C:Addr):Sp:=fun vs H Q _=>∃ (r f t l:Addr) (M:LendM) (tk:List Nat) (ks:List Int),vs=[.ref r,.str (S tk)]∧LendAt C H r f t l M∧LKs H l ks∧M.sz≤1000∧∀ H',Chg [l] H H'→LendAt C H' r f t l (M.allL (goY tk))→LKs H' l (upK M.L (goY tk) ks ks)→Q .non H'
def markN39 (M:LendM) (R:RowM) (fr:Int):Int:=match pwf M R fr with
  | []=>max fr M.start
  | p::_=>p
def sp_mark39 (C CR:Addr):Sp:=fun vs H Q _=>∃ (r f t l:Addr) (M:LendM) (row d:Addr) (R:RowM) (fr:Int),vs=[.ref r,.ref row,.int fr]∧LendAt C H r f t l M∧RowAt CR H row d R∧R.last≤1000∧0≤M.start∧M.start≤1000∧0≤fr ∧
  ∀ H',Same H H'→Q (.int (markN39 M R fr)) H'
def sp_namesN:Sp:=fun vs H Q _=>∃ (c o m:Int),vs=[.int c,.int o,.int m]∧0≤c∧0≤o∧0≤m∧m≤36∧∀ D H' (ns:List (List Nat)),H D=none→Same H H'→(ns.length:Int)=m→(∀ l∈ns,l.length≤12)→H' D=some (.lst (ns.map fun l=>V.str (S l)))→Q (.ref D) H'
theorem P39.tle {C CR:Addr} {H:Hp} {A:A39} {s:S39} {n:Nat} (h:P39 C CR H A s) (l:s.tn≤n):P39 C CR H A { s with tn:=n }:=⟨h.la,h.lk,h.ra,h.sd,h.lo,h.fa,h.tr.le l,h.fi,h.sp,h.nd⟩
theorem P39.nin {C CR:Addr} {H:Hp} {A:A39} {s:S39} {b:Addr} (h:P39 C CR H A s) (hb:H b=none):b∉A.all:=by
  obtain ⟨_,a1⟩:=h.la.obj
  obtain ⟨_,a2,_⟩:=h.la.fat
  obtain ⟨_,a3,_⟩:=h.la.tri
  obtain ⟨_,a4,_⟩:=h.la.loa
  obtain ⟨_,a5⟩:=h.ra.obj
  obtain ⟨_,a6,_⟩:=h.ra.dict
  obtain ⟨_,a8,_⟩:=h.lo
  obtain ⟨_,a9,_⟩:=h.fa
  obtain ⟨_,a10,_⟩:=h.tr
  unfold A39.all
  simp only [List.mem_cons,List.not_mem_nil,or_false,not_or]
  exact ⟨Ne.symm (ne_of_none a1 hb),Ne.symm (ne_of_none a2 hb),Ne.symm (ne_of_none a3 hb),Ne.symm (ne_of_none a4 hb),Ne.symm (ne_of_none a5 hb),Ne.symm (ne_of_none a6 hb),Ne.symm (ne_of_none h.sd hb),Ne.symm (ne_of_none a8 hb),Ne.symm (ne_of_none a9 hb),Ne.symm (ne_of_none a10 hb),Ne.symm (ne_of_none h.fi hb),Ne.symm (ne_of_none h.sp hb)⟩
theorem W39.fate {C CR:Addr} {H H1 H2 H3:Hp} {A:A39} {N:N39} {g:G39} {p:Int} {z:Str} (W:W39 C CR H A N g) (hF:g.M.F p=none) (hT:1≤g.M.T p) (c1:Chg [A.f,A.l] H H1) (L1:LendAt C H1 A.r A.f A.t A.l (g.M.fate p z)) (K1:LKs H1 A.l (delK g.ks p))
    (c2:Chg [A.fa] H1 H2) (F2:FtAt H2 A.fa (fun q=>if q=p then some z else g.M.F q) (g.fk++[p])) (c3:Chg [A.lo] H2 H3) (L3:LoAt H3 A.lo (fun q=>if q=p then none else g.M.L q) (delK g.ks p)):W39 C CR H3 A N (g.fate p z)∧Chg A.all H H3 :=
  ⟨⟨(((W.p.lnd1 c1 L1 K1).fas c2 F2).los c3 L3).tle (n:=g.M.sz+1) (Nat.le_succ _),W.i.fate hF hT⟩,(c1.mono (by simp [A39.all])).trans ((c2.mono (by simp [A39.all])).trans (c3.mono (by simp [A39.all])))⟩
theorem W39.back {C CR:Addr} {H H1 H2:Hp} {A:A39} {N:N39} {g:G39} {p:Int} (W:W39 C CR H A N g) (c1:Chg [A.l] H H1) (L1:LendAt C H1 A.r A.f A.t A.l (g.M.back p)) (K1:LKs H1 A.l (delK g.ks p))
    (c2:Chg [A.lo] H1 H2) (L2:LoAt H2 A.lo (fun q=>if q=p then none else g.M.L q) (delK g.ks p)):W39 C CR H2 A N (g.back p)∧Chg A.all H H2 :=
  ⟨⟨(W.p.lnd3 c1 L1 K1).los c2 L2,W.i.back⟩,(c1.mono (by simp [A39.all])).trans (c2.mono (by simp [A39.all]))⟩
end L2

set_option Elab.async false
set_option linter.all false
set_option maxRecDepth 100000
set_option maxHeartbeats 4000000
namespace L2
open PySem PySem.Spec PyProof.Rows
theorem asd_fold (g:G39):∀ (as pre:List Int) (g':G39),Asd g g' pre→Asd g (as.foldl (fun g p=>g.fate p (Str.ofString "aside")) g') (pre++as)
  | [],pre,g',h=>by rw [List.append_nil];exact h
  | p::r,pre,g',h=>by
    rw [List.foldl_cons,show pre++p::r=(pre++[p])++r by simp]
    exact asd_fold g r (pre++[p]) _ (h.snoc p)
theorem asd_all (g:G39) (as:List Int):Asd g (g.asides as) as:=by
  have:=asd_fold g as [] g (asd0 g)
  rw [List.nil_append] at this
  exact this
structure Tk39 (g g':G39):Prop where
  R:g'.R=g.R
  fr:g'.fr=g.fr
  tu:g'.tu=g.tu
  k:g'.k≤g.k+1
  sp:g'.sp.length≤g.sp.length+1
theorem take_tk (g:G39) (as:List Int) (o:Option Int) (tk:List Nat):Tk39 g (g.take as o tk):=by
  have A:=asd_all g as
  cases o with
  | none=>exact ⟨A.R,A.fr,A.tu,by show (g.asides as).k≤_;rw [A.k];omega,by show (g.asides as).sp.length≤_;rw [A.sp];omega⟩
  | some p =>
    refine ⟨A.R,A.fr,A.tu,?_,?_⟩
    · show (if (g.asides as).M.T p=0 then (g.asides as).k+1 else (g.asides as).k)≤_
      rw [A.k]
      split<;>omega
    · show ((g.asides as).sp++[p]).length≤_
      rw [A.sp,List.length_append]
      exact Nat.le_refl _
theorem ans_gn {g g':G39} {n:Int} {bk:Bool} (h:Ans39 g n bk g'):g'.R=g.R∧g'.fr=g.fr∧g'.tu=g.tu∧g'.k=g.k∧g'.sp=g.sp:=by
  rcases h with ⟨rfl,_⟩ | ⟨p,y,_,_,_,_,rfl⟩
  · exact ⟨rfl,rfl,rfl,rfl,rfl⟩
  · split<;>exact ⟨rfl,rfl,rfl,rfl,rfl⟩
structure E39 (N:N39) (g:G39) (fk0 gl:List Int) (q:Int) (j:Nat):Prop where
  fk:g.fk=fk0++gl
  asc:gl.Pairwise (· < ·)
  lq:∀ p∈gl,p < q
  dn:∀ p,N.st≤p→p < q→(g.M.F p).isSome=true
  nl:∀ p y,g.M.L p=some y→y.2.2≤g.tu
  jq:N.st+j≤q∨g.R.last≤q
  fr:g.fr=g.R.last
theorem E39.round {N:N39} {g g':G39} {fk0 gl as:List Int} {q:Int} {j:Nat} {o:Option Int} {tk:List Nat} (E:E39 N g fk0 gl q j) (i:I39 N g) (D:Du39 N g as o) (hA:Ans39 (g.take as o tk) ((g.take as o tk).sp.length:Int) false g') :
    ∃ gl' q',E39 N g' fk0 gl' q' (j+1):=by
  have run0:∀ p,g.M.isLent p g.tu=false:=fun p=>by
    unfold LendM.isLent
    cases e:g.M.L p with
    | none=>rfl
    | some y=>exact decide_eq_false (by have:=E.nl p y e;omega)
  have hall:∀ p,N.st≤p→p < o.getD g.fr→(g.M.F p).isSome=true∨p∈as:=fun p h0 h1=>by
    rcases D.al with ⟨z,_,_⟩ | ⟨_,al⟩
    · exfalso
      have e:runL g.M g.tu g.ks=[]:=List.filter_eq_nil_iff.mpr fun p _=>by rw [run0 p];exact Bool.false_ne_true
      rw [e] at z
      have:=i.w1
      simp at z
      omega
    · rcases al p h0 h1 with z | z | z
      · exact .inl z
      · exact .inr z
      · rw [run0 p] at z;cases z
  have new:∀ p,N.st≤p→g.M.F p=none→q≤p:=fun p h0 hF=>by
    rcases Int.lt_or_le p q with c | c
    · have:=E.dn p h0 c
      rw [hF] at this;cases this
    · exact c
  have A:=asd_all g as
  have fA:∀ p,(g.M.F p).isSome=true∨p∈as→((g.asides as).M.F p).isSome=true:=fun p h=>by
    rw [A.F]
    by_cases c:p∈as
    · rw [if_pos c];rfl
    · rw [if_neg c];exact h.resolve_right c
  have lA:∀ p y,(g.asides as).M.L p=some y→y.2.2≤g.tu:=fun p y h=>by
    rw [A.L] at h
    exact E.nl p y (if_none h).2
  have ascA:(gl++as).Pairwise (· < ·):=by
    rw [List.pairwise_append]
    refine ⟨E.asc,D.asc,fun x hx y hy=>?_⟩
    have a:=E.lq x hx
    obtain ⟨b1,_,b3,_,_⟩:=D.ha y hy
    have:=new y b1 b3
    omega
  have efr:=E.fr
  cases o with
  | none =>
    have eg:g'=g.asides as:=by
      rcases hA with ⟨e,_⟩ | ⟨p,y,h1,_,_,h4,_⟩
      · exact e
      · exfalso
        have h1:(g.asides as).M.L p=some y:=h1
        have h4:(g.asides as).tu < y.2.2:=h4
        rw [A.tu] at h4
        have:=lA p y h1
        omega
    subst eg
    refine ⟨gl++as,max q g.fr,?_,ascA,fun p hp=>?_,fun p h0 h1=>fA p ?_,fun p y h=>by rw [A.tu];exact lA p y h,.inr (by rw [A.R];omega),by rw [A.fr,A.R];exact efr⟩
    · rw [A.fk,E.fk,List.append_assoc]
    · rcases List.mem_append.mp hp with hp | hp
      · have:=E.lq p hp;omega
      · have:=(D.ha p hp).2.1;omega
    · rcases Int.lt_or_le p q with c | c
      · exact .inl (E.dn p h0 c)
      · exact hall p h0 (by show p < g.fr;omega)
  | some p =>
    obtain ⟨a1,a2,a3,a4,a5,a6⟩:=D.ho p rfl
    have hq:=new p a1 a3
    have hnp:p∉as:=fun z=>by have:=a6 p z;omega
    have eL:∀ x,(g.take as (some p) tk).M.L x=if x=p then some ((g.asides as).M.lent+1,tk,(g.asides as).tu+(g.asides as).M.turns) else (g.asides as).M.L x:=fun x=>rfl
    have esp:(((g.take as (some p) tk).sp.length:Nat):Int)=(g.asides as).M.lent+1:=by
      show ((((g.asides as).sp++[p]).length:Nat):Int)=_
      rw [A.ln,A.sp,i.ln,List.length_append];rfl
    have etu:(g.take as (some p) tk).tu=g.tu:=A.tu
    have u1:=i.u1
    have etn:(g.asides as).M.turns=N.tn:=by rw [A.tn];exact i.tn
    have eg:g'=(g.take as (some p) tk).fate p (Str.ofString "answered"):=by
      rcases hA with ⟨_,h⟩ | ⟨x,y,h1,_,_,h4,h5⟩
      · exfalso
        refine h p _ (by rw [eL,if_pos rfl]) ⟨esp.symm,by show (1:Int)≤(((g.asides as).sp++[p]).length:Nat);rw [List.length_append];simp;omega,?_⟩
        rw [etu]
        show g.tu < (g.asides as).tu+(g.asides as).M.turns
        rw [A.tu,etn];omega
      · rw [eL] at h1
        rw [etu] at h4
        by_cases c:x=p
        · subst c;exact h5
        · rw [if_neg c] at h1
          have:=lA x y h1
          omega
    subst eg
    have eF:∀ x,((g.take as (some p) tk).fate p (Str.ofString "answered")).M.F x=if x=p then some (Str.ofString "answered") else (g.asides as).M.F x:=fun x=>rfl
    refine ⟨gl++as++[p],p+1,?_,?_,fun x hx=>?_,fun x h0 h1=>?_,fun x y h=>?_,?_,?_⟩
    · show (g.asides as).fk++[p]=_
      rw [A.fk,E.fk];simp
    · rw [List.pairwise_append]
      refine ⟨ascA,by simp,fun x hx y hy=>?_⟩
      simp only [List.mem_cons,List.not_mem_nil,or_false] at hy
      subst hy
      rcases List.mem_append.mp hx with hx | hx
      · have:=E.lq x hx;omega
      · exact a6 x hx
    · rcases List.mem_append.mp hx with hx | hx
      · rcases List.mem_append.mp hx with hx | hx
        · have:=E.lq x hx;omega
        · have:=a6 x hx;omega
      · simp only [List.mem_cons,List.not_mem_nil,or_false] at hx
        omega
    · rw [eF]
      by_cases c:x=p
      · rw [if_pos c];rfl
      · rw [if_neg c]
        exact fA x (hall x h0 (by show x < p;omega))
    · have h:(if x=p then none else (g.take as (some p) tk).M.L x)=some y:=h
      obtain ⟨c,h⟩:=if_none h
      rw [eL,if_neg c] at h
      show y.2.2≤(g.take as (some p) tk).tu
      rw [etu]
      exact lA x y h
    · refine .inl ?_
      rcases E.jq with z | z<;>omega
    · show (g.asides as).fr=(g.asides as).R.last
      rw [A.fr,A.R];exact efr
theorem E39.fin {N:N39} {g:G39} {fk0 gl:List Int} {q:Int} {j k0:Nat} (E:E39 N g fk0 gl q j) (i:I39 N g) (hj:g.R.last < (j:Int)) (hr:g.R.last≤160) (h0:∀ p∈fk0,N.st≤p∧p < N.st+(k0:Int)) (hk:64≤g.R.last→k0≤28):Fin39 N g:=by
  have s0:=i.s0
  have lastq:g.R.last≤q:=by rcases E.jq with z | z<;>omega
  refine ⟨E.fr,fun p h h1=>E.dn p h (by omega),?_,hr⟩
  rcases Nat.lt_or_ge g.fk.length 64 with c | c
  · exact .inl c
  · refine .inr fun a b x y hba h32 hb ha=>?_
    have k28:=hk (by have:=i.fkl;have:=i.kle;omega)
    have nd:=i.fn
    have nd0:fk0.Nodup:=by rw [E.fk,List.nodup_append] at nd;exact nd.1
    have l0:=nd_len k0 N.st fk0 nd0 h0
    rw [E.fk] at ha hb
    rw [List.getElem?_append_right (by omega)] at ha
    rcases Nat.lt_or_ge b fk0.length with cb | cb
    · rw [List.getElem?_append_left cb] at hb
      have hx:=h0 x (List.mem_of_getElem? hb)
      rcases Int.lt_or_le x y with cxy | cxy
      · exact cxy
      · exfalso
        obtain ⟨ia,ea⟩:=List.getElem?_eq_some_iff.mp ha
        have len:(g.fk.take (a+1)).length=a+1:=by rw [List.length_take,E.fk,List.length_append];omega
        have:=nd_len k0 N.st (g.fk.take (a+1)) (nd.sublist (List.take_sublist _ _)) fun p hp=>by
          have hm:=List.mem_of_mem_take hp
          obtain ⟨z,hz⟩:=Option.isSome_iff_exists.mp ((i.fm p).mp hm)
          have h1:=((i.Tk p).mp (i.FT p z hz)).1
          refine ⟨h1,?_⟩
          obtain ⟨m,hm2⟩:=List.getElem?_of_mem hp
          have hml:m < a+1:=by have:=(List.getElem?_eq_some_iff.mp hm2).1;omega
          rw [List.getElem?_take,if_pos hml,E.fk] at hm2
          rcases Nat.lt_or_ge m fk0.length with cm | cm
          · rw [List.getElem?_append_left cm] at hm2
            exact (h0 p (List.mem_of_getElem? hm2)).2
          · rw [List.getElem?_append_right cm] at hm2
            obtain ⟨im,em⟩:=List.getElem?_eq_some_iff.mp hm2
            have:p≤y:=by
              rcases Nat.lt_or_ge (m - fk0.length) (a - fk0.length) with cc | cc
              · have:=List.pairwise_iff_getElem.mp E.asc _ _ im ia cc
                rw [em,ea] at this
                omega
              · have e:m - fk0.length=a - fk0.length:=by omega
                rw [e,ha] at hm2
                cases hm2
                exact Int.le_refl _
            omega
        omega
    · rw [List.getElem?_append_right cb] at hb
      obtain ⟨ia,ea⟩:=List.getElem?_eq_some_iff.mp ha
      obtain ⟨ib,eb⟩:=List.getElem?_eq_some_iff.mp hb
      have:=List.pairwise_iff_getElem.mp E.asc _ _ ib ia (by omega)
      rw [ea,eb] at this
      exact this
theorem lend_new {C:Addr} {H H':Hp} {x dx f u l:Addr} (hx:H x=none) (hdx:H dx=none) (hf:upd (upd H dx (HO.own x)) x (HO.ins C dx []) f=none) (hu:upd (upd H dx (HO.own x)) x (HO.ins C dx []) u=none) (hl:upd (upd H dx (HO.own x)) x (HO.ins C dx []) l=none)
    (c:Chg [x] (upd (upd H dx (HO.own x)) x (HO.ins C dx [])) H'):H f=none∧H u=none∧H l=none∧Same H H':=by
  have nn:∀ b,upd (upd H dx (HO.own x)) x (HO.ins C dx []) b=none→H b=none:=fun b hb=>by
    have h1:b≠x:=fun z=>by rw [z,upd_same] at hb;cases hb
    rw [upd_ne h1] at hb
    have h2:b≠dx:=fun z=>by rw [z,upd_same] at hb;cases hb
    rw [upd_ne h2] at hb
    exact hb
  refine ⟨nn f hf,nn u hu,nn l hl,fun b o hb=>?_⟩
  have hb1:b≠x:=ne_of_none hb hx
  have hb2:b≠dx:=ne_of_none hb hdx
  exact c.keep _ _ (by rw [upd_ne hb1,upd_ne hb2];exact hb) (by simp [hb1])
def Frs (H:Hp) (l:List Addr):Prop:=l.Nodup∧∀ x∈l,∃ o,H x=some o
theorem Frs.new {l:List Addr} {H:Hp} {b:Addr} {o:HO} (h:Frs H l) (hb:H b=none):Frs (upd H b o) (l++[b]):=by
  refine ⟨?_,fun x hx=>?_⟩
  · rw [List.nodup_append]
    refine ⟨h.1,by simp,fun x hx y hy=>?_⟩
    simp only [List.mem_cons,List.not_mem_nil,or_false] at hy
    subst hy
    obtain ⟨o,ho⟩:=h.2 x hx
    exact ne_of_none ho hb
  · by_cases c:x=b
    · exact ⟨o,by rw [c];exact upd_same⟩
    · rcases List.mem_append.mp hx with hx | hx
      · obtain ⟨o,ho⟩:=h.2 x hx
        exact ⟨o,(upd_ne c).trans ho⟩
      · simp only [List.mem_cons,List.not_mem_nil,or_false] at hx
        exact absurd hx c
theorem mk39 {C CR:Addr} {H:Hp} {r f t l rw rd sd lo fa tr fi sp:Addr} {N:N39} {rn:Int} (n:rw≠rd) (LA:LendAt C H r f t l (lend0 rn N.st N.tn N.tr N.wi)) (RA:RowAt CR H rw rd row0) (n1:rw∉[r,f,t,l]) (n2:rd∉[r,f,t,l]) (i0:1≤N.tr) (i2:1≤N.wi) (i4:1≤N.tn) (i6:0≤N.st) (i7:N.st≤1)
    (h1:H sd=none) (h2:upd H sd (.dK []) lo=none) (h3:upd (upd H sd (.dK [])) lo (.dK []) fa=none) (h4:upd (upd (upd H sd (.dK [])) lo (.dK [])) fa (.dK []) tr=none) (h5:upd (upd (upd (upd H sd (.dK [])) lo (.dK [])) fa (.dK [])) tr (.dK []) fi=none) (h6:upd (upd (upd (upd (upd H sd (.dK [])) lo (.dK [])) fa (.dK [])) tr (.dK [])) fi (.lst []) sp=none) :
    W39 C CR (upd (upd (upd (upd (upd (upd (upd H sd (.dK [])) lo (.dK [])) fa (.dK [])) tr (.dK [])) fi (.lst [])) sp (.lst [])) sd (.dK (stK N.st 0 0 lo fa tr fi sp))) ⟨r,f,t,l,rw,rd,sd,lo,fa,tr,fi,sp⟩ N ⟨lend0 rn N.st N.tn N.tr N.wi,row0,0,0,[],[],[],0⟩ ∧
    Same H (upd (upd (upd (upd (upd (upd (upd H sd (.dK [])) lo (.dK [])) fa (.dK [])) tr (.dK [])) fi (.lst [])) sp (.lst [])) sd (.dK (stK N.st 0 0 lo fa tr fi sp))):=by
  have F0:Frs H [r,f,t,l,rw,rd]:=by
    obtain ⟨_,a1⟩:=LA.obj
    obtain ⟨_,a2,_⟩:=LA.fat
    obtain ⟨_,a3,_⟩:=LA.tri
    obtain ⟨_,a4,_⟩:=LA.loa
    obtain ⟨_,a5⟩:=RA.obj
    obtain ⟨_,a6,_⟩:=RA.dict
    simp only [List.mem_cons,List.not_mem_nil,or_false,not_or] at n1 n2
    refine ⟨?_,fun x hx=>?_⟩
    · simp only [List.nodup_cons,List.mem_cons,List.not_mem_nil,or_false,not_or,List.nodup_nil,and_true,not_false_eq_true]
      exact ⟨⟨LA.rf,LA.rt,LA.rl,Ne.symm n1.1,Ne.symm n2.1⟩,⟨LA.ft,LA.fl,Ne.symm n1.2.1,Ne.symm n2.2.1⟩,⟨LA.tl,Ne.symm n1.2.2.1,Ne.symm n2.2.2.1⟩,⟨Ne.symm n1.2.2.2,Ne.symm n2.2.2.2⟩,n⟩
    · simp only [List.mem_cons,List.not_mem_nil,or_false] at hx
      rcases hx with rfl | rfl | rfl | rfl | rfl | rfl
      · exact ⟨_,a1⟩
      · exact ⟨_,a2⟩
      · exact ⟨_,a3⟩
      · exact ⟨_,a4⟩
      · exact ⟨_,a5⟩
      · exact ⟨_,a6⟩
  have F6:=(((((F0.new (o:=.dK []) h1).new (o:=.dK []) h2).new (o:=.dK []) h3).new (o:=.dK []) h4).new (o:=.lst []) h5).new (o:=.lst []) h6
  have b6:=Same.upd (o:=.lst []) h6
  have b5:=(Same.upd (o:=.lst []) h5).trans b6
  have b4:=(Same.upd (o:=.dK []) h4).trans b5
  have b3:=(Same.upd (o:=.dK []) h3).trans b4
  have b2:=(Same.upd (o:=.dK []) h2).trans b3
  have b1:=(Same.upd (o:=.dK []) h1).trans b2
  have v1:=b2 _ _ (upd_same (H:=H) (a:=sd) (o:=.dK []))
  have v2:=b3 _ _ (upd_same (H:=upd H sd (.dK [])) (a:=lo) (o:=.dK []))
  have v3:=b4 _ _ (upd_same (H:=upd (upd H sd (.dK [])) lo (.dK [])) (a:=fa) (o:=.dK []))
  have v4:=b5 _ _ (upd_same (H:=upd (upd (upd H sd (.dK [])) lo (.dK [])) fa (.dK [])) (a:=tr) (o:=.dK []))
  have v5:=b6 _ _ (upd_same (H:=upd (upd (upd (upd H sd (.dK [])) lo (.dK [])) fa (.dK [])) tr (.dK [])) (a:=fi) (o:=.lst []))
  have v6:=upd_same (H:=upd (upd (upd (upd (upd H sd (.dK [])) lo (.dK [])) fa (.dK [])) tr (.dK [])) fi (.lst [])) (a:=sp) (o:=.lst [])
  generalize upd (upd (upd (upd (upd (upd H sd (.dK [])) lo (.dK [])) fa (.dK [])) tr (.dK [])) fi (.lst [])) sp (.lst [])=H6 at F6 b1 v1 v2 v3 v4 v5 v6 ⊢
  have c:Chg [sd] H6 (upd H6 sd (.dK (stK N.st 0 0 lo fa tr fi sp))):=Chg.upd (by simp) (mut_dK v1)
  have e:upd H6 sd (.dK (stK N.st 0 0 lo fa tr fi sp)) sd=some (.dK (stK N.st 0 0 lo fa tr fi sp)):=upd_same
  have sm:Same H (upd H6 sd (.dK (stK N.st 0 0 lo fa tr fi sp))):=fun b o hb=>(upd_ne (ne_of_none hb h1)).trans (b1 _ _ hb)
  generalize upd H6 sd (.dK (stK N.st 0 0 lo fa tr fi sp))=H7 at c e sm ⊢
  have nd:(A39.all ⟨r,f,t,l,rw,rd,sd,lo,fa,tr,fi,sp⟩).Nodup:=F6.1
  have kp:∀ (i:Nat) (b:Addr) (o:HO),(A39.all ⟨r,f,t,l,rw,rd,sd,lo,fa,tr,fi,sp⟩)[i]?=some b→i∉[6]→H6 b=some o→H7 b=some o:=fun i b o hi h6 hb=>c.keep _ _ hb (nd_nin nd i [6] hi rfl h6)
  have LA7:=LA.sm sm
  have K7:LKs H7 l []:=by
    obtain ⟨kvs,e,k1,_⟩:=LA7.loa
    have:kvs=[]:=List.length_eq_zero_iff.mp (Nat.le_zero.mp k1)
    subst this
    exact ⟨[],e,rfl⟩
  have er:rng N.st (N.st+((0:Nat):Int))=[]:=by unfold rng;rw [show (N.st+((0:Nat):Int) - N.st).toNat=0 by omega];rfl
  refine ⟨⟨⟨LA7,K7,RA.same sm,e,⟨[],kp 7 _ _ rfl (by decide) v2,rfl,fun _=>rfl⟩,⟨[],kp 8 _ _ rfl (by decide) v3,rfl,fun _=>rfl⟩,⟨[],kp 9 _ _ rfl (by decide) v4,Nat.le_refl _,fun _=>rfl⟩,?_,kp 11 _ _ rfl (by decide) v6,nd⟩,?_⟩,sm⟩
  · show H7 fi=some (.lst ((rng N.st (N.st+((0:Nat):Int))).map V.int))
    rw [er]
    exact kp 10 _ _ rfl (by decide) v5
  · refine ⟨rfl,rfl,rfl,rfl,i6,i7,i0,i2,i4,rfl,fun p h1 h2=>?_,Int.le_refl _,Int.le_refl _,rfl,fun _ _ h=>(by cases h),fun _=>Int.le_refl _,fun _=>?_,fun p=>?_,.inl rfl,fun _ _ h=>(by cases h),fun _ _ h=>(by cases h),fun _ _ h=>(by cases h),fun _ _ h=>(by cases h),Nat.le_refl _,List.nodup_nil,fun p=>?_⟩
    · have h2:p < 0:=h2
      omega
    · show (0:Int)≤N.tr
      omega
    · show 1≤(0:Int)↔N.st≤p∧p < N.st+((0:Nat):Int)
      constructor
      · intro h;omega
      · intro h;omega
    · show p∈([]:List Int)↔(none:Option Str).isSome=true
      simp
theorem asc39:∀ {l m:List Int},l.Pairwise (· < ·)→m.Pairwise (· < ·)→(∀ x,x∈l↔x∈m)→l=m
  | [],[],_,_,_=>rfl
  | [],y::m,_,_,h=>absurd ((h y).mpr List.mem_cons_self) (by simp)
  | x::l,[],_,_,h=>absurd ((h x).mp List.mem_cons_self) (by simp)
  | x::l,y::m,h1,h2,h=>by
    rw [List.pairwise_cons] at h1 h2
    have e:x=y:=by
      rcases List.mem_cons.mp ((h x).mp List.mem_cons_self) with e | e
      · exact e
      · rcases List.mem_cons.mp ((h y).mpr List.mem_cons_self) with e' | e'
        · exact e'.symm
        · have a:=h1.1 y e'
          have b:=h2.1 x e
          omega
    subst e
    rw [asc39 h1.2 h2.2 fun z=>?_]
    constructor
    · intro hz
      rcases List.mem_cons.mp ((h z).mp (List.mem_cons_of_mem _ hz)) with e | e
      · have:=h1.1 z hz;omega
      · exact e
    · intro hz
      rcases List.mem_cons.mp ((h z).mpr (List.mem_cons_of_mem _ hz)) with e | e
      · have:=h2.1 z hz;omega
      · exact e
theorem Fin39.all {N:N39} {g:G39} (h:Fin39 N g) (i:I39 N g):srtI g.fk=rng N.st g.R.last∧rng N.st (N.st+g.k)=rng N.st g.R.last∧∀ p,N.st≤p→p < g.R.last→1≤g.M.T p:=by
  have hT:∀ p,N.st≤p→p < g.R.last→1≤g.M.T p:=fun p h0 h1=>by
    obtain ⟨z,hz⟩:=Option.isSome_iff_exists.mp (h.F p h0 h1)
    exact i.FT p z hz
  have kf:=i.kf
  have hfr:=h.fr
  refine ⟨?_,?_,hT⟩
  · have pm:=srtI_perm g.fk
    have nd:(srtI g.fk).Nodup:=pm.nodup_iff.mpr i.fn
    have sr:=srtI_pw g.fk
    refine asc39 ?_ (rng_sorted _ _) fun x=>?_
    · refine (sr.and nd).imp ?_
      rintro a b ⟨h1,h2⟩
      omega
    · rw [pm.mem_iff,i.fm x,mem_rng]
      constructor
      · intro hz
        obtain ⟨z,hz⟩:=Option.isSome_iff_exists.mp hz
        have:=(i.Tk x).mp (i.FT x z hz)
        rcases kf with c | c<;>omega
      · rintro ⟨h0,h1⟩
        exact h.F x h0 h1
  · rcases Int.lt_or_le N.st g.R.last with c | c
    · have:=(i.Tk (g.R.last - 1)).mp (hT _ (by omega) (by omega))
      have e:N.st+(g.k:Int)=g.R.last:=by rcases kf with z | z<;>omega
      rw [e]
    · unfold rng
      rw [show (N.st+(g.k:Int) - N.st).toNat=0 by rcases kf with z | z<;>omega,show (g.R.last - N.st).toNat=0 by omega]
theorem Fin39.mark {N:N39} {g:G39} (h:Fin39 N g) (i:I39 N g):markN39 g.M g.R g.R.last=max N.st g.R.last:=by
  have e:=pwf39 i
  rw [h.fr] at e
  have e2:(rng N.st g.R.last).filter (fun p=>(g.M.F p).isNone)=[]:=List.filter_eq_nil_iff.mpr fun p hp=>by
    obtain ⟨h0,h1⟩:=mem_rng.mp hp
    obtain ⟨z,hz⟩:=Option.isSome_iff_exists.mp (h.F p h0 h1)
    rw [hz];simp
  unfold markN39
  rw [e,e2]
  show max g.R.last g.M.start=_
  rw [i.st,Int.max_comm]
end L2

set_option Elab.async false
set_option linter.all false
set_option maxRecDepth 100000
set_option maxHeartbeats 4000000
set_option pp.deepTerms true
set_option pp.maxSteps 200000
namespace K39
open PySem PySem.Spec PyProof.Rows L2
def top (i:Nat):Stmt:=PySem.Challenge.pw_lettercell_k39_whole_lending.main.body.getD i (.Pass ⟨0,0,0,0⟩)
abbrev s_Late___init__:Stmt:=inClass (top 4) 0
theorem sc_Late___init__:FnScope ["self", "row", "loan"] ["self", "row", "loan"] (defScope s_Late___init__):=⟨rfl,rfl,rfl,by decide +kernel,rfl,by decide +kernel,by decide +kernel⟩
abbrev s_Lending___init__:Stmt:=inClass (top 6) 0
theorem sc_Lending___init__:FnScope ["self", "row", "start", "turns", "tries", "width"] ["self", "row", "start", "turns", "tries", "width"] (defScope s_Lending___init__):=⟨rfl,rfl,rfl,by decide +kernel,rfl,by decide +kernel,by decide +kernel⟩
abbrev s_Lending_lend:Stmt:=inClass (top 6) 1
theorem sc_Lending_lend:FnScope ["self", "place", "taker", "turn"] ["self", "place", "taker", "turn"] (defScope s_Lending_lend):=⟨rfl,rfl,rfl,by decide +kernel,rfl,by decide +kernel,by decide +kernel⟩
abbrev s_Lending_settle:Stmt:=inClass (top 6) 3
theorem sc_Lending_settle:FnScope ["self", "place"] ["self", "place"] (defScope s_Lending_settle):=⟨rfl,rfl,rfl,by decide +kernel,rfl,by decide +kernel,by decide +kernel⟩
abbrev s_Lending_set_aside:Stmt:=inClass (top 6) 4
theorem sc_Lending_set_aside:FnScope ["self", "place"] ["self", "place"] (defScope s_Lending_set_aside):=⟨rfl,rfl,rfl,by decide +kernel,rfl,by decide +kernel,by decide +kernel⟩
abbrev s_Lending_give_back:Stmt:=inClass (top 6) 5
theorem sc_Lending_give_back:FnScope ["self", "place"] ["self", "place"] (defScope s_Lending_give_back):=⟨rfl,rfl,rfl,by decide +kernel,rfl,by decide +kernel,by decide +kernel⟩
abbrev s_Lending_let_go:Stmt:=inClass (top 6) 6
theorem sc_Lending_let_go:FnScope ["self", "taker", "place"] ["self", "taker"] (defScope s_Lending_let_go):=⟨rfl,rfl,rfl,by decide +kernel,rfl,by decide +kernel,by decide +kernel⟩
abbrev s_Lending_call_back:Stmt:=inClass (top 6) 7
theorem sc_Lending_call_back:FnScope ["self", "place", "loan"] ["self"] (defScope s_Lending_call_back):=⟨rfl,rfl,rfl,by decide +kernel,rfl,by decide +kernel,by decide +kernel⟩
abbrev s_Lending_place_of:Stmt:=inClass (top 6) 8
theorem sc_Lending_place_of:FnScope ["self", "loan", "turn", "place", "standing"] ["self", "loan", "turn"] (defScope s_Lending_place_of):=⟨rfl,rfl,rfl,by decide +kernel,rfl,by decide +kernel,by decide +kernel⟩
abbrev s_Lending_loan_at:Stmt:=inClass (top 6) 9
theorem sc_Lending_loan_at:FnScope ["self", "place"] ["self", "place"] (defScope s_Lending_loan_at):=⟨rfl,rfl,rfl,by decide +kernel,rfl,by decide +kernel,by decide +kernel⟩
abbrev s_Lending_tried_at:Stmt:=inClass (top 6) 10
theorem sc_Lending_tried_at:FnScope ["self", "place"] ["self", "place"] (defScope s_Lending_tried_at):=⟨rfl,rfl,rfl,by decide +kernel,rfl,by decide +kernel,by decide +kernel⟩
abbrev s_Lending_fate_at:Stmt:=inClass (top 6) 11
theorem sc_Lending_fate_at:FnScope ["self", "place"] ["self", "place"] (defScope s_Lending_fate_at):=⟨rfl,rfl,rfl,by decide +kernel,rfl,by decide +kernel,by decide +kernel⟩
abbrev s_Lending_places_without_fate:Stmt:=inClass (top 6) 13
theorem sc_Lending_places_without_fate:FnScope ["self", "row", "front", "places"] ["self", "row", "front"] (defScope s_Lending_places_without_fate):=⟨rfl,rfl,rfl,by decide +kernel,rfl,by decide +kernel,by decide +kernel⟩
abbrev s_Lending_mark_in:Stmt:=inClass (top 6) 14
theorem sc_Lending_mark_in:FnScope ["self", "row", "front", "left"] ["self", "row", "front"] (defScope s_Lending_mark_in):=⟨rfl,rfl,rfl,by decide +kernel,rfl,by decide +kernel,by decide +kernel⟩
abbrev s_Lending_is_lent:Stmt:=inClass (top 6) 15
theorem sc_Lending_is_lent:FnScope ["self", "place", "turn", "loan"] ["self", "place", "turn"] (defScope s_Lending_is_lent):=⟨rfl,rfl,rfl,by decide +kernel,rfl,by decide +kernel,by decide +kernel⟩
abbrev s_Lending_due_in:Stmt:=inClass (top 6) 16
theorem sc_Lending_due_in:FnScope ["self", "row", "front", "turn", "lent", "asides", "place"] ["self", "row", "front", "turn"] (defScope s_Lending_due_in):=⟨rfl,rfl,rfl,by decide +kernel,rfl,by decide +kernel,by decide +kernel⟩
abbrev s_Row___init__:Stmt:=inClass (top 8) 0
theorem sc_Row___init__:FnScope ["self"] ["self"] (defScope s_Row___init__):=⟨rfl,rfl,rfl,by decide +kernel,rfl,by decide +kernel,by decide +kernel⟩
abbrev s_Row_add:Stmt:=inClass (top 8) 1
theorem sc_Row_add:FnScope ["self", "key", "word", "deed", "place"] ["self", "key", "word", "deed"] (defScope s_Row_add):=⟨rfl,rfl,rfl,by decide +kernel,rfl,by decide +kernel,by decide +kernel⟩
abbrev s_Row_at:Stmt:=inClass (top 8) 2
theorem sc_Row_at:FnScope ["self", "place"] ["self", "place"] (defScope s_Row_at):=⟨rfl,rfl,rfl,by decide +kernel,rfl,by decide +kernel,by decide +kernel⟩
abbrev s_Row_seen:Stmt:=inClass (top 8) 3
theorem sc_Row_seen:FnScope ["self", "start", "limit", "most", "found", "place", "letter"] ["self", "start", "limit", "most"] (defScope s_Row_seen):=⟨rfl,rfl,rfl,by decide +kernel,rfl,by decide +kernel,by decide +kernel⟩
abbrev s_l_cell_at:Stmt:=top 10
theorem sc_l_cell_at:FnScope ["_law_script", "_law_k", "_law_number"] ["_law_script", "_law_k"] (defScope s_l_cell_at):=⟨rfl,rfl,rfl,by decide +kernel,rfl,by decide +kernel,by decide +kernel⟩
abbrev s_l_many:Stmt:=top 11
theorem sc_l_many:FnScope ["_law_script", "_law_first", "_law_most", "_law_drawn"] ["_law_script", "_law_first", "_law_most"] (defScope s_l_many):=⟨rfl,rfl,rfl,by decide +kernel,rfl,by decide +kernel,by decide +kernel⟩
abbrev s_l_whole:Stmt:=top 12
theorem sc_l_whole:FnScope ["_law_found_here", "_law_due"] ["_law_found_here", "_law_due"] (defScope s_l_whole):=⟨rfl,rfl,rfl,by decide +kernel,rfl,by decide +kernel,by decide +kernel⟩
abbrev s_l_names:Stmt:=top 13
theorem sc_l_names:FnScope ["_law_cell", "_law_other", "_law_many_here", "_law_signs", "_law_long", "_law_at", "_law_names_here", "_law_k", "_law_name", "_law_j", "_law_number"] ["_law_cell", "_law_other", "_law_many_here"] (defScope s_l_names):=⟨rfl,rfl,rfl,by decide +kernel,rfl,by decide +kernel,by decide +kernel⟩
abbrev s_l_runs:Stmt:=top 14
theorem sc_l_runs:FnScope ["_law_state", "_law_place"] ["_law_state", "_law_place"] (defScope s_l_runs):=⟨rfl,rfl,rfl,by decide +kernel,rfl,by decide +kernel,by decide +kernel⟩
abbrev s_l_open:Stmt:=top 15
theorem sc_l_open:FnScope ["_law_lending", "_law_state", "_law_place"] ["_law_lending", "_law_state", "_law_place"] (defScope s_l_open):=⟨rfl,rfl,rfl,by decide +kernel,rfl,by decide +kernel,by decide +kernel⟩
abbrev s_l_good:Stmt:=top 16
theorem sc_l_good:FnScope ["_law_lending", "_law_state", "_law_found_here", "_law_numbers", "_law_running", "_law_last", "_law_place", "_law_end_here"] ["_law_lending", "_law_state", "_law_found_here", "_law_numbers"] (defScope s_l_good):=⟨rfl,rfl,rfl,by decide +kernel,rfl,by decide +kernel,by decide +kernel⟩
abbrev s_l_take:Stmt:=top 17
theorem sc_l_take:FnScope ["_law_lending", "_law_row", "_law_state", "_law_taker", "_law_numbers", "_law_found_here", "_law_place", "_law_loan"] ["_law_lending", "_law_row", "_law_state", "_law_taker", "_law_numbers"] (defScope s_l_take):=⟨rfl,rfl,rfl,by decide +kernel,rfl,by decide +kernel,by decide +kernel⟩
abbrev s_l_found:Stmt:=top 18
theorem sc_l_found:FnScope ["_law_lending", "_law_loan", "_law_turn", "_law_place"] ["_law_lending", "_law_loan", "_law_turn"] (defScope s_l_found):=⟨rfl,rfl,rfl,by decide +kernel,rfl,by decide +kernel,by decide +kernel⟩
abbrev s_l_answer:Stmt:=top 19
theorem sc_l_answer:FnScope ["_law_lending", "_law_state", "_law_loan", "_law_back", "_law_place", "_law_due"] ["_law_lending", "_law_state", "_law_loan", "_law_back"] (defScope s_l_answer):=⟨rfl,rfl,rfl,by decide +kernel,rfl,by decide +kernel,by decide +kernel⟩
abbrev s_l_gone:Stmt:=top 20
theorem sc_l_gone:FnScope ["_law_lending", "_law_state", "_law_taker", "_law_place", "_law_old"] ["_law_lending", "_law_state", "_law_taker"] (defScope s_l_gone):=⟨rfl,rfl,rfl,by decide +kernel,rfl,by decide +kernel,by decide +kernel⟩
abbrev s_l_deed:Stmt:=top 21
theorem sc_l_deed:FnScope ["_law_lending", "_law_row", "_law_state", "_law_cell", "_law_names_here", "_law_numbers", "_law_way", "_law_more", "_law_k"] ["_law_lending", "_law_row", "_law_state", "_law_cell", "_law_names_here", "_law_numbers"] (defScope s_l_deed):=⟨rfl,rfl,rfl,by decide +kernel,rfl,by decide +kernel,by decide +kernel⟩
abbrev s_l_end:Stmt:=top 22
theorem sc_l_end:FnScope ["_law_lending", "_law_row", "_law_state", "_law_taker", "_law_numbers", "_law_k"] ["_law_lending", "_law_row", "_law_state", "_law_taker", "_law_numbers"] (defScope s_l_end):=⟨rfl,rfl,rfl,by decide +kernel,rfl,by decide +kernel,by decide +kernel⟩
abbrev s_law:Stmt:=top 23
theorem sc_law:FnScope ["_law_script", "_law_names_here", "_law_numbers", "_law_start", "_law_row", "_law_lending", "_law_state", "_law_k", "_law_due", "_law_place", "_law_fate"] ["_law_script"] (defScope s_law):=⟨rfl,rfl,rfl,by decide +kernel,rfl,by decide +kernel,by decide +kernel⟩
structure Adr where
  C_Late:Addr
  C_Lending:Addr
  C_Row:Addr
  f_Late___init__:Addr
  d_Late___init__:FuncData
  f_Lending___init__:Addr
  d_Lending___init__:FuncData
  e1_Lending___init__:List Value
  i_Lending___init__:List Value
  f_Lending_lend:Addr
  d_Lending_lend:FuncData
  f_Lending_settle:Addr
  d_Lending_settle:FuncData
  f_Lending_set_aside:Addr
  d_Lending_set_aside:FuncData
  f_Lending_give_back:Addr
  d_Lending_give_back:FuncData
  f_Lending_let_go:Addr
  d_Lending_let_go:FuncData
  f_Lending_call_back:Addr
  d_Lending_call_back:FuncData
  f_Lending_place_of:Addr
  d_Lending_place_of:FuncData
  f_Lending_loan_at:Addr
  d_Lending_loan_at:FuncData
  f_Lending_tried_at:Addr
  d_Lending_tried_at:FuncData
  f_Lending_fate_at:Addr
  d_Lending_fate_at:FuncData
  f_Lending_places_without_fate:Addr
  d_Lending_places_without_fate:FuncData
  f_Lending_mark_in:Addr
  d_Lending_mark_in:FuncData
  f_Lending_is_lent:Addr
  d_Lending_is_lent:FuncData
  f_Lending_due_in:Addr
  d_Lending_due_in:FuncData
  f_Row___init__:Addr
  d_Row___init__:FuncData
  f_Row_add:Addr
  d_Row_add:FuncData
  e1_Row_add:List Value
  i_Row_add:List Value
  f_Row_at:Addr
  d_Row_at:FuncData
  f_Row_seen:Addr
  d_Row_seen:FuncData
  f_l_cell_at:Addr
  d_l_cell_at:FuncData
  f_l_many:Addr
  d_l_many:FuncData
  f_l_whole:Addr
  d_l_whole:FuncData
  f_l_names:Addr
  d_l_names:FuncData
  f_l_runs:Addr
  d_l_runs:FuncData
  f_l_open:Addr
  d_l_open:FuncData
  f_l_good:Addr
  d_l_good:FuncData
  f_l_take:Addr
  d_l_take:FuncData
  f_l_found:Addr
  d_l_found:FuncData
  f_l_answer:Addr
  d_l_answer:FuncData
  f_l_gone:Addr
  d_l_gone:FuncData
  f_l_deed:Addr
  d_l_deed:FuncData
  f_l_end:Addr
  d_l_end:FuncData
  f_law:Addr
  d_law:FuncData
structure Txt (K:PySem.W.Frag) (mg:Str→Option Value) (a:Adr):Prop where
  F_Late___init__:Fun K "__init__" "Late.__init__" s_Late___init__ a.f_Late___init__ a.d_Late___init__
  b_Late___init__:Binds K a.d_Late___init__ ["self", "row", "loan"] []
  b1_Lending___init__:Binds K a.d_Lending___init__ ["self", "row", "start", "turns", "tries", "width"] a.e1_Lending___init__
  v1_Lending___init__:Vals [.int 1] a.e1_Lending___init__
  F_Lending___init__:FunD K "__init__" "Lending.__init__" s_Lending___init__ a.f_Lending___init__ a.d_Lending___init__ a.i_Lending___init__
  b_Lending___init__:Binds K a.d_Lending___init__ ["self", "row", "start", "turns", "tries", "width"] []
  F_Lending_lend:Fun K "lend" "Lending.lend" s_Lending_lend a.f_Lending_lend a.d_Lending_lend
  b_Lending_lend:Binds K a.d_Lending_lend ["self", "place", "taker", "turn"] []
  M_Lending_lend:Meth K a.C_Lending "lend" a.f_Lending_lend
  F_Lending_settle:Fun K "settle" "Lending.settle" s_Lending_settle a.f_Lending_settle a.d_Lending_settle
  b_Lending_settle:Binds K a.d_Lending_settle ["self", "place"] []
  M_Lending_settle:Meth K a.C_Lending "settle" a.f_Lending_settle
  F_Lending_set_aside:Fun K "set_aside" "Lending.set_aside" s_Lending_set_aside a.f_Lending_set_aside a.d_Lending_set_aside
  b_Lending_set_aside:Binds K a.d_Lending_set_aside ["self", "place"] []
  M_Lending_set_aside:Meth K a.C_Lending "set_aside" a.f_Lending_set_aside
  F_Lending_give_back:Fun K "give_back" "Lending.give_back" s_Lending_give_back a.f_Lending_give_back a.d_Lending_give_back
  b_Lending_give_back:Binds K a.d_Lending_give_back ["self", "place"] []
  M_Lending_give_back:Meth K a.C_Lending "give_back" a.f_Lending_give_back
  F_Lending_let_go:Fun K "let_go" "Lending.let_go" s_Lending_let_go a.f_Lending_let_go a.d_Lending_let_go
  b_Lending_let_go:Binds K a.d_Lending_let_go ["self", "taker"] []
  M_Lending_let_go:Meth K a.C_Lending "let_go" a.f_Lending_let_go
  F_Lending_call_back:Fun K "call_back" "Lending.call_back" s_Lending_call_back a.f_Lending_call_back a.d_Lending_call_back
  b_Lending_call_back:Binds K a.d_Lending_call_back ["self"] []
  M_Lending_call_back:Meth K a.C_Lending "call_back" a.f_Lending_call_back
  F_Lending_place_of:Fun K "place_of" "Lending.place_of" s_Lending_place_of a.f_Lending_place_of a.d_Lending_place_of
  b_Lending_place_of:Binds K a.d_Lending_place_of ["self", "loan", "turn"] []
  M_Lending_place_of:Meth K a.C_Lending "place_of" a.f_Lending_place_of
  F_Lending_loan_at:Fun K "loan_at" "Lending.loan_at" s_Lending_loan_at a.f_Lending_loan_at a.d_Lending_loan_at
  b_Lending_loan_at:Binds K a.d_Lending_loan_at ["self", "place"] []
  M_Lending_loan_at:Meth K a.C_Lending "loan_at" a.f_Lending_loan_at
  F_Lending_tried_at:Fun K "tried_at" "Lending.tried_at" s_Lending_tried_at a.f_Lending_tried_at a.d_Lending_tried_at
  b_Lending_tried_at:Binds K a.d_Lending_tried_at ["self", "place"] []
  M_Lending_tried_at:Meth K a.C_Lending "tried_at" a.f_Lending_tried_at
  F_Lending_fate_at:Fun K "fate_at" "Lending.fate_at" s_Lending_fate_at a.f_Lending_fate_at a.d_Lending_fate_at
  b_Lending_fate_at:Binds K a.d_Lending_fate_at ["self", "place"] []
  M_Lending_fate_at:Meth K a.C_Lending "fate_at" a.f_Lending_fate_at
  F_Lending_places_without_fate:Fun K "places_without_fate" "Lending.places_without_fate" s_Lending_places_without_fate a.f_Lending_places_without_fate a.d_Lending_places_without_fate
  b_Lending_places_without_fate:Binds K a.d_Lending_places_without_fate ["self", "row", "front"] []
  M_Lending_places_without_fate:Meth K a.C_Lending "places_without_fate" a.f_Lending_places_without_fate
  F_Lending_mark_in:Fun K "mark_in" "Lending.mark_in" s_Lending_mark_in a.f_Lending_mark_in a.d_Lending_mark_in
  b_Lending_mark_in:Binds K a.d_Lending_mark_in ["self", "row", "front"] []
  M_Lending_mark_in:Meth K a.C_Lending "mark_in" a.f_Lending_mark_in
  F_Lending_is_lent:Fun K "is_lent" "Lending.is_lent" s_Lending_is_lent a.f_Lending_is_lent a.d_Lending_is_lent
  b_Lending_is_lent:Binds K a.d_Lending_is_lent ["self", "place", "turn"] []
  M_Lending_is_lent:Meth K a.C_Lending "is_lent" a.f_Lending_is_lent
  F_Lending_due_in:Fun K "due_in" "Lending.due_in" s_Lending_due_in a.f_Lending_due_in a.d_Lending_due_in
  b_Lending_due_in:Binds K a.d_Lending_due_in ["self", "row", "front", "turn"] []
  M_Lending_due_in:Meth K a.C_Lending "due_in" a.f_Lending_due_in
  F_Row___init__:Fun K "__init__" "Row.__init__" s_Row___init__ a.f_Row___init__ a.d_Row___init__
  b_Row___init__:Binds K a.d_Row___init__ ["self"] []
  b1_Row_add:Binds K a.d_Row_add ["self", "key", "word", "deed"] a.e1_Row_add
  v1_Row_add:Vals [.int 0] a.e1_Row_add
  F_Row_add:FunD K "add" "Row.add" s_Row_add a.f_Row_add a.d_Row_add a.i_Row_add
  b_Row_add:Binds K a.d_Row_add ["self", "key", "word", "deed"] []
  M_Row_add:Meth K a.C_Row "add" a.f_Row_add
  F_Row_at:Fun K "at" "Row.at" s_Row_at a.f_Row_at a.d_Row_at
  b_Row_at:Binds K a.d_Row_at ["self", "place"] []
  M_Row_at:Meth K a.C_Row "at" a.f_Row_at
  F_Row_seen:Fun K "seen" "Row.seen" s_Row_seen a.f_Row_seen a.d_Row_seen
  b_Row_seen:Binds K a.d_Row_seen ["self", "start", "limit", "most"] []
  M_Row_seen:Meth K a.C_Row "seen" a.f_Row_seen
  F_l_cell_at:Fun K "_law_cell_at" "_law_cell_at" s_l_cell_at a.f_l_cell_at a.d_l_cell_at
  b_l_cell_at:Binds K a.d_l_cell_at ["_law_script", "_law_k"] []
  m_l_cell_at:mg "_law_cell_at" = some (.ref a.f_l_cell_at)
  F_l_many:Fun K "_law_many" "_law_many" s_l_many a.f_l_many a.d_l_many
  b_l_many:Binds K a.d_l_many ["_law_script", "_law_first", "_law_most"] []
  m_l_many:mg "_law_many" = some (.ref a.f_l_many)
  F_l_whole:Fun K "_law_whole" "_law_whole" s_l_whole a.f_l_whole a.d_l_whole
  b_l_whole:Binds K a.d_l_whole ["_law_found_here", "_law_due"] []
  m_l_whole:mg "_law_whole" = some (.ref a.f_l_whole)
  F_l_names:Fun K "_law_names" "_law_names" s_l_names a.f_l_names a.d_l_names
  b_l_names:Binds K a.d_l_names ["_law_cell", "_law_other", "_law_many_here"] []
  m_l_names:mg "_law_names" = some (.ref a.f_l_names)
  F_l_runs:Fun K "_law_runs" "_law_runs" s_l_runs a.f_l_runs a.d_l_runs
  b_l_runs:Binds K a.d_l_runs ["_law_state", "_law_place"] []
  m_l_runs:mg "_law_runs" = some (.ref a.f_l_runs)
  F_l_open:Fun K "_law_open" "_law_open" s_l_open a.f_l_open a.d_l_open
  b_l_open:Binds K a.d_l_open ["_law_lending", "_law_state", "_law_place"] []
  m_l_open:mg "_law_open" = some (.ref a.f_l_open)
  F_l_good:Fun K "_law_good" "_law_good" s_l_good a.f_l_good a.d_l_good
  b_l_good:Binds K a.d_l_good ["_law_lending", "_law_state", "_law_found_here", "_law_numbers"] []
  m_l_good:mg "_law_good" = some (.ref a.f_l_good)
  F_l_take:Fun K "_law_take" "_law_take" s_l_take a.f_l_take a.d_l_take
  b_l_take:Binds K a.d_l_take ["_law_lending", "_law_row", "_law_state", "_law_taker", "_law_numbers"] []
  m_l_take:mg "_law_take" = some (.ref a.f_l_take)
  F_l_found:Fun K "_law_found" "_law_found" s_l_found a.f_l_found a.d_l_found
  b_l_found:Binds K a.d_l_found ["_law_lending", "_law_loan", "_law_turn"] []
  m_l_found:mg "_law_found" = some (.ref a.f_l_found)
  F_l_answer:Fun K "_law_answer" "_law_answer" s_l_answer a.f_l_answer a.d_l_answer
  b_l_answer:Binds K a.d_l_answer ["_law_lending", "_law_state", "_law_loan", "_law_back"] []
  m_l_answer:mg "_law_answer" = some (.ref a.f_l_answer)
  F_l_gone:Fun K "_law_gone" "_law_gone" s_l_gone a.f_l_gone a.d_l_gone
  b_l_gone:Binds K a.d_l_gone ["_law_lending", "_law_state", "_law_taker"] []
  m_l_gone:mg "_law_gone" = some (.ref a.f_l_gone)
  F_l_deed:Fun K "_law_deed" "_law_deed" s_l_deed a.f_l_deed a.d_l_deed
  b_l_deed:Binds K a.d_l_deed ["_law_lending", "_law_row", "_law_state", "_law_cell", "_law_names_here", "_law_numbers"] []
  m_l_deed:mg "_law_deed" = some (.ref a.f_l_deed)
  F_l_end:Fun K "_law_end" "_law_end" s_l_end a.f_l_end a.d_l_end
  b_l_end:Binds K a.d_l_end ["_law_lending", "_law_row", "_law_state", "_law_taker", "_law_numbers"] []
  m_l_end:mg "_law_end" = some (.ref a.f_l_end)
  F_law:Fun K "law" "law" s_law a.f_law a.d_law
  b_law:Binds K a.d_law ["_law_script"] []
  m_law:mg "law" = some (.ref a.f_law)
  cl_Lending:Cls K a.C_Lending
  mg_Lending:mg "Lending" = some (.ref a.C_Lending)
  k_Lending:Mk K a.C_Lending a.f_Lending___init__
  no_Lending_fates:NoAttr K a.C_Lending "fates"
  no_Lending_lent:NoAttr K a.C_Lending "lent"
  no_Lending_loans:NoAttr K a.C_Lending "loans"
  no_Lending_row:NoAttr K a.C_Lending "row"
  no_Lending_start:NoAttr K a.C_Lending "start"
  no_Lending_tried:NoAttr K a.C_Lending "tried"
  no_Lending_tries:NoAttr K a.C_Lending "tries"
  no_Lending_turns:NoAttr K a.C_Lending "turns"
  no_Lending_width:NoAttr K a.C_Lending "width"
  cl_Row:Cls K a.C_Row
  mg_Row:mg "Row" = some (.ref a.C_Row)
  k_Row:Mk K a.C_Row a.f_Row___init__
  no_Row_drawn:NoAttr K a.C_Row "drawn"
  no_Row_end:NoAttr K a.C_Row "end"
  no_Row_first:NoAttr K a.C_Row "first"
  no_Row_letters:NoAttr K a.C_Row "letters"
  mg_Late:mg "Late" = some (.ref a.C_Late)
  x_Late:XCls K a.C_Late
  xi_Late:PySem.W.findIn K (.ref a.C_Late) "__init__" = some (some (.ref a.f_Late___init__))
  xf_Late:PySem.W.isFn K (.ref a.f_Late___init__)=true
  no_Late_loan:NoAttr K a.C_Late "loan"
  no_Late_row:NoAttr K a.C_Late "row"
  em_Late_Late:PySem.W.exmOne K (.ref a.C_Late) (.ref a.C_Late)=some true
  n_bool:mg "bool" = none
  n_int:mg "int" = none
  n_isinstance:mg "isinstance" = none
  n_len:mg "len" = none
  n_list:mg "list" = none
  n_max:mg "max" = none
  n_min:mg "min" = none
  n_range:mg "range" = none
  n_sorted:mg "sorted" = none
  n_str:mg "str" = none
  n_tuple:mg "tuple" = none
  bl_law:∀ (s:Shared) (u:Value),BindsTo s a.d_law ⟨[u],[]⟩ [("_law_script",u)]

local macro_rules | `(tactic| walk_at "rd")=>do
  let ns:=(("sp_callb, sp_letgo39, sp_mark39, sp_runs39, sp_open39, sp_good39, sp_take39, sp_found39, sp_answer39, sp_gone39, sp_deed39, sp_end39, sp_place_y, sp_l_init, sp_lend33, sp_back33, sp_fate33, sp_due33, sp_r_loan_at, sp_l_tried_at, sp_l_fate_at, sp_r_is_lent, sp_pwf, sp_cellN, sp_many, sp_wholeI, sp_namesN, sp_row_init, sp_row_add, sp_row_at, sp_row_seen, tCompD, sXs, tRaise, tTry, tXFld, xMeth, xCall, xNo, tAs, tBare, tNoH, Ends.less, tLR2, tLR1, S_iff, and_assoc, tFor_eq, tComp_eq, cx_K, iAny_eq, iRng1, iRng2, rSlA_s, rSlS, tSl, tNoPart, tPart, tBM, tBM0, tyV, rJoin, tLst, tTup, tSeq, tAsg, gName, gTup, gCons, gNil, gSub, tC, tOp, tUn, rU, rI, rI0, tTest, tIfS, tRet, tRetN, tNext, tBreak, tCont, tDrop, tCons, tNil, tCall, tMeth, tMake, tCB, tB, tNot, tAnd, tOr, tAndV, tOrV, tNotV, tChain, tIf, tIsN, tNotN, tFld, sFld, tInRng, tInRng1, tDGet1, tDGet2, tDPop1, tDPop2, tDisp, tPairs, tDNewK, rAppend, rMax, rMin, iZip, iEnum, rInt_i, rInt_b, rStrI, rMul_ii, rMul_si, rIsB_bb, rNotB_bb, tForD_eq, iItems, iKeys, iRev, tDClear, rPlus_ii, rPlus_ss, rEqq_ii, rNeq_ii, rEqq_ss, rNeq_ss, rEqq_bb, rNeq_bb, rEqq_nn, rNeq_nn, rEqq_ni, rNeq_ni, rEqq_in, rNeq_in, rEqq_ns, rNeq_ns, rEqq_sn, rNeq_sn, rEqq_nb, rNeq_nb, rEqq_bn, rNeq_bn, rEqq_is, rNeq_is, rEqq_si, rNeq_si, rLt_ii, rLt_ss, rLe_ii, rLe_ss, rLen_s, rInn_s, rNin_s, rOrd, tTru, TruV_b, TruV_n, TruV_i, rIxA_s, rIxS2, rAny_s, isi_non_int, isi_non_bool, isi_non_str, isi_non_list, isi_non_tuple, isi_non_dict, isi_bl_int, isi_bl_bool, isi_bl_str, isi_bl_list, isi_bl_tuple, isi_bl_dict, isi_int_int, isi_int_bool, isi_int_str, isi_int_list, isi_int_tuple, isi_int_dict, isi_str_int, isi_str_bool, isi_str_str, isi_str_list, isi_str_tuple, isi_str_dict, _root_.L2.start, CMul, CDiv, CPow, Int.reduceNeg, Int.reducePow, Int.reduceLT, Int.reduceLE, Int.reduceToNat, or_true, true_or, and_self, Nat.reducePow, mapC, mapN, onRx, onBx, List.length_cons, List.length_nil, List.replicate, List.cons_append, List.nil_append, List.append_nil, Nat.reduceAdd, Nat.reduceSub, Nat.zero_add, Nat.add_zero, Nat.sub_self, List.getElem?_cons_zero, List.getElem?_cons_succ, List.set_cons_zero, List.set_cons_succ, Option.some.injEq, V.int.injEq, V.bl.injEq, V.str.injEq, V.ref.injEq, V.ty.injEq, reduceCtorEq, exists_eq, exists_eq', not_true_eq_false, not_false_eq_true, exists_eq_left', exists_eq_left, exists_eq_right, exists_eq_right', exists_and_left, exists_and_right, exists_const, false_and, and_false, true_and, and_true, exists_false, or_false, false_or, List.cons.injEq, eq_self_iff_true, Bool.false_eq_true, Bool.or_self, Bool.or_true, Bool.true_or, Bool.or_false, Bool.false_or, if_true, if_false, ite_true, ite_false, Bool.not_true, Bool.not_false, decide_eq_true_eq, Bool.not_eq_true', decide_eq_false_iff_not".splitOn ",").map String.trim).filter (fun s=>!s.isEmpty)
  let ls ← ns.mapM fun s=>`(Lean.Parser.Tactic.simpLemma| $(Lean.mkIdent s.toName):term)
  let ls:=ls.toArray
  `(tactic| simp (maxSteps:=3000000) only [$ls,*,↓reduceIte,↓$(Lean.mkIdent `tV0):term,↓$(Lean.mkIdent `tVs):term,↓$(Lean.mkIdent `onRr):term,↓$(Lean.mkIdent `onBb):term])
seal PE PT PW PA PS PSs PG PGs PI PO PPs PC
section
variable {P:Program} {w:World} {K:PySem.W.Frag} {mg:Str→Option Value} {base:Heap} {a:Adr}

theorem ok_Late___init__ (T:Txt K mg a):FnOk P w K mg base CX0 1 a.f_Late___init__ a.d_Late___init__ ["self", "row", "loan"] (sp_xs a.C_Late ["row", "loan"]):=by
  refine T.F_Late___init__.ok sc_Late___init__ (fun vs H Q E h=>?_) (fun cdv A outer s H vs Q E hr h=>?_)
  · obtain ⟨ea,t,ys,rfl,hl,_⟩:=h
    rw [List.length_cons,hl]
    rfl
  · obtain ⟨ea,t,ys,rfl,hl,he,q⟩:=h
    obtain ⟨y0,y1,rfl⟩:∃ y0 y1,ys=[y0,y1]:=by
      match ys,hl with
      | [y0,y1],_=>exact ⟨y0,y1,rfl⟩
    refine ⟨_,(pss_cons (ps_setx (pv 0) (pv 1) rfl)
      (pss_one (ps_setx (pv 0) (pv 2) rfl))),?_⟩
    walk_at "rd"
    exact ⟨a.C_Late,T.x_Late,T.no_Late_row,t,.inl ⟨he,fun d hd nd=>⟨a.C_Late,T.x_Late,T.no_Late_loan,t,.inr ⟨d,nd,upd_same,_,(upd_ne nd).trans upd_same,by simp,q d _ hd nd (fun b h1 h2=>by rw [upd_ne h1,upd_ne h2,upd_ne h1]) ((upd_ne (Ne.symm nd)).trans upd_same) upd_same⟩⟩⟩⟩
theorem ok_Row___init__ (T:Txt K mg a):FnOk P w K mg base CX0 1 a.f_Row___init__ a.d_Row___init__ ["self"] (sp_row_init a.C_Row):=by
  refine T.F_Row___init__.ok sc_Row___init__ (fun vs H Q E h=>?_) (fun cdv A outer s H vs Q E hr h=>?_)
  · obtain ⟨x,dx,rfl,_⟩:=h
    rfl
  · obtain ⟨x,dx,rfl,hx,q⟩:=h
    refine ⟨_,(pss_cons (ps_fld (pv 0) pe_int rfl)
      (pss_cons (ps_fld (pv 0) pe_int rfl)
      (pss_cons (ps_fld (pv 0) pe_int rfl)
      (pss_one (ps_fld (pv 0) pe_dnewK rfl))))),?_⟩
    walk_at "rd"
    refine ⟨_,dx,[],hx,T.cl_Row,T.no_Row_first,by decide,_,dx,_,upd_same,T.cl_Row,T.no_Row_end,by decide,_,dx,_,upd_same,T.cl_Row,T.no_Row_drawn,by decide,fun d hd=>?_⟩
    have hdx:d≠x:=fun z=>by rw [z,upd_same] at hd;cases hd
    rw [upd_ne hdx,upd_ne hdx,upd_ne hdx] at hd
    refine ⟨_,dx,_,(upd_ne (Ne.symm hdx)).trans upd_same,T.cl_Row,T.no_Row_letters,by decide,?_⟩
    refine q d _ hd hdx ?_ ⟨⟨dx,upd_same⟩,⟨[],(upd_ne hdx).trans upd_same,by decide,fun p=>⟨rfl,rfl⟩⟩,by decide,by decide,by decide,fun p h=>by cases h⟩
    have m:x∈[x]:=by simp
    refine (Chg.upd m (mut_ins hx)).trans ((Chg.upd m (mut_ins upd_same)).trans ((Chg.upd m (mut_ins upd_same)).trans ((Chg.new (by rw [upd_ne hdx,upd_ne hdx,upd_ne hdx];exact hd)).trans (Chg.upd m (mut_ins ((upd_ne (Ne.symm hdx)).trans upd_same))))))

theorem ok_Row_add (T:Txt K mg a):FnOk P w K mg base CX0 1 a.f_Row_add a.d_Row_add ["self", "key", "word", "deed"] (sp_row_add a.C_Row):=by
  refine T.F_Row_add.ok sc_Row_add (fun vs H Q E h=>?_) (fun cdv A outer s H vs Q E hr h=>?_)
  · obtain ⟨r,d,M,x,rfl,_⟩:=h
    rfl
  · obtain ⟨r,d,M,x,rfl,R,hb,q⟩:=h
    refine ⟨_,(pss_cons (ps_set (i:=4) sc_Row_add.nd rfl (Or.inl rfl) (pe_fldK (K:=K) (pv 0) rfl))
      (pss_cons (ps_asg (pe_tup (pa_cons (pv 1) (pa_cons (pv 2) (pa_cons (pv 3) pa_nil)))) (pg_sub (pe_fldK (K:=K) (pv 0) rfl) (pv 4) (set_any (hU1 hr))))
      (pss_cons (ps_fld (pv 0) (pe_op (op_plusK (K:=K)) (pv 4) pe_int) rfl)
      (pss_one (ps_ret (pv 4)))))),?_⟩
    obtain ⟨dx,hr⟩:=R.obj
    obtain ⟨kvs,hd,hk,hl⟩:=R.dict
    walk_at "rd"
    refine ⟨_,dx,_,hr,T.cl_Row,T.no_Row_end,_,rowF_end M d,by decide,fun t ht=>?_⟩
    have htr:t≠r:=fun z=>by rw [z,hr] at ht;cases ht
    have htd:t≠d:=fun z=>by rw [z,hd] at ht;cases ht
    have hdr:d≠r:=Ne.symm R.ne
    have hr1:upd H t (.tup (letV x)) r=some (.ins a.C_Row dx (rowF M d)):=(upd_ne (Ne.symm htr)).trans hr
    have hd1:upd H t (.tup (letV x)) d=some (.dK kvs):=(upd_ne (Ne.symm htd)).trans hd
    have hz:kvs.length < sizeLine:=Nat.lt_of_le_of_lt (show kvs.length≤100000 by omega) (by decide)
    refine ⟨_,dx,_,hr1,T.cl_Row,T.no_Row_letters,_,rowF_letters M d,rSetA_d (DPut.k (k:=.inl M.last) hd1 hz) ?_⟩
    walk_at "rd"
    refine ⟨_,dx,_,(upd_ne (Ne.symm hdr)).trans hr1,T.cl_Row,T.no_Row_end,(show 4 < 1000 by decide),?_⟩
    have c1:Chg [r,d] H (upd H t (.tup (letV x))):=Chg.new ht
    have c2:Chg [r,d] (upd H t (.tup (letV x))) (upd (upd H t (.tup (letV x))) d (.dK (putK kvs (.inl M.last) (.ref t)))):=Chg.upd (by simp) (mut_dK hd1)
    have c3:Chg [r,d] (upd (upd H t (.tup (letV x))) d (.dK (putK kvs (.inl M.last) (.ref t)))) _:=Chg.upd (o:=.ins a.C_Row dx (putF (Str.ofString "end") (.int (M.last+1)) (rowF M d))) (show r∈[r,d] by simp) (mut_ins ((upd_ne (Ne.symm hdr)).trans hr1))
    have c:=c1.trans (c2.trans c3)
    have l0:LetsAt (upd H t (.tup (letV x))) (putK kvs (.inl M.last) (.ref t)) (fun q=>if q=M.last then some x else M.L q):=(hl.chg c1).put upd_same
    refine q _ c ⟨⟨dx,upd_same⟩,⟨_,(upd_ne hdr).trans upd_same,?_,l0.chg (c2.trans c3)⟩,R.f0,Int.le_trans R.fl (show M.last≤M.last+1 by omega),R.dr,fun p hp=>?_⟩
    · have:=length_putK kvs (.inl M.last:Key) (.ref t)
      show ((putK kvs (.inl M.last) (.ref t)).length:Int)≤M.last+1
      omega
    · have f:=R.fl
      show M.first≤p∧p < M.last+1
      by_cases e:p=M.last
      · omega
      · have hp':(M.L p).isSome=true:=by
          have:(if p=M.last then some x else M.L p).isSome=true:=hp
          rwa [if_neg e] at this
        have:=R.within p hp'
        omega

theorem ok_Row_at (T:Txt K mg a):FnOk P w K mg base CX0 1 a.f_Row_at a.d_Row_at ["self", "place"] (sp_row_at a.C_Row):=by
  refine T.F_Row_at.ok sc_Row_at (fun vs H Q E h=>?_) (fun cdv A outer s H vs Q E hr h=>?_)
  · obtain ⟨r,d,M,p,rfl,_⟩:=h
    rfl
  · obtain ⟨r,d,M,p,rfl,R,q⟩:=h
    refine ⟨_,(pss_one (ps_ret (pe_dget1 (hU1 hr) (pe_fldK (K:=K) (pv 0) rfl) (pv 1) ⟨rfl,rfl,rfl,rfl⟩))),?_⟩
    obtain ⟨dx,hr⟩:=R.obj
    obtain ⟨kvs,hd,hk,hl⟩:=R.dict
    walk_at "rd"
    exact ⟨_,dx,_,hr,T.cl_Row,T.no_Row_letters,_,rowF_letters M d,d,rfl,.inl ⟨kvs,.inl hd⟩,_,DGet.k (k:=.inl p) hd,q _ (hl p).1⟩

theorem ok_Row_seen (T:Txt K mg a):FnOk P w K mg base CX0 2 a.f_Row_seen a.d_Row_seen ["self", "start", "limit", "most"] (sp_row_seen a.C_Row):=by
  refine T.F_Row_seen.ok sc_Row_seen (fun vs H Q E h=>?_) (fun cdv A outer s H vs Q E hr h=>?_)
  · obtain ⟨r,d,M,st,li,mo,rfl,_⟩:=h
    rfl
  · obtain ⟨r,d,M,st,li,mo,rfl,R,hb,h0,h1,h2,h3,q⟩:=h
    refine ⟨_,(pss_cons (ps_set (i:=4) sc_Row_seen.nd rfl (Or.inl rfl) (pe_lst pa_nil))
      (pss_cons (ps_for PassesOwn.never rfl (pi_range2 rfl T.n_range (pa_cons (pe_callB (call_maxA rfl) (by rfl) T.n_max boot_max (pa_cons (pv 1) (pa_cons (pe_fldK (K:=K) (pv 0) rfl) pa_nil))) (pa_cons (pe_callB (call_minA rfl) (by rfl) T.n_min boot_min (pa_cons (pv 2) (pa_cons (pe_fldK (K:=K) (pv 0) rfl) pa_nil))) pa_nil))) (pg_name (i:=5) sc_Row_seen.nd rfl (Or.inl rfl)) (pss_cons (ps_if (pt_cmpR op_geA (pe_callB (call_lenK (K:=K)) (by rfl) T.n_len boot_len (pa_cons (pv 4) pa_nil)) (pv 3) (nomark _)) (pss_one ps_break) pss_nil)
      (pss_cons (ps_set (i:=6) sc_Row_seen.nd rfl (Or.inl rfl) (pe_meth (pv 0) T.cl_Row T.M_Row_at (ok_Row_at T) (hr.mono (by decide)) T.b_Row_at .nil pass0 (pa_cons (pv 5) pa_nil)))
      (pss_one (ps_if (pt_cmp (pc_notN (pv 6))) (pss_one (ps_expr (pe_bmK (K:=K) PySem.F.plainAttrs_list PySem.F.slot_list_append PySem.F.type_list_append mt_append (pv 4) (pa_cons (pe_tup (pa_cons (pv 5) (pa_cons (pe_ix (ix_anyK (K:=K) (hU1 hr)) (pv 6) pe_int (fun _ _=>rfl)) (pa_cons (pe_ix (ix_anyK (K:=K) (hU1 hr)) (pv 6) pe_int (fun _ _=>rfl)) pa_nil)))) pa_nil)))) pss_nil)))))
      (pss_one (ps_ret (pv 4))))),?_⟩
    obtain ⟨dx,hr⟩:=R.obj
    have f0:=R.f0
    have fl:=R.fl
    walk_at "rd"
    refine ⟨by decide,fun D hD=>⟨_,dx,_,(Same.upd hD) _ _ hr,T.cl_Row,T.no_Row_first,_,rowF_first M d,_,rfl,_,dx,_,(Same.upd hD) _ _ hr,T.cl_Row,T.no_Row_end,_,rowF_end M d,_,rfl,by omega,by omega,by omega,by omega,?_⟩⟩
    generalize hlo:max st M.first=lo
    generalize hn:(min li M.last - lo).toNat=n
    have hn1:n≤100000:=by omega
    have hseen:M.seenP st li mo=(M.standing lo n).take mo.toNat:=by unfold RowM.seenP;rw [hlo,hn]
    rw [hseen] at q
    refine forW_range (fun i σ H'=>Same H H'∧i≤n∧LTups H' D (((M.standing lo i).take mo.toNat).map M.rowV)∧∃ v1 v2,σ=[some (V.ref r),some (V.int st),some (V.int li),some (V.int mo),some (V.ref D),v1,v2]) ⟨Same.upd hD,Nat.zero_le _,⟨[],upd_same,?_⟩,none,none,rfl⟩ ?_ ?_
    · rw [show M.standing lo 0=[] from rfl,List.take_nil]
      exact .nil
    · rintro i σ H' hi ⟨hs,hin,⟨ts,hl,ht⟩,v1,v2,rfl⟩
      have hlen:=ht.length
      rw [List.length_map,List.length_take] at hlen
      have hsl:=standing_len M lo i
      walk_at "rd"
      refine rLen_l (.inl (.inl hl)) ?_
      walk_at "rd"
      rw [List.length_map]
      refine ite2 (fun hm=>?_) (fun hm=>?_)
      · obtain ⟨more,he⟩:=standing_pre M lo hin
        refine q D H' hD hs ?_
        rw [he,List.take_append_of_le_length (by omega)]
        exact ⟨ts,hl,ht⟩
      · have R':=R.chg (A:=[]) (Chg.of_same hs) (by simp) (by simp)
        refine ⟨dx,_,hs _ _ hr,rowF_at M d,d,M,R',fun v hv=>?_⟩
        have hlt:(M.standing lo i).length < mo.toNat:=by omega
        have e1:(M.standing lo i).take mo.toNat=M.standing lo i:=List.take_of_length_le (by omega)
        rw [e1] at ht
        cases hM:M.L (lo+(i:Int)) with
        | none =>
          rw [hM] at hv
          cases (show v=.non from hv)
          simp only [decide_true,Bool.not_true,Bool.false_eq_true,if_false]
          refine ⟨hs,by omega,⟨ts,hl,?_⟩⟩
          rw [standing_succ,hM,if_neg (by simp),List.append_nil,e1]
          exact ht
        | some x =>
          rw [hM] at hv
          obtain ⟨t,rfl,htt⟩:=hv
          have hT:SqT K H' t (letV x):=.inl (.inl htt)
          simp only [reduceCtorEq,decide_false,Bool.not_false,if_true]
          refine ⟨.inl ⟨_,.inl (.inl hl)⟩,rIxA_t (v:=.str (S x.1)) hT rfl (rIxA_t (v:=wV x.2.1) hT rfl ⟨by decide,fun p hp=>?_⟩)⟩
          have hpD:p≠D:=fun z=>by rw [z,hl] at hp;cases hp
          have hl':upd H' p (.tup [.int (lo+(i:Int)),.str (S x.1),wV x.2.1]) D=some (.lst (ts.map V.ref)):=(upd_ne (Ne.symm hpD)).trans hl
          refine ⟨_,hl',Nat.lt_of_le_of_lt (show (ts.map V.ref).length≤100000 by rw [List.length_map];omega) (by decide),?_⟩
          have c1:Chg [D] H' (upd H' p (.tup [.int (lo+(i:Int)),.str (S x.1),wV x.2.1])):=Chg.new hp
          have c2:Chg [D] (upd H' p (.tup [.int (lo+(i:Int)),.str (S x.1),wV x.2.1])) (upd (upd H' p (.tup [.int (lo+(i:Int)),.str (S x.1),wV x.2.1])) D (.lst (ts.map V.ref++[V.ref p]))):=Chg.upd (by simp) (mut_lst hl')
          refine ⟨fun b o hb=>(c1.trans c2).keep _ _ (hs b o hb) ?_,by omega,⟨ts++[p],?_,?_⟩⟩
          · simp only [List.mem_cons,List.not_mem_nil,or_false]
            exact ne_of_none hb hD
          · rw [upd_same,List.map_append];rfl
          · rw [standing_succ,hM,if_pos (show (some x).isSome=true from rfl),List.take_of_length_le (by rw [List.length_append];simp;omega),List.map_append]
            refine (ht.chg (c1.trans c2)).snoc ?_
            rw [c2.tup _ _ upd_same]
            simp only [RowM.rowV,hM]
    · rintro σ H' ⟨hs,hin,hl,v1,v2,rfl⟩
      walk_at "rd"
      exact q D H' hD hs hl

theorem ok_Lending___init__ (T:Txt K mg a):FnOk P w K mg base CX0 1 a.f_Lending___init__ a.d_Lending___init__ ["self", "row", "start", "turns", "tries", "width"] (sp_l_init a.C_Lending):=by
  refine T.F_Lending___init__.ok sc_Lending___init__ (fun vs H Q E h=>?_) (fun cdv A outer s H vs Q E hr h=>?_)
  · obtain ⟨x,dx,r,s,t,n,w,rfl,_⟩:=h
    rfl
  · obtain ⟨x,dx,r,st,t,n,w,rfl,hx,q⟩:=h
    refine ⟨_,(pss_cons (ps_fld (pv 0) (pv 1) rfl)
      (pss_cons (ps_fld (pv 0) (pv 2) rfl)
      (pss_cons (ps_fld (pv 0) (pv 3) rfl)
      (pss_cons (ps_fld (pv 0) (pv 4) rfl)
      (pss_cons (ps_fld (pv 0) (pv 5) rfl)
      (pss_cons (ps_fld (pv 0) pe_int rfl)
      (pss_cons (ps_fld (pv 0) pe_dnewK rfl)
      (pss_cons (ps_fld (pv 0) pe_dnewK rfl)
      (pss_one (ps_fld (pv 0) pe_dnewK rfl)))))))))),?_⟩
    walk_at "rd"
    refine ⟨_,dx,[],hx,T.cl_Lending,T.no_Lending_row,by decide,_,dx,_,upd_same,T.cl_Lending,T.no_Lending_start,(show 1 < 1000 by decide),_,dx,_,upd_same,T.cl_Lending,T.no_Lending_turns,(show 2 < 1000 by decide),_,dx,_,upd_same,T.cl_Lending,T.no_Lending_tries,(show 3 < 1000 by decide),
      _,dx,_,upd_same,T.cl_Lending,T.no_Lending_width,(show 4 < 1000 by decide),_,dx,_,upd_same,T.cl_Lending,T.no_Lending_lent,(show 5 < 1000 by decide),fun f hf=>?_⟩
    have nf:f≠x:=fun z=>by rw [z,upd_same] at hf;cases hf
    refine ⟨_,dx,_,(upd_ne (Ne.symm nf)).trans upd_same,T.cl_Lending,T.no_Lending_fates,(show 6 < 1000 by decide),fun u hu=>?_⟩
    have nu:u≠x:=fun z=>by rw [z,upd_same] at hu;cases hu
    refine ⟨_,dx,_,(upd_ne (Ne.symm nu)).trans upd_same,T.cl_Lending,T.no_Lending_tried,(show 7 < 1000 by decide),fun l hl=>?_⟩
    have nl:l≠x:=fun z=>by rw [z,upd_same] at hl;cases hl
    refine ⟨_,dx,_,(upd_ne (Ne.symm nl)).trans upd_same,T.cl_Lending,T.no_Lending_loans,(show 8 < 1000 by decide),?_⟩
    have nuf:u≠f:=fun z=>by rw [upd_ne nu,z,upd_same] at hu;cases hu
    have nlu:l≠u:=fun z=>by rw [upd_ne nl,z,upd_same] at hl;cases hl
    have nlf:l≠f:=fun z=>by rw [upd_ne nl,upd_ne nlu,z,upd_ne nf,upd_same] at hl;cases hl
    have hf0:H f=none:=by
      rw [upd_ne nf,upd_ne nf,upd_ne nf,upd_ne nf,upd_ne nf,upd_ne nf] at hf;exact hf
    have hu0:H u=none:=by
      rw [upd_ne nu,upd_ne nuf,upd_ne nu,upd_ne nu,upd_ne nu,upd_ne nu,upd_ne nu,upd_ne nu] at hu;exact hu
    have hl0:H l=none:=by
      rw [upd_ne nl,upd_ne nlu,upd_ne nl,upd_ne nlf,upd_ne nl,upd_ne nl,upd_ne nl,upd_ne nl,upd_ne nl,upd_ne nl] at hl;exact hl
    have m:x∈[x]:=by simp
    refine q f u l _ hf0 hu0 hl0 ?_ ⟨⟨dx,upd_same⟩,⟨[],?_,Nat.zero_le _,fun p=>rfl,fun z=>rfl⟩,⟨[],?_,Nat.zero_le _,fun p=>rfl⟩,⟨[],?_,Nat.zero_le _,fun p=>rfl,fun z=>rfl⟩,Ne.symm nf,Ne.symm nu,Ne.symm nl,Ne.symm nuf,Ne.symm nlf,Ne.symm nlu⟩
    · refine (Chg.upd m (mut_ins hx)).trans ((Chg.upd m (mut_ins upd_same)).trans ((Chg.upd m (mut_ins upd_same)).trans ((Chg.upd m (mut_ins upd_same)).trans ((Chg.upd m (mut_ins upd_same)).trans ((Chg.upd m (mut_ins upd_same)).trans
        ((Chg.new hf).trans ((Chg.upd m (mut_ins ((upd_ne (Ne.symm nf)).trans upd_same))).trans ((Chg.new hu).trans ((Chg.upd m (mut_ins ((upd_ne (Ne.symm nu)).trans upd_same))).trans ((Chg.new hl).trans (Chg.upd m (mut_ins ((upd_ne (Ne.symm nl)).trans upd_same)))))))))))))
    · exact (upd_ne nf).trans ((upd_ne (Ne.symm nlf)).trans ((upd_ne nf).trans ((upd_ne (Ne.symm nuf)).trans ((upd_ne nf).trans upd_same))))
    · exact (upd_ne nu).trans ((upd_ne (Ne.symm nlu)).trans ((upd_ne nu).trans upd_same))
    · exact (upd_ne nl).trans upd_same
theorem ok_Lending_tried_at (T:Txt K mg a):FnOk P w K mg base CX0 1 a.f_Lending_tried_at a.d_Lending_tried_at ["self", "place"] (sp_l_tried_at a.C_Lending):=by
  refine T.F_Lending_tried_at.ok sc_Lending_tried_at (fun vs H Q E h=>?_) (fun cdv A outer s H vs Q E hr h=>?_)
  · obtain ⟨r,f,t,l,M,p,rfl,_⟩:=h
    rfl
  · obtain ⟨r,f,t,l,M,p,rfl,R,q⟩:=h
    refine ⟨_,(pss_one (ps_ret (pe_dget2 (hU1 hr) (pe_fldK (K:=K) (pv 0) rfl) (pv 1) pe_int ⟨rfl,rfl,rfl,rfl⟩))),?_⟩
    obtain ⟨dx,hr⟩:=R.obj
    obtain ⟨kvs,ht,hk,hv⟩:=R.tri
    walk_at "rd"
    refine ⟨_,dx,_,hr,T.cl_Lending,T.no_Lending_tried,_,lf_tried M f t l,t,rfl,.inl ⟨kvs,.inl ht⟩,_,DGet.k (k:=.inl p) ht,?_⟩
    rw [hv p]
    exact q
theorem ok_Lending_loan_at (T:Txt K mg a):FnOk P w K mg base CX0 1 a.f_Lending_loan_at a.d_Lending_loan_at ["self", "place"] (sp_r_loan_at a.C_Lending):=by
  refine T.F_Lending_loan_at.ok sc_Lending_loan_at (fun vs H Q E h=>?_) (fun cdv A outer s H vs Q E hr h=>?_)
  · obtain ⟨r,l,M,p,rfl,_⟩:=h
    rfl
  · obtain ⟨r,l,M,p,rfl,⟨⟨dx,f,t,hro⟩,kvs,hl,hv⟩,q⟩:=h
    refine ⟨_,(pss_one (ps_ret (pe_dget1 (hU1 hr) (pe_fldK (K:=K) (pv 0) rfl) (pv 1) ⟨rfl,rfl,rfl,rfl⟩))),?_⟩
    walk_at "rd"
    exact ⟨_,dx,_,hro,T.cl_Lending,T.no_Lending_loans,_,lf_loans M f t l,l,rfl,.inl ⟨kvs,hl⟩,_,.inl ⟨kvs,.inl p,hl,rfl,rfl⟩,q _ (hv p).val⟩
theorem ok_Lending_fate_at (T:Txt K mg a):FnOk P w K mg base CX0 1 a.f_Lending_fate_at a.d_Lending_fate_at ["self", "place"] (sp_l_fate_at a.C_Lending):=by
  refine T.F_Lending_fate_at.ok sc_Lending_fate_at (fun vs H Q E h=>?_) (fun cdv A outer s H vs Q E hr h=>?_)
  · obtain ⟨r,f,t,l,M,p,rfl,_⟩:=h
    rfl
  · obtain ⟨r,f,t,l,M,p,rfl,R,q⟩:=h
    refine ⟨_,(pss_one (ps_ret (pe_dget1 (hU1 hr) (pe_fldK (K:=K) (pv 0) rfl) (pv 1) ⟨rfl,rfl,rfl,rfl⟩))),?_⟩
    obtain ⟨dx,hr⟩:=R.obj
    obtain ⟨kvs,hf,hk,hv,hz⟩:=R.fat
    walk_at "rd"
    refine ⟨_,dx,_,hr,T.cl_Lending,T.no_Lending_fates,_,lf_fates M f t l,f,rfl,.inl ⟨kvs,.inl hf⟩,_,DGet.k (k:=.inl p) hf,?_⟩
    rw [hv p]
    cases e:M.F p with
    | none=>rw [e] at q;exact q
    | some z=>rw [e] at q;exact q
theorem ok_Lending_lend (T:Txt K mg a):FnOk P w K mg base CX0 2 a.f_Lending_lend a.d_Lending_lend ["self", "place", "taker", "turn"] (sp_lend33 a.C_Lending):=by
  refine T.F_Lending_lend.ok sc_Lending_lend (fun vs H Q E h=>?_) (fun cdv A outer s H vs Q E hr h=>?_)
  · obtain ⟨r,f,t,l,M,p,tk,turn,ks,rfl,_⟩:=h
    rfl
  · obtain ⟨r,f,t,l,M,p,tk,turn,ks,rfl,R,⟨kc,hlc,hcc⟩,hz,q⟩:=h
    refine ⟨_,(pss_cons (ps_fld (pv 0) (pe_op (op_plusK (K:=K)) (pe_fldK (K:=K) (pv 0) rfl) pe_int) rfl)
      (pss_cons (ps_asg (pe_tup (pa_cons (pe_fldK (K:=K) (pv 0) rfl) (pa_cons (pv 2) (pa_cons (pe_op (op_plusK (K:=K)) (pv 3) (pe_fldK (K:=K) (pv 0) rfl)) pa_nil)))) (pg_sub (pe_fldK (K:=K) (pv 0) rfl) (pv 1) (set_any (hU1 hr))))
      (pss_cons (ps_asg (pe_op (op_plusK (K:=K)) (pe_meth (pv 0) T.cl_Lending T.M_Lending_tried_at (ok_Lending_tried_at T) (hr.mono (by decide)) T.b_Lending_tried_at .nil pass0 (pa_cons (pv 1) pa_nil)) pe_int) (pg_sub (pe_fldK (K:=K) (pv 0) rfl) (pv 1) (set_any (hU1 hr))))
      (pss_one (ps_ret (pe_fldK (K:=K) (pv 0) rfl)))))),?_⟩
    obtain ⟨dx,hr⟩:=R.obj
    obtain ⟨k3,hl,hk3,v3,w3⟩:=R.loa
    obtain ⟨k2,ht,hk2,v2⟩:=R.tri
    have hcc3:k3.map (·.1)=ks.map Sum.inl:=by rw [hl] at hlc;cases hlc;exact hcc
    have nrt:=R.rt
    have nrl:=R.rl
    have ntl:=R.tl
    walk_at "rd"
    refine ⟨_,dx,_,hr,T.cl_Lending,T.no_Lending_lent,_,lf_lent M f t l,?_⟩
    walk_at "rd"
    refine ⟨_,dx,_,hr,T.cl_Lending,T.no_Lending_lent,(show 9 < 1000 by decide),_,dx,_,upd_same,T.cl_Lending,T.no_Lending_lent,_,rfl,_,dx,_,upd_same,T.cl_Lending,T.no_Lending_turns,_,rfl,?_⟩
    walk_at "rd"
    refine ⟨by decide,fun tp htp=>?_⟩
    have ntr:tp≠r:=fun z=>by rw [z,upd_same] at htp;cases htp
    have htp0:H tp=none:=by rw [upd_ne ntr] at htp;exact htp
    have ntl':tp≠l:=fun z=>by rw [z,hl] at htp0;cases htp0
    have ntt':tp≠t:=fun z=>by rw [z,ht] at htp0;cases htp0
    refine ⟨_,dx,_,(upd_ne (Ne.symm ntr)).trans upd_same,T.cl_Lending,T.no_Lending_loans,_,rfl,?_⟩
    have hl1:upd (upd H r (.ins a.C_Lending dx (putF (Str.ofString "lent") (V.int (M.lent+1)) (lendF M f t l)))) tp (.tup (loanV (M.lent+1,tk,turn+M.turns))) l=some (.dK k3):=(upd_ne (Ne.symm ntl')).trans ((upd_ne (Ne.symm nrl)).trans hl)
    refine rSetA_d (DPut.k (k:=.inl p) hl1 (Nat.lt_of_le_of_lt hk3 (Nat.lt_of_le_of_lt hz (by decide)))) ?_
    generalize hH2:upd (upd (upd H r (.ins a.C_Lending dx (putF (Str.ofString "lent") (V.int (M.lent+1)) (lendF M f t l)))) tp _) l _=H2
    have c1:Chg [r,t,l] H (upd H r (.ins a.C_Lending dx (putF (Str.ofString "lent") (V.int (M.lent+1)) (lendF M f t l)))):=Chg.upd (by simp) (mut_ins hr)
    have c2:=Chg.new (A:=[r,t,l]) (o:=.tup (loanV (M.lent+1,tk,turn+M.turns))) htp
    have c3:=Chg.upd (A:=[r,t,l]) (o:=.dK (putK k3 (.inl p) (.ref tp))) (show l∈[r,t,l] by simp) (mut_dK hl1)
    have c123:Chg [r,t,l] H H2:=by rw [← hH2];exact c1.trans (c2.trans c3)
    have hr2:H2 r=some (.ins a.C_Lending dx (lendF { M with lent:=M.lent+1 } f t l)):=by rw [← hH2];exact (upd_ne nrl).trans ((upd_ne (Ne.symm ntr)).trans upd_same)
    have hl2:H2 l=some (.dK (putK k3 (.inl p) (.ref tp))):=by rw [← hH2];exact upd_same
    have ht2:H2 t=some (.dK k2):=by rw [← hH2];exact (upd_ne ntl).trans ((upd_ne (Ne.symm ntt')).trans ((upd_ne (Ne.symm nrt)).trans ht))
    have htp2:H2 tp=some (.tup (loanV (M.lent+1,tk,turn+M.turns))):=by rw [← hH2];exact (upd_ne ntl').trans upd_same
    have lo2:∀ z:Int,LoanO H2 ((M.lend p tk turn).L z) (valV (putK k3 (.inl p) (.ref tp)) (.inl z)):=fun z=>by
      rw [valV_put]
      by_cases e:z=p
      · subst e
        rw [if_pos rfl]
        show LoanO H2 (if z=z then some (M.lent+1,tk,turn+M.turns) else M.L z) _
        rw [if_pos rfl]
        exact ⟨tp,rfl,htp2⟩
      · rw [if_neg (fun z'=>e (Sum.inl.inj z'))]
        show LoanO H2 (if z=p then some (M.lent+1,tk,turn+M.turns) else M.L z) _
        rw [if_neg e]
        exact (v3 z).chg c123
    have lw2:∀ z:Str,valV (putK k3 (.inl p) (.ref tp)) (.inr z)=none:=fun z=>by rw [valV_put,if_neg (fun z'=>by cases z')];exact w3 z
    have ll2:(putK k3 (.inl p:Key) (.ref tp)).length≤M.sz+1:=by have:=length_putK k3 (.inl p:Key) (.ref tp);omega
    obtain ⟨kf,hf,hkf,vf,wf⟩:=R.fat
    have hf2:H2 f=some (.dK kf):=c123.keep _ _ hf (by simp;exact ⟨Ne.symm R.rf,R.ft,R.fl⟩)
    have R2:LendAt a.C_Lending H2 r f t l { M with lent:=M.lent+1,L:=(M.lend p tk turn).L,sz:=M.sz+1 } :=
      ⟨⟨dx,hr2⟩,⟨kf,hf2,Nat.le_succ_of_le hkf,vf,wf⟩,⟨k2,ht2,Nat.le_succ_of_le hk2,v2⟩,⟨_,hl2,ll2,lo2,lw2⟩,R.rf,R.rt,R.rl,R.ft,R.fl,R.tl⟩
    refine ⟨dx,_,hr2,rfl,f,t,l,_,R2,_,dx,_,hr2,T.cl_Lending,T.no_Lending_tried,_,rfl,rSetA_d (DPut.k (k:=.inl p) ht2 (Nat.lt_of_le_of_lt hk2 (Nat.lt_of_le_of_lt hz (by decide)))) ?_⟩
    have c4:Chg [r,t,l] H2 (upd H2 t (.dK (putK k2 (.inl p) (.int (M.T p+1))))):=Chg.upd (by simp) (mut_dK ht2)
    refine ⟨_,dx,_,(upd_ne nrt).trans hr2,T.cl_Lending,T.no_Lending_lent,_,rfl,q _ (c123.trans c4) ⟨⟨dx,(upd_ne nrt).trans hr2⟩,⟨kf,(upd_ne R.ft).trans hf2,Nat.le_succ_of_le hkf,vf,wf⟩,⟨_,upd_same,?_,fun z=>?_⟩,⟨_,(upd_ne (Ne.symm ntl)).trans hl2,ll2,fun z=>(lo2 z).chg c4,lw2⟩,R.rf,R.rt,R.rl,R.ft,R.fl,R.tl⟩ ⟨_,(upd_ne (Ne.symm ntl)).trans hl2,?_⟩⟩
    · have:=length_putK k2 (.inl p:Key) (.int (M.T p+1))
      show (putK k2 (.inl p:Key) (.int (M.T p+1))).length≤M.sz+1
      omega
    · rw [valV_put]
      by_cases e:z=p
      · subst e
        rw [if_pos rfl]
        show V.int (M.T z+1)=V.int (if z=z then M.T z+1 else M.T z)
        rw [if_pos rfl]
      · rw [if_neg (fun z'=>e (Sum.inl.inj z'))]
        show _=V.int (if z=p then M.T p+1 else M.T z)
        rw [if_neg e]
        exact v2 z
    · exact keys_put hcc3 p _
theorem ok_Lending_give_back (T:Txt K mg a):FnOk P w K mg base CX0 1 a.f_Lending_give_back a.d_Lending_give_back ["self", "place"] (sp_back33 a.C_Lending):=by
  refine T.F_Lending_give_back.ok sc_Lending_give_back (fun vs H Q E h=>?_) (fun cdv A outer s H vs Q E hr h=>?_)
  · obtain ⟨r,f,t,l,M,p,ks,rfl,_⟩:=h
    rfl
  · obtain ⟨r,f,t,l,M,p,ks,rfl,LA,⟨kc,hlc,hcc⟩,q⟩:=h
    refine ⟨_,(pss_one (ps_expr (pe_dpop2 (pe_fldK (K:=K) (pv 0) rfl) (pv 1) pe_non ⟨rfl,rfl,rfl,rfl⟩))),?_⟩
    obtain ⟨dx,hro⟩:=LA.obj
    obtain ⟨k3,hl,hk3,v3,w3⟩:=LA.loa
    have hcc3:k3.map (·.1)=ks.map Sum.inl:=by rw [hl] at hlc;cases hlc;exact hcc
    walk_at "rd"
    refine ⟨_,dx,_,hro,T.cl_Lending,T.no_Lending_loans,_,lf_loans M f t l,l,rfl,.inl ⟨k3,.inl hl⟩,k3,hl,.inl p,rfl,fun v hv=>?_,fun hv=>?_⟩
    · have c:Chg [l] H (upd H l (.dK (dropK k3 (.inl p)))):=Chg.upd (by simp) (mut_dK hl)
      obtain ⟨k1,hf,hk1,v1,w1⟩:=LA.fat
      obtain ⟨k2,ht,hk2,v2⟩:=LA.tri
      refine q _ c ⟨⟨dx,(upd_ne LA.rl).trans hro⟩,⟨k1,(upd_ne LA.fl).trans hf,hk1,v1,w1⟩,⟨k2,(upd_ne LA.tl).trans ht,hk2,v2⟩,⟨_,upd_same,Nat.le_trans (dropK_le _ _) hk3,fun z=>?_,fun z=>by rw [valV_drop,if_neg (by intro h;cases h)];exact w3 z⟩,LA.rf,LA.rt,LA.rl,LA.ft,LA.fl,LA.tl⟩ ⟨_,upd_same,keys_drop hcc3 p⟩
      rw [valV_drop]
      by_cases e:z=p
      · subst e
        rw [if_pos rfl]
        show LoanO _ (if z=z then none else M.L z) none
        rw [if_pos rfl]
        rfl
      · rw [if_neg (fun h=>e (Sum.inl.inj h))]
        show LoanO _ (if z=p then none else M.L z) _
        rw [if_neg e]
        exact (v3 z).chg c
    · have hn:M.L p=none:=by
        have:=v3 p
        rw [hv] at this
        cases e:M.L p with
        | none=>rfl
        | some y=>rw [e] at this;obtain ⟨_,z,_⟩:=this;cases z
      have eb:M.back p=M:=by
        unfold LendM.back
        have:(fun q=>if q=p then none else M.L q)=M.L:=by
          funext z
          by_cases ez:z=p
          · rw [if_pos ez,ez,hn]
          · rw [if_neg ez]
        rw [this]
      exact q H (Chg.refl _) (by rw [eb];exact LA) (by rw [delK_none (fun z=>by have:=(keys_mem hcc3 p).mpr z;rw [hv] at this;cases this)];exact ⟨k3,hl,hcc3⟩)
theorem ok_Lending_settle (T:Txt K mg a):FnOk P w K mg base CX0 2 a.f_Lending_settle a.d_Lending_settle ["self", "place"] (sp_fate33 a.C_Lending (Str.ofString "answered")):=by
  refine T.F_Lending_settle.ok sc_Lending_settle (fun vs H Q E h=>?_) (fun cdv A outer s H vs Q E hr h=>?_)
  · obtain ⟨r,f,t,l,M,p,ks,rfl,_⟩:=h
    rfl
  · obtain ⟨r,f,t,l,M,p,ks,rfl,LA,hks,hz,q⟩:=h
    refine ⟨_,(pss_cons (ps_expr (pe_meth (pv 0) T.cl_Lending T.M_Lending_give_back (ok_Lending_give_back T) (hr.mono (by decide)) T.b_Lending_give_back .nil pass0 (pa_cons (pv 1) pa_nil)))
      (pss_one (ps_asg pe_str (pg_sub (pe_fldK (K:=K) (pv 0) rfl) (pv 1) (set_any (hU1 hr)))))),?_⟩
    obtain ⟨dx,hro⟩:=LA.obj
    walk_at "rd"
    refine ⟨dx,_,hro,rfl,f,t,l,M,LA,ks,hks,fun H1 c1 L1 K1=>?_⟩
    obtain ⟨dx1,hr1⟩:=L1.obj
    obtain ⟨k1,hf,hk1,v1,w1⟩:=L1.fat
    obtain ⟨k2,ht,hk2,v2⟩:=L1.tri
    obtain ⟨k3,hl,hk3,v3,w3⟩:=L1.loa
    have hk1':k1.length≤M.sz:=hk1
    refine ⟨_,dx1,_,hr1,T.cl_Lending,T.no_Lending_fates,_,lf_fates _ f t l,rSetA_d (DPut.k (k:=.inl p) hf (Nat.lt_of_le_of_lt hk1' (Nat.lt_of_le_of_lt hz (by decide)))) ?_⟩
    have c2:Chg [f,l] H1 (upd H1 f (.dK (putK k1 (.inl p) (.str (Str.ofString "answered"))))):=Chg.upd (by simp) (mut_dK hf)
    refine q _ ((c1.mono (by simp)).trans c2) ⟨⟨dx1,(upd_ne L1.rf).trans hr1⟩,⟨_,upd_same,?_,fun z=>?_,fun z=>by rw [valV_put,if_neg (by intro h;cases h)];exact w1 z⟩,⟨k2,(upd_ne (Ne.symm L1.ft)).trans ht,Nat.le_succ_of_le hk2,v2⟩,⟨k3,(upd_ne (Ne.symm L1.fl)).trans hl,Nat.le_succ_of_le hk3,fun z=>(v3 z).chg c2,w3⟩,L1.rf,L1.rt,L1.rl,L1.ft,L1.fl,L1.tl⟩ (let ⟨ka,ea,ba⟩:=K1;⟨ka,(upd_ne (Ne.symm L1.fl)).trans ea,ba⟩)
    · have:=length_putK k1 (.inl p:Key) (.str (Str.ofString "answered"))
      show (putK k1 (.inl p:Key) (.str (Str.ofString "answered"))).length≤M.sz+1
      omega
    · rw [valV_put]
      by_cases e:z=p
      · subst e
        rw [if_pos rfl]
        show _=(if z=z then some (Str.ofString "answered") else M.F z).map V.str
        rw [if_pos rfl]
        rfl
      · rw [if_neg (fun h=>e (Sum.inl.inj h))]
        show _=(if z=p then some (Str.ofString "answered") else M.F z).map V.str
        rw [if_neg e]
        exact v1 z
theorem ok_Lending_set_aside (T:Txt K mg a):FnOk P w K mg base CX0 2 a.f_Lending_set_aside a.d_Lending_set_aside ["self", "place"] (sp_fate33 a.C_Lending (Str.ofString "aside")):=by
  refine T.F_Lending_set_aside.ok sc_Lending_set_aside (fun vs H Q E h=>?_) (fun cdv A outer s H vs Q E hr h=>?_)
  · obtain ⟨r,f,t,l,M,p,ks,rfl,_⟩:=h
    rfl
  · obtain ⟨r,f,t,l,M,p,ks,rfl,LA,hks,hz,q⟩:=h
    refine ⟨_,(pss_cons (ps_expr (pe_meth (pv 0) T.cl_Lending T.M_Lending_give_back (ok_Lending_give_back T) (hr.mono (by decide)) T.b_Lending_give_back .nil pass0 (pa_cons (pv 1) pa_nil)))
      (pss_one (ps_asg pe_str (pg_sub (pe_fldK (K:=K) (pv 0) rfl) (pv 1) (set_any (hU1 hr)))))),?_⟩
    obtain ⟨dx,hro⟩:=LA.obj
    walk_at "rd"
    refine ⟨dx,_,hro,rfl,f,t,l,M,LA,ks,hks,fun H1 c1 L1 K1=>?_⟩
    obtain ⟨dx1,hr1⟩:=L1.obj
    obtain ⟨k1,hf,hk1,v1,w1⟩:=L1.fat
    obtain ⟨k2,ht,hk2,v2⟩:=L1.tri
    obtain ⟨k3,hl,hk3,v3,w3⟩:=L1.loa
    have hk1':k1.length≤M.sz:=hk1
    refine ⟨_,dx1,_,hr1,T.cl_Lending,T.no_Lending_fates,_,lf_fates _ f t l,rSetA_d (DPut.k (k:=.inl p) hf (Nat.lt_of_le_of_lt hk1' (Nat.lt_of_le_of_lt hz (by decide)))) ?_⟩
    have c2:Chg [f,l] H1 (upd H1 f (.dK (putK k1 (.inl p) (.str (Str.ofString "aside"))))):=Chg.upd (by simp) (mut_dK hf)
    refine q _ ((c1.mono (by simp)).trans c2) ⟨⟨dx1,(upd_ne L1.rf).trans hr1⟩,⟨_,upd_same,?_,fun z=>?_,fun z=>by rw [valV_put,if_neg (by intro h;cases h)];exact w1 z⟩,⟨k2,(upd_ne (Ne.symm L1.ft)).trans ht,Nat.le_succ_of_le hk2,v2⟩,⟨k3,(upd_ne (Ne.symm L1.fl)).trans hl,Nat.le_succ_of_le hk3,fun z=>(v3 z).chg c2,w3⟩,L1.rf,L1.rt,L1.rl,L1.ft,L1.fl,L1.tl⟩ (let ⟨ka,ea,ba⟩:=K1;⟨ka,(upd_ne (Ne.symm L1.fl)).trans ea,ba⟩)
    · have:=length_putK k1 (.inl p:Key) (.str (Str.ofString "aside"))
      show (putK k1 (.inl p:Key) (.str (Str.ofString "aside"))).length≤M.sz+1
      omega
    · rw [valV_put]
      by_cases e:z=p
      · subst e
        rw [if_pos rfl]
        show _=(if z=z then some (Str.ofString "aside") else M.F z).map V.str
        rw [if_pos rfl]
        rfl
      · rw [if_neg (fun h=>e (Sum.inl.inj h))]
        show _=(if z=p then some (Str.ofString "aside") else M.F z).map V.str
        rw [if_neg e]
        exact v1 z

theorem ok_Lending_is_lent (T:Txt K mg a):FnOk P w K mg base CX0 2 a.f_Lending_is_lent a.d_Lending_is_lent ["self", "place", "turn"] (sp_r_is_lent a.C_Lending):=by
  refine T.F_Lending_is_lent.ok sc_Lending_is_lent (fun vs H Q E h=>?_) (fun cdv A outer s H vs Q E hr h=>?_)
  · obtain ⟨r,l,M,p,turn,rfl,_⟩:=h
    rfl
  · obtain ⟨r,l,M,p,turn,rfl,R,q⟩:=h
    refine ⟨_,(pss_cons (ps_set (i:=3) sc_Lending_is_lent.nd rfl (Or.inl rfl) (pe_meth (pv 0) T.cl_Lending T.M_Lending_loan_at (ok_Lending_loan_at T) (hr.mono (by decide)) T.b_Lending_loan_at .nil pass0 (pa_cons (pv 1) pa_nil)))
      (pss_one (ps_ret (pe_and (pe_cmp (pc_notN (pv 3))) (pe_one (pe_cmpR op_ltK (pv 2) (pe_ix (ix_anyK (K:=K) (hU1 hr)) (pv 3) pe_int (fun _ _=>rfl)) (nomark _))))))),?_⟩
    obtain ⟨⟨dx,f,t,hro⟩,_⟩:=id R
    walk_at "rd"
    refine ⟨dx,_,hro,rfl,l,M,R,fun v hv=>?_⟩
    unfold LendM.isLent at q
    cases e:M.L p with
    | none =>
      rw [e] at hv q
      rw [show v=.non from hv]
      walk_at "rd"
      exact q
    | some y =>
      rw [e] at hv q
      obtain ⟨tt,rfl,ht⟩:=hv
      walk_at "rd"
      refine rIxA_t (v:=.int y.2.2) (.inl (.inl ht)) rfl ?_
      walk_at "rd"
      exact q

theorem ok_Lending_places_without_fate (T:Txt K mg a):FnOk P w K mg base CX0 3 a.f_Lending_places_without_fate a.d_Lending_places_without_fate ["self", "row", "front"] (sp_pwf a.C_Lending a.C_Row):=by
  refine T.F_Lending_places_without_fate.ok sc_Lending_places_without_fate (fun vs H Q E h=>?_) (fun cdv A outer s H vs Q E hr h=>?_)
  · obtain ⟨r,f,t,l,M,row,d,R,fr,rfl,_⟩:=h
    rfl
  · obtain ⟨r,f,t,l,M,row,d,R,fr,rfl,LA,RA,h1,h2,h3,h4,q⟩:=h
    refine ⟨_,(pss_cons (ps_setc (i:=3) ["self", "row", "front", "places"] ["self", "row", "front", "places"] (defScope s_Lending_places_without_fate) (by exact ⟨rfl,by decide +kernel,by decide +kernel,by decide +kernel,by decide +kernel,by decide +kernel,by decide +kernel,by decide +kernel,by decide +kernel⟩) (pi_anyK (K:=K) (pe_meth (pv 1) T.cl_Row T.M_Row_seen (ok_Row_seen T) (hr.mono (by decide)) T.b_Row_seen .nil pass0 (pa_cons (pe_fldK (K:=K) (pv 0) rfl) (pa_cons (pv 2) (pa_cons (pe_fldK (K:=K) (pv 1) rfl) pa_nil))))) (fun C₁ s₁ H₁ f₁=>(pe_ix (ix_anyK (K:=K) (hU1 hr)) (pv 0) pe_int (fun _ _=>rfl))) sc_Lending_places_without_fate.nd)
      (pss_one (ps_ret (pe_compIf ["self", "row", "front", "places"] ["self", "row", "front", "places"] (defScope s_Lending_places_without_fate) (by exact ⟨rfl,by decide +kernel,by decide +kernel,by decide +kernel,by decide +kernel,by decide +kernel,by decide +kernel,by decide +kernel,by decide +kernel⟩) (pi_anyK (K:=K) (pv 3)) (fun C₁ s₁ H₁ f₁=>(pt_cmp (pc_isN (pe_meth (pv 1) T.cl_Lending T.M_Lending_fate_at (ok_Lending_fate_at T) (hr.mono (by decide)) T.b_Lending_fate_at .nil pass0 (pa_cons (pv 0) pa_nil))))) (fun C₁ s₁ H₁ f₁=>(pv 0)))))),?_⟩
    obtain ⟨dx,hro⟩:=LA.obj
    obtain ⟨dy,hy⟩:=RA.obj
    have hR0:=RA.f0
    have hRl:=RA.fl
    walk_at "rd"
    refine ⟨dy,_,hy,rowF_seen R d,_,dx,_,hro,T.cl_Lending,T.no_Lending_start,_,lf_start M f t l,_,dy,_,hy,T.cl_Row,T.no_Row_end,_,rowF_end R d,d,R,M.start,rfl,R.last,rfl,RA,by omega,h2,by omega,h4,by omega,fun D H1 hD s1 hT=>?_⟩
    have hsl:(R.seenP M.start fr R.last).length≤1000:=by
      unfold RowM.seenP
      rw [List.length_take]
      omega
    have hst:∀ y∈R.seenP M.start fr R.last,∃ rs,R.rowV y=.int y::rs:=fun y hy=>by
      unfold RowM.seenP at hy
      obtain ⟨x,hx⟩:=Option.isSome_iff_exists.mp (standing_mem.mp (List.mem_of_mem_take hy)).2
      unfold RowM.rowV
      rw [hx]
      exact ⟨_,rfl⟩
    obtain ⟨ts,hts,_⟩:=id hT
    refine rAny_l (.inl (.inl hts)) (compW_tups hT (by rw [List.length_map];exact Nat.le_trans hsl (by decide)) (fun it=>it.getD 0 .non) (fun u xs H2 hx s hu Qe qe=>?_) fun D2 H2 hD2 s2 hl2=>?_)
    · obtain ⟨y,hy,rfl⟩:=List.mem_map.mp hx
      walk_at "rd"
      obtain ⟨rs,hrs⟩:=hst y hy
      rw [hrs] at hu qe
      refine rIxA_t (v:=.int y) (.inl (.inl hu)) (atI_get? (by decide) rfl) ?_
      exact qe _ (Same.refl _)
    have e2:List.map (fun it=>it.getD 0 V.non) (List.map R.rowV (R.seenP M.start fr R.last))=(R.seenP M.start fr R.last).map V.int:=by
      rw [List.map_map]
      refine List.map_congr_left fun y hy=>?_
      obtain ⟨rs,hrs⟩:=hst y hy
      show (R.rowV y).getD 0 V.non=_
      rw [hrs]
      rfl
    rw [e2] at hl2
    have LA2:=LA.same (s1.trans s2)
    refine rAny_l (.inl (.inl hl2)) (compW_listIf (.inl (.inl hl2)) (by rw [List.length_map];exact Nat.le_trans hsl (by decide)) (fun v=>match v with | .int p=>(M.F p).isNone | _=>false) id (fun x H3 hx s3 Qt qt=>?_) (fun x H3 hx _ s3 Qe qe=>?_) fun D3 H3 hD3 s3 hl3=>?_)
    · obtain ⟨y,hy,rfl⟩:=List.mem_map.mp hx
      have LA3:=LA2.same s3
      obtain ⟨dx3,hr3⟩:=LA3.obj
      walk_at "rd"
      refine ⟨dx3,_,hr3,rfl,f,t,l,M,LA3,?_⟩
      have:=qt H3 (Same.refl _)
      cases e:M.F y with
      | none=>rw [show (match V.int y with | .int p=>(M.F p).isNone | _=>false)=true by show (M.F y).isNone=true;rw [e];rfl] at this;simpa [fateV] using this
      | some z=>rw [show (match V.int y with | .int p=>(M.F p).isNone | _=>false)=false by show (M.F y).isNone=false;rw [e];rfl] at this;simpa [fateV] using this
    · walk_at "rd"
      exact qe H3 (Same.refl _)
    have hD0:H D3=none:=same_back (s1.trans s2) hD3
    refine q D3 H3 hD0 ((s1.trans s2).trans s3) ?_
    rw [hl3,List.map_id,List.filter_map]
    rfl

theorem ok_Lending_due_in (T:Txt K mg a):FnOk P w K mg base CX0 4 a.f_Lending_due_in a.d_Lending_due_in ["self", "row", "front", "turn"] (sp_due33 a.C_Lending a.C_Row):=by
  refine T.F_Lending_due_in.ok sc_Lending_due_in (fun vs H Q E h=>?_) (fun cdv A outer s H vs Q E hr h=>?_)
  · obtain ⟨r,f,t,l,M,row,d,R,fr,turn,ks,rfl,_⟩:=h
    rfl
  · obtain ⟨r,f,t,l,M,row,d,R,fr,turn,ks,rfl,LA,RA,h1,h2,h3,h4,⟨kvs,hl,hkk⟩,hc2,q⟩:=h
    refine ⟨_,(pss_cons (ps_setcDIf (i:=4) ["self", "row", "front", "turn", "lent", "asides", "place"] ["self", "row", "front", "turn", "lent", "asides", ""] (defScope s_Lending_due_in) ["place"] (by exact ⟨rfl,by decide +kernel,by decide +kernel,by decide +kernel,by decide +kernel,by decide +kernel,by decide +kernel⟩) (pi_keys (pe_fldK (K:=K) (pv 0) rfl)) (fun C₁ s₁ H₁ f₁=>(pg_name (i:=0) (show List.Nodup (α:=Str) ["place", "self", "row", "front", "turn", "lent", "asides", ""] by decide +kernel) rfl (Or.inl rfl) (Or.inr rfl))) (fun C₁ s₁ H₁ f₁=>(pt_truthK (K:=K) (pe_meth (pv 1) T.cl_Lending T.M_Lending_is_lent (ok_Lending_is_lent T) (hr.mono (by decide)) T.b_Lending_is_lent .nil pass0 (pa_cons (pv 0) (pa_cons (pv 4) pa_nil))) (by intro _;rfl))) (fun C₁ s₁ H₁ f₁=>(pv 0)) sc_Lending_due_in.nd)
      (pss_cons (ps_if (pt_cmpR op_geA (pe_callB (call_lenK (K:=K)) (by rfl) T.n_len boot_len (pa_cons (pv 4) pa_nil)) (pe_fldK (K:=K) (pv 0) rfl) (nomark _)) (pss_one (ps_ret (pe_tup (pa_cons (pe_lst pa_nil) (pa_cons pe_non pa_nil))))) pss_nil)
      (pss_cons (ps_set (i:=5) sc_Lending_due_in.nd rfl (Or.inl rfl) (pe_lst pa_nil))
      (pss_cons (ps_for PassesOwn.never rfl (pi_anyK (K:=K) (pe_meth (pv 0) T.cl_Lending T.M_Lending_places_without_fate (ok_Lending_places_without_fate T) (hr.mono (by decide)) T.b_Lending_places_without_fate .nil pass0 (pa_cons (pv 1) (pa_cons (pv 2) pa_nil)))) (pg_name (i:=6) sc_Lending_due_in.nd rfl (Or.inl rfl)) (pss_cons (ps_if (pt_truthK (K:=K) (pe_meth (pv 0) T.cl_Lending T.M_Lending_is_lent (ok_Lending_is_lent T) (hr.mono (by decide)) T.b_Lending_is_lent .nil pass0 (pa_cons (pv 6) (pa_cons (pv 3) pa_nil))) (by intro _;rfl)) (pss_one ps_continue) pss_nil)
      (pss_cons (ps_if (pt_cmpR op_ltK (pe_meth (pv 0) T.cl_Lending T.M_Lending_tried_at (ok_Lending_tried_at T) (hr.mono (by decide)) T.b_Lending_tried_at .nil pass0 (pa_cons (pv 6) pa_nil)) (pe_fldK (K:=K) (pv 0) rfl) (nomark _)) (pss_one (ps_ret (pe_tup (pa_cons (pv 5) (pa_cons (pv 6) pa_nil))))) pss_nil)
      (pss_one (ps_expr (pe_bmK (K:=K) PySem.F.plainAttrs_list PySem.F.slot_list_append PySem.F.type_list_append mt_append (pv 5) (pa_cons (pv 6) pa_nil)))))))
      (pss_one (ps_ret (pe_tup (pa_cons (pv 5) (pa_cons pe_non pa_nil))))))))),?_⟩
    obtain ⟨dx,hro⟩:=LA.obj
    obtain ⟨dy,hy⟩:=RA.obj
    have hlk:kvs.length=ks.length:=by have:=congrArg List.length hkk;rwa [List.length_map,List.length_map] at this
    obtain ⟨kv',hl',_,hv,hz⟩:=LA.loa
    rw [hl] at hl'
    cases hl'
    walk_at "rd"
    refine ⟨_,dx,_,hro,T.cl_Lending,T.no_Lending_loans,_,lf_loans M f t l,l,rfl,kvs,hl,fun od D hD=>?_⟩
    have nDl:D≠l:=fun z=>by rw [z,upd_same] at hD;cases hD
    have hD0:H D=none:=by rw [upd_ne nDl] at hD;exact hD
    have back:∀ ys:List V,Same H (upd (upd (upd H l (.frz od (.dK kvs))) D (.lst ys)) l (.dK kvs)):=fun ys b o hb=>by
      by_cases e:b=l
      · rw [e,hl] at hb;cases hb;rw [e];exact upd_same
      · exact (upd_ne e).trans ((upd_ne (ne_of_none hb hD0)).trans ((upd_ne e).trans hb))
    refine ⟨fun i m ys H2=>m=kvs.length - i∧i≤kvs.length∧ys=(runL M turn (ks.take i)).map V.int∧H2=upd (upd H l (.frz od (.dK kvs))) D (.lst ys),⟨_,rfl,Nat.zero_le _,rfl,rfl⟩,?_⟩
    rintro i m ys H2 ⟨rfl,hi,hys,rfl⟩
    have hyl:ys.length≤i:=by
      rw [hys,List.length_map]
      refine Nat.le_trans (List.length_filter_le _ _) ?_
      rw [List.length_take]
      omega
    have hfz:upd (upd H l (.frz od (.dK kvs))) D (.lst ys) l=some (.frz od (.dK kvs)):=(upd_ne (Ne.symm nDl)).trans upd_same
    by_cases hlt:i < kvs.length
    · refine .inr ⟨⟨hfz,hlt⟩,Nat.lt_of_le_of_lt (show ys.length≤1000 by omega) (by decide),?_⟩
      rintro x H3 ⟨rfl,k,x',rfl,hk,hkv⟩ o ho
      obtain ⟨o0,rfl⟩:∃ z,o=[z]:=by
        match o,ho with
        | [z],_=>exact ⟨z,rfl⟩
      obtain ⟨p,rfl,htk⟩:∃ p,k=.inl p∧ks.take (i+1)=ks.take i++[p]:=by
        have hk0:(kvs.map (·.1))[i]?=some k:=by rw [List.getElem?_map,hk];rfl
        rw [hkk,List.getElem?_map] at hk0
        obtain ⟨p,hp,rfl⟩:=Option.map_eq_some_iff.mp hk0
        exact ⟨p,rfl,by rw [List.take_add_one,hp];rfl⟩
      have cz:Chg [l] H (upd (upd H l (.frz od (.dK kvs))) D (.lst ys)):=(Chg.upd (by simp) (mut_dK hl)).trans (Chg.new hD)
      have hr3:upd (upd H l (.frz od (.dK kvs))) D (.lst ys) r=some (.ins a.C_Lending dx (lendF M f t l)):=cz.keep _ _ hro (by simp;exact LA.rl)
      simp only [kV]
      walk_at "rd"
      refine ⟨⟨[some (V.int p)],rfl,rfl⟩,dx,_,hr3,rfl,l,M,⟨⟨dx,f,t,hr3⟩,kvs,.inr ⟨od,hfz⟩,fun z=>(hv z).chg cz⟩,ite2 (fun yl=>?_) (fun yl=>?_)⟩
      · exact ⟨upd_same,kvs.length - (i+1),by omega,rfl,hlt,by rw [htk,hys,runL,runL,List.filter_append,List.filter_cons_of_pos (p:=fun p=>M.isLent p turn) yl,List.filter_nil,List.map_append];rfl,upd_upd⟩
      · exact ⟨kvs.length - (i+1),by omega,rfl,hlt,by rw [htk,hys,runL,runL,List.filter_append,List.filter_cons_of_neg (p:=fun p=>M.isLent p turn) yl,List.filter_nil,List.append_nil]⟩
    · refine .inl ⟨⟨hfz,by omega⟩,upd_same,hfz,?_⟩
      have sB:=back ys
      have hDD:upd (upd (upd H l (.frz od (.dK kvs))) D (.lst ys)) l (.dK kvs) D=some (.lst ys):=(upd_ne nDl).trans upd_same
      generalize upd (upd (upd H l (.frz od (.dK kvs))) D (.lst ys)) l (.dK kvs)=H1 at sB hDD ⊢
      have LA1:=LA.same sB
      have RA1:=RA.same sB
      refine rLen_l (.inl (.inl hDD)) ⟨_,dx,_,sB _ _ hro,T.cl_Lending,T.no_Lending_width,_,lf_width M f t l,_,rfl,_,rfl,?_⟩
      have hyr:ys.length=(runL M turn ks).length:=by
        have hi2:i=ks.length:=by omega
        rw [hys,List.length_map,hi2,List.take_length]
      rw [hyr]
      unfold due33 at q
      by_cases hwd:M.width≤((runL M turn ks).length:Int)
      · rw [if_neg (by omega)] at q
        rw [if_pos hwd]
        refine ⟨Nat.zero_le _,fun A0 hA=>?_⟩
        have sA:Same H1 (upd H1 A0 (.lst [])):=Same.upd hA
        have hA1:upd H1 A0 (.lst []) A0=some (.lst []):=upd_same
        generalize upd H1 A0 (.lst [])=H2 at sA hA1 ⊢
        refine ⟨by decide,fun u hu=>?_⟩
        have nuA:A0≠u:=fun z=>by rw [← z,hA1] at hu;cases hu
        exact q A0 u _ (same_back sB hA) (same_back (sB.trans sA) hu) ((sB.trans sA).trans (Same.upd hu)) ((upd_ne nuA).trans hA1) upd_same
      rw [if_pos (by omega)] at q
      rw [if_neg hwd]
      refine ⟨Nat.zero_le _,fun A0 hA=>?_⟩
      have sA:Same H1 (upd H1 A0 (.lst [])):=Same.upd hA
      have hA1:upd H1 A0 (.lst []) A0=some (.lst []):=upd_same
      generalize upd H1 A0 (.lst [])=H2 at sA hA1 ⊢
      have LA2:=LA1.same sA
      have RA2:=RA1.same sA
      obtain ⟨dx2,hr2⟩:=LA2.obj
      refine ⟨dx2,_,hr2,rfl,f,t,l,M,LA2,d,R,RA2,h1,h2,h3,h4,fun Dp H3 hDp s3 hl3=>?_⟩
      have nDA:Dp≠A0:=fun z=>by rw [z,hA1] at hDp;cases hDp
      have hA0:H A0=none:=same_back sB hA
      have hpl:(pwf M R fr).length≤1000:=Nat.le_trans (pwf_len M R fr) (by omega)
      generalize hps:pwf M R fr=ps at hl3 hpl q
      refine rAny_l (.inl (.inl hl3)) (forW_list (xs:=ps.map V.int) (fun i σ H'=>∃ as:List Int,dueG M turn (ps.take i)=(as,none)∧H' A0=some (.lst (as.map V.int))∧Chg [A0] H3 H'∧∃ v,σ=[some (V.ref r),some (V.ref row),some (V.int fr),some (V.int turn),some (V.ref D),some (V.ref A0),v])
        ⟨[],by rw [List.take_zero];rfl,s3 _ _ hA1,Chg.refl _,none,rfl⟩ (fun i σ H' _ ⟨_,_,_,c,_⟩=>.inl (.inl (c.keep _ _ hl3 (by simp;exact nDA)))) ?_ ?_)
      · rintro i x σ H' hx ⟨as,hdu,hAs,cg,v,rfl⟩
        rw [List.getElem?_map] at hx
        obtain ⟨p,hp,rfl⟩:=Option.map_eq_some_iff.mp hx
        have hip:=(List.getElem?_eq_some_iff.mp hp).1
        have htk:ps.take (i+1)=ps.take i++[p]:=by rw [List.take_add_one,hp];rfl
        have sH':Same H H':=fun b o hb=>cg.keep _ _ (s3 _ _ (sA _ _ (sB _ _ hb))) (by simp;exact ne_of_none hb hA0)
        have LA':=LA.same sH'
        have hr':=sH' _ _ hro
        have hdn:dueG M turn (ps.take (i+1))=if M.isLent p turn=true then (as,none) else if M.T p < M.tries then (as,some p) else (as++[p],none):=by
          rw [htk,dueG_snoc,hdu]
          rfl
        have has:as.length≤1000:=by
          have:=dueG_len M turn (ps.take i)
          rw [hdu,List.length_take] at this
          exact Nat.le_trans this (by omega)
        walk_at "rd"
        refine ⟨dx,_,hr',rfl,l,M,LA'.loan,ite2 (fun e=>?_) (fun e=>?_)⟩
        · exact ⟨as,by rw [hdn,if_pos e],hAs,cg⟩
        · refine ⟨dx,_,hr',rfl,f,t,l,M,LA',_,dx,_,hr',T.cl_Lending,T.no_Lending_tries,_,lf_tries M f t l,?_⟩
          walk_at "rd"
          refine ite2 (fun e2=>?_) (fun e2=>?_)
          · refine ⟨by decide,fun u hu=>?_⟩
            have hfull:dueG M turn ps=(as,some p):=by
              conv=>lhs;rw [← List.take_append_drop (i+1) ps]
              exact dueG_done (by rw [hdn,if_neg e,if_pos e2])
            have nuA:A0≠u:=fun z=>by rw [← z,hAs] at hu;cases hu
            exact q A0 u _ hA0 (same_back sH' hu) (sH'.trans (Same.upd hu)) (by rw [hfull];exact (upd_ne nuA).trans hAs) (by rw [hfull];exact upd_same)
          · refine ⟨.inl ⟨_,.inl (.inl hAs)⟩,_,hAs,by rw [List.length_map];exact Nat.lt_of_le_of_lt has (by decide),as++[p],by rw [hdn,if_neg e,if_neg e2],by rw [List.map_append];exact upd_same,cg.trans (Chg.upd (by simp) (mut_lst hAs))⟩
      · rintro σ H' ⟨as,hdu,hAs,cg,v,rfl⟩
        rw [List.length_map,List.take_length] at hdu
        have sH':Same H H':=fun b o hb=>cg.keep _ _ (s3 _ _ (sA _ _ (sB _ _ hb))) (by simp;exact ne_of_none hb hA0)
        walk_at "rd"
        refine ⟨by decide,fun u hu=>?_⟩
        have nuA:A0≠u:=fun z=>by rw [← z,hAs] at hu;cases hu
        exact q A0 u _ hA0 (same_back sH' hu) (sH'.trans (Same.upd hu)) (by rw [hdu];exact (upd_ne nuA).trans hAs) (by rw [hdu];exact upd_same)

theorem ok_Lending_place_of (T:Txt K mg a):FnOk P w K mg base (CXv P w) 3 a.f_Lending_place_of a.d_Lending_place_of ["self", "loan", "turn"] (sp_place_y a.C_Lending a.C_Late):=by
  refine T.F_Lending_place_of.okX sc_Lending_place_of (fun vs H Q E h=>?_) (fun cdv A outer s H vs Q E hr h=>?_)
  · obtain ⟨r,f,t,l,M,k,turn,rfl,_⟩:=h
    rfl
  · obtain ⟨r,f,t,l,M,k,turn,rfl,R,q⟩:=h
    refine ⟨_,(pss_cons (PS.nox (ps_forD PassesOwn.never rfl (pi_items (pe_fldK (K:=K) (pv 0) rfl)) (pg_tupK (K:=K) (n:=2) rfl (pgs_cons (pg_name (i:=3) sc_Lending_place_of.nd rfl (Or.inl rfl)) (pgs_cons (pg_name (i:=4) sc_Lending_place_of.nd rfl (Or.inl rfl)) pgs_nil))) (pss_one (ps_if (PW.pt (pw_and (pt_cmpR (op_eqK (K:=K) (hU hr)) (pe_ix (ix_anyK (K:=K) (hU1 hr)) (pv 4) pe_int (fun _ _=>rfl)) (pv 1) (nomark _)) (pw_and (pt_cmpR op_geA (pv 1) pe_int (nomark _)) (pw_and1 (pt_cmpR op_ltK (pv 2) (pe_ix (ix_anyK (K:=K) (hU1 hr)) (pv 4) pe_int (fun _ _=>rfl)) (nomark _)))))) (pss_one (ps_ret (pv 3))) pss_nil))))
      (pss_one (ps_raise T.x_Late T.xi_Late T.xf_Late (ok_Late___init__ T) (hr.mono (by decide)) rfl T.mg_Late T.b_Late___init__ (by decide) raiseX (pa_cons (pe_fldK (K:=K) (pv 0) rfl) (pa_cons (pv 1) pa_nil))))),?_⟩
    obtain ⟨dx,hr⟩:=R.obj
    obtain ⟨kvs,hl,hk,hv,hz⟩:=R.loa
    walk_at "rd"
    refine ⟨_,dx,_,hr,T.cl_Lending,T.no_Lending_loans,_,lf_loans M f t l,l,rfl,kvs,hl,fun od=>?_⟩
    refine forW_items (fun i σ H'=>(∀ j k0 v0,j < i→kvs[j]?=some (k0,v0)→∀ q0,k0=.inl q0→∀ y,M.L q0=some y→¬ (y.1=k∧1≤k∧turn < y.2.2))∧H' l=some (.frz od (.dK kvs))∧(∀ b o,b≠l→H b=some o→H' b=some o)∧∃ v1 v2,σ=[some (V.ref r),some (V.int k),some (V.int turn),v1,v2]) ⟨fun j _ _ hj=>absurd hj (Nat.not_lt_zero _),upd_same,fun b o hb e=>by rw [upd_ne hb];exact e,none,none,rfl⟩ (fun i σ H' _ h=>h.2.1) ?_ ?_
    · rintro i k0 v σ H' T0 hk0 hkv hT0 ⟨hi,hlz,hsm,v1,v2,rfl⟩
      obtain ⟨q0,rfl⟩:∃ q0,k0=.inl q0:=by
        cases k0 with
        | inl q0=>exact ⟨q0,rfl⟩
        | inr z=>rw [hz z] at hkv;cases hkv
      have hq:=hv q0
      rw [hkv] at hq
      obtain ⟨y,hy⟩:∃ y,M.L q0=some y:=by
        cases e:M.L q0 with
        | none=>rw [e] at hq;cases hq
        | some y=>exact ⟨y,rfl⟩
      rw [hy] at hq
      obtain ⟨ty,ety,hty⟩:=hq
      cases ety
      have ntl:ty≠l:=fun z=>by rw [z,hl] at hty;cases hty
      have hty1:SqT K (upd H' T0 (.tup [kV (.inl q0),.ref ty])) ty (loanV y):=.inl (.inl ((upd_ne (fun z=>by rw [← z,hsm ty _ ntl hty] at hT0;cases hT0)).trans (hsm ty _ ntl hty)))
      have hTl:T0≠l:=fun z=>by rw [z,hlz] at hT0;cases hT0
      have step0:∀ (b:Addr) (o:HO),b≠l→H b=some o→upd H' T0 (.tup [kV (.inl q0),.ref ty]) b=some o:=fun b o hb e=>(upd_ne (fun z=>by rw [← z,hsm b o hb e] at hT0;cases hT0)).trans (hsm b o hb e)
      refine ⟨T0,_,rfl,.inl (.inl upd_same),rfl,?_⟩
      walk_at "rd"
      refine rIxA_t (v:=.int y.1) hty1 rfl ?_
      walk_at "rd"
      have go:¬ (y.1=k∧1≤k∧turn < y.2.2)→(∀ j k0 v0,j < i+1→kvs[j]?=some (k0,v0)→∀ q0,k0=.inl q0→∀ y,M.L q0=some y→¬ (y.1=k∧1≤k∧turn < y.2.2))∧upd H' T0 (.tup [kV (.inl q0),.ref ty]) l=some (.frz od (.dK kvs))∧∀ b o,b≠l→H b=some o→upd H' T0 (.tup [kV (.inl q0),.ref ty]) b=some o:=fun he=>by
        refine ⟨fun j k0 v0 hj hkj q1 e1 y1 hy1=>?_,(upd_ne (Ne.symm hTl)).trans hlz,step0⟩
        rcases Nat.lt_or_ge j i with h | h
        · exact hi j k0 v0 h hkj q1 e1 y1 hy1
        · have:j=i:=by omega
          subst this
          rw [hk0] at hkj
          cases hkj
          cases e1
          rw [hy] at hy1
          cases hy1
          exact he
      refine ite2 (fun he=>ite2 (fun hk1=>?_) (fun hk1=>go fun z=>hk1 z.2.1)) (fun he=>go fun z=>he z.1)
      refine rIxA_t (v:=.int y.2.2) hty1 rfl ?_
      walk_at "rd"
      refine ite2 (fun ht=>?_) (fun ht=>go fun z=>ht z.2.2)
      rcases q with ⟨p,x,hL,hx,_,_,hu,q⟩ | ⟨hno,_⟩
      · have hqp:=hu q0 y hy he
        subst hqp
        refine ⟨(upd_ne (Ne.symm hTl)).trans hlz,q _ fun b o hb=>?_⟩
        by_cases e:b=l
        · subst e
          rw [hl] at hb
          cases hb
          exact upd_same
        · exact (upd_ne e).trans ((step0 b o e hb))
      · exact absurd ⟨he,hk1,ht⟩ (hno q0 y hy)
    · rintro σ H' ⟨hi,hlz,hsm,v1,v2,rfl⟩
      refine ⟨hlz,?_⟩
      have sm:Same H (upd H' l (.dK kvs)):=fun b o hb=>by
        by_cases e:b=l
        · subst e
          rw [hl] at hb
          cases hb
          exact upd_same
        · exact (upd_ne e).trans (hsm b o e hb)
      have hr2:=sm _ _ hr
      generalize upd H' l (.dK kvs)=H2 at sm hr2 ⊢
      rcases q with ⟨p,x,hL,hx,hk1,ht,hu,q⟩ | ⟨hno,q⟩
      · exfalso
        have hvp:=hv p
        rw [hL] at hvp
        obtain ⟨tp,htp,htup⟩:=hvp
        obtain ⟨i0,hi0⟩:=valV_at htp
        exact hi i0 _ _ (List.getElem?_eq_some_iff.mp hi0).1 hi0 p rfl x hL ⟨hx,hk1,ht⟩
      · walk_at "rd"
        exact ⟨_,dx,_,hr2,T.cl_Lending,T.no_Lending_row,_,lf_row M f t l,_root_.L2.Bears.mono sm q⟩

theorem ok_Lending_call_back (T:Txt K mg a):FnOk P w K mg base CX0 1 a.f_Lending_call_back a.d_Lending_call_back ["self"] (sp_callb a.C_Lending):=by
  refine T.F_Lending_call_back.ok sc_Lending_call_back (fun vs H Q E h=>?_) (fun cdv A0 outer s0 H vs Q E hr h=>?_)
  · obtain ⟨r,f,t,l,M,ks,rfl,_⟩:=h
    rfl
  · obtain ⟨r,f,t,l,M,ks,rfl,LA,LK,hsz,q⟩:=h
    refine ⟨_,(pss_one (ps_for PassesOwn.never rfl (pi_anyK (K:=K) (pe_callTy (call_listO (K:=K)) rfl T.n_list boot_list (pa_cons (pe_fldK (K:=K) (pv 0) rfl) pa_nil))) (pg_name (i:=1) sc_Lending_call_back.nd rfl (Or.inl rfl)) (pss_cons (ps_set (i:=2) sc_Lending_call_back.nd rfl (Or.inl rfl) (pe_ix (ix_anyK (K:=K) (hU1 hr)) (pe_fldK (K:=K) (pv 0) rfl) (pv 1) (fun _ _=>rfl)))
      (pss_one (ps_asg (pe_tup (pa_cons pe_int (pa_cons (pe_ix (ix_anyK (K:=K) (hU1 hr)) (pv 2) pe_int (fun _ _=>rfl)) (pa_cons (pe_ix (ix_anyK (K:=K) (hU1 hr)) (pv 2) pe_int (fun _ _=>rfl)) pa_nil)))) (pg_sub (pe_fldK (K:=K) (pv 0) rfl) (pv 1) (set_any (hU1 hr)))))))),?_⟩
    obtain ⟨dx,hro⟩:=LA.obj
    obtain ⟨mem,kl⟩:=lks_mem LA LK
    obtain ⟨kvs,hl,hk⟩:=id LK
    have kvl:kvs.length=ks.length:=by have:=congrArg List.length hk;rwa [List.length_map,List.length_map] at this
    walk_at "rd"
    refine ⟨_,dx,_,hro,T.cl_Lending,T.no_Lending_loans,_,lf_loans M f t l,rListO_d hl (by omega) fun nd Lp hLp=>?_⟩
    have ekv:(kvs.map fun kv=>kV kv.1)=ks.map V.int:=by
      have:(kvs.map (·.1)).map kV=(ks.map Sum.inl).map kV:=by rw [hk]
      rw [List.map_map,List.map_map] at this
      exact this
    rw [ekv]
    have ksn:ks.Nodup:=by
      have:(ks.map (Sum.inl:Int→Key)).Nodup:=by rw [← hk];exact nd
      rw [List.Nodup,List.pairwise_map] at this
      exact this.imp fun h z=>h (by rw [z])
    have s1:Same H (upd H Lp (.lst (ks.map V.int))):=Same.upd hLp
    have a1:upd H Lp (.lst (ks.map V.int)) Lp=some (.lst (ks.map V.int)):=upd_same
    generalize upd H Lp (.lst (ks.map V.int))=H1 at s1 a1 ⊢
    have nLl:Lp≠l:=Ne.symm (ne_of_none hl hLp)
    refine rAny_l (.inl (.inl a1)) (forW_list (xs:=ks.map V.int) (fun i σ H'=>(Chg [l] H1 H'∧LendAt a.C_Lending H' r f t l (M.upto zrY (ks.take i))∧LKs H' l ks)∧∃ v1 v2,σ=[some (V.ref r),v1,v2]) ⟨⟨Chg.refl _,by rw [List.take_zero,upto_nil];exact LA.sm s1,LK.same s1⟩,none,none,rfl⟩ (fun i σ H' _ ⟨⟨c,_⟩,_⟩=>.inl (.inl (c.keep _ _ a1 (by simp;exact nLl)))) ?_ ?_)
    · rintro i x σ H' hx ⟨⟨c,LA',LK'⟩,v1,v2,rfl⟩
      rw [List.getElem?_map] at hx
      obtain ⟨p,hp,rfl⟩:=Option.map_eq_some_iff.mp hx
      have hi:=(List.getElem?_eq_some_iff.mp hp).1
      have htk:ks.take (i+1)=ks.take i++[p]:=by rw [List.take_add_one,hp];rfl
      have hnp:p∉ks.take i:=fun z=>by
        have hn2:=List.Nodup.sublist (List.take_sublist (i+1) ks) ksn
        rw [htk,List.nodup_append] at hn2
        exact hn2.2.2 p z p (by simp) rfl
      obtain ⟨dx',hro'⟩:=LA'.obj
      obtain ⟨k3,hl3,hk3,v3,w3⟩:=LA'.loa
      obtain ⟨kc,hlc,hcc⟩:=LK'
      rw [hl3] at hlc
      cases hlc
      have eLp:(M.upto zrY (ks.take i)).L p=M.L p:=if_neg hnp
      have vp:=v3 p
      rw [eLp] at vp
      obtain ⟨y,hy⟩:∃ y,M.L p=some y:=by
        cases e:M.L p with
        | some y=>exact ⟨y,rfl⟩
        | none =>
          rw [e] at vp
          have:=(keys_mem hcc p).mpr (List.mem_of_getElem? hp)
          rw [show valV k3 (.inl p)=none from vp] at this
          cases this
      rw [hy] at vp
      obtain ⟨tt,ett,htt⟩:=vp
      have gg:=DGet.k (k:=.inl p) hl3
      rw [ett] at gg
      walk_at "rd"
      refine ⟨_,dx',_,hro',T.cl_Lending,T.no_Lending_loans,_,lf_loans _ f t l,rIxA_d gg ?_⟩
      refine rIxA_t (v:=.str (S y.2.1)) (.inl (.inl htt)) rfl (rIxA_t (v:=.int y.2.2) (.inl (.inl htt)) rfl ⟨by decide,fun U hU=>?_⟩)
      have s2:Same H' (upd H' U (.tup [V.int 0,V.str (S y.2.1),V.int y.2.2])):=Same.upd hU
      have a2:upd H' U (.tup [V.int 0,V.str (S y.2.1),V.int y.2.2]) U=some (.tup (loanV (0,y.2))):=upd_same
      generalize upd H' U (.tup [V.int 0,V.str (S y.2.1),V.int y.2.2])=H2 at s2 a2 ⊢
      have LA2:=LA'.sm s2
      have hl2:=s2 _ _ hl3
      refine ⟨_,dx',_,s2 _ _ hro',T.cl_Lending,T.no_Lending_loans,_,lf_loans _ f t l,rSetA_d (DPut.k (k:=.inl p) hl2 (Nat.lt_of_le_of_lt (Nat.le_trans hk3 (show M.sz≤1000 from hsz)) (by decide))) ?_⟩
      have c3:Chg [l] H2 (upd H2 l (.dK (putK k3 (.inl p) (.ref U)))):=Chg.upd (by simp) (mut_dK hl2)
      have e3:upd H2 l (.dK (putK k3 (.inl p) (.ref U))) l=some (.dK (putK k3 (.inl p) (.ref U))):=upd_same
      generalize upd H2 l (.dK (putK k3 (.inl p) (.ref U)))=H3 at c3 e3 ⊢
      obtain ⟨k1,hf,hk1,v1',w1⟩:=LA2.fat
      obtain ⟨k2,ht,hk2,v2'⟩:=LA2.tri
      refine ⟨c.trans ((Chg.of_same s2).trans c3),?_,⟨_,e3,by rw [keys_put hcc p,addK,if_pos (List.mem_of_getElem? hp)]⟩⟩
      refine ⟨⟨dx',c3.keep _ _ (s2 _ _ hro') (by simp;exact LA'.rl)⟩,⟨k1,c3.keep _ _ hf (by simp;exact LA'.fl),hk1,v1',w1⟩,⟨k2,c3.keep _ _ ht (by simp;exact LA'.tl),hk2,v2'⟩,⟨_,e3,by rw [putK_len_old (by rw [ett];rfl)];exact hk3,fun z=>?_,fun z=>by rw [valV_put,if_neg (by intro h;cases h)];exact w3 z⟩,LA'.rf,LA'.rt,LA'.rl,LA'.ft,LA'.fl,LA'.tl⟩
      rw [valV_put,htk]
      show LoanO H3 (if z∈ks.take i++[p] then (M.L z).bind zrY else M.L z) _
      by_cases ez:z=p
      · subst ez
        rw [if_pos rfl,if_pos (by simp),hy]
        exact ⟨U,rfl,c3.tup _ _ a2⟩
      · rw [if_neg (fun h=>ez (Sum.inl.inj h))]
        have:(if z∈ks.take i++[p] then (M.L z).bind zrY else M.L z)=(M.upto zrY (ks.take i)).L z:=by
          show _=if z∈ks.take i then (M.L z).bind zrY else M.L z
          by_cases cz:z∈ks.take i
          · rw [if_pos cz,if_pos (List.mem_append_left _ cz)]
          · rw [if_neg cz,if_neg (by simp [cz,ez])]
        rw [this]
        exact ((v3 z).chg (Chg.of_same (A:=[]) s2)).chg c3
    · rintro σ H' ⟨⟨c,LA',LK'⟩,v1,v2,rfl⟩
      rw [List.length_map,List.take_length,upto_all mem] at LA'
      walk_at "rd"
      exact q H' ((Chg.of_same s1).trans c) LA' LK'
theorem ok_Lending_let_go (T:Txt K mg a):FnOk P w K mg base CX0 2 a.f_Lending_let_go a.d_Lending_let_go ["self", "taker"] (sp_letgo39 a.C_Lending):=by
  refine T.F_Lending_let_go.ok sc_Lending_let_go (fun vs H Q E h=>?_) (fun cdv A0 outer s0 H vs Q E hr h=>?_)
  · obtain ⟨r,f,t,l,M,tk,ks,rfl,_⟩:=h
    rfl
  · obtain ⟨r,f,t,l,M,tk,ks,rfl,LA,LK,hsz,q⟩:=h
    refine ⟨_,(pss_one (ps_for PassesOwn.never rfl (pi_anyK (K:=K) (pe_callTy (call_listO (K:=K)) rfl T.n_list boot_list (pa_cons (pe_fldK (K:=K) (pv 0) rfl) pa_nil))) (pg_name (i:=2) sc_Lending_let_go.nd rfl (Or.inl rfl)) (pss_one (ps_if (pt_cmpR (op_eqK (K:=K) (hU hr)) (pe_ix (ix_anyK (K:=K) (hU1 hr)) (pe_ix (ix_anyK (K:=K) (hU1 hr)) (pe_fldK (K:=K) (pv 0) rfl) (pv 2) (fun _ _=>rfl)) pe_int (fun _ _=>rfl)) (pv 1) (nomark _)) (pss_one (ps_expr (pe_meth (pv 0) T.cl_Lending T.M_Lending_give_back (ok_Lending_give_back T) (hr.mono (by decide)) T.b_Lending_give_back .nil pass0 (pa_cons (pv 2) pa_nil)))) pss_nil)))),?_⟩
    obtain ⟨dx,hro⟩:=LA.obj
    obtain ⟨mem,kl⟩:=lks_mem LA LK
    obtain ⟨kvs,hl,hk⟩:=id LK
    have kvl:kvs.length=ks.length:=by have:=congrArg List.length hk;rwa [List.length_map,List.length_map] at this
    have back:∀ p∈ks,∃ y,M.L p=some y:=fun p hp=>by
      obtain ⟨k0,hl0,_,v0,_⟩:=LA.loa
      rw [hl] at hl0
      cases hl0
      have vp:=v0 p
      cases e:M.L p with
      | some y=>exact ⟨y,rfl⟩
      | none =>
        rw [e] at vp
        have:=(keys_mem hk p).mpr hp
        rw [show valV kvs (.inl p)=none from vp] at this
        cases this
    walk_at "rd"
    refine ⟨_,dx,_,hro,T.cl_Lending,T.no_Lending_loans,_,lf_loans M f t l,rListO_d hl (by omega) fun nd Lp hLp=>?_⟩
    have ekv:(kvs.map fun kv=>kV kv.1)=ks.map V.int:=by
      have:(kvs.map (·.1)).map kV=(ks.map Sum.inl).map kV:=by rw [hk]
      rw [List.map_map,List.map_map] at this
      exact this
    rw [ekv]
    have ksn:ks.Nodup:=by
      have:(ks.map (Sum.inl:Int→Key)).Nodup:=by rw [← hk];exact nd
      rw [List.Nodup,List.pairwise_map] at this
      exact this.imp fun h z=>h (by rw [z])
    have s1:Same H (upd H Lp (.lst (ks.map V.int))):=Same.upd hLp
    have a1:upd H Lp (.lst (ks.map V.int)) Lp=some (.lst (ks.map V.int)):=upd_same
    generalize upd H Lp (.lst (ks.map V.int))=H1 at s1 a1 ⊢
    have nLl:Lp≠l:=Ne.symm (ne_of_none hl hLp)
    refine rAny_l (.inl (.inl a1)) (forW_list (xs:=ks.map V.int) (fun i σ H'=>(Chg [l] H1 H'∧LendAt a.C_Lending H' r f t l (M.upto (goY tk) (ks.take i))∧LKs H' l (upK M.L (goY tk) (ks.take i) ks))∧∃ v2,σ=[some (V.ref r),some (V.str (S tk)),v2]) ⟨⟨Chg.refl _,by rw [List.take_zero,upto_nil];exact LA.sm s1,by rw [List.take_zero,upK_nil];exact LK.same s1⟩,none,rfl⟩ (fun i σ H' _ ⟨⟨c,_⟩,_⟩=>.inl (.inl (c.keep _ _ a1 (by simp;exact nLl)))) ?_ ?_)
    · rintro i x σ H' hx ⟨⟨c,LA',LK'⟩,v2,rfl⟩
      rw [List.getElem?_map] at hx
      obtain ⟨p,hp,rfl⟩:=Option.map_eq_some_iff.mp hx
      have htk:ks.take (i+1)=ks.take i++[p]:=by rw [List.take_add_one,hp];rfl
      have hnp:p∉ks.take i:=fun z=>by
        have hn2:=List.Nodup.sublist (List.take_sublist (i+1) ks) ksn
        rw [htk,List.nodup_append] at hn2
        exact hn2.2.2 p z p (by simp) rfl
      obtain ⟨y,hy⟩:=back p (List.mem_of_getElem? hp)
      obtain ⟨dx',hro'⟩:=LA'.obj
      obtain ⟨k3,hl3,hk3,v3,w3⟩:=LA'.loa
      have vp:=v3 p
      rw [show (M.upto (goY tk) (ks.take i)).L p=M.L p from if_neg hnp,hy] at vp
      obtain ⟨tt,ett,htt⟩:=vp
      have gg:=DGet.k (k:=.inl p) hl3
      rw [ett] at gg
      walk_at "rd"
      refine ⟨_,dx',_,hro',T.cl_Lending,T.no_Lending_loans,_,lf_loans _ f t l,rIxA_d gg (rIxA_t (v:=.str (S y.2.1)) (.inl (.inl htt)) rfl ?_)⟩
      rw [rEqq_ss]
      refine ⟨_,rfl,?_⟩
      by_cases ce:S y.2.1=S tk
      · rw [if_pos (decide_eq_true ce)]
        refine ⟨dx',_,hro',rfl,f,t,l,_,LA',_,LK',fun H2 c2 LA2 LK2=>⟨c.trans c2,?_,?_⟩⟩
        · rw [htk,upto_back hy (by unfold goY;rw [if_pos ce])]
          exact LA2
        · rw [htk,upK_drop (by rw [hy];show goY tk y=none;unfold goY;rw [if_pos ce])]
          exact LK2
      · rw [if_neg (by rw [decide_eq_false ce];exact Bool.false_ne_true)]
        refine ⟨c,?_,?_⟩
        · rw [htk,upto_keep hy (by unfold goY;rw [if_neg ce])]
          exact LA'
        · rw [htk,upK_keep (y:=y) (by rw [hy];show goY tk y=some y;unfold goY;rw [if_neg ce])]
          exact LK'
    · rintro σ H' ⟨⟨c,LA',LK'⟩,v2,rfl⟩
      rw [List.length_map,List.take_length,upto_all mem] at LA'
      rw [List.length_map,List.take_length] at LK'
      walk_at "rd"
      exact q H' ((Chg.of_same s1).trans c) LA' LK'

theorem ok_Lending_mark_in (T:Txt K mg a):FnOk P w K mg base CX0 4 a.f_Lending_mark_in a.d_Lending_mark_in ["self", "row", "front"] (sp_mark39 a.C_Lending a.C_Row):=by
  refine T.F_Lending_mark_in.ok sc_Lending_mark_in (fun vs H Q E h=>?_) (fun cdv A outer s H vs Q E hr h=>?_)
  · obtain ⟨r,f,t,l,M,row,d,R,fr,rfl,_⟩:=h
    rfl
  · obtain ⟨r,f,t,l,M,row,d,R,fr,rfl,LA,RA,h1,h2,h3,h4,q⟩:=h
    refine ⟨_,(pss_cons (ps_set (i:=3) sc_Lending_mark_in.nd rfl (Or.inl rfl) (pe_meth (pv 0) T.cl_Lending T.M_Lending_places_without_fate (ok_Lending_places_without_fate T) (hr.mono (by decide)) T.b_Lending_places_without_fate .nil pass0 (pa_cons (pv 1) (pa_cons (pv 2) pa_nil))))
      (pss_one (ps_ret (pe_ifExp (pt_truthK (K:=K) (pv 3) (by intro _;rfl)) (pe_ix (ix_anyK (K:=K) (hU1 hr)) (pv 3) pe_int (fun _ _=>rfl)) (pe_callB (call_maxA rfl) (by rfl) T.n_max boot_max (pa_cons (pv 2) (pa_cons (pe_fldK (K:=K) (pv 0) rfl) pa_nil))))))),?_⟩
    obtain ⟨dx,hro⟩:=LA.obj
    walk_at "rd"
    refine ⟨dx,_,hro,rfl,f,t,l,M,LA,d,R,RA,h1,h2,h3,h4,fun D H1 hD s1 hl1=>?_⟩
    unfold markN39 at q
    cases e:pwf M R fr with
    | nil =>
      rw [e] at hl1 q
      refine ⟨false,?_,?_⟩
      · exact .inl ⟨_,.inl (.inl hl1),rfl⟩
      · exact ⟨_,dx,_,s1 _ _ hro,T.cl_Lending,T.no_Lending_start,_,lf_start M f t l,_,rfl,q H1 s1⟩
    | cons z zs =>
      rw [e] at hl1 q
      refine ⟨true,?_,?_⟩
      · exact .inl ⟨_,.inl (.inl hl1),rfl⟩
      · exact rIxA_l (v:=.int z) (.inl (.inl hl1)) (atI_get? (by decide) rfl) (q H1 s1)

theorem ok_l_cell_at (T:Txt K mg a):FnOk P w K mg base CX0 1 a.f_l_cell_at a.d_l_cell_at ["_law_script", "_law_k"] (sp_cellN K):=by
  refine T.F_l_cell_at.ok sc_l_cell_at (fun vs H Q E h=>?_) (fun cdv A outer s H vs Q E hr h=>?_)
  · obtain ⟨p,ns,k,rfl,_⟩:=h
    rfl
  · obtain ⟨p,ns,k,rfl,hs,hk,q⟩:=h
    refine ⟨_,(pss_cons (ps_set (i:=2) sc_l_cell_at.nd rfl (Or.inl rfl) (pe_op (op_plusK (K:=K)) (pe_op op_mulA pe_int (pv 1)) pe_int))
      (pss_cons (ps_if (pt_cmpR op_ltK (pv 1) (pe_callB (call_lenK (K:=K)) (by rfl) T.n_len boot_len (pa_cons (pv 0) pa_nil)) (nomark _)) (pss_one (ps_set (i:=2) sc_l_cell_at.nd rfl (Or.inl rfl) (pe_ix (ix_anyK (K:=K) (hU1 hr)) (pv 0) (pv 1) (fun _ _=>rfl)))) pss_nil)
      (pss_cons (ps_set (i:=2) sc_l_cell_at.nd rfl (Or.inl rfl) (pe_op op_mod (pe_op (op_plusK (K:=K)) (pe_op (op_plusK (K:=K)) (pe_op op_mulA (pe_op op_mod (pv 2) pe_int) pe_int) (pe_op op_mulA pe_int (pv 1))) pe_int) pe_int))
      (pss_one (ps_ret (pe_op op_mod (pe_op op_mulA (pv 2) (pv 2)) pe_int)))))),?_⟩
    walk_at "rd"
    refine rLen_l hs ?_
    walk_at "rd"
    rw [List.length_map]
    unfold cellN mixN at q
    refine ite2 (fun hlt=>?_) (fun hge=>?_)
    · rw [if_pos hlt] at q
      refine rIxA_l hs (v:=.int (ns.getD k.toNat 0)) (atI_get? hk ?_) ?_
      · rw [List.getElem?_map,List.getD_eq_getElem?_getD,List.getElem?_eq_getElem (show k.toNat < ns.length by omega)]
        rfl
      · walk_at "rd"
        exact ⟨.inl (by omega),q⟩
    · rw [if_neg hge] at q
      exact ⟨.inl (by omega),q⟩
theorem ok_l_many (T:Txt K mg a):FnOk P w K mg base CX0 2 a.f_l_many a.d_l_many ["_law_script", "_law_first", "_law_most"] (sp_many K):=by
  refine T.F_l_many.ok sc_l_many (fun vs H Q E h=>?_) (fun cdv A outer s H vs Q E hr h=>?_)
  · obtain ⟨p,ns,f,m,rfl,_⟩:=h
    rfl
  · obtain ⟨p,ns,f,m,rfl,hs,hf,hm,q⟩:=h
    refine ⟨_,(pss_cons (ps_set (i:=3) sc_l_many.nd rfl (Or.inl rfl) (pe_op op_mod (pe_op op_fdiv (pe_call (ok_l_cell_at T) (hr.mono (by decide)) rfl T.m_l_cell_at T.F_l_cell_at.kp T.b_l_cell_at .nil pass0 (pa_cons (pv 0) (pa_cons (pe_op op_sub (pv 1) pe_int) pa_nil))) pe_int) (pe_op (op_plusK (K:=K)) (pv 2) pe_int)))
      (pss_one (ps_ret (pe_callB (call_minA rfl) (by rfl) T.n_min boot_min (pa_cons (pv 2) (pa_cons (pe_callB (call_maxA rfl) (by rfl) T.n_max boot_max (pa_cons (pv 3) (pa_cons (pe_op op_sub (pe_callB (call_lenK (K:=K)) (by rfl) T.n_len boot_len (pa_cons (pv 0) pa_nil)) (pv 1)) pa_nil))) pa_nil)))))),?_⟩
    walk_at "rd"
    refine ⟨ns,hs,by omega,by omega,rLen_l hs ?_⟩
    walk_at "rd"
    rw [List.length_map]
    exact q
theorem ok_l_whole (T:Txt K mg a):FnOk P w K mg base CX0 1 a.f_l_whole a.d_l_whole ["_law_found_here", "_law_due"] sp_wholeI:=by
  refine T.F_l_whole.ok sc_l_whole (fun vs H Q E h=>?_) (fun cdv A outer s H vs Q E hr h=>?_)
  · obtain ⟨x,y,rfl,_⟩:=h
    rfl
  · obtain ⟨x,y,rfl,q⟩:=h
    refine ⟨_,(pss_one (ps_ret (pe_and (pe_callB (call_isinstanceK (K:=K)) (by rfl) T.n_isinstance boot_isinstance (pa_cons (pv 0) (pa_cons (pe_bltn (v:=.ty "int") rfl T.n_int boot_int rfl) pa_nil))) (pe_and (pe_not (pe_callB (call_isinstanceK (K:=K)) (by rfl) T.n_isinstance boot_isinstance (pa_cons (pv 0) (pa_cons (pe_bltn (v:=.ty "bool") rfl T.n_bool boot_bool rfl) pa_nil)))) (pe_one (pe_cmpR (op_eqK (K:=K) (hU hr)) (pv 0) (pv 1) (nomark _))))))),?_⟩
    walk_at "rd"
    exact q

theorem ok_l_names (T:Txt K mg a):FnOk P w K mg base CX0 1 a.f_l_names a.d_l_names ["_law_cell", "_law_other", "_law_many_here"] sp_namesN:=by
  refine T.F_l_names.ok sc_l_names (fun vs H Q E h=>?_) (fun cdv A outer s H vs Q E hr h=>?_)
  · obtain ⟨c,o,m,rfl,_⟩:=h
    rfl
  · obtain ⟨c,o,m,rfl,hc,ho,hm0,hm1,q⟩:=h
    refine ⟨_,(pss_cons (ps_set (i:=3) sc_l_names.nd rfl (Or.inl rfl) pe_str)
      (pss_cons (ps_set (i:=4) sc_l_names.nd rfl (Or.inl rfl) (pe_op (op_plusK (K:=K)) pe_int (pe_op op_mod (pv 0) pe_int)))
      (pss_cons (ps_set (i:=5) sc_l_names.nd rfl (Or.inl rfl) (pe_op op_mod (pv 1) (pv 4)))
      (pss_cons (ps_set (i:=6) sc_l_names.nd rfl (Or.inl rfl) (pe_lst pa_nil))
      (pss_cons (ps_for PassesOwn.never rfl (pi_range1 rfl T.n_range (pa_cons (pv 2) pa_nil)) (pg_name (i:=7) sc_l_names.nd rfl (Or.inl rfl)) (pss_cons (ps_set (i:=8) sc_l_names.nd rfl (Or.inl rfl) pe_str)
      (pss_cons (ps_for PassesOwn.never rfl (pi_range1 rfl T.n_range (pa_cons (pv 4) pa_nil)) (pg_name (i:=9) sc_l_names.nd rfl (Or.inl rfl)) (pss_cons (ps_set (i:=10) sc_l_names.nd rfl (Or.inl rfl) (pe_op (op_plusK (K:=K)) (pe_op (op_plusK (K:=K)) (pe_op op_fdiv (pe_op op_fdiv (pv 0) pe_int) (pe_op (op_plusK (K:=K)) (pv 9) pe_int)) (pe_op op_mulA (pv 9) (pv 9))) (pe_op op_mulA (pv 7) (pe_callTy (call_intK (K:=K)) rfl T.n_int boot_int (pa_cons (pe_cmpR (op_eqK (K:=K) (hU hr)) (pv 9) (pv 5) (nomark _)) pa_nil)))))
      (pss_one (ps_set (i:=8) sc_l_names.nd rfl (Or.inl rfl) (pe_op (op_plusK (K:=K)) (pv 8) (pe_ix (ix_anyK (K:=K) (hU1 hr)) (pv 3) (pe_op op_mod (pv 10) pe_int) (fun _ _=>rfl)))))))
      (pss_one (ps_expr (pe_bmK (K:=K) PySem.F.plainAttrs_list PySem.F.slot_list_append PySem.F.type_list_append mt_append (pv 6) (pa_cons (pv 8) pa_nil)))))))
      (pss_one (ps_ret (pv 6)))))))),?_⟩
    walk_at "rd"
    have h12:0≤c % 12∧c % 12 < 12:=by omega
    have e0:Str.ofString "" = S []:=by decide +kernel
    rw [T36_is,e0]
    generalize hlg:1+c % 12=lg
    have hlg1:1≤lg∧lg≤12:=by omega
    generalize hat:o % lg=at0
    refine ⟨by omega,Nat.zero_le _,fun p hp=>⟨by omega,by omega,?_⟩⟩
    refine forW_range (fun i σ H'=>∃ ns:List (List Nat),ns.length=i∧(∀ z∈ns,z.length≤12)∧Same H H'∧H' p=some (.lst (ns.map fun l=>V.str (S l)))∧∃ v7 v8 v9 v10,σ=[some (V.int c),some (V.int o),some (V.int m),some (V.str (S T36)),some (V.int lg),some (V.int at0),some (V.ref p),v7,v8,v9,v10]) ⟨[],rfl,by simp,Same.upd hp,upd_same,none,none,none,none,rfl⟩ ?_ ?_
    · rintro i σ H' hi ⟨ns,hns,hn12,hs,hpl,v7,v8,v9,v10,rfl⟩
      walk_at "rd"
      refine ⟨by omega,by omega,?_⟩
      refine forW_range (fun j σ H2=>H2=H'∧∃ (l:List Nat) (v9 v10:Option V),l.length=j∧σ=[some (V.int c),some (V.int o),some (V.int m),some (V.str (S T36)),some (V.int lg),some (V.int at0),some (V.ref p),some (V.int (0+(i:Int))),some (V.str (S l)),v9,v10]) ⟨rfl,[],v9,v10,rfl,rfl⟩ ?_ ?_
      · rintro j σ H2 hj ⟨rfl,l,v9,v10,hl,rfl⟩
        walk_at "rd"
        refine ⟨by omega,by omega,.inl (by omega),.inl (by omega),by decide,_,atI_get? (Int.emod_nonneg _ (by decide)) (ltr36_at _),Nat.le_trans (show l.length+1≤100 by omega) (by decide),?_⟩
        rw [List.length_append,List.length_singleton,hl]
      · rintro σ H2 ⟨rfl,l,v9,v10,hl,rfl⟩
        walk_at "rd"
        refine ⟨.inl ⟨_,.inl (.inl hpl)⟩,_,hpl,?_,ns++[l],by simp;omega,(fun z hz=>by rcases List.mem_append.mp hz with h | h;exact hn12 z h;simp only [List.mem_cons,List.not_mem_nil,or_false] at h;rw [h,hl];omega),fun b u hb=>(upd_ne (ne_of_none hb hp)).trans (hs b u hb),?_⟩
        · rw [List.length_map];exact Nat.lt_of_le_of_lt (show ns.length≤36 by omega) (by decide)
        · rw [List.map_append];exact upd_same
    · rintro σ H' ⟨ns,hns,hn12,hs,hpl,v7,v8,v9,v10,rfl⟩
      walk_at "rd"
      exact q p H' ns hp hs (by omega) hn12 hpl

theorem ok_l_runs (T:Txt K mg a):FnOk P w K mg base CX0 1 a.f_l_runs a.d_l_runs ["_law_state", "_law_place"] sp_runs39:=by
  refine T.F_l_runs.ok sc_l_runs (fun vs H Q E h=>?_) (fun cdv A0 outer s0 H vs Q E hr h=>?_)
  · obtain ⟨sd,lo,fa,tr,fi,sp,st,fr,tu,p,L,kvs,rfl,_⟩:=h
    rfl
  · obtain ⟨sd,lo,fa,tr,fi,sp,st,fr,tu,p,L,kvs,rfl,hs,hd,hv,q⟩:=h
    refine ⟨_,(pss_one (ps_ret (pe_and (pe_cmpR (op_inK (K:=K) (hU1 hr)) (pv 1) (pe_ix (ix_anyK (K:=K) (hU1 hr)) (pv 0) pe_str (fun _ _=>rfl)) (by rfl)) (pe_one (pe_cmpR op_gtA (pe_ix (ix_anyK (K:=K) (hU1 hr)) (pe_ix (ix_anyK (K:=K) (hU1 hr)) (pe_ix (ix_anyK (K:=K) (hU1 hr)) (pv 0) pe_str (fun _ _=>rfl)) (pv 1) (fun _ _=>rfl)) pe_int (fun _ _=>rfl)) (pe_ix (ix_anyK (K:=K) (hU1 hr)) (pv 0) pe_str (fun _ _=>rfl)) (nomark _)))))),?_⟩
    walk_at "rd"
    have g:DGet H lo (.int p) (valV kvs (.inl p)):=.inl ⟨kvs,.inl p,hd,rfl,rfl⟩
    refine st_loans hs (rInn_d g ⟨_,rfl,?_⟩)
    have vp:=hv p
    unfold lentL at q
    cases e:L p with
    | none =>
      rw [e] at vp q
      rw [show valV kvs (.inl p)=none from vp,if_neg (by simp)]
      exact q
    | some y =>
      rw [e] at vp q
      obtain ⟨t,et,ht⟩:=vp
      rw [et] at g ⊢
      rw [if_pos (by simp)]
      exact st_loans hs (rIxA_d g (rIxA_t (v:=.int y.2.2) (.inl (.inl ht)) rfl (st_turn hs ⟨_,rfl,_,rfl,q⟩)))
theorem ok_l_open (T:Txt K mg a):FnOk P w K mg base CX0 2 a.f_l_open a.d_l_open ["_law_lending", "_law_state", "_law_place"] (sp_open39 a.C_Lending a.C_Row):=by
  refine T.F_l_open.ok sc_l_open (fun vs H Q E h=>?_) (fun cdv A0 outer s0 H vs Q E hr h=>?_)
  · obtain ⟨A,N,g,p,rfl,_⟩:=h
    rfl
  · obtain ⟨A,N,g,p,rfl,W,h0,h1,hF,hL,q⟩:=h
    refine ⟨_,(pss_cons (ps_if (PW.pt (pw_or (pt_not (pt_truthK (K:=K) (pe_callB (call_isinstanceK (K:=K)) (by rfl) T.n_isinstance boot_isinstance (pa_cons (pv 2) (pa_cons (pe_bltn (v:=.ty "int") rfl T.n_int boot_int rfl) pa_nil))) (by intro _;rfl))) (pw_or (pt_truthK (K:=K) (pe_callB (call_isinstanceK (K:=K)) (by rfl) T.n_isinstance boot_isinstance (pa_cons (pv 2) (pa_cons (pe_bltn (v:=.ty "bool") rfl T.n_bool boot_bool rfl) pa_nil))) (by intro _;rfl)) (pw_or1 (pt_not (pt_chain op_leK op_ltK (pe_ix (ix_anyK (K:=K) (hU1 hr)) (pv 1) pe_str (fun _ _=>rfl)) (pv 2) (pe_ix (ix_anyK (K:=K) (hU1 hr)) (pv 1) pe_str (fun _ _=>rfl)))))))) (pss_one (ps_ret pe_bl)) pss_nil)
      (pss_cons (ps_if (PW.pt (pw_or (pt_cmpR (op_inK (K:=K) (hU1 hr)) (pv 2) (pe_ix (ix_anyK (K:=K) (hU1 hr)) (pv 1) pe_str (fun _ _=>rfl)) (by rfl)) (pw_or (pt_cmp (pc_notN (pe_meth (pv 0) T.cl_Lending T.M_Lending_fate_at (ok_Lending_fate_at T) (hr.mono (by decide)) T.b_Lending_fate_at .nil pass0 (pa_cons (pv 2) pa_nil)))) (pw_or1 (pt_truthK (K:=K) (pe_call (ok_l_runs T) (hr.mono (by decide)) rfl T.m_l_runs T.F_l_runs.kp T.b_l_runs .nil pass0 (pa_cons (pv 1) (pa_cons (pv 2) pa_nil))) (by intro _;rfl)))))) (pss_one (ps_ret pe_bl)) pss_nil)
      (pss_one (ps_ret (pe_call (ok_l_whole T) (hr.mono (by decide)) rfl T.m_l_whole T.F_l_whole.kp T.b_l_whole .nil pass0 (pa_cons (pe_meth (pv 0) T.cl_Lending T.M_Lending_tried_at (ok_Lending_tried_at T) (hr.mono (by decide)) T.b_Lending_tried_at .nil pass0 (pa_cons (pv 2) pa_nil)) (pa_cons (pe_dget2 (hU1 hr) (pe_ix (ix_anyK (K:=K) (hU1 hr)) (pv 1) pe_str (fun _ _=>rfl)) (pv 2) pe_int ⟨rfl,rfl,rfl,rfl⟩) pa_nil))))))),?_⟩
    walk_at "rd"
    have hs:H A.sd=some (.dK (stK N.st g.fr g.tu A.lo A.fa A.tr A.fi A.sp)):=W.p.sd
    obtain ⟨kf,ef,_,vf⟩:=W.p.fa
    obtain ⟨kl,el,_,vl⟩:=W.p.lo
    obtain ⟨kt,et,_,vt⟩:=W.p.tr
    obtain ⟨dx,hro⟩:=W.p.la.obj
    have gf:=DGet.k (k:=.inl p) ef
    have gt:=DGet.k (k:=.inl p) et
    refine st_start hs ?_
    rw [rLe_ii,decide_eq_true h0]
    refine ⟨_,rfl,?_⟩
    rw [if_pos rfl]
    refine st_front hs ?_
    rw [rLt_ii,decide_eq_true h1]
    refine ⟨_,rfl,?_⟩
    rw [if_neg (by simp)]
    rw [show valV kf (.inl p)=none from by rw [vf p];show (g.M.F p).map V.str=none;rw [hF];rfl] at gf
    refine st_fates hs (rInn_d gf ⟨_,rfl,?_⟩)
    rw [if_neg (by simp)]
    refine ⟨dx,_,hro,rfl,_,_,_,_,W.p.la,?_⟩
    rw [if_neg (fun z=>z (by show fateV (g.M.F p)=.non;rw [hF];rfl))]
    refine ⟨_,_,_,_,_,_,_,_,hs,g.M.L,kl,.inl el,vl,?_⟩
    rw [if_neg (by show ¬ g.M.isLent p g.tu=true;rw [hL];exact Bool.false_ne_true)]
    refine ⟨dx,_,hro,rfl,_,_,_,_,W.p.la,st_tried hs ⟨_,rfl,.inl ⟨kt,.inl et⟩,_,gt,_,TrAt.getD (vt p),?_⟩⟩
    rw [decide_eq_true (show (G39.s N g).M.T p=(G39.s N g).T p from rfl)]
    exact q
theorem ok_l_good (T:Txt K mg a):FnOk P w K mg base CX0 3 a.f_l_good a.d_l_good ["_law_lending", "_law_state", "_law_found_here", "_law_numbers"] (sp_good39 a.C_Lending a.C_Row):=by
  refine T.F_l_good.ok sc_l_good (fun vs H Q E h=>?_) (fun cdv A0 outer s0 H vs Q E hr h=>?_)
  · obtain ⟨A,N,g,u,B,nb,as,o,rfl,_⟩:=h
    rfl
  · obtain ⟨A,N,g,u,B,nb,as,o,rfl,W,hn,hu,hB,D,hk,hfr,q⟩:=h
    refine ⟨_,(pss_cons (ps_if (PW.pt (pw_or (pt_not (pt_truthK (K:=K) (pe_callB (call_isinstanceK (K:=K)) (by rfl) T.n_isinstance boot_isinstance (pa_cons (pv 2) (pa_cons (pe_bltn (v:=.ty "tuple") rfl T.n_tuple boot_tuple rfl) pa_nil))) (by intro _;rfl))) (pw_or (pt_cmpR (op_neK (K:=K) (hU hr)) (pe_callB (call_lenK (K:=K)) (by rfl) T.n_len boot_len (pa_cons (pv 2) pa_nil)) pe_int (nomark _)) (pw_or1 (pt_not (pt_truthK (K:=K) (pe_callB (call_isinstanceK (K:=K)) (by rfl) T.n_isinstance boot_isinstance (pa_cons (pe_ix (ix_anyK (K:=K) (hU1 hr)) (pv 2) pe_int (fun _ _=>rfl)) (pa_cons (pe_bltn (v:=.ty "list") rfl T.n_list boot_list rfl) pa_nil))) (by intro _;rfl))))))) (pss_one (ps_ret pe_bl)) pss_nil)
      (pss_cons (ps_setcDIf (i:=4) ["_law_lending", "_law_state", "_law_found_here", "_law_numbers", "_law_running", "_law_last", "_law_place", "_law_end_here"] ["_law_lending", "_law_state", "_law_found_here", "_law_numbers", "_law_running", "_law_last", "", "_law_end_here"] (defScope s_l_good) ["_law_place"] (by exact ⟨rfl,by decide +kernel,by decide +kernel,by decide +kernel,by decide +kernel,by decide +kernel,by decide +kernel⟩) (pi_keys (pe_ix (ix_anyK (K:=K) (hU1 hr)) (pv 1) pe_str (fun _ _=>rfl))) (fun C₁ s₁ H₁ f₁=>(pg_name (i:=0) (show List.Nodup (α:=Str) ["_law_place", "_law_lending", "_law_state", "_law_found_here", "_law_numbers", "_law_running", "_law_last", "", "_law_end_here"] by decide +kernel) rfl (Or.inl rfl) (Or.inr rfl))) (fun C₁ s₁ H₁ f₁=>(pt_truthK (K:=K) (pe_call (ok_l_runs T) (hr.mono (by decide)) rfl T.m_l_runs T.F_l_runs.kp T.b_l_runs .nil pass0 (pa_cons (pv 2) (pa_cons (pv 0) pa_nil))) (by intro _;rfl))) (fun C₁ s₁ H₁ f₁=>(pv 0)) sc_l_good.nd)
      (pss_cons (ps_if (pt_cmpR op_geA (pe_callB (call_lenK (K:=K)) (by rfl) T.n_len boot_len (pa_cons (pv 4) pa_nil)) (pe_ix (ix_anyK (K:=K) (hU1 hr)) (pv 3) pe_int (fun _ _=>rfl)) (nomark _)) (pss_one (ps_ret (pe_and (pe_cmpR (op_eqK (K:=K) (hU hr)) (pe_ix (ix_anyK (K:=K) (hU1 hr)) (pv 2) pe_int (fun _ _=>rfl)) (pe_lst pa_nil) (nomark _)) (pe_one (pe_cmp (pc_isN (pe_ix (ix_anyK (K:=K) (hU1 hr)) (pv 2) pe_int (fun _ _=>rfl)))))))) pss_nil)
      (pss_cons (ps_set (i:=5) sc_l_good.nd rfl (Or.inl rfl) (pe_un un_neg pe_int))
      (pss_cons (ps_for PassesOwn.never rfl (pi_anyK (K:=K) (pe_ix (ix_anyK (K:=K) (hU1 hr)) (pv 2) pe_int (fun _ _=>rfl))) (pg_name (i:=6) sc_l_good.nd rfl (Or.inl rfl)) (pss_cons (ps_if (PW.pt (pw_or (pt_not (pt_truthK (K:=K) (pe_call (ok_l_open T) (hr.mono (by decide)) rfl T.m_l_open T.F_l_open.kp T.b_l_open .nil pass0 (pa_cons (pv 0) (pa_cons (pv 1) (pa_cons (pv 6) pa_nil)))) (by intro _;rfl))) (pw_or (pt_cmpR op_leK (pv 6) (pv 5) (nomark _)) (pw_or1 (pt_cmpR op_ltK (pe_dget2 (hU1 hr) (pe_ix (ix_anyK (K:=K) (hU1 hr)) (pv 1) pe_str (fun _ _=>rfl)) (pv 6) pe_int ⟨rfl,rfl,rfl,rfl⟩) (pe_ix (ix_anyK (K:=K) (hU1 hr)) (pv 3) pe_int (fun _ _=>rfl)) (nomark _)))))) (pss_one (ps_ret pe_bl)) pss_nil)
      (pss_one (ps_set (i:=5) sc_l_good.nd rfl (Or.inl rfl) (pv 6)))))
      (pss_cons (ps_set (i:=7) sc_l_good.nd rfl (Or.inl rfl) (pe_ix (ix_anyK (K:=K) (hU1 hr)) (pv 1) pe_str (fun _ _=>rfl)))
      (pss_cons (ps_if (pt_cmp (pc_notN (pe_ix (ix_anyK (K:=K) (hU1 hr)) (pv 2) pe_int (fun _ _=>rfl)))) (pss_cons (ps_set (i:=7) sc_l_good.nd rfl (Or.inl rfl) (pe_ix (ix_anyK (K:=K) (hU1 hr)) (pv 2) pe_int (fun _ _=>rfl)))
      (pss_one (ps_if (PW.pt (pw_or (pt_not (pt_truthK (K:=K) (pe_call (ok_l_open T) (hr.mono (by decide)) rfl T.m_l_open T.F_l_open.kp T.b_l_open .nil pass0 (pa_cons (pv 0) (pa_cons (pv 1) (pa_cons (pv 7) pa_nil)))) (by intro _;rfl))) (pw_or (pt_cmpR op_leK (pv 7) (pv 5) (nomark _)) (pw_or1 (pt_cmpR op_geA (pe_dget2 (hU1 hr) (pe_ix (ix_anyK (K:=K) (hU1 hr)) (pv 1) pe_str (fun _ _=>rfl)) (pv 7) pe_int ⟨rfl,rfl,rfl,rfl⟩) (pe_ix (ix_anyK (K:=K) (hU1 hr)) (pv 3) pe_int (fun _ _=>rfl)) (nomark _)))))) (pss_one (ps_ret pe_bl)) pss_nil))) pss_nil)
      (pss_cons (ps_for PassesOwn.never rfl (pi_range2 rfl T.n_range (pa_cons (pe_ix (ix_anyK (K:=K) (hU1 hr)) (pv 1) pe_str (fun _ _=>rfl)) (pa_cons (pv 7) pa_nil))) (pg_name (i:=6) sc_l_good.nd rfl (Or.inl rfl)) (pss_one (ps_if (PW.pt (pw_and (pt_cmpR (op_notInK (K:=K) (hU1 hr)) (pv 6) (pe_ix (ix_anyK (K:=K) (hU1 hr)) (pv 1) pe_str (fun _ _=>rfl)) (by rfl)) (pw_and (pt_cmpR (op_notInK (K:=K) (hU1 hr)) (pv 6) (pe_ix (ix_anyK (K:=K) (hU1 hr)) (pv 2) pe_int (fun _ _=>rfl)) (by rfl)) (pw_and1 (pt_not (pt_truthK (K:=K) (pe_call (ok_l_runs T) (hr.mono (by decide)) rfl T.m_l_runs T.F_l_runs.kp T.b_l_runs .nil pass0 (pa_cons (pv 1) (pa_cons (pv 6) pa_nil))) (by intro _;rfl))))))) (pss_one (ps_ret pe_bl)) pss_nil)))
      (pss_one (ps_ret (pe_cmpR op_ltK (pv 5) (pv 7) (nomark _)))))))))))),?_⟩
    have hs:H A.sd=some (.dK (stK N.st g.fr g.tu A.lo A.fa A.tr A.fi A.sp)):=W.p.sd
    refine cut2 fun Rz hRz=>?_
    walk_at "rd"
    obtain ⟨kvs,el,hkk,hv⟩:=W.p.lo
    have hkk:kvs.map (·.1)=g.ks.map Sum.inl:=hkk
    have hv:∀ p:Int,LoanO H (g.M.L p) (valV kvs (.inl p)):=hv
    have hlk:kvs.length=g.ks.length:=keys_len hkk
    have tu0:SqT K H u [.ref B,oV o]:=.inl (.inl hu)
    rw [isi_tup_tuple hu]
    refine ⟨_,rfl,?_⟩
    rw [if_neg (by simp)]
    refine rLen_t tu0 ?_
    rw [rNeq_ii]
    refine ⟨_,rfl,?_⟩
    rw [if_neg (by simp)]
    refine rIxA_t (v:=.ref B) tu0 rfl ?_
    rw [isi_lst_list hB]
    refine ⟨_,rfl,?_⟩
    rw [if_neg (by simp)]
    refine st_loans hs ⟨_,rfl,kvs,el,fun od D0 hD=>?_⟩
    have nDl:D0≠A.lo:=fun z=>by rw [z,upd_same] at hD;cases hD
    have hD0:H D0=none:=by rw [upd_ne nDl] at hD;exact hD
    have back:∀ ys:List V,Same H (upd (upd (upd H A.lo (.frz od (.dK kvs))) D0 (.lst ys)) A.lo (.dK kvs)):=fun ys b o hb=>by
      by_cases e:b=A.lo
      · rw [e,el] at hb;cases hb;rw [e];exact upd_same
      · exact (upd_ne e).trans ((upd_ne (ne_of_none hb hD0)).trans ((upd_ne e).trans hb))
    refine ⟨fun i m ys H2=>m=kvs.length - i∧i≤kvs.length∧ys=(runL g.M g.tu (g.ks.take i)).map V.int∧H2=upd (upd H A.lo (.frz od (.dK kvs))) D0 (.lst ys),⟨_,rfl,Nat.zero_le _,rfl,rfl⟩,?_⟩
    rintro i m ys H2 ⟨rfl,hi,hys,rfl⟩
    have hyl:ys.length≤i:=by
      rw [hys,List.length_map]
      refine Nat.le_trans (List.length_filter_le _ _) ?_
      rw [List.length_take]
      omega
    have hfz:upd (upd H A.lo (.frz od (.dK kvs))) D0 (.lst ys) A.lo=some (.frz od (.dK kvs)):=(upd_ne (Ne.symm nDl)).trans upd_same
    by_cases hlt:i < kvs.length
    · refine .inr ⟨⟨hfz,hlt⟩,Nat.lt_of_le_of_lt (show ys.length≤1000 by omega) (by decide),?_⟩
      rintro x H3 ⟨rfl,k,x',rfl,hk1,hkv⟩ ol ho
      obtain ⟨o0,rfl⟩:∃ z,ol=[z]:=by
        match ol,ho with
        | [z],_=>exact ⟨z,rfl⟩
      obtain ⟨p,rfl,htk⟩:∃ p,k=.inl p∧g.ks.take (i+1)=g.ks.take i++[p]:=by
        have hk0:(kvs.map (·.1))[i]?=some k:=by rw [List.getElem?_map,hk1];rfl
        rw [hkk,List.getElem?_map] at hk0
        obtain ⟨p,hp,rfl⟩:=Option.map_eq_some_iff.mp hk0
        exact ⟨p,rfl,by rw [List.take_add_one,hp];rfl⟩
      have cz:Chg [A.lo] H (upd (upd H A.lo (.frz od (.dK kvs))) D0 (.lst ys)):=(Chg.upd (by simp) (mut_dK el)).trans (Chg.new hD)
      have hs3:=cz.keep _ _ hs (nd_nin W.p.nd 6 [7] rfl rfl (by decide))
      simp only [kV]
      walk_at "rd"
      refine ⟨⟨[some (V.int p)],rfl,rfl⟩,_,_,_,_,_,_,_,_,hs3,g.M.L,kvs,.inr ⟨od,hfz⟩,fun z=>(hv z).chg cz,ite2 (fun yl=>?_) (fun yl=>?_)⟩
      · exact ⟨upd_same,kvs.length - (i+1),by omega,rfl,hlt,by rw [htk,hys,runL,runL,List.filter_append,List.filter_cons_of_pos (p:=fun p=>g.M.isLent p g.tu) yl,List.filter_nil,List.map_append];rfl,upd_upd⟩
      · exact ⟨kvs.length - (i+1),by omega,rfl,hlt,by rw [htk,hys,runL,runL,List.filter_append,List.filter_cons_of_neg (p:=fun p=>g.M.isLent p g.tu) yl,List.filter_nil,List.append_nil]⟩
    · refine .inl ⟨⟨hfz,by omega⟩,upd_same,hfz,?_⟩
      have sB:=back ys
      have hDD:upd (upd (upd H A.lo (.frz od (.dK kvs))) D0 (.lst ys)) A.lo (.dK kvs) D0=some (.lst ys):=(upd_ne nDl).trans upd_same
      generalize upd (upd (upd H A.lo (.frz od (.dK kvs))) D0 (.lst ys)) A.lo (.dK kvs)=H1 at sB hDD ⊢
      have hyr:ys.length=(runL g.M g.tu g.ks).length:=by
        have hi2:i=g.ks.length:=by omega
        rw [hys,List.length_map,hi2,List.take_length]
      have W1:=W.same sB
      have hs1:=sB _ _ hs
      have tu1:SqT K H1 u [.ref B,oV o]:=.inl (.inl (sB _ _ hu))
      have tn1:SqT K H1 nb (numV N):=.inl (.inl (sB _ _ hn))
      have B1:SqL K H1 B (as.map V.int):=.inl (.inl (sB _ _ hB))
      obtain ⟨kt,et,_,vt⟩:=W1.p.tr
      have tri:∀ p:Int,∃ oo,DGet H1 A.tr (.int p) oo∧oo.getD (.int 0)=.int (g.M.T p):=fun p=>⟨_,DGet.k (k:=.inl p) et,TrAt.getD (vt p)⟩
      rw [hRz]
      clear hRz
      refine cut1 fun Rz hRz=>?_
      walk_at "rd"
      refine rLen_l (.inl (.inl hDD)) (rIxA_t (v:=.int N.wi) tn1 rfl ⟨_,rfl,_,rfl,?_⟩)
      rw [hyr]
      rcases D.al with ⟨hw,has,hoo⟩ | ⟨hw,hall⟩
      · subst has hoo
        rw [if_pos hw]
        refine rIxA_t (v:=.ref B) tu1 rfl ⟨Nat.zero_le _,fun Z hZ=>?_⟩
        have sZ:Same H1 (upd H1 Z (.lst [])):=Same.upd hZ
        have aZ:upd H1 Z (.lst []) Z=some (.lst (([]:List Int).map V.int)):=upd_same
        generalize upd H1 Z (.lst [])=H2 at sZ aZ ⊢
        refine rEqq_same (d:=.list []) (n:=1) (den_ints (ns:=[]) (.inl (.inl (sZ _ _ (sB _ _ hB))))) (den_ints (ns:=[]) (.inl (.inl aZ))) (wd_list fun d hd=>by cases hd) rfl ⟨_,rfl,?_⟩
        rw [if_pos rfl]
        exact rIxA_t (v:=.non) (.inl (.inl (sZ _ _ (sB _ _ hu)))) rfl (q _ (sB.trans sZ))
      rw [if_neg (by omega),hRz]
      clear hRz
      refine cut2 fun Rz hRz=>?_
      walk_at "rd"
      have atA:∀ (la:Int) (i:Nat),(i=0∧la=-1∨∃ j,i=j+1∧as[j]?=some la)→∀ x,(as[i]?=some x→la < x):=fun la i h x hx=>by
        rcases h with ⟨_,rfl⟩ | ⟨j,rfl,hj⟩
        · have:=(D.ha x (List.mem_of_getElem? hx)).1
          have:=W.i.s0
          omega
        · obtain ⟨l1,e1⟩:=List.getElem?_eq_some_iff.mp hj
          obtain ⟨l2,e2⟩:=List.getElem?_eq_some_iff.mp hx
          have:=List.pairwise_iff_getElem.mp D.asc j (j+1) l1 l2 (by omega)
          rw [e1,e2] at this
          exact this
      refine rIxA_t (v:=.ref B) tu1 rfl (rAny_l B1 (forW_list (xs:=as.map V.int) (fun i σ H'=>H'=H1∧∃ la v6,(i=0∧la=-1∨∃ j,i=j+1∧as[j]?=some la)∧σ=[some (V.ref A.r),some (V.ref A.sd),some (V.ref u),some (V.ref nb),some (V.ref D0),some (V.int la),v6,none]) ⟨rfl,-1,none,.inl ⟨rfl,rfl⟩,rfl⟩ (fun i σ H' _ h=>by rw [h.1];exact B1) ?_ ?_))
      · rintro i x σ H' hx ⟨rfl,la,v6,hla,rfl⟩
        rw [List.getElem?_map] at hx
        obtain ⟨p,hp,rfl⟩:=Option.map_eq_some_iff.mp hx
        obtain ⟨a1,a2,a3,a4,a5⟩:=D.ha p (List.mem_of_getElem? hp)
        have lt:=atA la i hla p hp
        walk_at "rd"
        obtain ⟨oo,dg,egt⟩:=tri p
        refine ⟨A,rfl,rfl,N,g,W1,a1,a2,a3,a4,?_⟩
        rw [if_neg (by omega)]
        refine st_tried hs1 ⟨_,rfl,.inl ⟨kt,.inl et⟩,oo,dg,rIxA_t (v:=.int N.tr) tn1 rfl ?_⟩
        rw [egt,rLt_ii]
        refine ⟨_,rfl,?_⟩
        rw [if_neg (by simp;omega)]
        exact ⟨rfl,i,rfl,hp⟩
      · rintro σ H' ⟨rfl,la,v6,hla,rfl⟩
        rw [List.length_map] at hla
        have laA:∀ e:Int,0≤e→(∀ x∈as,x < e)→la < e:=fun e h0 h=>by
          rcases hla with ⟨_,rfl⟩ | ⟨j,_,hj⟩
          · omega
          · exact h la (List.mem_of_getElem? hj)
        have s0:=W.i.s0
        have f0:=W.i.f0
        show Rz { nx:=fun x H'=>Q V.non H',rt:=Q } _ _
        rw [hRz]
        clear hRz
        refine cut2 fun Rz hRz=>?_
        have fin:∀ e:Int,e=o.getD g.fr→la < e→0≤e→e < 2 ^ 62→Rz { nx:=fun x H'=>Q V.non H',rt:=Q } [some (V.ref A.r),some (V.ref A.sd),some (V.ref u),some (V.ref nb),some (V.ref D0),some (V.int la),v6,some (V.int e)] H':=fun e he hle he0 he2=>by
          rw [hRz]
          clear hRz
          walk_at "rd"
          refine st_start hs1 ⟨_,rfl,by omega,by have:=W.i.s1;omega,by omega,by omega,?_⟩
          obtain ⟨kf,ef,_,vf⟩:=W1.p.fa
          obtain ⟨kl,el1,_,vl⟩:=W1.p.lo
          refine forW_range (fun i σ H2=>H2=H'∧∃ v6,σ=[some (V.ref A.r),some (V.ref A.sd),some (V.ref u),some (V.ref nb),some (V.ref D0),some (V.int la),v6,some (V.int e)]) ⟨rfl,_,rfl⟩ ?_ ?_
          · rintro i σ H2 hi ⟨rfl,v6,rfl⟩
            have h3:=hall (N.st+(i:Int)) (by omega) (by rw [← he];omega)
            generalize N.st+(i:Int)=p at h3 ⊢
            have gf:=DGet.k (k:=.inl p) ef
            walk_at "rd"
            refine st_fates hs1 (rNin_d gf ⟨_,rfl,?_⟩)
            have vp:valV kf (.inl p)=(g.M.F p).map V.str:=vf p
            rw [vp]
            rcases h3 with h | h | h
            · rw [if_neg (by simp [h])]
            · cases hF:g.M.F p with
              | some z=>rw [if_neg (by simp)]
              | none =>
                rw [if_pos (by simp)]
                refine rIxA_t (v:=.ref B) tu1 rfl (rNin_f (.inl B1) rfl (ints_flat as) ?_)
                rw [inV_ints,decide_eq_true h]
                refine ⟨_,rfl,?_⟩
                rw [if_neg (by simp)]
            · cases hF:g.M.F p with
              | some z=>rw [if_neg (by simp)]
              | none =>
                rw [if_pos (by simp)]
                refine rIxA_t (v:=.ref B) tu1 rfl (rNin_f (.inl B1) rfl (ints_flat as) ?_)
                refine ⟨_,rfl,ite2 (fun _=>⟨_,_,_,_,_,_,_,_,hs1,g.M.L,kl,.inl el1,vl,?_⟩) (fun _=>rfl)⟩
                rw [if_neg (by rw [show lentL g.M.L p g.tu=true from h];simp)]
          · rintro σ H2 ⟨rfl,v6,rfl⟩
            walk_at "rd"
            rw [decide_eq_true hle]
            exact q _ sB
        walk_at "rd"
        refine st_front hs1 ?_
        cases ho:o with
        | none =>
          rw [ho] at tu1
          refine rIxA_t (v:=.non) tu1 rfl ?_
          rw [if_neg (fun z=>z rfl)]
          exact fin g.fr (by rw [ho];rfl) (laA _ f0 fun x hx=>(D.ha x hx).2.1) f0 (by omega)
        | some p =>
          rw [ho] at tu1
          obtain ⟨b1,b2,b3,b4,b5,b6⟩:=D.ho p ho
          obtain ⟨oo,dg,egt⟩:=tri p
          refine rIxA_t (v:=.int p) tu1 rfl ?_
          rw [if_pos (by simp)]
          refine rIxA_t (v:=.int p) tu1 rfl ⟨A,rfl,rfl,N,g,p,rfl,W1,b1,b2,b3,b4,?_⟩
          have lp:=laA p (by omega) b6
          rw [rLe_ii,decide_eq_false (by omega)]
          refine ⟨_,rfl,?_⟩
          rw [if_neg (by simp)]
          refine st_tried hs1 ⟨_,rfl,.inl ⟨kt,.inl et⟩,oo,dg,rIxA_t (v:=.int N.tr) tn1 rfl ⟨_,egt,_,rfl,?_⟩⟩
          rw [if_neg (by omega)]
          exact fin p (by rw [ho];rfl) lp (by omega) (by omega)

theorem ok_l_take (T:Txt K mg a):FnOk P w K mg base CX0 5 a.f_l_take a.d_l_take ["_law_lending", "_law_row", "_law_state", "_law_taker", "_law_numbers"] (sp_take39 a.C_Lending a.C_Row):=by
  refine T.F_l_take.ok sc_l_take (fun vs H Q E h=>?_) (fun cdv A0 outer s0 H vs Q E hr h=>?_)
  · obtain ⟨A,N,g,tk,nb,rfl,_⟩:=h
    rfl
  · obtain ⟨A,N,g,tk,nb,rfl,W,hn,hsp,hla,q⟩:=h
    refine ⟨_,(pss_cons (ps_set (i:=5) sc_l_take.nd rfl (Or.inl rfl) (pe_meth (pv 0) T.cl_Lending T.M_Lending_due_in (ok_Lending_due_in T) (hr.mono (by decide)) T.b_Lending_due_in .nil pass0 (pa_cons (pv 1) (pa_cons (pe_ix (ix_anyK (K:=K) (hU1 hr)) (pv 2) pe_str (fun _ _=>rfl)) (pa_cons (pe_ix (ix_anyK (K:=K) (hU1 hr)) (pv 2) pe_str (fun _ _=>rfl)) pa_nil)))))
      (pss_cons (ps_if (pt_not (pt_truthK (K:=K) (pe_call (ok_l_good T) (hr.mono (by decide)) rfl T.m_l_good T.F_l_good.kp T.b_l_good .nil pass0 (pa_cons (pv 0) (pa_cons (pv 2) (pa_cons (pv 5) (pa_cons (pv 4) pa_nil))))) (by intro _;rfl))) (pss_one (ps_ret pe_bl)) pss_nil)
      (pss_cons (ps_for PassesOwn.never rfl (pi_anyK (K:=K) (pe_ix (ix_anyK (K:=K) (hU1 hr)) (pv 5) pe_int (fun _ _=>rfl))) (pg_name (i:=6) sc_l_take.nd rfl (Or.inl rfl)) (pss_cons (ps_expr (pe_meth (pv 0) T.cl_Lending T.M_Lending_set_aside (ok_Lending_set_aside T) (hr.mono (by decide)) T.b_Lending_set_aside .nil pass0 (pa_cons (pv 6) pa_nil)))
      (pss_cons (ps_asg pe_str (pg_sub (pe_ix (ix_anyK (K:=K) (hU1 hr)) (pv 2) pe_str (fun _ _=>rfl)) (pv 6) (set_any (hU1 hr))))
      (pss_one (ps_expr (pe_dpop2 (pe_ix (ix_anyK (K:=K) (hU1 hr)) (pv 2) pe_str (fun _ _=>rfl)) (pv 6) pe_non ⟨rfl,rfl,rfl,rfl⟩))))))
      (pss_cons (ps_set (i:=6) sc_l_take.nd rfl (Or.inl rfl) (pe_ix (ix_anyK (K:=K) (hU1 hr)) (pv 5) pe_int (fun _ _=>rfl)))
      (pss_cons (ps_if (pt_cmp (pc_isN (pv 6))) (pss_one (ps_ret pe_bl)) pss_nil)
      (pss_cons (ps_set (i:=7) sc_l_take.nd rfl (Or.inl rfl) (pe_meth (pv 0) T.cl_Lending T.M_Lending_lend (ok_Lending_lend T) (hr.mono (by decide)) T.b_Lending_lend .nil pass0 (pa_cons (pv 6) (pa_cons (pv 3) (pa_cons (pe_ix (ix_anyK (K:=K) (hU1 hr)) (pv 2) pe_str (fun _ _=>rfl)) pa_nil)))))
      (pss_cons (ps_if (pt_not (pt_truthK (K:=K) (pe_call (ok_l_whole T) (hr.mono (by decide)) rfl T.m_l_whole T.F_l_whole.kp T.b_l_whole .nil pass0 (pa_cons (pv 7) (pa_cons (pe_op (op_plusK (K:=K)) (pe_callB (call_lenK (K:=K)) (by rfl) T.n_len boot_len (pa_cons (pe_ix (ix_anyK (K:=K) (hU1 hr)) (pv 2) pe_str (fun _ _=>rfl)) pa_nil)) pe_int) pa_nil))) (by intro _;rfl))) (pss_one (ps_ret pe_bl)) pss_nil)
      (pss_cons (ps_if (pt_cmpR (op_notInK (K:=K) (hU1 hr)) (pv 6) (pe_ix (ix_anyK (K:=K) (hU1 hr)) (pv 2) pe_str (fun _ _=>rfl)) (by rfl)) (pss_one (ps_expr (pe_bmK (K:=K) PySem.F.plainAttrs_list PySem.F.slot_list_append PySem.F.type_list_append mt_append (pe_ix (ix_anyK (K:=K) (hU1 hr)) (pv 2) pe_str (fun _ _=>rfl)) (pa_cons (pv 6) pa_nil)))) pss_nil)
      (pss_cons (ps_expr (pe_bmK (K:=K) PySem.F.plainAttrs_list PySem.F.slot_list_append PySem.F.type_list_append mt_append (pe_ix (ix_anyK (K:=K) (hU1 hr)) (pv 2) pe_str (fun _ _=>rfl)) (pa_cons (pv 6) pa_nil)))
      (pss_cons (ps_asg (pe_op (op_plusK (K:=K)) (pe_dget2 (hU1 hr) (pe_ix (ix_anyK (K:=K) (hU1 hr)) (pv 2) pe_str (fun _ _=>rfl)) (pv 6) pe_int ⟨rfl,rfl,rfl,rfl⟩) pe_int) (pg_sub (pe_ix (ix_anyK (K:=K) (hU1 hr)) (pv 2) pe_str (fun _ _=>rfl)) (pv 6) (set_any (hU1 hr))))
      (pss_cons (ps_asg (pe_tup (pa_cons (pv 7) (pa_cons (pv 3) (pa_cons (pe_op (op_plusK (K:=K)) (pe_ix (ix_anyK (K:=K) (hU1 hr)) (pv 2) pe_str (fun _ _=>rfl)) (pe_ix (ix_anyK (K:=K) (hU1 hr)) (pv 4) pe_int (fun _ _=>rfl))) pa_nil)))) (pg_sub (pe_ix (ix_anyK (K:=K) (hU1 hr)) (pv 2) pe_str (fun _ _=>rfl)) (pv 6) (set_any (hU1 hr))))
      (pss_one (ps_ret pe_bl))))))))))))),?_⟩
    have hs:H A.sd=some (.dK (stK N.st g.fr g.tu A.lo A.fa A.tr A.fi A.sp)):=W.p.sd
    obtain ⟨dx,hro⟩:=W.p.la.obj
    obtain ⟨z1,z2,z3⟩:=W.szb hsp hla
    have f1:=W.i.f1
    have s0:=W.i.s0
    have s1:=W.i.s1
    refine cut2 fun Rz hRz=>?_
    walk_at "rd"
    refine ⟨dx,_,hro,rfl,st_front hs (st_turn hs ?_)⟩
    refine ⟨_,_,_,_,_,_,g.fr,rfl,g.tu,rfl,W.p.la,W.p.ra,show g.R.last≤1000 by omega,show 0≤g.M.start by rw [W.i.st];omega,show g.M.start≤1000 by rw [W.i.st];omega,W.i.f0,_,W.p.lk,show g.ks.length≤1000 by omega,fun B u H1 hB hu sm1 bB bu=>?_⟩
    have D:=W.i.due
    have bB:H1 B=some (.lst ((due33 g.M g.R g.fr g.tu g.ks).1.map V.int)):=bB
    have bu:H1 u=some (.tup [.ref B,oV (due33 g.M g.R g.fr g.tu g.ks).2]):=bu
    generalize due33 g.M g.R g.fr g.tu g.ks=dd at D bB bu
    obtain ⟨as,o⟩:=dd
    have D:Du39 N g as o:=D
    have bB:H1 B=some (.lst (as.map V.int)):=bB
    have bu:H1 u=some (.tup [.ref B,oV o]):=bu
    refine ⟨A,rfl,rfl,N,g,W.same sm1,sm1 _ _ hn,B,as,o,bu,bB,D,by omega,by omega,fun H2 sm2=>?_⟩
    have W2:=(W.same sm1).same sm2
    have sm:=sm1.trans sm2
    have nB:=W.p.nin hB
    have bB2:=sm2 _ _ bB
    have bu2:=sm2 _ _ bu
    have hn2:=sm _ _ hn
    rw [hRz]
    clear hRz
    refine cut1 fun Rz hRz=>?_
    walk_at "rd"
    refine rIxA_t (v:=.ref B) (.inl (.inl bu2)) rfl (rAny_l (.inl (.inl bB2)) (forW_list (xs:=as.map V.int) (fun i σ H'=>∃ g',g'=g.asides (as.take i)∧Asd g g' (as.take i)∧W39 a.C_Lending a.C_Row H' A N g'∧Chg A.all H2 H'∧∃ v6,σ=[some (V.ref A.r),some (V.ref A.rw),some (V.ref A.sd),some (V.str (S tk)),some (V.ref nb),some (V.ref u),v6,none]) ⟨g,rfl,asd0 g,W2,Chg.refl _,none,rfl⟩ (fun i σ H' _ ⟨_,_,_,_,c,_⟩=>.inl (.inl (c.keep _ _ bB2 nB))) ?_ ?_))
    · rintro i x σ H' hx ⟨g',eg,Ag,Wg,cg,v6,rfl⟩
      rw [List.getElem?_map] at hx
      obtain ⟨p,hp,rfl⟩:=Option.map_eq_some_iff.mp hx
      have htk:as.take (i+1)=as.take i++[p]:=by rw [List.take_add_one,hp];rfl
      obtain ⟨a1,a2,a3,a4,a5⟩:=D.ha p (List.mem_of_getElem? hp)
      have hnp:p∉as.take i:=fun z=>by
        have hn2:=D.asc.sublist (List.take_sublist (i+1) as)
        rw [htk,List.pairwise_append] at hn2
        exact absurd (hn2.2.2 p z p (by simp)) (by omega)
      have hF:g'.M.F p=none:=by rw [Ag.F,if_neg hnp];exact a3
      have hT:1≤g'.M.T p:=by rw [Ag.T];have:=W.i.t1;omega
      obtain ⟨y1,y2,y3⟩:=Wg.szb (by rw [Ag.sp];exact hsp) (by rw [Ag.R];exact hla)
      obtain ⟨dx',hro'⟩:=Wg.p.la.obj
      walk_at "rd"
      refine ⟨dx',_,hro',rfl,_,_,_,_,Wg.p.la,_,Wg.p.lk,show g'.M.sz≤100000 by omega,fun H3 c1 L1 K1=>?_⟩
      have P1:=Wg.p.lnd1 c1 L1 K1
      obtain ⟨kf,ef,hkf,vf⟩:=P1.fa
      have hkf:kf.map (·.1)=g'.fk.map Sum.inl:=hkf
      have lf:=keys_len hkf
      refine st_fates P1.sd (rSetA_d (DPut.k (k:=.inl p) ef (Nat.lt_of_le_of_lt (show kf.length≤1000 by omega) (by decide))) ?_)
      have F2:=FtAt.put (z:=Str.ofString "aside") ef hkf vf hF
      have c2:Chg [A.fa] H3 (upd H3 A.fa (.dK (putK kf (.inl p) (.str (Str.ofString "aside"))))):=Chg.upd (by simp) (mut_dK ef)
      generalize upd H3 A.fa (.dK (putK kf (.inl p) (.str (Str.ofString "aside"))))=H4 at F2 c2 ⊢
      have P2:=P1.fas c2 F2
      obtain ⟨kl,el,hkl,vl⟩:=P2.lo
      refine st_loans P2.sd ⟨_,rfl,.inl ⟨kl,.inl el⟩,kl,el,.inl p,rfl,?_⟩
      refine LoAt.pop (Q:=fun _ H5=>Asd g (g.asides (as.take (i+1))) (as.take (i+1))∧W39 a.C_Lending a.C_Row H5 A N (g.asides (as.take (i+1)))∧Chg A.all H2 H5) el hkl vl fun _ H5 c3 L3=>?_
      obtain ⟨W5,c5⟩:=Wg.fate (z:=Str.ofString "aside") hF hT c1 L1 K1 c2 F2 c3 L3
      rw [htk,asides_snoc,← eg]
      exact ⟨Ag.snoc p,W5,cg.trans c5⟩
    · rintro σ H3 ⟨g',eg,Ag,Wg,cg,v6,rfl⟩
      rw [List.length_map,List.take_length] at eg Ag
      show Rz { nx:=fun x H'=>Q V.non H',rt:=Q } _ _
      rw [hRz]
      clear hRz
      have bu3:=cg.tup _ _ bu2
      have hn3:=cg.tup _ _ hn2
      have c03:Chg A.all H H3:=(Chg.of_same sm).trans cg
      refine cut2 fun Rz hRz=>?_
      walk_at "rd"
      cases ho:o with
      | none =>
        rw [ho] at bu3 D
        refine rIxA_t (v:=.non) (.inl (.inl bu3)) rfl ?_
        rw [if_pos rfl]
        refine q as none H3 D c03 ?_
        show W39 a.C_Lending a.C_Row H3 A N (g.asides as)
        rw [← eg]
        exact Wg
      | some p =>
        rw [ho] at bu3 D
        obtain ⟨a1,a2,a3,a4,a5,a6⟩:=D.ho p rfl
        have hnp:p∉as:=fun z=>by have:=a6 p z;omega
        have hF:g'.M.F p=none:=by rw [Ag.F,if_neg hnp];exact a3
        obtain ⟨y1,y2,y3⟩:=Wg.szb (by rw [Ag.sp];exact hsp) (by rw [Ag.R];exact hla)
        have hIl:I39 N (g'.lend p tk):=Wg.i.lend hF (by rw [Ag.T];exact a5) a1 (by rw [Ag.fr];exact a2) (fun z=>by rw [Ag.T] at z;rw [Ag.k];exact D.next (g':=g) W.i z)
        obtain ⟨dx',hro'⟩:=Wg.p.la.obj
        refine rIxA_t (v:=.int p) (.inl (.inl bu3)) rfl ?_
        rw [if_neg (by simp),hRz]
        clear hRz
        refine cut2 fun Rz hRz=>?_
        walk_at "rd"
        refine ⟨dx',_,hro',rfl,st_turn Wg.p.sd ⟨_,_,_,_,g'.tu,rfl,Wg.p.la,_,Wg.p.lk,show g'.M.sz≤100000 by omega,fun H4 c4 L4 K4=>?_⟩⟩
        have P4:=Wg.p.lnd2 c4 L4 K4
        have sp4:H4 A.sp=some (.lst (g'.sp.map V.int)):=P4.sp
        have nsp:g'.sp.length≤400:=by rw [Ag.sp];exact hsp
        refine st_spots P4.sd (rLen_l (.inl (.inl sp4)) ?_)
        rw [rPlus_ii,List.length_map]
        refine ⟨_,rfl,?_⟩
        rw [if_neg (fun z=>z (by show g'.M.lent+1=_;rw [Wg.i.ln])),hRz]
        clear hRz
        have hn4:=c4.tup _ _ hn3
        obtain ⟨kt,et,lt,vt⟩:=P4.tr
        have vt:∀ q:Int,valV kt (.inl q)=if g'.M.T q=0 then none else some (.int (g'.M.T q)):=vt
        have gt:=DGet.k (k:=.inl p) et
        have fi4:H4 A.fi=some (.lst ((rng N.st (N.st+g'.k)).map V.int)):=P4.fi
        have c04:Chg A.all H H4:=c03.trans (c4.mono (by simp [A39.all]))
        have hk9:=Wg.i.kle
        have hk9:(g'.k:Int)≤160:=by rw [Ag.R] at hk9;omega
        refine cut1 fun Rz hRz=>?_
        have rest:∀ H5,Chg [A.fi] H4 H5→H5 A.fi=some (.lst ((rng N.st (N.st+(g'.lend p tk).k)).map V.int))→Rz { nx:=fun x H'=>Q V.non H',rt:=Q } [some (V.ref A.r),some (V.ref A.rw),some (V.ref A.sd),some (V.str (S tk)),some (V.ref nb),some (V.ref u),some (V.int p),some (V.int (g'.M.lent+1))] H5:=fun H5 c5 fi5=>by
          rw [hRz]
          clear hRz
          have P5:=P4.fis c5 fi5
          have sp5:H5 A.sp=some (.lst (g'.sp.map V.int)):=P5.sp
          walk_at "rd"
          refine st_spots P5.sd ⟨.inl ⟨_,.inl (.inl sp5)⟩,_,rfl,_,sp5,by rw [List.length_map];exact Nat.lt_of_le_of_lt nsp (by decide),?_⟩
          have c6:Chg [A.sp] H5 (upd H5 A.sp (.lst (g'.sp.map V.int++[V.int p]))):=Chg.upd (by simp) (mut_lst sp5)
          have sp6:upd H5 A.sp (.lst (g'.sp.map V.int++[V.int p])) A.sp=some (.lst ((g'.sp++[p]).map V.int)):=by rw [List.map_append];exact upd_same
          generalize upd H5 A.sp (.lst (g'.sp.map V.int++[V.int p]))=H6 at c6 sp6 ⊢
          have P6:=P5.sps c6 sp6
          obtain ⟨kt6,et6,lt6,vt6⟩:=P6.tr
          have vt6:∀ q:Int,valV kt6 (.inl q)=if g'.M.T q=0 then none else some (.int (g'.M.T q)):=vt6
          have lt6:kt6.length≤g'.M.sz:=lt6
          refine st_tried P6.sd ⟨_,rfl,.inl ⟨kt6,.inl et6⟩,_,DGet.k (k:=.inl p) et6,?_⟩
          rw [TrAt.getD (vt6 p),rPlus_ii]
          refine st_tried P6.sd (rSetA_d (DPut.k (k:=.inl p) et6 (Nat.lt_of_le_of_lt (show kt6.length≤1000 by omega) (by decide))) ?_)
          have T7:=TrAt.put (k:=p) et6 lt6 vt6 (Wg.i.T0 p)
          have c7:Chg [A.tr] H6 (upd H6 A.tr (.dK (putK kt6 (.inl p) (.int (g'.M.T p+1))))):=Chg.upd (by simp) (mut_dK et6)
          generalize upd H6 A.tr (.dK (putK kt6 (.inl p) (.int (g'.M.T p+1))))=H7 at c7 T7 ⊢
          have P7:=P6.trs c7 T7
          refine st_turn P7.sd (rIxA_t (v:=.int N.tn) (.inl (.inl (c7.tup _ _ (c6.tup _ _ (c5.tup _ _ hn4))))) rfl ?_)
          rw [rPlus_ii]
          refine ⟨by decide,fun U hU=>?_⟩
          have s8:Same H7 (upd H7 U (.tup [V.int (g'.M.lent+1),V.str (S tk),V.int (g'.tu+N.tn)])):=Same.upd hU
          have a8:upd H7 U (.tup [V.int (g'.M.lent+1),V.str (S tk),V.int (g'.tu+N.tn)]) U=some (.tup (loanV (g'.M.lent+1,tk,g'.tu+g'.M.turns))):=by rw [Wg.i.tn];exact upd_same
          show rIxA K _ _ (upd H7 U (.tup [V.int (g'.M.lent+1),V.str (S tk),V.int (g'.tu+N.tn)])) _
          generalize upd H7 U (.tup [V.int (g'.M.lent+1),V.str (S tk),V.int (g'.tu+N.tn)])=H8 at s8 a8 ⊢
          have P8:=P7.same s8
          obtain ⟨kl,el,hkl,vl⟩:=P8.lo
          have hkl:kl.map (·.1)=g'.ks.map Sum.inl:=hkl
          have ll:=keys_len hkl
          refine st_loans P8.sd (rSetA_d (DPut.k (k:=.inl p) el (Nat.lt_of_le_of_lt (show kl.length≤1000 by omega) (by decide))) ?_)
          have L9:=LoAt.put (k:=p) el hkl vl a8
          have c9:Chg [A.lo] H8 (upd H8 A.lo (.dK (putK kl (.inl p) (.ref U)))):=Chg.upd (by simp) (mut_dK el)
          generalize upd H8 A.lo (.dK (putK kl (.inl p) (.ref U)))=H9 at c9 L9 ⊢
          have P9:=P8.los c9 L9
          have W9:W39 a.C_Lending a.C_Row H9 A N (g'.lend p tk):=⟨P9,hIl⟩
          refine q as (some p) H9 D (c04.trans ((c5.mono (by simp [A39.all])).trans ((c6.mono (by simp [A39.all])).trans ((c7.mono (by simp [A39.all])).trans ((Chg.of_same s8).trans (c9.mono (by simp [A39.all]))))))) ?_
          show W39 a.C_Lending a.C_Row H9 A N ((g.asides as).lend p tk)
          rw [← eg]
          exact W9
        walk_at "rd"
        refine st_tried P4.sd (rNin_d gt ⟨_,rfl,?_⟩)
        rw [vt p]
        by_cases hT0:g'.M.T p=0
        · rw [if_pos hT0,if_pos (by simp)]
          refine st_firsts P4.sd ⟨.inl ⟨_,.inl (.inl fi4)⟩,_,rfl,_,fi4,by rw [List.length_map,rng_len];exact Nat.lt_of_le_of_lt (show _≤1000 by omega) (by decide),?_⟩
          refine rest _ (Chg.upd (by simp) (mut_lst fi4)) ?_
          rw [upd_same]
          show _=some (HO.lst ((rng N.st (N.st+((if g'.M.T p=0 then g'.k+1 else g'.k:Nat):Int))).map V.int))
          rw [if_pos hT0,show N.st+((g'.k+1:Nat):Int)=N.st+(g'.k:Int)+1 by omega,rng_succ (by omega),List.map_append]
          have e:p=N.st+(g'.k:Int):=by rw [Ag.T] at hT0;rw [Ag.k];exact D.next (g':=g) W.i hT0
          rw [← e]
          rfl
        · rw [if_neg hT0,if_neg (by simp)]
          refine rest _ (Chg.refl _) ?_
          show H4 A.fi=some (.lst ((rng N.st (N.st+((if g'.M.T p=0 then g'.k+1 else g'.k:Nat):Int))).map V.int))
          rw [if_neg hT0]
          exact fi4

theorem ok_l_found (T:Txt K mg a):FnOk P w K mg base CX0 4 a.f_l_found a.d_l_found ["_law_lending", "_law_loan", "_law_turn"] (sp_found39 a.C_Lending):=by
  refine T.F_l_found.ok sc_l_found (fun vs H Q E h=>?_) (fun cdv A0 outer s0 H vs Q E hr h=>?_)
  · obtain ⟨r,f,t,l,M,n,turn,rfl,_⟩:=h
    rfl
  · obtain ⟨r,f,t,l,M,n,turn,rfl,R,q⟩:=h
    refine ⟨_,(pss_cons (ps_set (i:=3) sc_l_found.nd rfl (Or.inl rfl) pe_non)
      (pss_cons (ps_try (pss_one (ps_set (i:=3) sc_l_found.nd rfl (Or.inl rfl) (pe_meth (pv 0) T.cl_Lending T.M_Lending_place_of (ok_Lending_place_of T) (hr.mono (by decide)) T.b_Lending_place_of .nil passv0 (pa_cons (pv 1) (pa_cons (pv 2) pa_nil)))))
      (pxs_one (px_set (px_meth (pv 0) T.cl_Lending T.M_Lending_place_of (ok_Lending_place_of T) (hr.mono (by decide)) T.b_Lending_place_of .nil (pa_cons (pv 1) (pa_cons (pv 2) pa_nil)))))
      (ph_bare rfl T.mg_Late (fun ea=>(pss_one (ps_set (i:=3) sc_l_found.nd rfl (Or.inl rfl) pe_non)))
      ph_nil))
      (pss_one (ps_ret (pv 3))))),?_⟩
    obtain ⟨dx,hro⟩:=R.obj
    walk_at "rd"
    rcases q with ⟨p,x,q1,q2,q3,q4,q5,q6⟩ | ⟨hno,q⟩
    · exact .inl ⟨dx,_,hro,rfl,_,_,_,M,R,.inl ⟨p,x,q1,q2,q3,q4,q5,q6⟩⟩
    · refine .inr ⟨Got H a.C_Late [("row",.int M.row),("loan",.int n)],?_,fun C dy H' ea g he=>?_⟩
      · exact ⟨dx,_,hro,rfl,_,_,_,M,R,.inr ⟨hno,bears_got⟩⟩
      · obtain ⟨rfl,d,rfl,sm,ge,gd⟩:=g.at he
        exact ⟨T.em_Late_Late,q _ sm⟩
theorem ok_l_answer (T:Txt K mg a):FnOk P w K mg base CX0 5 a.f_l_answer a.d_l_answer ["_law_lending", "_law_state", "_law_loan", "_law_back"] (sp_answer39 a.C_Lending a.C_Row):=by
  refine T.F_l_answer.ok sc_l_answer (fun vs H Q E h=>?_) (fun cdv A0 outer s0 H vs Q E hr h=>?_)
  · obtain ⟨A,N,g,n,bk,rfl,_⟩:=h
    rfl
  · obtain ⟨A,N,g,n,bk,rfl,W,hsp,hla,q⟩:=h
    refine ⟨_,(pss_cons (ps_set (i:=4) sc_l_answer.nd rfl (Or.inl rfl) (pe_call (ok_l_found T) (hr.mono (by decide)) rfl T.m_l_found T.F_l_found.kp T.b_l_found .nil pass0 (pa_cons (pv 0) (pa_cons (pv 2) (pa_cons (pe_ix (ix_anyK (K:=K) (hU1 hr)) (pv 1) pe_str (fun _ _=>rfl)) pa_nil)))))
      (pss_cons (ps_set (i:=5) sc_l_answer.nd rfl (Or.inl rfl) pe_non)
      (pss_cons (ps_if (pt_chain op_leK op_leK pe_int (pv 2) (pe_callB (call_lenK (K:=K)) (by rfl) T.n_len boot_len (pa_cons (pe_ix (ix_anyK (K:=K) (hU1 hr)) (pv 1) pe_str (fun _ _=>rfl)) pa_nil))) (pss_cons (ps_set (i:=5) sc_l_answer.nd rfl (Or.inl rfl) (pe_ix (ix_anyK (K:=K) (hU1 hr)) (pe_ix (ix_anyK (K:=K) (hU1 hr)) (pv 1) pe_str (fun _ _=>rfl)) (pe_op op_sub (pv 2) pe_int) (fun _ _=>rfl)))
      (pss_one (ps_if (PW.pt (pw_or (pt_not (pt_truthK (K:=K) (pe_call (ok_l_runs T) (hr.mono (by decide)) rfl T.m_l_runs T.F_l_runs.kp T.b_l_runs .nil pass0 (pa_cons (pv 1) (pa_cons (pv 5) pa_nil))) (by intro _;rfl))) (pw_or1 (pt_cmpR (op_neK (K:=K) (hU hr)) (pe_ix (ix_anyK (K:=K) (hU1 hr)) (pe_ix (ix_anyK (K:=K) (hU1 hr)) (pe_ix (ix_anyK (K:=K) (hU1 hr)) (pv 1) pe_str (fun _ _=>rfl)) (pv 5) (fun _ _=>rfl)) pe_int (fun _ _=>rfl)) (pv 2) (nomark _))))) (pss_one (ps_set (i:=5) sc_l_answer.nd rfl (Or.inl rfl) pe_non)) pss_nil))) pss_nil)
      (pss_cons (ps_if (pt_cmp (pc_isN (pv 5))) (pss_one (ps_ret (pe_cmp (pc_isN (pv 4))))) pss_nil)
      (pss_cons (ps_if (pt_not (pt_truthK (K:=K) (pe_call (ok_l_whole T) (hr.mono (by decide)) rfl T.m_l_whole T.F_l_whole.kp T.b_l_whole .nil pass0 (pa_cons (pv 4) (pa_cons (pv 5) pa_nil))) (by intro _;rfl))) (pss_one (ps_ret pe_bl)) pss_nil)
      (pss_cons (ps_if (pt_truthK (K:=K) (pv 3) (by intro _;rfl)) (pss_one (ps_expr (pe_meth (pv 0) T.cl_Lending T.M_Lending_give_back (ok_Lending_give_back T) (hr.mono (by decide)) T.b_Lending_give_back .nil pass0 (pa_cons (pv 4) pa_nil)))) (pss_cons (ps_expr (pe_meth (pv 0) T.cl_Lending T.M_Lending_settle (ok_Lending_settle T) (hr.mono (by decide)) T.b_Lending_settle .nil pass0 (pa_cons (pv 4) pa_nil)))
      (pss_one (ps_asg pe_str (pg_sub (pe_ix (ix_anyK (K:=K) (hU1 hr)) (pv 1) pe_str (fun _ _=>rfl)) (pv 4) (set_any (hU1 hr)))))))
      (pss_cons (ps_expr (pe_dpop1 (pe_ix (ix_anyK (K:=K) (hU1 hr)) (pv 1) pe_str (fun _ _=>rfl)) (pv 4) ⟨rfl,rfl,rfl,rfl⟩))
      (pss_one (ps_ret (pe_cmp (pc_isN (pe_call (ok_l_found T) (hr.mono (by decide)) rfl T.m_l_found T.F_l_found.kp T.b_l_found .nil pass0 (pa_cons (pv 0) (pa_cons (pv 2) (pa_cons (pe_ix (ix_anyK (K:=K) (hU1 hr)) (pv 1) pe_str (fun _ _=>rfl)) pa_nil))))))))))))))),?_⟩
    have hs:H A.sd=some (.dK (stK N.st g.fr g.tu A.lo A.fa A.tr A.fi A.sp)):=W.p.sd
    obtain ⟨dx,hro⟩:=W.p.la.obj
    obtain ⟨z1,z2,z3⟩:=W.szb hsp hla
    by_cases ex:∃ p x,g.M.L p=some x∧x.1=n∧1≤n∧g.tu < x.2.2
    · obtain ⟨p,x,e1,e2,e3,e4⟩:=ex
      have uq:∀ q y,g.M.L q=some y→y.1=n→q=p:=fun q y h1 h2=>by
        rcases W.i.pl q y h1 with z | ⟨j,z1,z2⟩
        · omega
        · rcases W.i.pl p x e1 with w | ⟨j',w1,w2⟩
          · omega
          · have:j=j':=by omega
            subst this
            rw [z2] at w2
            cases w2
            rfl
      obtain ⟨j,ej,esp⟩:∃ j:Nat,n=j+1∧g.sp[j]?=some p:=by
        rcases W.i.pl p x e1 with z | ⟨j,z1,z2⟩
        · omega
        · exact ⟨j,by omega,z2⟩
      have hj:=(List.getElem?_eq_some_iff.mp esp).1
      refine cut3 fun Rz hRz=>?_
      walk_at "rd"
      refine st_turn hs ⟨_,_,_,g.M,g.tu,rfl,W.p.la,.inl ⟨p,x,e1,e2,e3,e4,uq,fun H1 sm=>?_⟩⟩
      have W1:=W.same sm
      have hs1:=sm _ _ hs
      have sp1:H1 A.sp=some (.lst (g.sp.map V.int)):=W1.p.sp
      obtain ⟨kl,el,hkl,vl⟩:=id W1.p.lo
      have vl:∀ q:Int,LoanO H1 (g.M.L q) (valV kl (.inl q)):=vl
      have vp:=vl p
      rw [e1] at vp
      obtain ⟨tp,etp,htp⟩:=vp
      have gl:=DGet.k (k:=.inl p) el
      rw [etp] at gl
      rw [if_pos e3]
      refine st_spots hs1 (rLen_l (.inl (.inl sp1)) ?_)
      rw [rLe_ii,List.length_map,decide_eq_true (by omega)]
      refine ⟨_,rfl,?_⟩
      rw [if_pos rfl]
      refine st_spots hs1 (rIxA_l (v:=.int p) (.inl (.inl sp1)) (atI_get? (by omega) (by rw [show (n - 1).toNat=j by omega,List.getElem?_map,esp];rfl)) ⟨_,_,_,_,_,_,_,_,p,rfl,hs1,g.M.L,kl,.inl el,vl,?_⟩)
      rw [if_neg (by unfold lentL;rw [e1];simp;exact e4)]
      refine st_loans hs1 (rIxA_d gl (rIxA_t (v:=.int x.1) (.inl (.inl htp)) rfl ?_))
      rw [rNeq_ii,e2]
      refine ⟨_,rfl,?_⟩
      rw [if_neg (by simp),hRz]
      clear hRz
      obtain ⟨dx1,hro1⟩:=W1.p.la.obj
      have hF:g.M.F p=none:=W.i.LF p x e1
      have hT:1≤g.M.T p:=W.i.LT p x e1
      refine cut2 fun Rz hRz=>?_
      walk_at "rd"
      rw [hRz]
      clear hRz
      refine cut2 fun Rz hRz=>?_
      have fin:∀ (g':G39) (H3:Hp),(∀ q,g'.M.L q=if q=p then none else g.M.L q)→g'.tu=g.tu→Ans39 g n bk g'→Chg A.all H H3→W39 a.C_Lending a.C_Row H3 A N g'→Rz { nx:=fun x H'=>Q V.non H',rt:=Q } [some (V.ref A.r),some (V.ref A.sd),some (V.int n),some (V.bl bk),some (V.int p),some (V.int p)] H3:=fun g' H3 h2 h3 h4 h5 h6=>by
        rw [hRz]
        clear hRz
        walk_at "rd"
        refine st_turn h6.p.sd ⟨_,_,_,g'.M,g'.tu,rfl,h6.p.la,.inr ⟨fun q y hy z=>?_,fun H4 s4=>q g' H4 h4 (h5.trans (Chg.of_same s4)) (h6.same s4)⟩⟩
        rw [h2] at hy
        obtain ⟨c,hy⟩:=if_none hy
        exact c (uq q y hy z.1)
      clear hRz
      walk_at "rd"
      refine ite2 (fun hb=>?_) (fun hb=>?_)
      · refine ⟨dx1,_,hro1,rfl,_,_,_,g.M,W1.p.la,g.ks,W1.p.lk,fun H2 c2 L2 K2=>?_⟩
        have P2:=W1.p.lnd3 c2 L2 K2
        obtain ⟨kl2,el2,hkl2,vl2⟩:=P2.lo
        have vp2:LoanO H2 (g.M.L p) (valV kl2 (.inl p)):=vl2 p
        rw [e1] at vp2
        obtain ⟨t2,et2,_⟩:=vp2
        refine st_loans P2.sd ⟨_,rfl,.inl ⟨kl2,.inl el2⟩,kl2,el2,.inl p,rfl,⟨_,et2⟩,?_⟩
        have L3:=LoAt.drop (k:=p) el2 hkl2 vl2
        have c3:Chg [A.lo] H2 (upd H2 A.lo (.dK (dropK kl2 (.inl p)))):=Chg.upd (by simp) (mut_dK el2)
        generalize upd H2 A.lo (.dK (dropK kl2 (.inl p)))=H3 at L3 c3 ⊢
        obtain ⟨W3,c13⟩:=W1.back c2 L2 K2 c3 L3
        exact fin (g.back p) H3 (fun _=>rfl) rfl (.inr ⟨p,x,e1,e2,e3,e4,by rw [if_pos hb]⟩) ((Chg.of_same sm).trans c13) W3
      · refine ⟨dx1,_,hro1,rfl,_,_,_,g.M,W1.p.la,g.ks,W1.p.lk,by omega,fun H2 c2 L2 K2=>?_⟩
        have P2:=W1.p.lnd1 c2 L2 K2
        obtain ⟨kf,ef,hkf,vf⟩:=P2.fa
        have hkf:kf.map (·.1)=g.fk.map Sum.inl:=hkf
        have lf:=keys_len hkf
        refine st_fates P2.sd (rSetA_d (DPut.k (k:=.inl p) ef (Nat.lt_of_le_of_lt (show kf.length≤1000 by omega) (by decide))) ?_)
        have F3:=FtAt.put (z:=Str.ofString "answered") ef hkf vf hF
        have c3:Chg [A.fa] H2 (upd H2 A.fa (.dK (putK kf (.inl p) (.str (Str.ofString "answered"))))):=Chg.upd (by simp) (mut_dK ef)
        generalize upd H2 A.fa (.dK (putK kf (.inl p) (.str (Str.ofString "answered"))))=H3 at F3 c3 ⊢
        have P3:=P2.fas c3 F3
        obtain ⟨kl3,el3,hkl3,vl3⟩:=P3.lo
        have vp3:LoanO H3 (g.M.L p) (valV kl3 (.inl p)):=vl3 p
        rw [e1] at vp3
        obtain ⟨t3,et3,_⟩:=vp3
        refine st_loans P3.sd ⟨_,rfl,.inl ⟨kl3,.inl el3⟩,kl3,el3,.inl p,rfl,⟨_,et3⟩,?_⟩
        have L4:=LoAt.drop (k:=p) el3 hkl3 vl3
        have c4:Chg [A.lo] H3 (upd H3 A.lo (.dK (dropK kl3 (.inl p)))):=Chg.upd (by simp) (mut_dK el3)
        generalize upd H3 A.lo (.dK (dropK kl3 (.inl p)))=H4 at L4 c4 ⊢
        obtain ⟨W4,c14⟩:=W1.fate hF hT c2 L2 K2 c3 F3 c4 L4
        exact fin (g.fate p (Str.ofString "answered")) H4 (fun _=>rfl) rfl (.inr ⟨p,x,e1,e2,e3,e4,by rw [if_neg hb]⟩) ((Chg.of_same sm).trans c14) W4
    · have no:∀ q y,g.M.L q=some y→¬ (y.1=n∧1≤n∧g.tu < y.2.2):=fun q y h1 h2=>ex ⟨q,y,h1,h2⟩
      refine cut3 fun Rz hRz=>?_
      have fin:∀ H1,Same H H1→Rz { nx:=fun x H'=>Q V.non H',rt:=Q } [some (V.ref A.r),some (V.ref A.sd),some (V.int n),some (V.bl bk),some V.non,some V.non] H1:=fun H1 sm=>by
        rw [hRz]
        clear hRz
        refine cut1 fun Rz hRz=>?_
        walk_at "rd"
        exact q g H1 (.inl ⟨rfl,no⟩) (Chg.of_same sm) (W.same sm)
      clear hRz
      walk_at "rd"
      refine st_turn hs ⟨_,_,_,g.M,g.tu,rfl,W.p.la,.inr ⟨no,fun H1 sm=>?_⟩⟩
      have W1:=W.same sm
      have hs1:=sm _ _ hs
      have sp1:H1 A.sp=some (.lst (g.sp.map V.int)):=W1.p.sp
      obtain ⟨kl,el,hkl,vl⟩:=id W1.p.lo
      have vl:∀ q:Int,LoanO H1 (g.M.L q) (valV kl (.inl q)):=vl
      refine ite2 (fun e3=>?_) (fun e3=>fin H1 sm)
      refine st_spots hs1 (rLen_l (.inl (.inl sp1)) ?_)
      rw [rLe_ii,List.length_map]
      refine ⟨_,rfl,ite2 (fun e4=>?_) (fun e4=>fin H1 sm)⟩
      have e4:n≤(g.sp.length:Int):=of_decide_eq_true e4
      obtain ⟨p,esp⟩:∃ p,g.sp[(n - 1).toNat]?=some p:=⟨_,List.getElem?_eq_getElem (show (n - 1).toNat < g.sp.length by omega)⟩
      refine st_spots hs1 (rIxA_l (v:=.int p) (.inl (.inl sp1)) (atI_get? (by omega) (by rw [List.getElem?_map,esp];rfl)) ⟨_,_,_,_,_,_,_,_,p,rfl,hs1,g.M.L,kl,.inl el,vl,ite2 (fun _=>fin H1 sm) (fun e5=>?_)⟩)
      have vp:=vl p
      unfold lentL at e5
      cases e1:g.M.L p with
      | none=>rw [e1] at e5;exact absurd rfl e5
      | some x =>
        rw [e1] at e5 vp
        obtain ⟨tp,etp,htp⟩:=vp
        have gl:=DGet.k (k:=.inl p) el
        rw [etp] at gl
        refine st_loans hs1 (rIxA_d gl (rIxA_t (v:=.int x.1) (.inl (.inl htp)) rfl ?_))
        rw [rNeq_ii]
        refine ⟨_,rfl,?_⟩
        rw [if_pos (by simp;exact fun z=>no p x e1 ⟨z,e3,by simpa using e5⟩)]
        exact fin H1 sm

theorem ok_l_gone (T:Txt K mg a):FnOk P w K mg base CX0 3 a.f_l_gone a.d_l_gone ["_law_lending", "_law_state", "_law_taker"] (sp_gone39 a.C_Lending a.C_Row):=by
  refine T.F_l_gone.ok sc_l_gone (fun vs H Q E h=>?_) (fun cdv A0 outer s0 H vs Q E hr h=>?_)
  · obtain ⟨A,N,g,v,rfl,_⟩:=h
    rfl
  · obtain ⟨A,N,g,v,rfl,hv,W,hsp,hla,q⟩:=h
    refine ⟨_,(pss_cons (ps_if (pt_cmp (pc_isN (pv 2))) (pss_one (ps_expr (pe_meth0 (pv 0) T.cl_Lending T.M_Lending_call_back (ok_Lending_call_back T) (hr.mono (by decide)) T.b_Lending_call_back .nil pass0))) (pss_one (ps_expr (pe_meth (pv 0) T.cl_Lending T.M_Lending_let_go (ok_Lending_let_go T) (hr.mono (by decide)) T.b_Lending_let_go .nil pass0 (pa_cons (pv 2) pa_nil)))))
      (pss_cons (ps_for PassesOwn.never rfl (pi_anyK (K:=K) (pe_callTy (call_listO (K:=K)) rfl T.n_list boot_list (pa_cons (pe_ix (ix_anyK (K:=K) (hU1 hr)) (pv 1) pe_str (fun _ _=>rfl)) pa_nil))) (pg_name (i:=3) sc_l_gone.nd rfl (Or.inl rfl)) (pss_cons (ps_set (i:=4) sc_l_gone.nd rfl (Or.inl rfl) (pe_ix (ix_anyK (K:=K) (hU1 hr)) (pe_ix (ix_anyK (K:=K) (hU1 hr)) (pv 1) pe_str (fun _ _=>rfl)) (pv 3) (fun _ _=>rfl)))
      (pss_one (ps_if (pt_cmp (pc_isN (pv 2))) (pss_one (ps_asg (pe_tup (pa_cons pe_int (pa_cons (pe_ix (ix_anyK (K:=K) (hU1 hr)) (pv 4) pe_int (fun _ _=>rfl)) (pa_cons (pe_ix (ix_anyK (K:=K) (hU1 hr)) (pv 4) pe_int (fun _ _=>rfl)) pa_nil)))) (pg_sub (pe_ix (ix_anyK (K:=K) (hU1 hr)) (pv 1) pe_str (fun _ _=>rfl)) (pv 3) (set_any (hU1 hr))))) (pss_one (ps_if (pt_cmpR (op_eqK (K:=K) (hU hr)) (pe_ix (ix_anyK (K:=K) (hU1 hr)) (pv 4) pe_int (fun _ _=>rfl)) (pv 2) (nomark _)) (pss_one (ps_expr (pe_dpop1 (pe_ix (ix_anyK (K:=K) (hU1 hr)) (pv 1) pe_str (fun _ _=>rfl)) (pv 3) ⟨rfl,rfl,rfl,rfl⟩))) pss_nil))))))
      (pss_one (ps_ret pe_bl)))),?_⟩
    obtain ⟨dx,hro⟩:=W.p.la.obj
    obtain ⟨z1,z2,z3⟩:=W.szb hsp hla
    rcases hv with rfl | ⟨tk,rfl⟩
    · refine cut1 fun Rz hRz=>?_
      walk_at "rd"
      refine ⟨dx,_,hro,rfl,_,_,_,g.M,W.p.la,g.ks,W.p.lk,by omega,fun H1 c1 L1 K1=>?_⟩
      have P1:=W.p.lnd3 c1 L1 K1
      rw [hRz]
      clear hRz
      obtain ⟨kl,el,hkl,vl⟩:=id P1.lo
      have hkl:kl.map (·.1)=g.ks.map Sum.inl:=hkl
      have ll:=keys_len hkl
      refine cut1 fun Rz hRz=>?_
      walk_at "rd"
      refine st_loans P1.sd (rListO_d el (by omega) fun nd Lp hLp=>?_)
      have ekv:(kl.map fun kv=>kV kv.1)=g.ks.map V.int:=by
        have:(kl.map (·.1)).map kV=(g.ks.map Sum.inl).map kV:=by rw [hkl]
        rw [List.map_map,List.map_map] at this
        exact this
      rw [ekv]
      have ksn:g.ks.Nodup:=by
        have:(g.ks.map (Sum.inl:Int→Key)).Nodup:=by rw [← hkl];exact nd
        rw [List.Nodup,List.pairwise_map] at this
        exact this.imp fun h z=>h (by rw [z])
      have s2:Same H1 (upd H1 Lp (.lst (g.ks.map V.int))):=Same.upd hLp
      have a2:upd H1 Lp (.lst (g.ks.map V.int)) Lp=some (.lst (g.ks.map V.int)):=upd_same
      generalize upd H1 Lp (.lst (g.ks.map V.int))=H2 at s2 a2 ⊢
      have nLl:Lp≠A.lo:=Ne.symm (ne_of_none el hLp)
      have P2:=P1.same s2
      have mem:∀ p y,g.M.L p=some y→p∈g.ks:=(lks_mem W.p.la W.p.lk).1
      refine rAny_l (.inl (.inl a2)) (forW_list (xs:=g.ks.map V.int) (fun i σ H'=>(Chg [A.lo] H2 H'∧LoAt H' A.lo (uptoL g.M.L zrY (g.ks.take i)) g.ks)∧∃ v3 v4,σ=[some (V.ref A.r),some (V.ref A.sd),some V.non,v3,v4]) ⟨⟨Chg.refl _,by rw [List.take_zero,uptoL_nil];exact P2.lo⟩,none,none,rfl⟩ (fun i σ H' _ ⟨⟨c,_⟩,_⟩=>.inl (.inl (c.keep _ _ a2 (by simp;exact nLl)))) ?_ ?_)
      · rintro i x σ H' hx ⟨⟨c,LO⟩,v3,v4,rfl⟩
        rw [List.getElem?_map] at hx
        obtain ⟨p,hp,rfl⟩:=Option.map_eq_some_iff.mp hx
        have htk:g.ks.take (i+1)=g.ks.take i++[p]:=by rw [List.take_add_one,hp];rfl
        have hnp:p∉g.ks.take i:=fun z=>by
          have hn2:=List.Nodup.sublist (List.take_sublist (i+1) g.ks) ksn
          rw [htk,List.nodup_append] at hn2
          exact hn2.2.2 p z p (by simp) rfl
        have hpm:=List.mem_of_getElem? hp
        have P3:=P2.los c LO
        obtain ⟨k3,e3,hk3,v3'⟩:=id LO
        have l3:=keys_len hk3
        obtain ⟨y,hy⟩:∃ y,g.M.L p=some y:=Option.isSome_iff_exists.mp ((LoAt.mem P1.lo p).mp hpm)
        have vp:=v3' p
        rw [show uptoL g.M.L zrY (g.ks.take i) p=g.M.L p from if_neg hnp,hy] at vp
        obtain ⟨tt,ett,htt⟩:=vp
        have gg:=DGet.k (k:=.inl p) e3
        rw [ett] at gg
        walk_at "rd"
        refine st_loans P3.sd (rIxA_d gg ?_)
        refine rIxA_t (v:=.str (S y.2.1)) (.inl (.inl htt)) rfl (rIxA_t (v:=.int y.2.2) (.inl (.inl htt)) rfl ⟨by decide,fun U hU=>?_⟩)
        have s4:Same H' (upd H' U (.tup [V.int 0,V.str (S y.2.1),V.int y.2.2])):=Same.upd hU
        have a4:upd H' U (.tup [V.int 0,V.str (S y.2.1),V.int y.2.2]) U=some (.tup (loanV (0,y.2))):=upd_same
        generalize upd H' U (.tup [V.int 0,V.str (S y.2.1),V.int y.2.2])=H4 at s4 a4 ⊢
        have P4:=P3.same s4
        obtain ⟨k4,e4,hk4,v4'⟩:=P4.lo
        have hk4:k4.map (·.1)=g.ks.map Sum.inl:=hk4
        have l4:=keys_len hk4
        refine st_loans P4.sd (rSetA_d (DPut.k (k:=.inl p) e4 (Nat.lt_of_le_of_lt (show k4.length≤1000 by omega) (by decide))) ?_)
        have L5:=LoAt.put (k:=p) e4 hk4 v4' a4
        have c5:Chg [A.lo] H4 (upd H4 A.lo (.dK (putK k4 (.inl p) (.ref U)))):=Chg.upd (by simp) (mut_dK e4)
        generalize upd H4 A.lo (.dK (putK k4 (.inl p) (.ref U)))=H5 at L5 c5 ⊢
        refine ⟨c.trans ((Chg.of_same s4).trans c5),?_⟩
        rw [htk,uptoL_snoc hnp,hy]
        rw [addK,if_pos hpm] at L5
        exact L5
      · rintro σ H' ⟨⟨c,LO⟩,v3,v4,rfl⟩
        rw [List.length_map,List.take_length,uptoL_all mem] at LO
        show Rz { nx:=fun x H'=>Q V.non H',rt:=Q } _ _
        rw [hRz]
        clear hRz
        walk_at "rd"
        refine q { g with M:=g.M.allL zrY } H' ⟨rfl,rfl,rfl,rfl,rfl,rfl⟩ ((c1.mono (by simp [A39.all])).trans ((Chg.of_same s2).trans (c.mono (by simp [A39.all])))) ⟨P2.los c LO,W.i.allL (φ:=zrY) (ks:=g.ks) fun y y' h=>?_⟩
        cases h
        exact ⟨.inl rfl,rfl⟩
    · refine cut1 fun Rz hRz=>?_
      walk_at "rd"
      refine ⟨dx,_,hro,rfl,_,_,_,g.M,W.p.la,g.ks,W.p.lk,by omega,fun H1 c1 L1 K1=>?_⟩
      have P1:=W.p.lnd3 c1 L1 K1
      rw [hRz]
      clear hRz
      obtain ⟨kl,el,hkl,vl⟩:=id P1.lo
      have hkl:kl.map (·.1)=g.ks.map Sum.inl:=hkl
      have ll:=keys_len hkl
      refine cut1 fun Rz hRz=>?_
      walk_at "rd"
      refine st_loans P1.sd (rListO_d el (by omega) fun nd Lp hLp=>?_)
      have ekv:(kl.map fun kv=>kV kv.1)=g.ks.map V.int:=by
        have:(kl.map (·.1)).map kV=(g.ks.map Sum.inl).map kV:=by rw [hkl]
        rw [List.map_map,List.map_map] at this
        exact this
      rw [ekv]
      have ksn:g.ks.Nodup:=by
        have:(g.ks.map (Sum.inl:Int→Key)).Nodup:=by rw [← hkl];exact nd
        rw [List.Nodup,List.pairwise_map] at this
        exact this.imp fun h z=>h (by rw [z])
      have s2:Same H1 (upd H1 Lp (.lst (g.ks.map V.int))):=Same.upd hLp
      have a2:upd H1 Lp (.lst (g.ks.map V.int)) Lp=some (.lst (g.ks.map V.int)):=upd_same
      generalize upd H1 Lp (.lst (g.ks.map V.int))=H2 at s2 a2 ⊢
      have nLl:Lp≠A.lo:=Ne.symm (ne_of_none el hLp)
      have P2:=P1.same s2
      have mem:∀ p y,g.M.L p=some y→p∈g.ks:=(lks_mem W.p.la W.p.lk).1
      refine rAny_l (.inl (.inl a2)) (forW_list (xs:=g.ks.map V.int) (fun i σ H'=>(Chg [A.lo] H2 H'∧LoAt H' A.lo (uptoL g.M.L (goY tk) (g.ks.take i)) (upK g.M.L (goY tk) (g.ks.take i) g.ks))∧∃ v3 v4,σ=[some (V.ref A.r),some (V.ref A.sd),some (V.str (S tk)),v3,v4]) ⟨⟨Chg.refl _,by rw [List.take_zero,uptoL_nil,upK_nil];exact P2.lo⟩,none,none,rfl⟩ (fun i σ H' _ ⟨⟨c,_⟩,_⟩=>.inl (.inl (c.keep _ _ a2 (by simp;exact nLl)))) ?_ ?_)
      · rintro i x σ H' hx ⟨⟨c,LO⟩,v3,v4,rfl⟩
        rw [List.getElem?_map] at hx
        obtain ⟨p,hp,rfl⟩:=Option.map_eq_some_iff.mp hx
        have htk:g.ks.take (i+1)=g.ks.take i++[p]:=by rw [List.take_add_one,hp];rfl
        have hnp:p∉g.ks.take i:=fun z=>by
          have hn2:=List.Nodup.sublist (List.take_sublist (i+1) g.ks) ksn
          rw [htk,List.nodup_append] at hn2
          exact hn2.2.2 p z p (by simp) rfl
        have hpm:=List.mem_of_getElem? hp
        have P3:=P2.los c LO
        obtain ⟨k3,e3,hk3,v3'⟩:=id LO
        obtain ⟨y,hy⟩:∃ y,g.M.L p=some y:=Option.isSome_iff_exists.mp ((LoAt.mem P1.lo p).mp hpm)
        have vp:=v3' p
        rw [show uptoL g.M.L (goY tk) (g.ks.take i) p=g.M.L p from if_neg hnp,hy] at vp
        obtain ⟨tt,ett,htt⟩:=vp
        have gg:=DGet.k (k:=.inl p) e3
        rw [ett] at gg
        walk_at "rd"
        refine st_loans P3.sd (rIxA_d gg (rIxA_t (v:=.str (S y.2.1)) (.inl (.inl htt)) rfl ?_))
        rw [rEqq_ss]
        refine ⟨_,rfl,?_⟩
        by_cases ce:S y.2.1=S tk
        · rw [if_pos (decide_eq_true ce)]
          have eg:goY tk y=none:=by unfold goY;rw [if_pos ce]
          refine st_loans P3.sd ⟨_,rfl,.inl ⟨k3,.inl e3⟩,k3,e3,.inl p,rfl,⟨_,ett⟩,?_⟩
          have L4:=LoAt.drop (k:=p) e3 hk3 v3'
          have c4:Chg [A.lo] H' (upd H' A.lo (.dK (dropK k3 (.inl p)))):=Chg.upd (by simp) (mut_dK e3)
          generalize upd H' A.lo (.dK (dropK k3 (.inl p)))=H4 at L4 c4 ⊢
          refine ⟨c.trans c4,?_⟩
          rw [htk,uptoL_snoc hnp,hy,upK_drop (by rw [hy];exact eg)]
          show LoAt H4 A.lo (fun q=>if q=p then goY tk y else _) _
          rw [eg]
          exact L4
        · rw [if_neg (by rw [decide_eq_false ce];exact Bool.false_ne_true)]
          have eg:goY tk y=some y:=by unfold goY;rw [if_neg ce]
          refine ⟨c,?_⟩
          rw [htk,upK_keep (y:=y) (by rw [hy];exact eg)]
          have e:uptoL g.M.L (goY tk) (g.ks.take i++[p])=uptoL g.M.L (goY tk) (g.ks.take i):=by
            rw [uptoL_snoc hnp]
            funext q
            by_cases cq:q=p
            · rw [if_pos cq,cq,show uptoL g.M.L (goY tk) (g.ks.take i) p=g.M.L p from if_neg hnp,hy]
              exact eg
            · rw [if_neg cq]
          rw [e]
          exact LO
      · rintro σ H' ⟨⟨c,LO⟩,v3,v4,rfl⟩
        rw [List.length_map,List.take_length,uptoL_all mem] at LO
        show Rz { nx:=fun x H'=>Q V.non H',rt:=Q } _ _
        rw [hRz]
        clear hRz
        walk_at "rd"
        refine q { g with M:=g.M.allL (goY tk),ks:=upK g.M.L (goY tk) g.ks g.ks } H' ⟨rfl,rfl,rfl,rfl,rfl,rfl⟩ ((c1.mono (by simp [A39.all])).trans ((Chg.of_same s2).trans (c.mono (by simp [A39.all])))) ⟨P2.los c LO,W.i.allL (φ:=goY tk) (ks:=upK g.M.L (goY tk) g.ks g.ks) fun y y' h=>?_⟩
        unfold goY at h
        obtain ⟨_,h⟩:=if_none h
        cases h
        exact ⟨.inr rfl,rfl⟩

theorem ok_l_deed (T:Txt K mg a):FnOk P w K mg base CX0 6 a.f_l_deed a.d_l_deed ["_law_lending", "_law_row", "_law_state", "_law_cell", "_law_names_here", "_law_numbers"] (sp_deed39 a.C_Lending a.C_Row):=by
  refine T.F_l_deed.ok sc_l_deed (fun vs H Q E h=>?_) (fun cdv A0 outer s0 H vs Q E hr h=>?_)
  · obtain ⟨A,N,g,c,nl,nb,n0,n1,n2,a,b,rfl,_⟩:=h
    rfl
  · obtain ⟨A,N,g,c,nl,nb,n0,n1,n2,ca,cb,rfl,hc,W,hnl,nnl,hn,Cn,hab,q⟩:=h
    refine ⟨_,(pss_cons (ps_set (i:=6) sc_l_deed.nd rfl (Or.inl rfl) (pe_op op_mod (pv 3) pe_int))
      (pss_cons (ps_set (i:=7) sc_l_deed.nd rfl (Or.inl rfl) (pe_op op_fdiv (pv 3) pe_int))
      (pss_cons (ps_if (pt_cmpR op_ltK (pv 6) pe_int (nomark _)) (pss_one (ps_ret (pe_call (ok_l_take T) (hr.mono (by decide)) rfl T.m_l_take T.F_l_take.kp T.b_l_take .nil pass0 (pa_cons (pv 0) (pa_cons (pv 1) (pa_cons (pv 2) (pa_cons (pe_ix (ix_anyK (K:=K) (hU1 hr)) (pv 4) (pe_op op_mod (pv 7) pe_int) (fun _ _=>rfl)) (pa_cons (pv 5) pa_nil)))))))) pss_nil)
      (pss_cons (ps_if (pt_cmpR op_ltK (pv 6) pe_int (nomark _)) (pss_one (ps_ret (pe_call (ok_l_answer T) (hr.mono (by decide)) rfl T.m_l_answer T.F_l_answer.kp T.b_l_answer .nil pass0 (pa_cons (pv 0) (pa_cons (pv 2) (pa_cons (pe_op op_mod (pe_op op_fdiv (pv 7) pe_int) (pe_op (op_plusK (K:=K)) (pe_callB (call_lenK (K:=K)) (by rfl) T.n_len boot_len (pa_cons (pe_ix (ix_anyK (K:=K) (hU1 hr)) (pv 2) pe_str (fun _ _=>rfl)) pa_nil)) pe_int)) (pa_cons (pe_cmpR (op_eqK (K:=K) (hU hr)) (pe_op op_mod (pv 7) pe_int) pe_int (nomark _)) pa_nil))))))) pss_nil)
      (pss_cons (ps_if (pt_cmpR (op_eqK (K:=K) (hU hr)) (pv 6) pe_int (nomark _)) (pss_cons (ps_for PassesOwn.never rfl (pi_range1 rfl T.n_range (pa_cons (pe_op op_mod (pv 7) pe_int) pa_nil)) (pg_name (i:=8) sc_l_deed.nd rfl (Or.inl rfl)) (pss_one (ps_expr (pe_meth (pv 1) T.cl_Row T.M_Row_add (ok_Row_add T) (hr.mono (by decide)) T.b_Row_add .nil pass0 (pa_cons pe_str (pa_cons (pe_callTy (call_strK (K:=K)) rfl T.n_str boot_str (pa_cons (pv 8) pa_nil)) (pa_cons (pe_op op_mod (pe_op op_fdiv (pv 7) pe_int) pe_int) pa_nil)))))))
      (pss_one (ps_asg (pe_callB (call_maxA rfl) (by rfl) T.n_max boot_max (pa_cons (pe_ix (ix_anyK (K:=K) (hU1 hr)) (pv 2) pe_str (fun _ _=>rfl)) (pa_cons (pe_op op_sub (pe_fldK (K:=K) (pv 1) rfl) (pe_op op_mod (pe_op op_fdiv (pv 7) pe_int) pe_int)) pa_nil))) (pg_sub (pv 2) pe_str (set_any (hU1 hr)))))) pss_nil)
      (pss_cons (ps_if (pt_cmpR (op_eqK (K:=K) (hU hr)) (pv 6) pe_int (nomark _)) (pss_one (ps_asg (pe_op (op_plusK (K:=K)) (pe_ix (ix_anyK (K:=K) (hU1 hr)) (pv 2) pe_str (fun _ _=>rfl)) (pe_op op_mod (pv 7) (pe_op (op_plusK (K:=K)) (pe_ix (ix_anyK (K:=K) (hU1 hr)) (pv 5) pe_int (fun _ _=>rfl)) pe_int))) (pg_sub (pv 2) pe_str (set_any (hU1 hr))))) pss_nil)
      (pss_cons (ps_if (PW.pt (pw_and (pt_cmpR (op_eqK (K:=K) (hU hr)) (pv 6) pe_int (nomark _)) (pw_and1 (pt_cmpR (op_eqK (K:=K) (hU hr)) (pe_op op_mod (pv 7) pe_int) pe_int (nomark _))))) (pss_one (ps_ret (pe_call (ok_l_gone T) (hr.mono (by decide)) rfl T.m_l_gone T.F_l_gone.kp T.b_l_gone .nil pass0 (pa_cons (pv 0) (pa_cons (pv 2) (pa_cons (pe_ix (ix_anyK (K:=K) (hU1 hr)) (pe_lst (pa_cons pe_non (pa_cons (pe_ix (ix_anyK (K:=K) (hU1 hr)) (pv 4) pe_int (fun _ _=>rfl)) (pa_cons (pe_ix (ix_anyK (K:=K) (hU1 hr)) (pv 4) pe_int (fun _ _=>rfl)) (pa_cons (pe_ix (ix_anyK (K:=K) (hU1 hr)) (pv 4) pe_int (fun _ _=>rfl)) pa_nil))))) (pe_op op_mod (pe_op op_fdiv (pv 7) pe_int) pe_int) (fun _ _=>rfl)) pa_nil)))))) pss_nil)
      (pss_one (ps_ret pe_bl))))))))),?_⟩
    have hs:H A.sd=some (.dK (stK N.st g.fr g.tu A.lo A.fa A.tr A.fi A.sp)):=W.p.sd
    have hsp:g.sp.length≤400:=by have:=Cn.s;omega
    have hla:g.R.last≤160:=by have:=Cn.r;omega
    refine cut3 fun Rz hRz=>?_
    walk_at "rd"
    have m0:0≤c / 9:=Int.ediv_nonneg hc (by decide)
    have w0:=Int.emod_nonneg c (show (9:Int)≠0 by decide)
    have w1:=Int.emod_lt_of_pos c (show (0:Int) < 9 by decide)
    generalize c / 9=mo at m0 ⊢
    generalize c % 9=wy at w0 w1 ⊢
    refine ite2 (fun w3=>?_) (fun w3=>?_)
    · obtain ⟨tk,htk⟩:∃ tk,atI [V.str (S n0),V.str (S n1),V.str (S n2)] (mo % 3)=some (V.str (S tk)):=by
        have h3:mo % 3=0∨mo % 3=1∨mo % 3=2:=by omega
        rcases h3 with h | h | h<;>rw [h]
        · exact ⟨n0,rfl⟩
        · exact ⟨n1,rfl⟩
        · exact ⟨n2,rfl⟩
      refine rIxA_l (.inl (.inl hnl)) htk ⟨A,rfl,rfl,rfl,N,g,tk,rfl,W,hn,hsp,hla,fun as o H1 D c1 W1=>?_⟩
      have t:=take_tk g as o tk
      exact q _ ca (cb+1) H1 ⟨by rw [t.R];exact Cn.r,by have:=t.k;have:=Cn.k;omega,by have:=t.sp;have:=Cn.s;omega⟩ (by omega) c1 W1
    rw [hRz]
    clear hRz
    refine cut1 fun Rz hRz=>?_
    walk_at "rd"
    refine ite2 (fun w6=>?_) (fun w6=>?_)
    · have sp1:H A.sp=some (.lst (g.sp.map V.int)):=W.p.sp
      refine st_spots hs (rLen_l (.inl (.inl sp1)) ?_)
      rw [rPlus_ii,List.length_map]
      refine ⟨_,rfl,by omega,A,rfl,rfl,N,g,W,hsp,hla,fun g' H1 hA c1 W1=>?_⟩
      obtain ⟨t1,t2,t3,t4,t5⟩:=ans_gn hA
      exact q g' ca cb H1 ⟨by rw [t1];exact Cn.r,by rw [t4];exact Cn.k,by rw [t5];exact Cn.s⟩ (by omega) c1 W1
    rw [hRz]
    clear hRz
    refine cut1 fun Rz hRz=>?_
    by_cases h6:wy=6
    · subst h6
      have fin:∀ H1 v8,Q (.bl true) H1→Rz { nx:=fun x H'=>Q V.non H',rt:=Q } [some (V.ref A.r),some (V.ref A.rw),some (V.ref A.sd),some (V.int c),some (V.ref nl),some (V.ref nb),some (V.int 6),some (V.int mo),v8] H1:=fun H1 v8 h=>by
        rw [hRz]
        clear hRz
        walk_at "rd"
        exact h
      clear hRz
      walk_at "rd"
      have m4:0≤mo % 4∧mo % 4 < 4:=by omega
      have m3:0≤mo / 4 % 3∧mo / 4 % 3 < 3:=by omega
      refine ⟨by omega,by omega,forW_range (n:=(mo % 4).toNat) (fun i σ H'=>(∃ R:RowM,R.last=g.R.last+i∧W39 a.C_Lending a.C_Row H' A N { g with R:=R }∧Chg A.all H H')∧∃ v8,σ=[some (V.ref A.r),some (V.ref A.rw),some (V.ref A.sd),some (V.int c),some (V.ref nl),some (V.ref nb),some (V.int 6),some (V.int mo),v8]) ⟨⟨g.R,by simp,W,Chg.refl _⟩,none,rfl⟩ ?_ ?_⟩
      · rintro i σ H' hi ⟨⟨R,hR,W',c'⟩,v8,rfl⟩
        have lg:(0+(i:Int)).natAbs.log2 < 1920:=log_small (by omega) (by omega)
        obtain ⟨dx,hro⟩:=W'.p.ra.obj
        walk_at "rd"
        refine ⟨dx,_,hro,rfl,lg,A.rd,R,([107,101,121],some (strI (0+(i:Int))),mo / 12 % 3),by rw [show Str.ofString "key" = S [107,101,121] from by decide +kernel],rfl,rfl,W'.p.ra,by omega,fun H2 c2 R2=>?_⟩
        exact ⟨R.add _,by show R.last+1=_;rw [hR];omega,⟨W'.p.row c2 R2,W'.i.add⟩,c'.trans (c2.mono (by simp [A39.all]))⟩
      · rintro σ H' ⟨⟨R,hR,W',c'⟩,v8,rfl⟩
        obtain ⟨dx,hro⟩:=W'.p.ra.obj
        have f1:g.fr≤R.last:=W'.i.f1
        walk_at "rd"
        have hs':H' A.sd=some (.dK (stK N.st g.fr g.tu A.lo A.fa A.tr A.fi A.sp)):=W'.p.sd
        refine st_front hs' ⟨_,dx,_,hro,T.cl_Row,T.no_Row_end,_,rfl,R.last,rfl,_,rfl,st_setF hs' ?_⟩
        generalize hx:max g.fr (R.last - mo / 4 % 3)=x
        have c1:Chg [A.sd] H' (upd H' A.sd (.dK (stK N.st x g.tu A.lo A.fa A.tr A.fi A.sp))):=Chg.upd (by simp) (mut_dK hs')
        have e1:upd H' A.sd (.dK (stK N.st x g.tu A.lo A.fa A.tr A.fi A.sp)) A.sd=some (.dK (stK N.st x g.tu A.lo A.fa A.tr A.fi A.sp)):=upd_same
        generalize upd H' A.sd (.dK (stK N.st x g.tu A.lo A.fa A.tr A.fi A.sp))=H1 at c1 e1 ⊢
        refine fin H1 v8 (q { g with R:=R,fr:=x } (ca+1) cb H1 ⟨?_,Cn.k,Cn.s⟩ (by omega) (c'.trans (c1.mono (by simp [A39.all]))) ⟨W'.p.std c1 e1,W'.i.front (show g.fr≤x by omega) (show x≤R.last by omega)⟩)
        show R.last≤3 * ((ca+1:Nat):Int)
        have:=Cn.r
        omega
    · have nx:Rz { nx:=fun x H'=>Q V.non H',rt:=Q } [some (V.ref A.r),some (V.ref A.rw),some (V.ref A.sd),some (V.int c),some (V.ref nl),some (V.ref nb),some (V.int wy),some (V.int mo),none] H:=by
        rw [hRz]
        clear hRz
        refine cut1 fun Rz hRz=>?_
        by_cases h7:wy=7
        · subst h7
          have fin:∀ H1,Q (.bl true) H1→Rz { nx:=fun x H'=>Q V.non H',rt:=Q } [some (V.ref A.r),some (V.ref A.rw),some (V.ref A.sd),some (V.int c),some (V.ref nl),some (V.ref nb),some (V.int 7),some (V.int mo),none] H1:=fun H1 h=>by
            rw [hRz]
            clear hRz
            walk_at "rd"
            exact h
          clear hRz
          have u1:=W.i.u1
          walk_at "rd"
          refine st_turn hs (rIxA_t (v:=.int N.tn) (.inl (.inl hn)) rfl ?_)
          rw [rPlus_ii]
          refine ⟨_,rfl,by omega,?_⟩
          rw [rPlus_ii]
          refine st_setT hs ?_
          have c1:Chg [A.sd] H (upd H A.sd (.dK (stK N.st g.fr (g.tu+mo % (N.tn+3)) A.lo A.fa A.tr A.fi A.sp))):=Chg.upd (by simp) (mut_dK hs)
          have e1:upd H A.sd (.dK (stK N.st g.fr (g.tu+mo % (N.tn+3)) A.lo A.fa A.tr A.fi A.sp)) A.sd=some (.dK (stK N.st g.fr (g.tu+mo % (N.tn+3)) A.lo A.fa A.tr A.fi A.sp)):=upd_same
          generalize upd H A.sd (.dK (stK N.st g.fr (g.tu+mo % (N.tn+3)) A.lo A.fa A.tr A.fi A.sp))=H1 at c1 e1 ⊢
          have tn0:=Int.emod_nonneg mo (show N.tn+3≠0 by omega)
          exact fin H1 (q { g with tu:=g.tu+mo % (N.tn+3) } ca cb H1 ⟨Cn.r,Cn.k,Cn.s⟩ (by omega) (c1.mono (by simp [A39.all])) ⟨W.p.std c1 e1,W.i.turn (by omega)⟩)
        · have h8:wy=8:=by omega
          subst h8
          walk_at "rd"
          rw [if_neg (by decide),hRz]
          clear hRz
          walk_at "rd"
          refine ite2 (fun _=>?_) (fun _=>q g ca cb H Cn (by omega) (Chg.refl _) W)
          refine rIxA_l (v:=.str (S n0)) (.inl (.inl hnl)) rfl (rIxA_l (v:=.str (S n1)) (.inl (.inl hnl)) rfl (rIxA_l (v:=.str (S n2)) (.inl (.inl hnl)) rfl ⟨by decide,fun Z hZ=>?_⟩))
          have sZ:Same H (upd H Z (.lst [V.non,V.str (S n0),V.str (S n1),V.str (S n2)])):=Same.upd hZ
          have aZ:upd H Z (.lst [V.non,V.str (S n0),V.str (S n1),V.str (S n2)]) Z=some (.lst [V.non,V.str (S n0),V.str (S n1),V.str (S n2)]):=upd_same
          generalize upd H Z (.lst [V.non,V.str (S n0),V.str (S n1),V.str (S n2)])=H1 at sZ aZ ⊢
          obtain ⟨v,hv,hv2⟩:∃ v,atI [V.non,V.str (S n0),V.str (S n1),V.str (S n2)] (mo / 3 % 4)=some v∧(v=.non∨∃ tk:List Nat,v=.str (S tk)):=by
            have h4:mo / 3 % 4=0∨mo / 3 % 4=1∨mo / 3 % 4=2∨mo / 3 % 4=3:=by omega
            rcases h4 with h | h | h | h<;>rw [h]
            · exact ⟨_,rfl,.inl rfl⟩
            · exact ⟨_,rfl,.inr ⟨n0,rfl⟩⟩
            · exact ⟨_,rfl,.inr ⟨n1,rfl⟩⟩
            · exact ⟨_,rfl,.inr ⟨n2,rfl⟩⟩
          refine rIxA_l (.inl (.inl aZ)) hv ⟨A,rfl,rfl,hv2,N,g,W.same sZ,hsp,hla,fun g' H2 G c2 W2=>?_⟩
          exact q g' ca cb H2 ⟨by rw [G.R];exact Cn.r,by rw [G.k];exact Cn.k,by rw [G.sp];exact Cn.s⟩ (by omega) ((Chg.of_same sZ).trans c2) W2
      clear hRz
      walk_at "rd"
      rw [if_neg h6]
      exact nx

theorem ok_l_end (T:Txt K mg a):FnOk P w K mg base CX0 6 a.f_l_end a.d_l_end ["_law_lending", "_law_row", "_law_state", "_law_taker", "_law_numbers"] (sp_end39 a.C_Lending a.C_Row):=by
  refine T.F_l_end.ok sc_l_end (fun vs H Q E h=>?_) (fun cdv A0 outer s0 H vs Q E hr h=>?_)
  · obtain ⟨A,N,g,tk,nb,a,b,rfl,_⟩:=h
    rfl
  · obtain ⟨A,N,g,tk,nb,ca,cb,rfl,W,hn,Cn,hab,q⟩:=h
    refine ⟨_,(pss_cons (ps_asg (pe_fldK (K:=K) (pv 1) rfl) (pg_sub (pv 2) pe_str (set_any (hU1 hr))))
      (pss_cons (ps_asg (pe_op (op_plusK (K:=K)) (pe_ix (ix_anyK (K:=K) (hU1 hr)) (pv 2) pe_str (fun _ _=>rfl)) (pe_ix (ix_anyK (K:=K) (hU1 hr)) (pv 4) pe_int (fun _ _=>rfl))) (pg_sub (pv 2) pe_str (set_any (hU1 hr))))
      (pss_cons (ps_for PassesOwn.never rfl (pi_range1 rfl T.n_range (pa_cons (pe_op (op_plusK (K:=K)) (pe_fldK (K:=K) (pv 1) rfl) pe_int) pa_nil)) (pg_name (i:=5) sc_l_end.nd rfl (Or.inl rfl)) (pss_cons (ps_if (pt_not (pt_truthK (K:=K) (pe_call (ok_l_take T) (hr.mono (by decide)) rfl T.m_l_take T.F_l_take.kp T.b_l_take .nil pass0 (pa_cons (pv 0) (pa_cons (pv 1) (pa_cons (pv 2) (pa_cons (pv 3) (pa_cons (pv 4) pa_nil)))))) (by intro _;rfl))) (pss_one (ps_ret pe_bl)) pss_nil)
      (pss_one (ps_if (pt_not (pt_truthK (K:=K) (pe_call (ok_l_answer T) (hr.mono (by decide)) rfl T.m_l_answer T.F_l_answer.kp T.b_l_answer .nil pass0 (pa_cons (pv 0) (pa_cons (pv 2) (pa_cons (pe_callB (call_lenK (K:=K)) (by rfl) T.n_len boot_len (pa_cons (pe_ix (ix_anyK (K:=K) (hU1 hr)) (pv 2) pe_str (fun _ _=>rfl)) pa_nil)) (pa_cons pe_bl pa_nil))))) (by intro _;rfl))) (pss_one (ps_ret pe_bl)) pss_nil))))
      (pss_one (ps_ret pe_bl))))),?_⟩
    have hs:H A.sd=some (.dK (stK N.st g.fr g.tu A.lo A.fa A.tr A.fi A.sp)):=W.p.sd
    have hla:g.R.last≤150:=by have:=Cn.r;omega
    have f0:=W.i.f0
    have f1:=W.i.f1
    have u1:=W.i.u1
    obtain ⟨dx,hro⟩:=W.p.ra.obj
    refine cut2 fun Rz hRz=>?_
    walk_at "rd"
    refine ⟨_,dx,_,hro,T.cl_Row,T.no_Row_end,_,rfl,st_setF hs ?_⟩
    have c1:Chg [A.sd] H (upd H A.sd (.dK (stK N.st g.R.last g.tu A.lo A.fa A.tr A.fi A.sp))):=Chg.upd (by simp) (mut_dK hs)
    have e1:upd H A.sd (.dK (stK N.st g.R.last g.tu A.lo A.fa A.tr A.fi A.sp)) A.sd=some (.dK (stK N.st g.R.last g.tu A.lo A.fa A.tr A.fi A.sp)):=upd_same
    show rIxA K _ _ (upd H A.sd (.dK (stK N.st g.R.last g.tu A.lo A.fa A.tr A.fi A.sp))) _
    generalize upd H A.sd (.dK (stK N.st g.R.last g.tu A.lo A.fa A.tr A.fi A.sp))=H1 at c1 e1 ⊢
    refine st_turn e1 (rIxA_t (v:=.int N.tn) (.inl (.inl (c1.tup _ _ hn))) rfl ?_)
    rw [rPlus_ii]
    refine st_setT e1 ?_
    have c2:Chg [A.sd] H1 (upd H1 A.sd (.dK (stK N.st g.R.last (g.tu+N.tn) A.lo A.fa A.tr A.fi A.sp))):=Chg.upd (by simp) (mut_dK e1)
    have e2:upd H1 A.sd (.dK (stK N.st g.R.last (g.tu+N.tn) A.lo A.fa A.tr A.fi A.sp)) A.sd=some (.dK (stK N.st g.R.last (g.tu+N.tn) A.lo A.fa A.tr A.fi A.sp)):=upd_same
    generalize upd H1 A.sd (.dK (stK N.st g.R.last (g.tu+N.tn) A.lo A.fa A.tr A.fi A.sp))=H2 at c2 e2 ⊢
    have c02:=c1.trans c2
    have W2:W39 a.C_Lending a.C_Row H2 A N { g with fr:=g.R.last,tu:=g.tu+N.tn }:=⟨W.p.std c02 e2,(W.i.front (x:=g.R.last) f1 (Int.le_refl _)).turn (show g.tu≤g.tu+N.tn by omega)⟩
    have E0:E39 N { g with fr:=g.R.last,tu:=g.tu+N.tn } g.fk [] N.st 0:=⟨by simp,List.Pairwise.nil,fun p hp=>(by cases hp),fun p h h1=>by omega,W.i.ub,.inl (by omega),rfl⟩
    have hk0:∀ p∈g.fk,N.st≤p∧p < N.st+(g.k:Int):=fun p hp=>by
      obtain ⟨z,hz⟩:=Option.isSome_iff_exists.mp ((W.i.fm p).mp hp)
      exact (W.i.Tk p).mp (W.i.FT p z hz)
    have Rg:({ g with fr:=g.R.last,tu:=g.tu+N.tn }:G39).R=g.R:=rfl
    have sp0:({ g with fr:=g.R.last,tu:=g.tu+N.tn }:G39).sp.length≤50:=by have:=Cn.s;show g.sp.length≤50;omega
    generalize ({ g with fr:=g.R.last,tu:=g.tu+N.tn }:G39)=g2 at W2 E0 Rg sp0
    have c02:Chg A.all H H2:=c02.mono (by simp [A39.all])
    have hn2:=c02.tup _ _ hn
    rw [hRz]
    clear hRz
    obtain ⟨dx2,hro2⟩:=W2.p.ra.obj
    walk_at "rd"
    have R0:=W2.i.f0
    have R1:=W2.i.f1
    have hl2:g2.R.last=g.R.last:=by rw [Rg]
    refine ⟨_,dx2,_,hro2,T.cl_Row,T.no_Row_end,_,rfl,?_⟩
    show rPlus K (V.int g2.R.last) (V.int 1) H2 _
    rw [rPlus_ii]
    refine ⟨_,rfl,by omega,by omega,forW_range (n:=(g2.R.last+1).toNat) (fun i σ H'=>(∃ g' gl qq,W39 a.C_Lending a.C_Row H' A N g'∧E39 N g' g.fk gl qq i∧g'.R=g.R∧g'.sp.length≤50+i∧Chg A.all H H')∧∃ v5,σ=[some (V.ref A.r),some (V.ref A.rw),some (V.ref A.sd),some (V.str (S tk)),some (V.ref nb),v5]) ⟨⟨g2,[],N.st,W2,E0,Rg,sp0,c02⟩,none,rfl⟩ ?_ ?_⟩
    · rintro i σ H' hi ⟨⟨g',gl,qq,W',E',R',s',c'⟩,v5,rfl⟩
      walk_at "rd"
      refine ⟨A,rfl,rfl,rfl,N,g',W',c'.tup _ _ hn,by omega,by rw [R'];omega,fun as o H3 D c3 W3=>?_⟩
      have t:=take_tk g' as o tk
      have sp3:H3 A.sp=some (.lst ((g'.take as o tk).sp.map V.int)):=W3.p.sp
      have ts:=t.sp
      refine st_spots W3.p.sd (rLen_l (.inl (.inl sp3)) ?_)
      rw [List.length_map]
      refine ⟨A,rfl,rfl,N,g'.take as o tk,_,rfl,W3,by omega,by rw [t.R,R'];omega,fun g4 H4 hA c4 W4=>?_⟩
      obtain ⟨gl',q',E4⟩:=E'.round W'.i D hA
      obtain ⟨t1,t2,t3,t4,t5⟩:=ans_gn hA
      exact ⟨g4,W4,⟨gl',q',E4⟩,by rw [t1,t.R,R'],by rw [t5];omega,c'.trans (c3.trans c4)⟩
    · rintro σ H' ⟨⟨g',gl,qq,W',E',R',s',c'⟩,v5,rfl⟩
      walk_at "rd"
      exact q g' H' (E'.fin (k0:=g.k) W'.i (by rw [R'];omega) (by rw [R'];omega) hk0 (fun z=>by rw [R'] at z;have:=Cn.r;have:=Cn.k;omega)) c' W'

theorem ok_law (T:Txt K mg a):FnOk P w K mg base CX0 7 a.f_law a.d_law ["_law_script"] (sp_law K):=by
  refine T.F_law.ok sc_law (fun vs H Q E h=>?_) (fun cdv A0 outer s0 H vs Q E hr h=>?_)
  · obtain ⟨p,ns,rfl,_⟩:=h
    rfl
  · obtain ⟨p,ns,rfl,hS,hlen,q⟩:=h
    refine ⟨_,(pss_cons (ps_set (i:=1) sc_law.nd rfl (Or.inl rfl) (pe_call (ok_l_names T) (hr.mono (by decide)) rfl T.m_l_names T.F_l_names.kp T.b_l_names .nil pass0 (pa_cons (pe_call (ok_l_cell_at T) (hr.mono (by decide)) rfl T.m_l_cell_at T.F_l_cell_at.kp T.b_l_cell_at .nil pass0 (pa_cons (pv 0) (pa_cons pe_int pa_nil))) (pa_cons (pe_call (ok_l_cell_at T) (hr.mono (by decide)) rfl T.m_l_cell_at T.F_l_cell_at.kp T.b_l_cell_at .nil pass0 (pa_cons (pv 0) (pa_cons pe_int pa_nil))) (pa_cons pe_int pa_nil)))))
      (pss_cons (ps_set (i:=2) sc_law.nd rfl (Or.inl rfl) (pe_tup (pa_cons (pe_op (op_plusK (K:=K)) pe_int (pe_op op_mod (pe_call (ok_l_cell_at T) (hr.mono (by decide)) rfl T.m_l_cell_at T.F_l_cell_at.kp T.b_l_cell_at .nil pass0 (pa_cons (pv 0) (pa_cons pe_int pa_nil))) pe_int)) (pa_cons (pe_op (op_plusK (K:=K)) pe_int (pe_op op_mod (pe_op op_fdiv (pe_call (ok_l_cell_at T) (hr.mono (by decide)) rfl T.m_l_cell_at T.F_l_cell_at.kp T.b_l_cell_at .nil pass0 (pa_cons (pv 0) (pa_cons pe_int pa_nil))) pe_int) pe_int)) (pa_cons (pe_op (op_plusK (K:=K)) pe_int (pe_op op_mod (pe_call (ok_l_cell_at T) (hr.mono (by decide)) rfl T.m_l_cell_at T.F_l_cell_at.kp T.b_l_cell_at .nil pass0 (pa_cons (pv 0) (pa_cons pe_int pa_nil))) pe_int)) pa_nil)))))
      (pss_cons (ps_set (i:=3) sc_law.nd rfl (Or.inl rfl) (pe_op op_mod (pe_op op_fdiv (pe_call (ok_l_cell_at T) (hr.mono (by decide)) rfl T.m_l_cell_at T.F_l_cell_at.kp T.b_l_cell_at .nil pass0 (pa_cons (pv 0) (pa_cons pe_int pa_nil))) pe_int) pe_int))
      (pss_cons (ps_set (i:=4) sc_law.nd rfl (Or.inl rfl) (pe_make0 T.k_Row (ok_Row___init__ T) (hr.mono (by decide)) rfl T.mg_Row T.b_Row___init__ .nil pass0))
      (pss_cons (ps_set (i:=5) sc_law.nd rfl (Or.inl rfl) (pe_make T.k_Lending (ok_Lending___init__ T) (hr.mono (by decide)) rfl T.mg_Lending T.b_Lending___init__ .nil pass0 (pa_cons (pe_op op_mod (pe_op op_fdiv (pe_call (ok_l_cell_at T) (hr.mono (by decide)) rfl T.m_l_cell_at T.F_l_cell_at.kp T.b_l_cell_at .nil pass0 (pa_cons (pv 0) (pa_cons pe_int pa_nil))) pe_int) pe_int) (pa_cons (pv 3) (pa_cons (pe_ix (ix_anyK (K:=K) (hU1 hr)) (pv 2) pe_int (fun _ _=>rfl)) (pa_cons (pe_ix (ix_anyK (K:=K) (hU1 hr)) (pv 2) pe_int (fun _ _=>rfl)) (pa_cons (pe_ix (ix_anyK (K:=K) (hU1 hr)) (pv 2) pe_int (fun _ _=>rfl)) pa_nil)))))))
      (pss_cons (ps_if (pt_cmpR (op_eqK (K:=K) (hU hr)) (pe_ix (ix_anyK (K:=K) (hU1 hr)) (pv 2) pe_int (fun _ _=>rfl)) pe_int (nomark _)) (pss_one (ps_set (i:=5) sc_law.nd rfl (Or.inl rfl) (pe_make T.k_Lending (ok_Lending___init__ T) (hr.mono (by decide)) rfl T.mg_Lending T.b1_Lending___init__ T.v1_Lending___init__ pass0 (pa_cons (pe_op op_mod (pe_op op_fdiv (pe_call (ok_l_cell_at T) (hr.mono (by decide)) rfl T.m_l_cell_at T.F_l_cell_at.kp T.b_l_cell_at .nil pass0 (pa_cons (pv 0) (pa_cons pe_int pa_nil))) pe_int) pe_int) (pa_cons (pv 3) (pa_cons (pe_ix (ix_anyK (K:=K) (hU1 hr)) (pv 2) pe_int (fun _ _=>rfl)) (pa_cons (pe_ix (ix_anyK (K:=K) (hU1 hr)) (pv 2) pe_int (fun _ _=>rfl)) pa_nil))))))) pss_nil)
      (pss_cons (ps_set (i:=6) sc_law.nd rfl (Or.inl rfl) (pe_disp (pps_cons pe_str (pv 3) (pps_cons pe_str pe_int (pps_cons pe_str pe_int (pps_cons pe_str pe_dnewK (pps_cons pe_str pe_dnewK (pps_cons pe_str pe_dnewK (pps_cons pe_str (pe_lst pa_nil) (pps_cons pe_str (pe_lst pa_nil) pps_nil)))))))) rfl rfl (by simp) (by decide)))
      (pss_cons (ps_for PassesOwn.never rfl (pi_range1 rfl T.n_range (pa_cons (pe_call (ok_l_many T) (hr.mono (by decide)) rfl T.m_l_many T.F_l_many.kp T.b_l_many .nil pass0 (pa_cons (pv 0) (pa_cons pe_int (pa_cons pe_int pa_nil)))) pa_nil)) (pg_name (i:=7) sc_law.nd rfl (Or.inl rfl)) (pss_one (ps_if (pt_not (pt_truthK (K:=K) (pe_call (ok_l_deed T) (hr.mono (by decide)) rfl T.m_l_deed T.F_l_deed.kp T.b_l_deed .nil pass0 (pa_cons (pv 5) (pa_cons (pv 4) (pa_cons (pv 6) (pa_cons (pe_call (ok_l_cell_at T) (hr.mono (by decide)) rfl T.m_l_cell_at T.F_l_cell_at.kp T.b_l_cell_at .nil pass0 (pa_cons (pv 0) (pa_cons (pe_op (op_plusK (K:=K)) pe_int (pv 7)) pa_nil))) (pa_cons (pv 1) (pa_cons (pv 2) pa_nil))))))) (by intro _;rfl))) (pss_one (ps_ret pe_bl)) pss_nil)))
      (pss_cons (ps_if (pt_not (pt_truthK (K:=K) (pe_call (ok_l_end T) (hr.mono (by decide)) rfl T.m_l_end T.F_l_end.kp T.b_l_end .nil pass0 (pa_cons (pv 5) (pa_cons (pv 4) (pa_cons (pv 6) (pa_cons (pe_ix (ix_anyK (K:=K) (hU1 hr)) (pv 1) pe_int (fun _ _=>rfl)) (pa_cons (pv 2) pa_nil)))))) (by intro _;rfl))) (pss_one (ps_ret pe_bl)) pss_nil)
      (pss_cons (ps_set (i:=8) sc_law.nd rfl (Or.inl rfl) (pe_listRange2 rfl rfl T.n_list rfl T.n_range (pa_cons (pv 3) (pa_cons (pe_fldK (K:=K) (pv 4) rfl) pa_nil))))
      (pss_cons (ps_if (PW.pt (pw_or (pt_cmpR (op_neK (K:=K) (hU hr)) (pe_ix (ix_anyK (K:=K) (hU1 hr)) (pv 6) pe_str (fun _ _=>rfl)) (pv 8) (nomark _)) (pw_or1 (pt_cmpR (op_neK (K:=K) (hU hr)) (pe_callB call_sortedRK (by rfl) T.n_sorted boot_sorted (pa_cons (pe_ix (ix_anyK (K:=K) (hU1 hr)) (pv 6) pe_str (fun _ _=>rfl)) pa_nil)) (pv 8) (nomark _))))) (pss_one (ps_ret pe_bl)) pss_nil)
      (pss_cons (ps_for PassesOwn.never rfl (pi_anyK (K:=K) (pv 8)) (pg_name (i:=9) sc_law.nd rfl (Or.inl rfl)) (pss_cons (ps_set (i:=10) sc_law.nd rfl (Or.inl rfl) (pe_meth (pv 5) T.cl_Lending T.M_Lending_fate_at (ok_Lending_fate_at T) (hr.mono (by decide)) T.b_Lending_fate_at .nil pass0 (pa_cons (pv 9) pa_nil)))
      (pss_one (ps_if (PW.pt (pw_or (pt_cmpR (op_neK (K:=K) (hU hr)) (pv 10) (pe_ix (ix_anyK (K:=K) (hU1 hr)) (pe_ix (ix_anyK (K:=K) (hU1 hr)) (pv 6) pe_str (fun _ _=>rfl)) (pv 9) (fun _ _=>rfl)) (nomark _)) (pw_or1 (pt_not (pt_chain op_leK op_leK pe_int (pe_meth (pv 5) T.cl_Lending T.M_Lending_tried_at (ok_Lending_tried_at T) (hr.mono (by decide)) T.b_Lending_tried_at .nil pass0 (pa_cons (pv 9) pa_nil)) (pe_ix (ix_anyK (K:=K) (hU1 hr)) (pv 2) pe_int (fun _ _=>rfl))))))) (pss_one (ps_ret pe_bl)) pss_nil))))
      (pss_one (ps_ret (pe_call (ok_l_whole T) (hr.mono (by decide)) rfl T.m_l_whole T.F_l_whole.kp T.b_l_whole .nil pass0 (pa_cons (pe_meth (pv 5) T.cl_Lending T.M_Lending_mark_in (ok_Lending_mark_in T) (hr.mono (by decide)) T.b_Lending_mark_in .nil pass0 (pa_cons (pv 4) (pa_cons (pe_fldK (K:=K) (pv 4) rfl) pa_nil))) (pa_cons (pe_callB (call_maxA rfl) (by rfl) T.n_max boot_max (pa_cons (pv 3) (pa_cons (pe_fldK (K:=K) (pv 4) rfl) pa_nil))) pa_nil))))))))))))))))),?_⟩
    have b0:=cellN_bd ns 0
    have b1:=cellN_bd ns 1
    refine cut3 fun Rz hRz=>?_
    walk_at "rd"
    refine ⟨ns,hS,ns,hS,b0.1,b1.1,fun nl H1 nms hnl0 s1 hnl _ hnms=>⟨ns,s1.seq hS,ns,s1.seq hS,ns,s1.seq hS,by decide,fun nb hnb=>⟨ns,(s1.trans (Same.upd hnb)).seq hS,?_⟩⟩⟩
    obtain ⟨n0,n1,n2,rfl⟩:∃ a b c,nms=[a,b,c]:=by
      match nms,hnl with
      | [a,b,c],_=>exact ⟨a,b,c,rfl⟩
    obtain ⟨N,e1,e2,e3,e4,i0,i1,i2,i3,i4,i5,i6,i7⟩:∃ N:N39,1+cellN ns 2 % 3=N.tr∧1+cellN ns 2 / 3 % 4=N.wi∧1+cellN ns 3 % 9=N.tn∧cellN ns 3 / 9 % 2=N.st∧1≤N.tr∧N.tr≤3∧1≤N.wi∧N.wi≤4∧1≤N.tn∧N.tn≤9∧0≤N.st∧N.st≤1 :=
      ⟨⟨cellN ns 3 / 9 % 2,1+cellN ns 2 % 3,1+cellN ns 2 / 3 % 4,1+cellN ns 3 % 9⟩,rfl,rfl,rfl,rfl,by dsimp only;omega,by dsimp only;omega,by dsimp only;omega,by dsimp only;omega,by dsimp only;omega,by dsimp only;omega,by dsimp only;omega,by dsimp only;omega⟩
    rw [e1,e2,e3,e4]
    have s2:Same H1 (upd H1 nb (.tup [V.int N.tr,V.int N.wi,V.int N.tn])):=Same.upd (by rw [e1,e2,e3] at *;exact hnb)
    have hn2:upd H1 nb (.tup [V.int N.tr,V.int N.wi,V.int N.tn]) nb=some (.tup (numV N)):=upd_same
    generalize upd H1 nb (.tup [V.int N.tr,V.int N.wi,V.int N.tn])=H2 at s2 hn2 ⊢
    have hnl2:H2 nl=some (.lst [.str (S n0),.str (S n1),.str (S n2)]):=s2 _ _ hnms
    have s02:=s1.trans s2
    rw [hRz]
    clear hRz
    refine cut3 fun Rz hRz=>?_
    generalize hrn:cellN ns 1 / 12 % 54=rn
    have rest:∀ (rw0 rd0 r f t l:Addr) (H3 H4:Hp),H2 rw0=none→H2 rd0=none→rw0≠rd0→Same H2 H3→RowAt a.C_Row H3 rw0 rd0 row0→H3 r=none→H3 f=none→H3 t=none→H3 l=none→Same H3 H4→LendAt a.C_Lending H4 r f t l (lend0 rn N.st N.tn N.tr N.wi) →
        Rz { nx:=fun x H'=>Q V.non H',rt:=Q } [some (V.ref p),some (V.ref nl),some (V.ref nb),some (V.int N.st),some (V.ref rw0),some (V.ref r),none,none,none,none,none] H4:=fun rw0 rd0 r f t l H3 H4 h1 h2 h3 s3 R3 h4 h5 h6 h7 s4 L4=>by
      rw [hRz]
      clear hRz
      refine cut1 fun Rz hRz=>?_
      walk_at "rd"
      intro sd m1 lo m2 fa m3 tr m4
      refine ⟨Nat.zero_le _,fun fi m5=>⟨Nat.zero_le _,fun sp m6=>?_⟩⟩
      obtain ⟨_,y1⟩:=R3.obj
      obtain ⟨_,y2,_⟩:=R3.dict
      obtain ⟨W0,sm⟩:=mk39 (C:=a.C_Lending) (CR:=a.C_Row) (N:=N) h3 L4 (R3.same s4) (by simp only [List.mem_cons,List.not_mem_nil,or_false,not_or];exact ⟨ne_of_none y1 h4,ne_of_none y1 h5,ne_of_none y1 h6,ne_of_none y1 h7⟩) (by simp only [List.mem_cons,List.not_mem_nil,or_false,not_or];exact ⟨ne_of_none y2 h4,ne_of_none y2 h5,ne_of_none y2 h6,ne_of_none y2 h7⟩) i0 i2 i4 i6 i7 m1 m2 m3 m4 m5 m6
      have nin:∀ b o,H2 b=some o→b∉(A39.all ⟨r,f,t,l,rw0,rd0,sd,lo,fa,tr,fi,sp⟩):=fun b o hb=>by
        have hb3:=s3 _ _ hb
        have hb4:=s4 _ _ hb3
        have q1:=ne_of_none hb4 m1
        have g1:=(upd_ne (o:=.dK []) q1).trans hb4
        have q2:=ne_of_none g1 m2
        have g2:=(upd_ne (o:=.dK []) q2).trans g1
        have q3:=ne_of_none g2 m3
        have g3:=(upd_ne (o:=.dK []) q3).trans g2
        have q4:=ne_of_none g3 m4
        have g4:=(upd_ne (o:=.dK []) q4).trans g3
        have q5:=ne_of_none g4 m5
        have g5:=(upd_ne (o:=.lst []) q5).trans g4
        have q6:=ne_of_none g5 m6
        unfold A39.all
        simp only [List.mem_cons,List.not_mem_nil,or_false,not_or]
        exact ⟨ne_of_none hb3 h4,ne_of_none hb3 h5,ne_of_none hb3 h6,ne_of_none hb3 h7,ne_of_none hb h1,ne_of_none hb h2,q1,q2,q3,q4,q5,q6⟩
      have ev1:upd (upd (upd (upd (upd (upd H4 sd (.dK [])) lo (.dK [])) fa (.dK [])) tr (.dK [])) fi (.lst [])) sp (.lst []) sd=some (.dK []):=(Same.upd m6) _ _ ((Same.upd m5) _ _ ((Same.upd m4) _ _ ((Same.upd m3) _ _ ((Same.upd m2) _ _ upd_same))))
      refine ⟨ev1,stK N.st 0 0 lo fa tr fi sp,rfl,show 8≤15 by decide,?_⟩
      show Rz _ _ (upd (upd (upd (upd (upd (upd (upd H4 sd (.dK [])) lo (.dK [])) fa (.dK [])) tr (.dK [])) fi (.lst [])) sp (.lst [])) sd (.dK (stK N.st 0 0 lo fa tr fi sp)))
      generalize upd (upd (upd (upd (upd (upd (upd H4 sd (.dK [])) lo (.dK [])) fa (.dK [])) tr (.dK [])) fi (.lst [])) sp (.lst [])) sd (.dK (stK N.st 0 0 lo fa tr fi sp))=H5 at W0 sm ⊢
      clear m1 m2 m3 m4 m5 m6 ev1
      have s25:Same H2 H5:=s3.trans (s4.trans sm)
      clear y1 y2 L4 R3 h1 h2 h3 h4 h5 h6 h7 s4 s3 sm
      obtain ⟨A,eA⟩:∃ A:A39,A=⟨r,f,t,l,rw0,rd0,sd,lo,fa,tr,fi,sp⟩:=⟨_,rfl⟩
      have er:r=A.r:=by rw [eA]
      have erw:rw0=A.rw:=by rw [eA]
      have esd:sd=A.sd:=by rw [eA]
      rw [← eA] at W0 nin
      rw [er,erw,esd]
      have Cn0:Cn39 ⟨lend0 rn N.st N.tn N.tr N.wi,row0,0,0,[],[],[],0⟩ 0 0:=⟨Int.le_refl _,Nat.le_refl _,Nat.le_refl _⟩
      generalize (⟨lend0 rn N.st N.tn N.tr N.wi,row0,0,0,[],[],[],0⟩:G39)=g0 at W0 Cn0
      clear eA er erw esd
      rw [hRz]
      clear hRz
      refine cut1 fun Rz hRz=>?_
      walk_at "rd"
      have s05:=s02.trans s25
      have old:∀ H',Chg A.all H5 H'→Same H H':=fun H' c b o hb=>c.keep _ _ (s05 _ _ hb) (nin b o (s02 _ _ hb))
      have nnl:=nin _ _ hnl2
      have mb:=manyN_bd ns (f:=5) (m:=50) (by decide)
      obtain ⟨n,hn,hn50⟩:∃ n:Nat,manyN ns 5 50=n∧n≤50:=⟨(manyN ns 5 50).toNat,by omega,by omega⟩
      refine ⟨ns,s05.seq hS,by omega,by omega,?_⟩
      rw [hn,Int.toNat_natCast]
      refine forW_range (n:=n) (fun i σ H'=>(∃ g ca cb,W39 a.C_Lending a.C_Row H' A N g∧Cn39 g ca cb∧ca+cb≤i∧Chg A.all H5 H')∧∃ v7,σ=[some (V.ref p),some (V.ref nl),some (V.ref nb),some (V.int N.st),some (V.ref A.rw),some (V.ref A.r),some (V.ref A.sd),v7,none,none,none]) ⟨⟨g0,0,0,W0,Cn0,Nat.le_refl _,Chg.refl _⟩,none,rfl⟩ ?_ ?_
      · rintro i σ H' hi ⟨⟨g,ca,cb,W',Cn',hab,c'⟩,v7,rfl⟩
        have cbd:=cellN_bd ns (5+(0+(i:Int)))
        walk_at "rd"
        refine ⟨ns,(old H' c').seq hS,by omega,A,rfl,rfl,rfl,cbd.1,N,g,W',?_⟩
        refine ⟨⟨n0,n1,n2,c'.keep _ _ (s25 _ _ hnl2) nnl⟩,nnl,c'.tup _ _ (s25 _ _ hn2),ca,cb,Cn',by omega,fun g' ca' cb' H3 Cn3 hab3 c3 W3=>?_⟩
        exact ⟨g',W3,ca',cb',Cn3,by omega,c'.trans c3⟩
      · rintro σ H' ⟨⟨g,ca,cb,W',Cn',hab,c'⟩,v7,rfl⟩
        have nl':=c'.keep _ _ (s25 _ _ hnl2) nnl
        have nb':=c'.tup _ _ (s25 _ _ hn2)
        show Rz { nx:=fun x H'=>Q V.non H',rt:=Q } _ _
        rw [hRz]
        clear hRz
        refine cut1 fun Rz hRz=>?_
        walk_at "rd"
        refine rIxA_l (v:=.str (S n0)) (.inl (.inl nl')) rfl ⟨A,rfl,rfl,rfl,⟨n0,rfl⟩,N,g,W',nb',ca,cb,Cn',by omega,fun g2 H6 Fn c6 W6=>?_⟩
        have nb6:=c6.tup _ _ nb'
        rw [hRz]
        clear hRz
        obtain ⟨dx,hro⟩:=W6.p.ra.obj
        refine cut1 fun Rz hRz=>?_
        walk_at "rd"
        have Fr:=Fn.r
        have f0:=W6.i.f0
        have f1:=W6.i.f1
        obtain ⟨al1,al2,al3⟩:=Fn.all W6.i
        refine ⟨_,dx,_,hro,T.cl_Row,T.no_Row_end,_,rfl,g2.R.last,rfl,by omega,by omega,by omega,by omega,Int.le_trans (show g2.R.last - N.st≤160 by omega) (by decide),fun Du hDu=>?_⟩
        have s7:Same H6 (upd H6 Du (.lst (rngV N.st (g2.R.last - N.st).toNat))):=Same.upd hDu
        have d7:upd H6 Du (.lst (rngV N.st (g2.R.last - N.st).toNat)) Du=some (.lst ((rng N.st g2.R.last).map V.int)):=by rw [rngV_eq];exact upd_same
        generalize upd H6 Du (.lst (rngV N.st (g2.R.last - N.st).toNat))=H7 at s7 d7 ⊢
        have W7:=W6.same s7
        have nb7:=s7 _ _ nb6
        rw [hRz]
        clear hRz hro dx
        refine cut1 fun Rz hRz=>?_
        walk_at "rd"
        have fi7:H7 A.fi=some (.lst ((rng N.st g2.R.last).map V.int)):=by rw [← al2];exact W7.p.fi
        obtain ⟨kf,ef,hkf,vf⟩:=id W7.p.fa
        have hkf:kf.map (·.1)=g2.fk.map Sum.inl:=hkf
        have fkl:=W6.i.fkl
        have kle:=W6.i.kle
        refine st_firsts W7.p.sd (rNeq_same (d:=.list ((rng N.st g2.R.last).map PyData.int)) (n:=1) (den_ints (.inl (.inl fi7))) (den_ints (.inl (.inl d7))) (wd_ints _) rfl ⟨_,rfl,?_⟩)
        rw [if_neg (by simp)]
        refine st_fates W7.p.sd ⟨A.fa,kf,g2.fk,rfl,ef,hkf,by omega,Fn.fk,fun _ So hSo=>?_⟩
        have s8:Same H7 (upd H7 So (.lst ((srtI g2.fk).map V.int))):=Same.upd hSo
        have d8:upd H7 So (.lst ((srtI g2.fk).map V.int)) So=some (.lst ((rng N.st g2.R.last).map V.int)):=by rw [al1];exact upd_same
        generalize upd H7 So (.lst ((srtI g2.fk).map V.int))=H8 at s8 d8 ⊢
        have d78:=s8 _ _ d7
        refine rNeq_same (d:=.list ((rng N.st g2.R.last).map PyData.int)) (n:=1) (den_ints (.inl (.inl d8))) (den_ints (.inl (.inl d78))) (wd_ints _) rfl ⟨_,rfl,?_⟩
        rw [if_neg (by simp),hRz]
        clear hRz fi7
        have W8:=W7.same s8
        have nb8:=s8 _ _ nb7
        refine cut1 fun Rz hRz=>?_
        walk_at "rd"
        refine rAny_l (.inl (.inl d78)) (forW_list (xs:=(rng N.st g2.R.last).map V.int) (fun i σ H'=>H'=H8∧∃ v9 v10,σ=[some (V.ref p),some (V.ref nl),some (V.ref nb),some (V.int N.st),some (V.ref A.rw),some (V.ref A.r),some (V.ref A.sd),v7,some (V.ref Du),v9,v10]) ⟨rfl,none,none,rfl⟩ (fun i σ H' _ h=>by rw [h.1];exact .inl (.inl d78)) ?_ ?_)
        · rintro i x σ H' hx ⟨rfl,v9,v10,rfl⟩
          rw [List.getElem?_map] at hx
          obtain ⟨x,hx2,rfl⟩:=Option.map_eq_some_iff.mp hx
          obtain ⟨x0,x1⟩:=mem_rng.mp (List.mem_of_getElem? hx2)
          obtain ⟨z,hz⟩:=Option.isSome_iff_exists.mp (Fn.F x x0 x1)
          obtain ⟨dx,hro⟩:=W8.p.la.obj
          walk_at "rd"
          obtain ⟨kg,eg,_,vg⟩:=W8.p.fa
          have vx:valV kg (.inl x)=some (.str z):=by rw [vg x];show (g2.M.F x).map V.str=_;rw [hz];rfl
          have dg:=DGet.k (k:=.inl x) eg
          rw [vx] at dg
          refine ⟨dx,_,hro,rfl,_,_,_,g2.M,W8.p.la,st_fates W8.p.sd (rIxA_d dg ?_)⟩
          rw [show fateV (g2.M.F x)=.str z by rw [hz];rfl,rNeq_ss]
          refine ⟨_,rfl,?_⟩
          rw [if_neg (by simp)]
          refine ⟨dx,_,hro,rfl,_,_,_,g2.M,W8.p.la,?_⟩
          rw [if_pos (al3 x x0 x1)]
          refine rIxA_t (v:=.int N.tr) (.inl (.inl nb8)) rfl ?_
          rw [rLe_ii,decide_eq_true (W6.i.T1 x)]
          refine ⟨_,rfl,?_⟩
          rw [if_neg (by simp)]
        · rintro σ H' ⟨rfl,v9,v10,rfl⟩
          show Rz { nx:=fun x H'=>Q V.non H',rt:=Q } _ _
          rw [hRz]
          clear hRz
          obtain ⟨dx,hro⟩:=W8.p.la.obj
          obtain ⟨dy,hry⟩:=W8.p.ra.obj
          walk_at "rd"
          refine ⟨dx,_,hro,rfl,_,dy,_,hry,T.cl_Row,T.no_Row_end,_,rfl,_,_,_,g2.M,_,g2.R,g2.R.last,rfl,W8.p.la,W8.p.ra,by omega,by rw [W6.i.st];omega,by rw [W6.i.st];omega,by omega,fun H9 s9=>⟨_,dy,_,s9 _ _ hry,T.cl_Row,T.no_Row_end,_,rfl,g2.R.last,rfl,?_⟩⟩
          rw [decide_eq_true (Fn.mark W6.i)]
          exact q H9
    clear hRz
    walk_at "rd"
    refine row_make fun rw0 rd0 H3 h1 h2 h3 s3 R3=>⟨ns,(s02.trans s3).seq hS,?_⟩
    rw [hrn]
    have n3:SqT K H3 nb (numV N):=.inl (.inl (s3 _ _ hn2))
    refine rIxA_t (v:=.int N.tn) n3 rfl (rIxA_t (v:=.int N.tr) n3 rfl (rIxA_t (v:=.int N.wi) n3 rfl fun r dx hr hdx hne=>⟨dx,N.tn,rfl,N.tr,rfl,N.wi,rfl,upd_same,fun f t l H4 hf ht hl c4 L4=>?_⟩))
    obtain ⟨h5,h6,h7,s4⟩:=lend_new hr hdx hf ht hl c4
    have n4:SqT K H4 nb (numV N):=.inl (.inl (s4 _ _ (s3 _ _ hn2)))
    refine rIxA_t (v:=.int N.wi) n4 rfl ?_
    rw [rEqq_ii]
    refine ⟨_,rfl,ite2 (fun hw=>?_) (fun hw=>rest rw0 rd0 r f t l H3 H4 h1 h2 h3 s3 R3 hr h5 h6 h7 s4 L4)⟩
    have hw:N.wi=1:=of_decide_eq_true hw
    refine ⟨ns,(s02.trans (s3.trans s4)).seq hS,?_⟩
    rw [hrn]
    refine rIxA_t (v:=.int N.tn) n4 rfl (rIxA_t (v:=.int N.tr) n4 rfl fun r' dx' hr' hdx' hne'=>⟨dx',N.tn,rfl,N.tr,rfl,upd_same,fun f' t' l' H5 hf' ht' hl' c5 L5=>?_⟩)
    obtain ⟨k5,k6,k7,s5⟩:=lend_new hr' hdx' hf' ht' hl' c5
    exact rest rw0 rd0 r' f' t' l' H4 H5 h1 h2 h3 (s3.trans s4) (R3.same s4) hr' k5 k6 k7 s5 (by rw [hw];exact L5)

end
theorem txt_mk {K:PySem.W.Frag} {h:Heap} {mg:Str→Option Value} (X:K.In h) (G:h.Ns mainGlobals mg)
    {C_Late:Addr}
    {C_Lending:Addr}
    {C_Row:Addr}
    {f1:Addr} {od1 an1:Option Addr} {sl1:Array (Option Value)} {oc1 kV1 dc1 pm1 cd1 ct1:Value}
    {f2:Addr} {od2 an2:Option Addr} {sl2:Array (Option Value)} {oc2 kV2 dc2 pm2 cd2 ct2:Value}
    {tD2:Addr} {tc2:Value} {td2:Option Addr} {tn2:Nat} {tsl2:Array (Option Value)} {tk2_0:Tok}
    {f3:Addr} {od3 an3:Option Addr} {sl3:Array (Option Value)} {oc3 kV3 dc3 pm3 cd3 ct3:Value}
    {f4:Addr} {od4 an4:Option Addr} {sl4:Array (Option Value)} {oc4 kV4 dc4 pm4 cd4 ct4:Value}
    {f5:Addr} {od5 an5:Option Addr} {sl5:Array (Option Value)} {oc5 kV5 dc5 pm5 cd5 ct5:Value}
    {f6:Addr} {od6 an6:Option Addr} {sl6:Array (Option Value)} {oc6 kV6 dc6 pm6 cd6 ct6:Value}
    {f7:Addr} {od7 an7:Option Addr} {sl7:Array (Option Value)} {oc7 kV7 dc7 pm7 cd7 ct7:Value}
    {f8:Addr} {od8 an8:Option Addr} {sl8:Array (Option Value)} {oc8 kV8 dc8 pm8 cd8 ct8:Value}
    {f9:Addr} {od9 an9:Option Addr} {sl9:Array (Option Value)} {oc9 kV9 dc9 pm9 cd9 ct9:Value}
    {f10:Addr} {od10 an10:Option Addr} {sl10:Array (Option Value)} {oc10 kV10 dc10 pm10 cd10 ct10:Value}
    {f11:Addr} {od11 an11:Option Addr} {sl11:Array (Option Value)} {oc11 kV11 dc11 pm11 cd11 ct11:Value}
    {f12:Addr} {od12 an12:Option Addr} {sl12:Array (Option Value)} {oc12 kV12 dc12 pm12 cd12 ct12:Value}
    {f13:Addr} {od13 an13:Option Addr} {sl13:Array (Option Value)} {oc13 kV13 dc13 pm13 cd13 ct13:Value}
    {f14:Addr} {od14 an14:Option Addr} {sl14:Array (Option Value)} {oc14 kV14 dc14 pm14 cd14 ct14:Value}
    {f15:Addr} {od15 an15:Option Addr} {sl15:Array (Option Value)} {oc15 kV15 dc15 pm15 cd15 ct15:Value}
    {f16:Addr} {od16 an16:Option Addr} {sl16:Array (Option Value)} {oc16 kV16 dc16 pm16 cd16 ct16:Value}
    {f17:Addr} {od17 an17:Option Addr} {sl17:Array (Option Value)} {oc17 kV17 dc17 pm17 cd17 ct17:Value}
    {f18:Addr} {od18 an18:Option Addr} {sl18:Array (Option Value)} {oc18 kV18 dc18 pm18 cd18 ct18:Value}
    {tD18:Addr} {tc18:Value} {td18:Option Addr} {tn18:Nat} {tsl18:Array (Option Value)} {tk18_0:Tok}
    {f19:Addr} {od19 an19:Option Addr} {sl19:Array (Option Value)} {oc19 kV19 dc19 pm19 cd19 ct19:Value}
    {f20:Addr} {od20 an20:Option Addr} {sl20:Array (Option Value)} {oc20 kV20 dc20 pm20 cd20 ct20:Value}
    {f21:Addr} {od21 an21:Option Addr} {sl21:Array (Option Value)} {oc21 kV21 dc21 pm21 cd21 ct21:Value}
    {f22:Addr} {od22 an22:Option Addr} {sl22:Array (Option Value)} {oc22 kV22 dc22 pm22 cd22 ct22:Value}
    {f23:Addr} {od23 an23:Option Addr} {sl23:Array (Option Value)} {oc23 kV23 dc23 pm23 cd23 ct23:Value}
    {f24:Addr} {od24 an24:Option Addr} {sl24:Array (Option Value)} {oc24 kV24 dc24 pm24 cd24 ct24:Value}
    {f25:Addr} {od25 an25:Option Addr} {sl25:Array (Option Value)} {oc25 kV25 dc25 pm25 cd25 ct25:Value}
    {f26:Addr} {od26 an26:Option Addr} {sl26:Array (Option Value)} {oc26 kV26 dc26 pm26 cd26 ct26:Value}
    {f27:Addr} {od27 an27:Option Addr} {sl27:Array (Option Value)} {oc27 kV27 dc27 pm27 cd27 ct27:Value}
    {f28:Addr} {od28 an28:Option Addr} {sl28:Array (Option Value)} {oc28 kV28 dc28 pm28 cd28 ct28:Value}
    {f29:Addr} {od29 an29:Option Addr} {sl29:Array (Option Value)} {oc29 kV29 dc29 pm29 cd29 ct29:Value}
    {f30:Addr} {od30 an30:Option Addr} {sl30:Array (Option Value)} {oc30 kV30 dc30 pm30 cd30 ct30:Value}
    {f31:Addr} {od31 an31:Option Addr} {sl31:Array (Option Value)} {oc31 kV31 dc31 pm31 cd31 ct31:Value}
    {f32:Addr} {od32 an32:Option Addr} {sl32:Array (Option Value)} {oc32 kV32 dc32 pm32 cd32 ct32:Value}
    {f33:Addr} {od33 an33:Option Addr} {sl33:Array (Option Value)} {oc33 kV33 dc33 pm33 cd33 ct33:Value}
    {f34:Addr} {od34 an34:Option Addr} {sl34:Array (Option Value)} {oc34 kV34 dc34 pm34 cd34 ct34:Value}
    (a1:PySem.W.findIn K (.ref C_Late) "__init__" = some (some (.ref f1))) (i1:PySem.W.isFn K (.ref f1)=true)
    (l1:K.lookup f1=some ⟨oc1,od1,.func (PySem.W.fnOf "__init__" "Late.__init__" (defArgs s_Late___init__) (defBody s_Late___init__) (defScope s_Late___init__) .none kV1 dc1 pm1 an1 cd1 ct1),sl1⟩) (c1:PySem.W.codeIn K cd1 "Late.__init__" = true) (k1:PySem.W.keepIn K (.ref f1)=true)
    (a2:PySem.W.findIn K (.ref C_Lending) "__init__" = some (some (.ref f2))) (i2:PySem.W.isFn K (.ref f2)=true)
    (l2:K.lookup f2=some ⟨oc2,od2,.func (PySem.W.fnOf "__init__" "Lending.__init__" (defArgs s_Lending___init__) (defBody s_Lending___init__) (defScope s_Lending___init__) (.ref tD2) kV2 dc2 pm2 an2 cd2 ct2),sl2⟩) (c2:PySem.W.codeIn K cd2 "Lending.__init__" = true) (k2:PySem.W.keepIn K (.ref f2)=true)
    (dl2:K.lookup tD2=some ⟨tc2,td2,.seq [.int 1 tk2_0].toArray tn2,tsl2⟩)
    (a3:PySem.W.findIn K (.ref C_Lending) "lend" = some (some (.ref f3))) (i3:PySem.W.isFn K (.ref f3)=true)
    (l3:K.lookup f3=some ⟨oc3,od3,.func (PySem.W.fnOf "lend" "Lending.lend" (defArgs s_Lending_lend) (defBody s_Lending_lend) (defScope s_Lending_lend) .none kV3 dc3 pm3 an3 cd3 ct3),sl3⟩) (c3:PySem.W.codeIn K cd3 "Lending.lend" = true) (k3:PySem.W.keepIn K (.ref f3)=true)
    (a4:PySem.W.findIn K (.ref C_Lending) "settle" = some (some (.ref f4))) (i4:PySem.W.isFn K (.ref f4)=true)
    (l4:K.lookup f4=some ⟨oc4,od4,.func (PySem.W.fnOf "settle" "Lending.settle" (defArgs s_Lending_settle) (defBody s_Lending_settle) (defScope s_Lending_settle) .none kV4 dc4 pm4 an4 cd4 ct4),sl4⟩) (c4:PySem.W.codeIn K cd4 "Lending.settle" = true) (k4:PySem.W.keepIn K (.ref f4)=true)
    (a5:PySem.W.findIn K (.ref C_Lending) "set_aside" = some (some (.ref f5))) (i5:PySem.W.isFn K (.ref f5)=true)
    (l5:K.lookup f5=some ⟨oc5,od5,.func (PySem.W.fnOf "set_aside" "Lending.set_aside" (defArgs s_Lending_set_aside) (defBody s_Lending_set_aside) (defScope s_Lending_set_aside) .none kV5 dc5 pm5 an5 cd5 ct5),sl5⟩) (c5:PySem.W.codeIn K cd5 "Lending.set_aside" = true) (k5:PySem.W.keepIn K (.ref f5)=true)
    (a6:PySem.W.findIn K (.ref C_Lending) "give_back" = some (some (.ref f6))) (i6:PySem.W.isFn K (.ref f6)=true)
    (l6:K.lookup f6=some ⟨oc6,od6,.func (PySem.W.fnOf "give_back" "Lending.give_back" (defArgs s_Lending_give_back) (defBody s_Lending_give_back) (defScope s_Lending_give_back) .none kV6 dc6 pm6 an6 cd6 ct6),sl6⟩) (c6:PySem.W.codeIn K cd6 "Lending.give_back" = true) (k6:PySem.W.keepIn K (.ref f6)=true)
    (a7:PySem.W.findIn K (.ref C_Lending) "let_go" = some (some (.ref f7))) (i7:PySem.W.isFn K (.ref f7)=true)
    (l7:K.lookup f7=some ⟨oc7,od7,.func (PySem.W.fnOf "let_go" "Lending.let_go" (defArgs s_Lending_let_go) (defBody s_Lending_let_go) (defScope s_Lending_let_go) .none kV7 dc7 pm7 an7 cd7 ct7),sl7⟩) (c7:PySem.W.codeIn K cd7 "Lending.let_go" = true) (k7:PySem.W.keepIn K (.ref f7)=true)
    (a8:PySem.W.findIn K (.ref C_Lending) "call_back" = some (some (.ref f8))) (i8:PySem.W.isFn K (.ref f8)=true)
    (l8:K.lookup f8=some ⟨oc8,od8,.func (PySem.W.fnOf "call_back" "Lending.call_back" (defArgs s_Lending_call_back) (defBody s_Lending_call_back) (defScope s_Lending_call_back) .none kV8 dc8 pm8 an8 cd8 ct8),sl8⟩) (c8:PySem.W.codeIn K cd8 "Lending.call_back" = true) (k8:PySem.W.keepIn K (.ref f8)=true)
    (a9:PySem.W.findIn K (.ref C_Lending) "place_of" = some (some (.ref f9))) (i9:PySem.W.isFn K (.ref f9)=true)
    (l9:K.lookup f9=some ⟨oc9,od9,.func (PySem.W.fnOf "place_of" "Lending.place_of" (defArgs s_Lending_place_of) (defBody s_Lending_place_of) (defScope s_Lending_place_of) .none kV9 dc9 pm9 an9 cd9 ct9),sl9⟩) (c9:PySem.W.codeIn K cd9 "Lending.place_of" = true) (k9:PySem.W.keepIn K (.ref f9)=true)
    (a10:PySem.W.findIn K (.ref C_Lending) "loan_at" = some (some (.ref f10))) (i10:PySem.W.isFn K (.ref f10)=true)
    (l10:K.lookup f10=some ⟨oc10,od10,.func (PySem.W.fnOf "loan_at" "Lending.loan_at" (defArgs s_Lending_loan_at) (defBody s_Lending_loan_at) (defScope s_Lending_loan_at) .none kV10 dc10 pm10 an10 cd10 ct10),sl10⟩) (c10:PySem.W.codeIn K cd10 "Lending.loan_at" = true) (k10:PySem.W.keepIn K (.ref f10)=true)
    (a11:PySem.W.findIn K (.ref C_Lending) "tried_at" = some (some (.ref f11))) (i11:PySem.W.isFn K (.ref f11)=true)
    (l11:K.lookup f11=some ⟨oc11,od11,.func (PySem.W.fnOf "tried_at" "Lending.tried_at" (defArgs s_Lending_tried_at) (defBody s_Lending_tried_at) (defScope s_Lending_tried_at) .none kV11 dc11 pm11 an11 cd11 ct11),sl11⟩) (c11:PySem.W.codeIn K cd11 "Lending.tried_at" = true) (k11:PySem.W.keepIn K (.ref f11)=true)
    (a12:PySem.W.findIn K (.ref C_Lending) "fate_at" = some (some (.ref f12))) (i12:PySem.W.isFn K (.ref f12)=true)
    (l12:K.lookup f12=some ⟨oc12,od12,.func (PySem.W.fnOf "fate_at" "Lending.fate_at" (defArgs s_Lending_fate_at) (defBody s_Lending_fate_at) (defScope s_Lending_fate_at) .none kV12 dc12 pm12 an12 cd12 ct12),sl12⟩) (c12:PySem.W.codeIn K cd12 "Lending.fate_at" = true) (k12:PySem.W.keepIn K (.ref f12)=true)
    (a13:PySem.W.findIn K (.ref C_Lending) "places_without_fate" = some (some (.ref f13))) (i13:PySem.W.isFn K (.ref f13)=true)
    (l13:K.lookup f13=some ⟨oc13,od13,.func (PySem.W.fnOf "places_without_fate" "Lending.places_without_fate" (defArgs s_Lending_places_without_fate) (defBody s_Lending_places_without_fate) (defScope s_Lending_places_without_fate) .none kV13 dc13 pm13 an13 cd13 ct13),sl13⟩) (c13:PySem.W.codeIn K cd13 "Lending.places_without_fate" = true) (k13:PySem.W.keepIn K (.ref f13)=true)
    (a14:PySem.W.findIn K (.ref C_Lending) "mark_in" = some (some (.ref f14))) (i14:PySem.W.isFn K (.ref f14)=true)
    (l14:K.lookup f14=some ⟨oc14,od14,.func (PySem.W.fnOf "mark_in" "Lending.mark_in" (defArgs s_Lending_mark_in) (defBody s_Lending_mark_in) (defScope s_Lending_mark_in) .none kV14 dc14 pm14 an14 cd14 ct14),sl14⟩) (c14:PySem.W.codeIn K cd14 "Lending.mark_in" = true) (k14:PySem.W.keepIn K (.ref f14)=true)
    (a15:PySem.W.findIn K (.ref C_Lending) "is_lent" = some (some (.ref f15))) (i15:PySem.W.isFn K (.ref f15)=true)
    (l15:K.lookup f15=some ⟨oc15,od15,.func (PySem.W.fnOf "is_lent" "Lending.is_lent" (defArgs s_Lending_is_lent) (defBody s_Lending_is_lent) (defScope s_Lending_is_lent) .none kV15 dc15 pm15 an15 cd15 ct15),sl15⟩) (c15:PySem.W.codeIn K cd15 "Lending.is_lent" = true) (k15:PySem.W.keepIn K (.ref f15)=true)
    (a16:PySem.W.findIn K (.ref C_Lending) "due_in" = some (some (.ref f16))) (i16:PySem.W.isFn K (.ref f16)=true)
    (l16:K.lookup f16=some ⟨oc16,od16,.func (PySem.W.fnOf "due_in" "Lending.due_in" (defArgs s_Lending_due_in) (defBody s_Lending_due_in) (defScope s_Lending_due_in) .none kV16 dc16 pm16 an16 cd16 ct16),sl16⟩) (c16:PySem.W.codeIn K cd16 "Lending.due_in" = true) (k16:PySem.W.keepIn K (.ref f16)=true)
    (a17:PySem.W.findIn K (.ref C_Row) "__init__" = some (some (.ref f17))) (i17:PySem.W.isFn K (.ref f17)=true)
    (l17:K.lookup f17=some ⟨oc17,od17,.func (PySem.W.fnOf "__init__" "Row.__init__" (defArgs s_Row___init__) (defBody s_Row___init__) (defScope s_Row___init__) .none kV17 dc17 pm17 an17 cd17 ct17),sl17⟩) (c17:PySem.W.codeIn K cd17 "Row.__init__" = true) (k17:PySem.W.keepIn K (.ref f17)=true)
    (a18:PySem.W.findIn K (.ref C_Row) "add" = some (some (.ref f18))) (i18:PySem.W.isFn K (.ref f18)=true)
    (l18:K.lookup f18=some ⟨oc18,od18,.func (PySem.W.fnOf "add" "Row.add" (defArgs s_Row_add) (defBody s_Row_add) (defScope s_Row_add) (.ref tD18) kV18 dc18 pm18 an18 cd18 ct18),sl18⟩) (c18:PySem.W.codeIn K cd18 "Row.add" = true) (k18:PySem.W.keepIn K (.ref f18)=true)
    (dl18:K.lookup tD18=some ⟨tc18,td18,.seq [.int 0 tk18_0].toArray tn18,tsl18⟩)
    (a19:PySem.W.findIn K (.ref C_Row) "at" = some (some (.ref f19))) (i19:PySem.W.isFn K (.ref f19)=true)
    (l19:K.lookup f19=some ⟨oc19,od19,.func (PySem.W.fnOf "at" "Row.at" (defArgs s_Row_at) (defBody s_Row_at) (defScope s_Row_at) .none kV19 dc19 pm19 an19 cd19 ct19),sl19⟩) (c19:PySem.W.codeIn K cd19 "Row.at" = true) (k19:PySem.W.keepIn K (.ref f19)=true)
    (a20:PySem.W.findIn K (.ref C_Row) "seen" = some (some (.ref f20))) (i20:PySem.W.isFn K (.ref f20)=true)
    (l20:K.lookup f20=some ⟨oc20,od20,.func (PySem.W.fnOf "seen" "Row.seen" (defArgs s_Row_seen) (defBody s_Row_seen) (defScope s_Row_seen) .none kV20 dc20 pm20 an20 cd20 ct20),sl20⟩) (c20:PySem.W.codeIn K cd20 "Row.seen" = true) (k20:PySem.W.keepIn K (.ref f20)=true)
    (a21:PySem.W.nsIn K mainGlobals "_law_cell_at" = some (some (.ref f21)))
    (l21:K.lookup f21=some ⟨oc21,od21,.func (PySem.W.fnOf "_law_cell_at" "_law_cell_at" (defArgs s_l_cell_at) (defBody s_l_cell_at) (defScope s_l_cell_at) .none kV21 dc21 pm21 an21 cd21 ct21),sl21⟩) (c21:PySem.W.codeIn K cd21 "_law_cell_at" = true) (k21:PySem.W.keepIn K (.ref f21)=true)
    (a22:PySem.W.nsIn K mainGlobals "_law_many" = some (some (.ref f22)))
    (l22:K.lookup f22=some ⟨oc22,od22,.func (PySem.W.fnOf "_law_many" "_law_many" (defArgs s_l_many) (defBody s_l_many) (defScope s_l_many) .none kV22 dc22 pm22 an22 cd22 ct22),sl22⟩) (c22:PySem.W.codeIn K cd22 "_law_many" = true) (k22:PySem.W.keepIn K (.ref f22)=true)
    (a23:PySem.W.nsIn K mainGlobals "_law_whole" = some (some (.ref f23)))
    (l23:K.lookup f23=some ⟨oc23,od23,.func (PySem.W.fnOf "_law_whole" "_law_whole" (defArgs s_l_whole) (defBody s_l_whole) (defScope s_l_whole) .none kV23 dc23 pm23 an23 cd23 ct23),sl23⟩) (c23:PySem.W.codeIn K cd23 "_law_whole" = true) (k23:PySem.W.keepIn K (.ref f23)=true)
    (a24:PySem.W.nsIn K mainGlobals "_law_names" = some (some (.ref f24)))
    (l24:K.lookup f24=some ⟨oc24,od24,.func (PySem.W.fnOf "_law_names" "_law_names" (defArgs s_l_names) (defBody s_l_names) (defScope s_l_names) .none kV24 dc24 pm24 an24 cd24 ct24),sl24⟩) (c24:PySem.W.codeIn K cd24 "_law_names" = true) (k24:PySem.W.keepIn K (.ref f24)=true)
    (a25:PySem.W.nsIn K mainGlobals "_law_runs" = some (some (.ref f25)))
    (l25:K.lookup f25=some ⟨oc25,od25,.func (PySem.W.fnOf "_law_runs" "_law_runs" (defArgs s_l_runs) (defBody s_l_runs) (defScope s_l_runs) .none kV25 dc25 pm25 an25 cd25 ct25),sl25⟩) (c25:PySem.W.codeIn K cd25 "_law_runs" = true) (k25:PySem.W.keepIn K (.ref f25)=true)
    (a26:PySem.W.nsIn K mainGlobals "_law_open" = some (some (.ref f26)))
    (l26:K.lookup f26=some ⟨oc26,od26,.func (PySem.W.fnOf "_law_open" "_law_open" (defArgs s_l_open) (defBody s_l_open) (defScope s_l_open) .none kV26 dc26 pm26 an26 cd26 ct26),sl26⟩) (c26:PySem.W.codeIn K cd26 "_law_open" = true) (k26:PySem.W.keepIn K (.ref f26)=true)
    (a27:PySem.W.nsIn K mainGlobals "_law_good" = some (some (.ref f27)))
    (l27:K.lookup f27=some ⟨oc27,od27,.func (PySem.W.fnOf "_law_good" "_law_good" (defArgs s_l_good) (defBody s_l_good) (defScope s_l_good) .none kV27 dc27 pm27 an27 cd27 ct27),sl27⟩) (c27:PySem.W.codeIn K cd27 "_law_good" = true) (k27:PySem.W.keepIn K (.ref f27)=true)
    (a28:PySem.W.nsIn K mainGlobals "_law_take" = some (some (.ref f28)))
    (l28:K.lookup f28=some ⟨oc28,od28,.func (PySem.W.fnOf "_law_take" "_law_take" (defArgs s_l_take) (defBody s_l_take) (defScope s_l_take) .none kV28 dc28 pm28 an28 cd28 ct28),sl28⟩) (c28:PySem.W.codeIn K cd28 "_law_take" = true) (k28:PySem.W.keepIn K (.ref f28)=true)
    (a29:PySem.W.nsIn K mainGlobals "_law_found" = some (some (.ref f29)))
    (l29:K.lookup f29=some ⟨oc29,od29,.func (PySem.W.fnOf "_law_found" "_law_found" (defArgs s_l_found) (defBody s_l_found) (defScope s_l_found) .none kV29 dc29 pm29 an29 cd29 ct29),sl29⟩) (c29:PySem.W.codeIn K cd29 "_law_found" = true) (k29:PySem.W.keepIn K (.ref f29)=true)
    (a30:PySem.W.nsIn K mainGlobals "_law_answer" = some (some (.ref f30)))
    (l30:K.lookup f30=some ⟨oc30,od30,.func (PySem.W.fnOf "_law_answer" "_law_answer" (defArgs s_l_answer) (defBody s_l_answer) (defScope s_l_answer) .none kV30 dc30 pm30 an30 cd30 ct30),sl30⟩) (c30:PySem.W.codeIn K cd30 "_law_answer" = true) (k30:PySem.W.keepIn K (.ref f30)=true)
    (a31:PySem.W.nsIn K mainGlobals "_law_gone" = some (some (.ref f31)))
    (l31:K.lookup f31=some ⟨oc31,od31,.func (PySem.W.fnOf "_law_gone" "_law_gone" (defArgs s_l_gone) (defBody s_l_gone) (defScope s_l_gone) .none kV31 dc31 pm31 an31 cd31 ct31),sl31⟩) (c31:PySem.W.codeIn K cd31 "_law_gone" = true) (k31:PySem.W.keepIn K (.ref f31)=true)
    (a32:PySem.W.nsIn K mainGlobals "_law_deed" = some (some (.ref f32)))
    (l32:K.lookup f32=some ⟨oc32,od32,.func (PySem.W.fnOf "_law_deed" "_law_deed" (defArgs s_l_deed) (defBody s_l_deed) (defScope s_l_deed) .none kV32 dc32 pm32 an32 cd32 ct32),sl32⟩) (c32:PySem.W.codeIn K cd32 "_law_deed" = true) (k32:PySem.W.keepIn K (.ref f32)=true)
    (a33:PySem.W.nsIn K mainGlobals "_law_end" = some (some (.ref f33)))
    (l33:K.lookup f33=some ⟨oc33,od33,.func (PySem.W.fnOf "_law_end" "_law_end" (defArgs s_l_end) (defBody s_l_end) (defScope s_l_end) .none kV33 dc33 pm33 an33 cd33 ct33),sl33⟩) (c33:PySem.W.codeIn K cd33 "_law_end" = true) (k33:PySem.W.keepIn K (.ref f33)=true)
    (a34:PySem.W.nsIn K mainGlobals "law" = some (some (.ref f34)))
    (l34:K.lookup f34=some ⟨oc34,od34,.func (PySem.W.fnOf "law" "law" (defArgs s_law) (defBody s_law) (defScope s_law) .none kV34 dc34 pm34 an34 cd34 ct34),sl34⟩) (c34:PySem.W.codeIn K cd34 "law" = true) (k34:PySem.W.keepIn K (.ref f34)=true)
    (aC_Lending:PySem.W.nsIn K mainGlobals "Lending" = some (some (.ref C_Lending))) (pg_Lending:PySem.W.plainGet K C_Lending Str.empty=true) (hd_Lending:PySem.W.hasDictIn K C_Lending=true) (po_Lending:PySem.W.plainOver K C_Lending=true) (sa_Lending:PySem.W.findIn K (.ref C_Lending) "__setattr__" = some (some (.builtin "object.__setattr__"))) (mk_Lending:PySem.W.makesIn K C_Lending=true) (kc_Lending:PySem.W.keepIn K (.ref C_Lending)=true)
    (no_Lending_fates:PySem.W.findIn K (.ref C_Lending) "fates" = some none)
    (no_Lending_lent:PySem.W.findIn K (.ref C_Lending) "lent" = some none)
    (no_Lending_loans:PySem.W.findIn K (.ref C_Lending) "loans" = some none)
    (no_Lending_row:PySem.W.findIn K (.ref C_Lending) "row" = some none)
    (no_Lending_start:PySem.W.findIn K (.ref C_Lending) "start" = some none)
    (no_Lending_tried:PySem.W.findIn K (.ref C_Lending) "tried" = some none)
    (no_Lending_tries:PySem.W.findIn K (.ref C_Lending) "tries" = some none)
    (no_Lending_turns:PySem.W.findIn K (.ref C_Lending) "turns" = some none)
    (no_Lending_width:PySem.W.findIn K (.ref C_Lending) "width" = some none)
    (aC_Row:PySem.W.nsIn K mainGlobals "Row" = some (some (.ref C_Row))) (pg_Row:PySem.W.plainGet K C_Row Str.empty=true) (hd_Row:PySem.W.hasDictIn K C_Row=true) (po_Row:PySem.W.plainOver K C_Row=true) (sa_Row:PySem.W.findIn K (.ref C_Row) "__setattr__" = some (some (.builtin "object.__setattr__"))) (mk_Row:PySem.W.makesIn K C_Row=true) (kc_Row:PySem.W.keepIn K (.ref C_Row)=true)
    (no_Row_drawn:PySem.W.findIn K (.ref C_Row) "drawn" = some none)
    (no_Row_end:PySem.W.findIn K (.ref C_Row) "end" = some none)
    (no_Row_first:PySem.W.findIn K (.ref C_Row) "first" = some none)
    (no_Row_letters:PySem.W.findIn K (.ref C_Row) "letters" = some none)
    (aC_Late:PySem.W.nsIn K mainGlobals "Late" = some (some (.ref C_Late)))
    (xx_Late:L2.xIn K C_Late=true) (kc_Late:PySem.W.keepIn K (.ref C_Late)=true) (sa_Late:PySem.W.findIn K (.ref C_Late) "__setattr__" = some (some (.builtin "object.__setattr__"))) (ga_Late:PySem.W.findIn K (.ref C_Late) "__getattribute__" = some (some (.builtin "BaseException.__getattribute__"))) (gn_Late:PySem.W.findIn K (.ref C_Late) "__getattr__" = some none) (hd_Late:PySem.W.hasDictIn K C_Late=true)
    (no_Late_loan:PySem.W.findIn K (.ref C_Late) "loan" = some none)
    (no_Late_row:PySem.W.findIn K (.ref C_Late) "row" = some none)
    (em_Late_Late:PySem.W.exmOne K (.ref C_Late) (.ref C_Late)=some true)
    (z_bool:PySem.W.nsIn K mainGlobals "bool" = some none)
    (z_int:PySem.W.nsIn K mainGlobals "int" = some none)
    (z_isinstance:PySem.W.nsIn K mainGlobals "isinstance" = some none)
    (z_len:PySem.W.nsIn K mainGlobals "len" = some none)
    (z_list:PySem.W.nsIn K mainGlobals "list" = some none)
    (z_max:PySem.W.nsIn K mainGlobals "max" = some none)
    (z_min:PySem.W.nsIn K mainGlobals "min" = some none)
    (z_range:PySem.W.nsIn K mainGlobals "range" = some none)
    (z_sorted:PySem.W.nsIn K mainGlobals "sorted" = some none)
    (z_str:PySem.W.nsIn K mainGlobals "str" = some none)
    (z_tuple:PySem.W.nsIn K mainGlobals "tuple" = some none) :
    ∃ a,Txt K mg a :=
  ⟨⟨C_Late,C_Lending,C_Row,f1,(PySem.W.fnOf "__init__" "Late.__init__" (defArgs s_Late___init__) (defBody s_Late___init__) (defScope s_Late___init__) .none kV1 dc1 pm1 an1 cd1 ct1),f2,(PySem.W.fnOf "__init__" "Lending.__init__" (defArgs s_Lending___init__) (defBody s_Lending___init__) (defScope s_Lending___init__) (.ref tD2) kV2 dc2 pm2 an2 cd2 ct2),[.int 1 tk2_0],[.int 1 tk2_0],f3,(PySem.W.fnOf "lend" "Lending.lend" (defArgs s_Lending_lend) (defBody s_Lending_lend) (defScope s_Lending_lend) .none kV3 dc3 pm3 an3 cd3 ct3),f4,(PySem.W.fnOf "settle" "Lending.settle" (defArgs s_Lending_settle) (defBody s_Lending_settle) (defScope s_Lending_settle) .none kV4 dc4 pm4 an4 cd4 ct4),f5,(PySem.W.fnOf "set_aside" "Lending.set_aside" (defArgs s_Lending_set_aside) (defBody s_Lending_set_aside) (defScope s_Lending_set_aside) .none kV5 dc5 pm5 an5 cd5 ct5),f6,(PySem.W.fnOf "give_back" "Lending.give_back" (defArgs s_Lending_give_back) (defBody s_Lending_give_back) (defScope s_Lending_give_back) .none kV6 dc6 pm6 an6 cd6 ct6),f7,(PySem.W.fnOf "let_go" "Lending.let_go" (defArgs s_Lending_let_go) (defBody s_Lending_let_go) (defScope s_Lending_let_go) .none kV7 dc7 pm7 an7 cd7 ct7),f8,(PySem.W.fnOf "call_back" "Lending.call_back" (defArgs s_Lending_call_back) (defBody s_Lending_call_back) (defScope s_Lending_call_back) .none kV8 dc8 pm8 an8 cd8 ct8),f9,(PySem.W.fnOf "place_of" "Lending.place_of" (defArgs s_Lending_place_of) (defBody s_Lending_place_of) (defScope s_Lending_place_of) .none kV9 dc9 pm9 an9 cd9 ct9),f10,(PySem.W.fnOf "loan_at" "Lending.loan_at" (defArgs s_Lending_loan_at) (defBody s_Lending_loan_at) (defScope s_Lending_loan_at) .none kV10 dc10 pm10 an10 cd10 ct10),f11,(PySem.W.fnOf "tried_at" "Lending.tried_at" (defArgs s_Lending_tried_at) (defBody s_Lending_tried_at) (defScope s_Lending_tried_at) .none kV11 dc11 pm11 an11 cd11 ct11),f12,(PySem.W.fnOf "fate_at" "Lending.fate_at" (defArgs s_Lending_fate_at) (defBody s_Lending_fate_at) (defScope s_Lending_fate_at) .none kV12 dc12 pm12 an12 cd12 ct12),f13,(PySem.W.fnOf "places_without_fate" "Lending.places_without_fate" (defArgs s_Lending_places_without_fate) (defBody s_Lending_places_without_fate) (defScope s_Lending_places_without_fate) .none kV13 dc13 pm13 an13 cd13 ct13),f14,(PySem.W.fnOf "mark_in" "Lending.mark_in" (defArgs s_Lending_mark_in) (defBody s_Lending_mark_in) (defScope s_Lending_mark_in) .none kV14 dc14 pm14 an14 cd14 ct14),f15,(PySem.W.fnOf "is_lent" "Lending.is_lent" (defArgs s_Lending_is_lent) (defBody s_Lending_is_lent) (defScope s_Lending_is_lent) .none kV15 dc15 pm15 an15 cd15 ct15),f16,(PySem.W.fnOf "due_in" "Lending.due_in" (defArgs s_Lending_due_in) (defBody s_Lending_due_in) (defScope s_Lending_due_in) .none kV16 dc16 pm16 an16 cd16 ct16),f17,(PySem.W.fnOf "__init__" "Row.__init__" (defArgs s_Row___init__) (defBody s_Row___init__) (defScope s_Row___init__) .none kV17 dc17 pm17 an17 cd17 ct17),f18,(PySem.W.fnOf "add" "Row.add" (defArgs s_Row_add) (defBody s_Row_add) (defScope s_Row_add) (.ref tD18) kV18 dc18 pm18 an18 cd18 ct18),[.int 0 tk18_0],[.int 0 tk18_0],f19,(PySem.W.fnOf "at" "Row.at" (defArgs s_Row_at) (defBody s_Row_at) (defScope s_Row_at) .none kV19 dc19 pm19 an19 cd19 ct19),f20,(PySem.W.fnOf "seen" "Row.seen" (defArgs s_Row_seen) (defBody s_Row_seen) (defScope s_Row_seen) .none kV20 dc20 pm20 an20 cd20 ct20),f21,(PySem.W.fnOf "_law_cell_at" "_law_cell_at" (defArgs s_l_cell_at) (defBody s_l_cell_at) (defScope s_l_cell_at) .none kV21 dc21 pm21 an21 cd21 ct21),f22,(PySem.W.fnOf "_law_many" "_law_many" (defArgs s_l_many) (defBody s_l_many) (defScope s_l_many) .none kV22 dc22 pm22 an22 cd22 ct22),f23,(PySem.W.fnOf "_law_whole" "_law_whole" (defArgs s_l_whole) (defBody s_l_whole) (defScope s_l_whole) .none kV23 dc23 pm23 an23 cd23 ct23),f24,(PySem.W.fnOf "_law_names" "_law_names" (defArgs s_l_names) (defBody s_l_names) (defScope s_l_names) .none kV24 dc24 pm24 an24 cd24 ct24),f25,(PySem.W.fnOf "_law_runs" "_law_runs" (defArgs s_l_runs) (defBody s_l_runs) (defScope s_l_runs) .none kV25 dc25 pm25 an25 cd25 ct25),f26,(PySem.W.fnOf "_law_open" "_law_open" (defArgs s_l_open) (defBody s_l_open) (defScope s_l_open) .none kV26 dc26 pm26 an26 cd26 ct26),f27,(PySem.W.fnOf "_law_good" "_law_good" (defArgs s_l_good) (defBody s_l_good) (defScope s_l_good) .none kV27 dc27 pm27 an27 cd27 ct27),f28,(PySem.W.fnOf "_law_take" "_law_take" (defArgs s_l_take) (defBody s_l_take) (defScope s_l_take) .none kV28 dc28 pm28 an28 cd28 ct28),f29,(PySem.W.fnOf "_law_found" "_law_found" (defArgs s_l_found) (defBody s_l_found) (defScope s_l_found) .none kV29 dc29 pm29 an29 cd29 ct29),f30,(PySem.W.fnOf "_law_answer" "_law_answer" (defArgs s_l_answer) (defBody s_l_answer) (defScope s_l_answer) .none kV30 dc30 pm30 an30 cd30 ct30),f31,(PySem.W.fnOf "_law_gone" "_law_gone" (defArgs s_l_gone) (defBody s_l_gone) (defScope s_l_gone) .none kV31 dc31 pm31 an31 cd31 ct31),f32,(PySem.W.fnOf "_law_deed" "_law_deed" (defArgs s_l_deed) (defBody s_l_deed) (defScope s_l_deed) .none kV32 dc32 pm32 an32 cd32 ct32),f33,(PySem.W.fnOf "_law_end" "_law_end" (defArgs s_l_end) (defBody s_l_end) (defScope s_l_end) .none kV33 dc33 pm33 an33 cd33 ct33),f34,(PySem.W.fnOf "law" "law" (defArgs s_law) (defBody s_law) (defScope s_law) .none kV34 dc34 pm34 an34 cd34 ct34)⟩,{
    F_Late___init__:=fun_mk (st:=s_Late___init__) l1 c1 k1,
    b_Late___init__:=((fun_mk (st:=s_Late___init__) l1 c1 k1).binds (fun _ _ _ _ _ _=>el3 fun _ _ _=>rfl)),
    F_Lending___init__:=(funD_mk (st:=s_Lending___init__) (items:=[.int 1 tk2_0]) l2 c2 k2 dl2),
    b_Lending___init__:=(FunD.binds [] 6 rfl (funD_mk (st:=s_Lending___init__) (items:=[.int 1 tk2_0]) l2 c2 k2 dl2) (fun _ _ _ _ _ _ _=>el6 fun _ _ _ _ _ _=>⟨_,rfl,rfl⟩)),
    b1_Lending___init__:=(FunD.binds [.int 1 tk2_0] 5 rfl (funD_mk (st:=s_Lending___init__) (items:=[.int 1 tk2_0]) l2 c2 k2 dl2) (fun _ _ _ _ _ _ _=>el5 fun _ _ _ _ _=>⟨_,rfl,rfl⟩)),
    v1_Lending___init__:=(.cons ⟨_,rfl⟩ .nil),
    M_Lending_lend:=⟨a3,i3,k3⟩,
    F_Lending_lend:=fun_mk (st:=s_Lending_lend) l3 c3 k3,
    b_Lending_lend:=((fun_mk (st:=s_Lending_lend) l3 c3 k3).binds (fun _ _ _ _ _ _=>el4 fun _ _ _ _=>rfl)),
    M_Lending_settle:=⟨a4,i4,k4⟩,
    F_Lending_settle:=fun_mk (st:=s_Lending_settle) l4 c4 k4,
    b_Lending_settle:=((fun_mk (st:=s_Lending_settle) l4 c4 k4).binds (fun _ _ _ _ _ _=>el2 fun _ _=>rfl)),
    M_Lending_set_aside:=⟨a5,i5,k5⟩,
    F_Lending_set_aside:=fun_mk (st:=s_Lending_set_aside) l5 c5 k5,
    b_Lending_set_aside:=((fun_mk (st:=s_Lending_set_aside) l5 c5 k5).binds (fun _ _ _ _ _ _=>el2 fun _ _=>rfl)),
    M_Lending_give_back:=⟨a6,i6,k6⟩,
    F_Lending_give_back:=fun_mk (st:=s_Lending_give_back) l6 c6 k6,
    b_Lending_give_back:=((fun_mk (st:=s_Lending_give_back) l6 c6 k6).binds (fun _ _ _ _ _ _=>el2 fun _ _=>rfl)),
    M_Lending_let_go:=⟨a7,i7,k7⟩,
    F_Lending_let_go:=fun_mk (st:=s_Lending_let_go) l7 c7 k7,
    b_Lending_let_go:=((fun_mk (st:=s_Lending_let_go) l7 c7 k7).binds (fun _ _ _ _ _ _=>el2 fun _ _=>rfl)),
    M_Lending_call_back:=⟨a8,i8,k8⟩,
    F_Lending_call_back:=fun_mk (st:=s_Lending_call_back) l8 c8 k8,
    b_Lending_call_back:=((fun_mk (st:=s_Lending_call_back) l8 c8 k8).binds (fun _ _ _ _ _ _=>el1 fun _=>rfl)),
    M_Lending_place_of:=⟨a9,i9,k9⟩,
    F_Lending_place_of:=fun_mk (st:=s_Lending_place_of) l9 c9 k9,
    b_Lending_place_of:=((fun_mk (st:=s_Lending_place_of) l9 c9 k9).binds (fun _ _ _ _ _ _=>el3 fun _ _ _=>rfl)),
    M_Lending_loan_at:=⟨a10,i10,k10⟩,
    F_Lending_loan_at:=fun_mk (st:=s_Lending_loan_at) l10 c10 k10,
    b_Lending_loan_at:=((fun_mk (st:=s_Lending_loan_at) l10 c10 k10).binds (fun _ _ _ _ _ _=>el2 fun _ _=>rfl)),
    M_Lending_tried_at:=⟨a11,i11,k11⟩,
    F_Lending_tried_at:=fun_mk (st:=s_Lending_tried_at) l11 c11 k11,
    b_Lending_tried_at:=((fun_mk (st:=s_Lending_tried_at) l11 c11 k11).binds (fun _ _ _ _ _ _=>el2 fun _ _=>rfl)),
    M_Lending_fate_at:=⟨a12,i12,k12⟩,
    F_Lending_fate_at:=fun_mk (st:=s_Lending_fate_at) l12 c12 k12,
    b_Lending_fate_at:=((fun_mk (st:=s_Lending_fate_at) l12 c12 k12).binds (fun _ _ _ _ _ _=>el2 fun _ _=>rfl)),
    M_Lending_places_without_fate:=⟨a13,i13,k13⟩,
    F_Lending_places_without_fate:=fun_mk (st:=s_Lending_places_without_fate) l13 c13 k13,
    b_Lending_places_without_fate:=((fun_mk (st:=s_Lending_places_without_fate) l13 c13 k13).binds (fun _ _ _ _ _ _=>el3 fun _ _ _=>rfl)),
    M_Lending_mark_in:=⟨a14,i14,k14⟩,
    F_Lending_mark_in:=fun_mk (st:=s_Lending_mark_in) l14 c14 k14,
    b_Lending_mark_in:=((fun_mk (st:=s_Lending_mark_in) l14 c14 k14).binds (fun _ _ _ _ _ _=>el3 fun _ _ _=>rfl)),
    M_Lending_is_lent:=⟨a15,i15,k15⟩,
    F_Lending_is_lent:=fun_mk (st:=s_Lending_is_lent) l15 c15 k15,
    b_Lending_is_lent:=((fun_mk (st:=s_Lending_is_lent) l15 c15 k15).binds (fun _ _ _ _ _ _=>el3 fun _ _ _=>rfl)),
    M_Lending_due_in:=⟨a16,i16,k16⟩,
    F_Lending_due_in:=fun_mk (st:=s_Lending_due_in) l16 c16 k16,
    b_Lending_due_in:=((fun_mk (st:=s_Lending_due_in) l16 c16 k16).binds (fun _ _ _ _ _ _=>el4 fun _ _ _ _=>rfl)),
    F_Row___init__:=fun_mk (st:=s_Row___init__) l17 c17 k17,
    b_Row___init__:=((fun_mk (st:=s_Row___init__) l17 c17 k17).binds (fun _ _ _ _ _ _=>el1 fun _=>rfl)),
    M_Row_add:=⟨a18,i18,k18⟩,
    F_Row_add:=(funD_mk (st:=s_Row_add) (items:=[.int 0 tk18_0]) l18 c18 k18 dl18),
    b_Row_add:=(FunD.binds [] 4 rfl (funD_mk (st:=s_Row_add) (items:=[.int 0 tk18_0]) l18 c18 k18 dl18) (fun _ _ _ _ _ _ _=>el4 fun _ _ _ _=>⟨_,rfl,rfl⟩)),
    b1_Row_add:=(FunD.binds [.int 0 tk18_0] 3 rfl (funD_mk (st:=s_Row_add) (items:=[.int 0 tk18_0]) l18 c18 k18 dl18) (fun _ _ _ _ _ _ _=>el3 fun _ _ _=>⟨_,rfl,rfl⟩)),
    v1_Row_add:=(.cons ⟨_,rfl⟩ .nil),
    M_Row_at:=⟨a19,i19,k19⟩,
    F_Row_at:=fun_mk (st:=s_Row_at) l19 c19 k19,
    b_Row_at:=((fun_mk (st:=s_Row_at) l19 c19 k19).binds (fun _ _ _ _ _ _=>el2 fun _ _=>rfl)),
    M_Row_seen:=⟨a20,i20,k20⟩,
    F_Row_seen:=fun_mk (st:=s_Row_seen) l20 c20 k20,
    b_Row_seen:=((fun_mk (st:=s_Row_seen) l20 c20 k20).binds (fun _ _ _ _ _ _=>el4 fun _ _ _ _=>rfl)),
    m_l_cell_at:=PySem.W.mg_of X G a21,
    F_l_cell_at:=fun_mk (st:=s_l_cell_at) l21 c21 k21,
    b_l_cell_at:=((fun_mk (st:=s_l_cell_at) l21 c21 k21).binds (fun _ _ _ _ _ _=>el2 fun _ _=>rfl)),
    m_l_many:=PySem.W.mg_of X G a22,
    F_l_many:=fun_mk (st:=s_l_many) l22 c22 k22,
    b_l_many:=((fun_mk (st:=s_l_many) l22 c22 k22).binds (fun _ _ _ _ _ _=>el3 fun _ _ _=>rfl)),
    m_l_whole:=PySem.W.mg_of X G a23,
    F_l_whole:=fun_mk (st:=s_l_whole) l23 c23 k23,
    b_l_whole:=((fun_mk (st:=s_l_whole) l23 c23 k23).binds (fun _ _ _ _ _ _=>el2 fun _ _=>rfl)),
    m_l_names:=PySem.W.mg_of X G a24,
    F_l_names:=fun_mk (st:=s_l_names) l24 c24 k24,
    b_l_names:=((fun_mk (st:=s_l_names) l24 c24 k24).binds (fun _ _ _ _ _ _=>el3 fun _ _ _=>rfl)),
    m_l_runs:=PySem.W.mg_of X G a25,
    F_l_runs:=fun_mk (st:=s_l_runs) l25 c25 k25,
    b_l_runs:=((fun_mk (st:=s_l_runs) l25 c25 k25).binds (fun _ _ _ _ _ _=>el2 fun _ _=>rfl)),
    m_l_open:=PySem.W.mg_of X G a26,
    F_l_open:=fun_mk (st:=s_l_open) l26 c26 k26,
    b_l_open:=((fun_mk (st:=s_l_open) l26 c26 k26).binds (fun _ _ _ _ _ _=>el3 fun _ _ _=>rfl)),
    m_l_good:=PySem.W.mg_of X G a27,
    F_l_good:=fun_mk (st:=s_l_good) l27 c27 k27,
    b_l_good:=((fun_mk (st:=s_l_good) l27 c27 k27).binds (fun _ _ _ _ _ _=>el4 fun _ _ _ _=>rfl)),
    m_l_take:=PySem.W.mg_of X G a28,
    F_l_take:=fun_mk (st:=s_l_take) l28 c28 k28,
    b_l_take:=((fun_mk (st:=s_l_take) l28 c28 k28).binds (fun _ _ _ _ _ _=>el5 fun _ _ _ _ _=>rfl)),
    m_l_found:=PySem.W.mg_of X G a29,
    F_l_found:=fun_mk (st:=s_l_found) l29 c29 k29,
    b_l_found:=((fun_mk (st:=s_l_found) l29 c29 k29).binds (fun _ _ _ _ _ _=>el3 fun _ _ _=>rfl)),
    m_l_answer:=PySem.W.mg_of X G a30,
    F_l_answer:=fun_mk (st:=s_l_answer) l30 c30 k30,
    b_l_answer:=((fun_mk (st:=s_l_answer) l30 c30 k30).binds (fun _ _ _ _ _ _=>el4 fun _ _ _ _=>rfl)),
    m_l_gone:=PySem.W.mg_of X G a31,
    F_l_gone:=fun_mk (st:=s_l_gone) l31 c31 k31,
    b_l_gone:=((fun_mk (st:=s_l_gone) l31 c31 k31).binds (fun _ _ _ _ _ _=>el3 fun _ _ _=>rfl)),
    m_l_deed:=PySem.W.mg_of X G a32,
    F_l_deed:=fun_mk (st:=s_l_deed) l32 c32 k32,
    b_l_deed:=((fun_mk (st:=s_l_deed) l32 c32 k32).binds (fun _ _ _ _ _ _=>el6 fun _ _ _ _ _ _=>rfl)),
    m_l_end:=PySem.W.mg_of X G a33,
    F_l_end:=fun_mk (st:=s_l_end) l33 c33 k33,
    b_l_end:=((fun_mk (st:=s_l_end) l33 c33 k33).binds (fun _ _ _ _ _ _=>el5 fun _ _ _ _ _=>rfl)),
    m_law:=PySem.W.mg_of X G a34,
    F_law:=fun_mk (st:=s_law) l34 c34 k34,
    b_law:=((fun_mk (st:=s_law) l34 c34 k34).binds (fun _ _ _ _ _ _=>el1 fun _=>rfl)),
    cl_Lending:=⟨pg_Lending,hd_Lending,po_Lending,sa_Lending⟩,
    mg_Lending:=PySem.W.mg_of X G aC_Lending,
    k_Lending:=⟨mk_Lending,a2,i2,kc_Lending⟩,
    no_Lending_fates:=no_Lending_fates,
    no_Lending_lent:=no_Lending_lent,
    no_Lending_loans:=no_Lending_loans,
    no_Lending_row:=no_Lending_row,
    no_Lending_start:=no_Lending_start,
    no_Lending_tried:=no_Lending_tried,
    no_Lending_tries:=no_Lending_tries,
    no_Lending_turns:=no_Lending_turns,
    no_Lending_width:=no_Lending_width,
    cl_Row:=⟨pg_Row,hd_Row,po_Row,sa_Row⟩,
    mg_Row:=PySem.W.mg_of X G aC_Row,
    k_Row:=⟨mk_Row,a17,i17,kc_Row⟩,
    no_Row_drawn:=no_Row_drawn,
    no_Row_end:=no_Row_end,
    no_Row_first:=no_Row_first,
    no_Row_letters:=no_Row_letters,
    mg_Late:=PySem.W.mg_of X G aC_Late,
    x_Late:=⟨xx_Late,kc_Late,sa_Late,ga_Late,gn_Late,hd_Late⟩,
    xi_Late:=a1,
    xf_Late:=i1,
    no_Late_loan:=no_Late_loan,
    no_Late_row:=no_Late_row,
    em_Late_Late:=em_Late_Late,
    n_bool:=PySem.W.mg_none_of X G z_bool,
    n_int:=PySem.W.mg_none_of X G z_int,
    n_isinstance:=PySem.W.mg_none_of X G z_isinstance,
    n_len:=PySem.W.mg_none_of X G z_len,
    n_list:=PySem.W.mg_none_of X G z_list,
    n_max:=PySem.W.mg_none_of X G z_max,
    n_min:=PySem.W.mg_none_of X G z_min,
    n_range:=PySem.W.mg_none_of X G z_range,
    n_sorted:=PySem.W.mg_none_of X G z_sorted,
    n_str:=PySem.W.mg_none_of X G z_str,
    n_tuple:=PySem.W.mg_none_of X G z_tuple,
    bl_law:=fun s u=>.of_eq rfl }⟩
theorem walk {l:PySem.W.OpenLaw} {q:Program} {loose:List Str} {XP:(Str→Option Value)→Heap→Prop} {YP:World→Heap→Prop} {d:DefRec} {K:Params→PySem.W.Frag} (hn:l.most=some 63) (hdf:d.params.defaults=[])
    (hY:∀ (w:World) (h:Heap),YP w h→(K w.params).In h)
    (F:∀ (w:World) (mg:Str→Option Value) (fa:Addr) (h:Heap),(K w.params).In h→h.Ns mainGlobals mg→mg d.name=some (.ref fa) →
      ∃ fd:FuncData,(∀ (s:Shared) (u:Value),BindsTo s fd ⟨[u],[]⟩ [("_law_script",u)])∧∀ base:Heap,(K w.params).In base→base.Ns mainGlobals mg→FnOk l.prog w (K w.params) mg base CX0 7 fa fd ["_law_script"] (sp_law (K w.params))) :
    PySem.W.WalkO q loose XP YP l.row.toRowW d [] (fun f vs=>PySem.call f vs) :=
  L2.walk_of (n:=63) (k:=7) (x := "_law_script") (CX:=fun _=>CX0) (sp:=fun w=>sp_law (K w.params)) hn (by decide) hdf ⟨rfl,by decide,by decide⟩ hY F (fun _ _ a ns hl _ hS=>⟨a,ns,rfl,hS,hl,fun _=>rfl⟩) fun _ _ _ _ _ z=>z
end K39
def PySem.W.Fast.tw8664641438617100253:Unit:=()
def PySem.W.Fast.tw16947506554427943963:Unit:=()
def PySem.W.Fast.tw3040017425707319462:Unit:=()
def PySem.W.Fast.tw12314291314646470960:Unit:=()
def PySem.W.Fast.tw11807252947314906700:Unit:=()
def PySem.W.Fast.tw5873214132125595013:Unit:=()
def PySem.W.Fast.tw1584455672575516659:Unit:=()
def PySem.W.Fast.tw14559732270144358286:Unit:=()
def PySem.W.Fast.tw6727978928725166351:Unit:=()
def PySem.W.Fast.tw13580604353013278799:Unit:=()
def PySem.W.Fast.tw3414507620911092775:Unit:=()
def PySem.W.Fast.tw3953720949902677391:Unit:=()
def PySem.W.Fast.tw16604431933341510713:Unit:=()
def PySem.W.Fast.tw5202896080984702950:Unit:=()
def PySem.W.Fast.tw6217181838458084750:Unit:=()
def PySem.W.Fast.tw13546329125184502187:Unit:=()
def PySem.W.Fast.tw15215913314717684586:Unit:=()
def PySem.W.Fast.tw17244647749978485751:Unit:=()
def PySem.W.Fast.tw1920498681955502197:Unit:=()
def PySem.W.Fast.tw229761663061485500:Unit:=()
def PySem.W.Fast.tw5850417934112016250:Unit:=()
def PySem.W.Fast.tw16688075097421693826:Unit:=()
def PySem.W.Fast.tw5373216635556769353:Unit:=()
def PySem.W.Fast.tw1528845129567447673:Unit:=()
def PySem.W.Fast.tw4902292583139151160:Unit:=()

open PySem PySem.W PyProof.Rows
set_option maxRecDepth 100000 in
set_option maxHeartbeats 0 in
theorem PySem.Challenge.cw_lettercell_k39_whole_lending_holds : PySem.Challenge.rw_lettercell_k39_whole_lending.Holds := by
  w_on;o_law;k_head;(case hw=>w_witness2)
  k_fill
  refine K39.walk (l:=PySem.Challenge.rw_lettercell_k39_whole_lending) rfl rfl (fun w h Y=>PySem.W.kIn_of Y) ?F
  case F =>
    intro w mg fa h KX G hmg
    have T:∃ t,K39.Txt (L2.KOf KX) mg t:=by
      dsimp only [L2.KOf]
      refine' K39.txt_mk KX G ?a1 ?i1 ?l1 ?c1 ?k1 ?a2 ?i2 ?l2 ?c2 ?k2 ?dl2 ?a3 ?i3 ?l3 ?c3 ?k3 ?a4 ?i4 ?l4 ?c4 ?k4 ?a5 ?i5 ?l5 ?c5 ?k5 ?a6 ?i6 ?l6 ?c6 ?k6 ?a7 ?i7 ?l7 ?c7 ?k7 ?a8 ?i8 ?l8 ?c8 ?k8 ?a9 ?i9 ?l9 ?c9 ?k9 ?a10 ?i10 ?l10 ?c10 ?k10 ?a11 ?i11 ?l11 ?c11 ?k11 ?a12 ?i12 ?l12 ?c12 ?k12 ?a13 ?i13 ?l13 ?c13 ?k13 ?a14 ?i14 ?l14 ?c14 ?k14 ?a15 ?i15 ?l15 ?c15 ?k15 ?a16 ?i16 ?l16 ?c16 ?k16 ?a17 ?i17 ?l17 ?c17 ?k17 ?a18 ?i18 ?l18 ?c18 ?k18 ?dl18 ?a19 ?i19 ?l19 ?c19 ?k19 ?a20 ?i20 ?l20 ?c20 ?k20 ?a21 ?l21 ?c21 ?k21 ?a22 ?l22 ?c22 ?k22 ?a23 ?l23 ?c23 ?k23 ?a24 ?l24 ?c24 ?k24 ?a25 ?l25 ?c25 ?k25 ?a26 ?l26 ?c26 ?k26 ?a27 ?l27 ?c27 ?k27 ?a28 ?l28 ?c28 ?k28 ?a29 ?l29 ?c29 ?k29 ?a30 ?l30 ?c30 ?k30 ?a31 ?l31 ?c31 ?k31 ?a32 ?l32 ?c32 ?k32 ?a33 ?l33 ?c33 ?k33 ?a34 ?l34 ?c34 ?k34 ?aC_Lending ?pg_Lending ?hd_Lending ?po_Lending ?sa_Lending ?mk_Lending ?kc_Lending ?no_Lending_fates ?no_Lending_lent ?no_Lending_loans ?no_Lending_row ?no_Lending_start ?no_Lending_tried ?no_Lending_tries ?no_Lending_turns ?no_Lending_width ?aC_Row ?pg_Row ?hd_Row ?po_Row ?sa_Row ?mk_Row ?kc_Row ?no_Row_drawn ?no_Row_end ?no_Row_first ?no_Row_letters ?aC_Late ?xx_Late ?kc_Late ?sa_Late ?ga_Late ?gn_Late ?hd_Late ?no_Late_loan ?no_Late_row ?em_Late_Late ?z_bool ?z_int ?z_isinstance ?z_len ?z_list ?z_max ?z_min ?z_range ?z_sorted ?z_str ?z_tuple
      (case aC_Late=>k_is)
      (case aC_Row=>k_is)
      (case aC_Lending=>k_is)
      (case a1=>k_is)
      (case i1=>k_is)
      (case l1=>k_is)
      (case c1=>k_is)
      (case k1=>k_is)
      (case a2=>k_is)
      (case i2=>k_is)
      (case l2=>k_is)
      (case c2=>k_is)
      (case k2=>k_is)
      (case dl2=>k_is)
      (case a3=>k_is)
      (case i3=>k_is)
      (case l3=>k_is)
      (case c3=>k_is)
      (case k3=>k_is)
      (case a4=>k_is)
      (case i4=>k_is)
      (case l4=>k_is)
      (case c4=>k_is)
      (case k4=>k_is)
      (case a5=>k_is)
      (case i5=>k_is)
      (case l5=>k_is)
      (case c5=>k_is)
      (case k5=>k_is)
      (case a6=>k_is)
      (case i6=>k_is)
      (case l6=>k_is)
      (case c6=>k_is)
      (case k6=>k_is)
      (case a7=>k_is)
      (case i7=>k_is)
      (case l7=>k_is)
      (case c7=>k_is)
      (case k7=>k_is)
      (case a8=>k_is)
      (case i8=>k_is)
      (case l8=>k_is)
      (case c8=>k_is)
      (case k8=>k_is)
      (case a9=>k_is)
      (case i9=>k_is)
      (case l9=>k_is)
      (case c9=>k_is)
      (case k9=>k_is)
      (case a10=>k_is)
      (case i10=>k_is)
      (case l10=>k_is)
      (case c10=>k_is)
      (case k10=>k_is)
      (case a11=>k_is)
      (case i11=>k_is)
      (case l11=>k_is)
      (case c11=>k_is)
      (case k11=>k_is)
      (case a12=>k_is)
      (case i12=>k_is)
      (case l12=>k_is)
      (case c12=>k_is)
      (case k12=>k_is)
      (case a13=>k_is)
      (case i13=>k_is)
      (case l13=>k_is)
      (case c13=>k_is)
      (case k13=>k_is)
      (case a14=>k_is)
      (case i14=>k_is)
      (case l14=>k_is)
      (case c14=>k_is)
      (case k14=>k_is)
      (case a15=>k_is)
      (case i15=>k_is)
      (case l15=>k_is)
      (case c15=>k_is)
      (case k15=>k_is)
      (case a16=>k_is)
      (case i16=>k_is)
      (case l16=>k_is)
      (case c16=>k_is)
      (case k16=>k_is)
      (case a17=>k_is)
      (case i17=>k_is)
      (case l17=>k_is)
      (case c17=>k_is)
      (case k17=>k_is)
      (case a18=>k_is)
      (case i18=>k_is)
      (case l18=>k_is)
      (case c18=>k_is)
      (case k18=>k_is)
      (case dl18=>k_is)
      (case a19=>k_is)
      (case i19=>k_is)
      (case l19=>k_is)
      (case c19=>k_is)
      (case k19=>k_is)
      (case a20=>k_is)
      (case i20=>k_is)
      (case l20=>k_is)
      (case c20=>k_is)
      (case k20=>k_is)
      (case a21=>k_is)
      (case l21=>k_is)
      (case c21=>k_is)
      (case k21=>k_is)
      (case a22=>k_is)
      (case l22=>k_is)
      (case c22=>k_is)
      (case k22=>k_is)
      (case a23=>k_is)
      (case l23=>k_is)
      (case c23=>k_is)
      (case k23=>k_is)
      (case a24=>k_is)
      (case l24=>k_is)
      (case c24=>k_is)
      (case k24=>k_is)
      (case a25=>k_is)
      (case l25=>k_is)
      (case c25=>k_is)
      (case k25=>k_is)
      (case a26=>k_is)
      (case l26=>k_is)
      (case c26=>k_is)
      (case k26=>k_is)
      (case a27=>k_is)
      (case l27=>k_is)
      (case c27=>k_is)
      (case k27=>k_is)
      (case a28=>k_is)
      (case l28=>k_is)
      (case c28=>k_is)
      (case k28=>k_is)
      (case a29=>k_is)
      (case l29=>k_is)
      (case c29=>k_is)
      (case k29=>k_is)
      (case a30=>k_is)
      (case l30=>k_is)
      (case c30=>k_is)
      (case k30=>k_is)
      (case a31=>k_is)
      (case l31=>k_is)
      (case c31=>k_is)
      (case k31=>k_is)
      (case a32=>k_is)
      (case l32=>k_is)
      (case c32=>k_is)
      (case k32=>k_is)
      (case a33=>k_is)
      (case l33=>k_is)
      (case c33=>k_is)
      (case k33=>k_is)
      (case a34=>k_is)
      (case l34=>k_is)
      (case c34=>k_is)
      (case k34=>k_is)
      (case pg_Lending=>k_is)
      (case hd_Lending=>k_is)
      (case po_Lending=>k_is)
      (case sa_Lending=>k_is)
      (case mk_Lending=>k_is)
      (case kc_Lending=>k_is)
      (case no_Lending_fates=>k_is)
      (case no_Lending_lent=>k_is)
      (case no_Lending_loans=>k_is)
      (case no_Lending_row=>k_is)
      (case no_Lending_start=>k_is)
      (case no_Lending_tried=>k_is)
      (case no_Lending_tries=>k_is)
      (case no_Lending_turns=>k_is)
      (case no_Lending_width=>k_is)
      (case pg_Row=>k_is)
      (case hd_Row=>k_is)
      (case po_Row=>k_is)
      (case sa_Row=>k_is)
      (case mk_Row=>k_is)
      (case kc_Row=>k_is)
      (case no_Row_drawn=>k_is)
      (case no_Row_end=>k_is)
      (case no_Row_first=>k_is)
      (case no_Row_letters=>k_is)
      (case xx_Late=>kernel_rfl)
      (case kc_Late=>k_is)
      (case sa_Late=>k_is)
      (case ga_Late=>k_is)
      (case gn_Late=>k_is)
      (case hd_Late=>k_is)
      (case no_Late_loan=>k_is)
      (case no_Late_row=>k_is)
      (case em_Late_Late=>kernel_rfl)
      (case z_bool=>k_is)
      (case z_int=>k_is)
      (case z_isinstance=>k_is)
      (case z_len=>k_is)
      (case z_list=>k_is)
      (case z_max=>k_is)
      (case z_min=>k_is)
      (case z_range=>k_is)
      (case z_sorted=>k_is)
      (case z_str=>k_is)
      (case z_tuple=>k_is)
    obtain ⟨t,T⟩:=T
    have e0:=hmg.symm.trans T.m_law
    cases e0
    exact ⟨_,T.bl_law,fun base kb nb=>K39.ok_law T⟩
#print axioms PySem.Challenge.cw_lettercell_k39_whole_lending_holds

