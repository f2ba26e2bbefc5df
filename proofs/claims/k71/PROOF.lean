import PyProof.Rows.All
import OpenK.KLine
import Wide.FinOn
import KE.BitLaws
import KE.IntTextLaws
import KE.KDictList
import KE.KDictOf
import KE.KDictSum
import KE.KEqDict
import KE.KFromBytes
import KE.KIntText
import KE.KIsAll
import KE.KItem
import KE.KPairComp
import KE.KRevIter
import KE.KTryMore
import KE.KxBytes
import KE.LcSums
import OpenK.KRaise
import PyProof.EqAt
import PyProof.EqKinds
import PyProof.TupleCall
import PyProof.StationsW
import PyProof.ExcBaseAll.ValueError
import PyProof.ExcInit
import PyProof.InstStoreFacts
import PyProof.NsDelKeeps
import PyProof.StrLawsReplace
import PyProof.StrLawsTight
import PyProof.StrReplace2
import PyProof.Rows.StrIntSpec
import PyProof.EnumMake
import PyProof.Rows.CallKwBuiltin
import PyProof.TupleIter
import PySem.Challenge.RW_lettercell_k71_letters_put_and_read
section
open PySem PySem.W PyProof.Rows
set_option Elab.async false
set_option linter.all false
set_option maxRecDepth 1000000
open Lean in
local macro_rules | `(command| #print $l:str) => do
  let "shut" :: n :: p :: ss := l.getString.splitOn " " | Macro.throwUnsupported
  let hs := (`looseL).hash :: ((List.range n.toNat!).map fun i => ((`hdW).str s!"o_{i}").hash) ++ (ss.map fun s => ((`hdW).str s).hash) ++ ["pw_", "rw_"].map fun s => ((`PySem.Challenge).str (s ++ p)).hash
  let ds ← hs.toArray.mapM fun h => `(Parser.Term.letRecDecl| $(mkIdent (.mkSimple s!"tw{h}")):ident : True := trivial)
  `(command| theorem $(mkIdent `PySem.W.Fast) : True := trivial where $[$ds:letRecDecl];*)
#print "shut 2654 lettercell_k71_letters_put_and_read tree_47 tree_77 tree_92 tree_114 tree_136 tree_151 tree_173 tree_195 tree_217 tree_232 tree_254 tree_276 tree_291 tree_313 tree_335 tree_350 tree_372 tree_394 tree_416 tree_464 tree_488 tree_575 tree_668 tree_684 tree_687 tree_753 tree_837 tree_923 tree_977 tree_1001 tree_1106 tree_1189 tree_1215 tree_1348 tree_1432 tree_1479 tree_1613 tree_1698 tree_1703 tree_1769 tree_1790 tree_1860 tree_1861 tree_1934 tree_1935 tree_2013 tree_2036 tree_2104 tree_2105 tree_2356 tree_2437 tree_2529 tree_2619 tree_2647 heap_39 heap_46 heap_2648 sts_49 sts_78 sts_93 sts_115 sts_137 sts_152 sts_174 sts_196 sts_218 sts_233 sts_255 sts_277 sts_292 sts_314 sts_336 sts_351 sts_373 sts_395 sts_417 sts_465 sts_491 sts_576 sts_669 sts_685 sts_690 sts_754 sts_838 sts_924 sts_978 sts_1002 sts_1193 sts_1216 sts_1436 sts_1480 sts_1702 sts_1704 sts_1770 sts_1791 sts_1861 sts_1863 sts_1935 sts_1937 sts_2014 sts_2037 sts_2105 sts_2107 sts_2533 sts_2620 view_39 env_41"
noncomputable def qL : Program := { PySem.Challenge.pw_lettercell_k71_letters_put_and_read with main := { PySem.Challenge.pw_lettercell_k71_letters_put_and_read.main with body := PySem.Challenge.pw_lettercell_k71_letters_put_and_read.main.body.drop (PySem.Challenge.pw_lettercell_k71_letters_put_and_read.main.body.length - 1) } }
def looseL : List Str := [Str.ofString "_wall", Str.ofString "floor_by", Str.ofString "CellarError", Str.ofString "BadWord", Str.ofString "NoSuch", Str.ofString "Doubled", Str.ofString "SenderError", Str.ofString "Fenced", Str.ofString "Gap", Str.ofString "TooOld", Str.ofString "LoanError", Str.ofString "Late", Str.ofString "Twice", Str.ofString "DeedError", Str.ofString "Busy", Str.ofString "NoDeed", Str.ofString "RowError", Str.ofString "WrongKind", Str.ofString "Needed", Str.ofString "Gone", Str.ofString "Beyond", Str.ofString "guarded", Str.ofString "joined", Str.ofString "sum_of", Str.ofString "line_of", Str.ofString "PARTS", Str.ofString "TEXTS", Str.ofString "word_text", Str.ofString "owner_text", Str.ofString "text_of", Str.ofString "event_of", Str.ofString "body_for", Str.ofString "body_for_shelves", Str.ofString "hail_happens", Str.ofString "put_happens", Str.ofString "begin_happens", Str.ofString "pledge_happens", Str.ofString "close_happens", Str.ofString "drop_happens", Str.ofString "found_happens", Str.ofString "enter_happens", Str.ofString "leave_happens", Str.ofString "deal_happens", Str.ofString "aside_happens", Str.ofString "lend_happens", Str.ofString "answer_happens", Str.ofString "back_happens", Str.ofString "turn_happens", Str.ofString "attach_happens", Str.ofString "advance_happens", Str.ofString "detach_happens", Str.ofString "away_happens", Str.ofString "drawn_happens", Str.ofString "cut_happens", Str.ofString "HAPPENINGS", Str.ofString "happen", Str.ofString "NAME_SIGNS", Str.ofString "NAME_MOST", Str.ofString "KEY_MOST", Str.ofString "WORD_MOST", Str.ofString "PER_CENT", Str.ofString "is_text", Str.ofString "is_sign", Str.ofString "is_name", Str.ofString "is_key", Str.ofString "is_word", Str.ofString "is_whole", Str.ofString "spread", Str.ofString "row_in", Str.ofString "GREATEST", Str.ofString "TURNS_MOST", Str.ofString "LETTERS_MOST", Str.ofString "TRIES_MOST", Str.ofString "WIDTH_MOST", Str.ofString "check_names", Str.ofString "check_wholes", Str.ofString "check_letter", Str.ofString "check_truth", Str.ofString "check_there", Str.ofString "check_group", Str.ofString "check_group_row", Str.ofString "check_kind", Str.ofString "asked_row", Str.ofString "asked_sender", Str.ofString "asked_reader", Str.ofString "hail_act", Str.ofString "put_act", Str.ofString "begin_act", Str.ofString "pledge_act", Str.ofString "close_act", Str.ofString "drop_act", Str.ofString "found_act", Str.ofString "dealt_act", Str.ofString "enter_act", Str.ofString "leave_act", Str.ofString "loan_act", Str.ofString "attach_act", Str.ofString "detach_act", Str.ofString "advance_act", Str.ofString "cut_act", Str.ofString "read_from", Str.ofString "Book", Str.ofString "rows_had", Str.ofString "shares", Str.ofString "rows_kept", Str.ofString "dealt", Str.ofString "moved", Str.ofString "Dealing", Str.ofString "Deed", Str.ofString "Deeds", Str.ofString "is_beneath", Str.ofString "row_not_beneath", Str.ofString "lower", Str.ofString "lower_once", Str.ofString "lowered", Str.ofString "fronts", Str.ofString "Lending", Str.ofString "KINDS", Str.ofString "SHELVES_MOST", Str.ofString "ROWS_MOST", Str.ofString "Row", Str.ofString "is_kind", Str.ofString "is_shelf", Str.ofString "are_shelves", Str.ofString "Shelves", Str.ofString "SPOTS_KEPT", Str.ofString "Senders", Str.ofString "Readers", Str.ofString "Group", Str.ofString "State", Str.ofString "Cellar", Str.ofString "_law_cell_at", Str.ofString "_law_mixed", Str.ofString "_law_sign", Str.ofString "_law_laid_over", Str.ofString "_law_spread", Str.ofString "_law_letter", Str.ofString "_law_names", Str.ofString "_law_keys", Str.ofString "_law_word", Str.ofString "_law_whole", Str.ofString "_law_shelves", Str.ofString "_law_put", Str.ofString "_law_spot", Str.ofString "_law_page", Str.ofString "_law_pages", Str.ofString "_law_nothing"]
theorem chunk_eq {α β γ : Type} {f : α → γ} {g : β → γ} {a : List α} {b : List β} (n : Nat) (h1 : (a.take n).map f = (b.take n).map g) (h2 : (a.drop n).map f = (b.drop n).map g) : a.map f = b.map g := by
  rw [← List.take_append_drop n a, ← List.take_append_drop n b, List.map_append, List.map_append, h1, h2]
local macro_rules
  | `(tactic| refine $t:term) => do
    let a := t.raw
    unless a.getKind == ``Lean.Parser.Term.app do Lean.Macro.throwUnsupported
    let args := a[1].getArgs
    let nameOf (x : Lean.Syntax) : Option Lean.Name := if x.getKind == ``Lean.Parser.Term.namedArgument then some x[1].getId.eraseMacroScopes else none
    let some i := args.findIdx? (nameOf · == some `Yf) | Lean.Macro.throwUnsupported
    let some j := args.findIdx? (nameOf · == some `Ya) | Lean.Macro.throwUnsupported
    let obs : Lean.Term := ⟨args[i]![3]⟩
    let H ← match obs with | `(Hook.obs ($f:ident $k $as $e)) => pure (some (k, as, e)) | `($p:ident ($f:ident $k $as $e)) => pure (some (k, as, e)) | _ => pure none
    let some (k, as, e) := H | Lean.Macro.throwUnsupported
    let rec mk (d : Nat) (leaf : Lean.Term → Lean.MacroM Lean.Term) (x : Lean.Term) : Lean.MacroM Lean.Term := do
      match d with
      | 0 => leaf x
      | d + 1 =>
        let n := Lean.Syntax.mkNumLit (toString (16 * 2 ^ d))
        let l ← mk d leaf (← `(List.take $n $x))
        let r ← mk d leaf (← `(List.drop $n $x))
        `((Prod.mk $l $r))
    let rec pr (d : Nat) (h : Lean.Term) : Lean.MacroM Lean.Term := do
      match d with
      | 0 => pure h
      | d + 1 =>
        let n := Lean.Syntax.mkNumLit (toString (16 * 2 ^ d))
        let l ← pr d (← `(congrArg Prod.fst $h))
        let r ← pr d (← `(congrArg Prod.snd $h))
        `((chunk_eq $n $l $r))
    let dep := 7
    let o ← mk dep (fun x => `(List.map (Shared.heap s).get? $x)) as
    let v ← mk dep (fun x => `(List.map (fun p => some (Prod.snd p)) $x)) (← `($k (World.params w)))
    let p ← pr dep (← `(y))
    let yf ← `(fun (s : Shared) => $o)
    let ya ← `(fun (w : World) => $v)
    let ofT ← `((fun w s y => InK.of $e w s $p))
    let mut out := args
    out := out.set! i ((args[i]!).setArg 3 yf)
    out := out.set! j ((args[j]!).setArg 3 ya)
    let isOf (x : Lean.Syntax) : Bool := match (⟨x⟩ : Lean.Term) with | `(($p:ident $_h)) => p.getId.eraseMacroScopes.toString.endsWith "Hook.of" | `(($p:ident $_h $_b)) => false | _ => false
    let some iq := args.findIdx? (nameOf · == some `q) | Lean.Macro.throwError "no q"
    let some il := args.findIdx? (nameOf · == some `loose) | Lean.Macro.throwError "no loose"
    let qOld := args[iq]![3]
    let lOld := args[il]![3]
    let rep (x : Lean.Syntax) : Lean.Syntax := Id.run (x.replaceM fun y => pure (if y == qOld then some (Lean.mkIdent `qL).raw else if y == lOld then some (Lean.mkIdent `looseL).raw else none))
    out := out.map rep
    let some m := out.findIdx? isOf | Lean.Macro.throwError "no Hook.of"
    out := out.set! m ofT
    out := out.set! (out.size - 1) (Lean.mkIdent `hWalk).raw
    let t' : Lean.Term := ⟨a.setArg 1 (a[1].setArgs out)⟩
    `(tactic| refine $t')
set_option maxHeartbeats 0 in
noncomputable def hdW : PSigma fun P : Prop => (P → PySem.Challenge.rw_lettercell_k71_letters_put_and_read.Holds) := ⟨_, fun hWalk => by
  w_on; o_law; k_head; (case hw => w_witness2)⟩
end
set_option genSizeOf false
set_option bootstrap.genMatcherCode false
set_option Elab.async false
set_option linter.all false
set_option maxHeartbeats 4000000
set_option maxRecDepth 100000
open Lean in
local macro_rules | `(s!$x:interpolatedStr) => do
  let some t := x.raw[0].isInterpolatedStrLit? | Macro.throwUnsupported
  match t with
  | "d" => `(by decide +kernel)
  | "f" => `(⟨rfl, rfl, rfl, by decide +kernel, rfl, by decide +kernel, by decide +kernel⟩)
  | _ => Macro.throwUnsupported
namespace L2
theorem dft0 (h:True:=by first | exact .inl rfl | exact .inr rfl | assumption):True:=h
theorem dft1 (h:True:=by decide):True:=h
theorem dft2 (h:True:=by first | exact nobehind _ (by decide) (by decide) | rfl):True:=h
theorem dft3 (h:True:=by rfl):True:=h
theorem dft4 (h:True:=by intro _;rfl):True:=h
theorem dft5 (h:True:=by with_unfolding_all rfl):True:=h
theorem dft6 (h:True:=by first | exact Or.inl rfl | exact Or.inr (Or.inl rfl) | exact Or.inr (Or.inr rfl)):True:=h
end L2
namespace L2
open PySem PySem.Spec PyProof.Rows
noncomputable abbrev Key:=Sum Int Str
noncomputable def keyIs:Key->Value->Bool
 | .inl k,v=>Value.isInt k v
 | .inr x,v=>Value.isStrOf x v
noncomputable def keyH (w:World):Key->Int
 | .inl k=>hashInt k
 | .inr x=>hashStr w x
theorem bE:∀{k:Key} {v:Value},keyIs k v=true->(∃i t,k=Sum.inl i/\v=Value.int i t)\/(∃x t,k=Sum.inr x/\v=Value.str x t)
 | .inl i,v,h=>by
  obtain⟨t,e⟩:=Value.isInt_shape (k:=i) (v:=v) h
  exact .inl ⟨i,t,rfl,e⟩
 | .inr x,v,h=>by
  obtain⟨t,e⟩:=Value.isStrOf_shape (x:=x) (v:=v) h
  exact .inr ⟨x,t,rfl,e⟩
theorem w9 (i:Int)(t:Tok):keyIs (.inl i) (.int i t)=true:=by simp[keyIs,Value.isInt]
theorem xa (x:Str)(t:Tok):keyIs (.inr x) (.str x t)=true:=by simp[keyIs,Value.isStrOf]
theorem Df (a b:Int):decide ((Sum.inl a:Key)=Sum.inl b)=(a == b):=by
 by_cases e:a=b
 ·subst e;simp
 ·have h:¬(Sum.inl a:Key)=Sum.inl b:=λq=>e (Sum.inl.inj q)
  rw[decide_eq_false h]
  exact(beq_eq_false_iff_ne.mpr e).symm
theorem Dg (a b:Str):decide ((Sum.inr a:Key)=Sum.inr b)=decide (a=b):=by
 by_cases e:a=b
 ·subst e;simp
 ·have h:¬(Sum.inr a:Key)=Sum.inr b:=λq=>e (Sum.inr.inj q)
  rw[decide_eq_false h,decide_eq_false e]
theorem Dh (a:Int)(b:Str):decide ((Sum.inl a:Key)=Sum.inr b)=false:=decide_eq_false (λq=>nomatch q)
theorem Di (a:Str)(b:Int):decide ((Sum.inr a:Key)=Sum.inl b)=false:=decide_eq_false (λq=>nomatch q)
noncomputable def mixKind (prog:Program)(w:World):PySem.KeyKind prog w Key where
 is:=keyIs
 hash:=keyH w
 inj:=λv a b ha hb=>by
  rcases bE ha with⟨i,t,rfl,rfl⟩ | ⟨x,t,rfl,rfl⟩
  ·rcases bE hb with⟨j,u,rfl,e⟩ | ⟨y,u,rfl,e⟩
   ·injection e with e1 _;rw[e1]
   ·exact nomatch e
  ·rcases bE hb with⟨j,u,rfl,e⟩ | ⟨y,u,rfl,e⟩
   ·exact nomatch e
   ·injection e with e1 _;rw[e1]
 byValue:=λk v h=>by
  rcases bE h with⟨i,t,rfl,rfl⟩ | ⟨x,t,rfl,rfl⟩<;>rfl
 pyHash:=λhv h=>by
  rcases bE hv with⟨i,t,rfl,rfl⟩ | ⟨x,t,rfl,rfl⟩
  ·exact wpAny_pyHash_int h
  ·exact wpAny_pyHash_str h
 eqBool:=λhu hv h=>by
  rcases bE hu with⟨i,t,rfl,rfl⟩ | ⟨x,t,rfl,rfl⟩
  ·rcases bE hv with⟨j,u,rfl,rfl⟩ | ⟨y,u,rfl,rfl⟩
   ·rw[Df] at h;exact wpAny_eqBool_int h
   ·rw[Dh] at h;exact SeqAt.EqAt.int_str i t y u _ _ _ _ h
  ·rcases bE hv with⟨j,u,rfl,rfl⟩ | ⟨y,u,rfl,rfl⟩
   ·rw[Di] at h;exact SeqAt.EqAt.str_int x t j u _ _ _ _ h
   ·rw[Dg] at h;exact wpAny_eqBool_str h
 «strs»:=λk x t v h=>by
  rcases bE h with⟨i,u,rfl,e⟩ | ⟨y,u,rfl,e⟩
  ·exact nomatch e
  ·injection e with e1 _
   subst e1
   cases v<;>rfl
theorem rZ (prog:Program)(w:World)(i:Int)(t:Tok):(mixKind prog w).is (.inl i) (.int i t)=true:=w9 i t
theorem mL (prog:Program)(w:World)(x:Str)(t:Tok):(mixKind prog w).is (.inr x) (.str x t)=true:=xa x t
inductive V where
 | non | bl (b:Bool) | int (i:Int) | str (x:Str) | byt (b:Array UInt8) | flt (b:UInt64) | ref (a:Addr) | ty (n:String)
 deriving DecidableEq
noncomputable def RelV:V->Value->Prop
 | .non,u=>u=Value.none
 | .bl b,u=>u=Value.bool b
 | .int i,u=>∃t,u=Value.int i t
 | .str x,u=>∃t,u=Value.str x t
 | .byt b,u=>∃t,u=Value.bytes b t
 | .flt b,u=>∃t,u=Value.float b t
 | .ref a,u=>u=Value.ref a
 | .ty n,u=>u=Value.type n
noncomputable abbrev Vals:List V->List Value->Prop:=Paired RelV
theorem Vals.length {xs:List V}{us:List Value}(r:Vals xs us):xs.length=us.length:=Paired.length r
theorem Vals.get:∀{xs:List V} {us:List Value} {i:Nat} {x:V},Vals xs us->xs[i]?=some x->∃u,us[i]?=some u/\RelV x u
 | _,_,_,_,.nil,e=>by simp at e
 | _,_,0,_,.cons r _,e=>by simp at e;subst e;exact⟨_,rfl,r⟩
 | _,_,i+1,x,.cons _ t,e=>by
  obtain⟨u,h1,h2⟩:=Vals.get (i:=i) (x:=x) t (by simpa using e)
  exact⟨u,by simpa using h1,h2⟩
theorem Vals.set {x:V}{u:Value}(r:RelV x u):∀{xs:List V} {us:List Value} (i:Nat),Vals xs us->Vals (xs.set i x) (us.set i u)
 | _,_,_,.nil=>.nil
 | _,_,0,.cons _ t=>.cons r t
 | _,_,i+1,.cons q t=>.cons q (Vals.set r i t)
theorem Vals.append:∀{xs ys:List V} {us ws:List Value},Vals xs us->Vals ys ws->Vals (xs++ys) (us++ws)
 | _,_,_,_,.nil,s=>s
 | _,_,_,_,.cons r t,s=>.cons r (Vals.append t s)
theorem Vals.take:∀{xs:List V} {us:List Value} (n:Nat),Vals xs us->Vals (xs.take n) (us.take n)
 | _,_,0,_=>.nil
 | _,_,_+1,.nil=>.nil
 | _,_,n+1,.cons r t=>.cons r (Vals.take n t)
theorem Vals.drop:∀{xs:List V} {us:List Value} (n:Nat),Vals xs us->Vals (xs.drop n) (us.drop n)
 | _,_,0,r=>r
 | _,_,_+1,.nil=>.nil
 | _,_,n+1,.cons _ t=>Vals.drop n t
noncomputable def RelO:Option V->Option Value->Prop
 | some v,some u=>RelV v u
 | none,none=>True
 | _,_=>False
noncomputable def KV {κ:Type}:List (κ×V)->List (κ×Value)->Prop:=Paired λ(p:κ×V) (q:κ×Value)=>p.1=q.1/\RelV p.2 q.2
noncomputable def kV:Key->V
 | .inl i=>.int i
 | .inr x=>.str x
inductive HO where
 /-- a list -/
 | lst (xs:List V)
 /-- a tuple (never changes) -/
 | tup (xs:List V)
 /-- a dict whose keys are ints and texts;one whose keys are tuples of ints and texts (the empty one is both) -/
 | dK (kvs:List (Key×V)) | dT (kvs:List (List Key×V))
 /-- a set of ints: its members,its size -/
 | set (S:Int->Bool) (n:Nat)
 /-- an instance of the class at C,its dict at dx,its attributes -/
 | ins (C dx:Addr) (fs:List (Str×V))
 /-- the dict of the instance at x -/
 | own (x:Addr)
 /-- the dict of an exception -/
 | xd (fs:List (Str×V))
 /-- a bound method,f of x -/
 | met (f x:Addr)
 /-- a range object lo,lo+1,.. below hi -/
 | rng (lo hi:Int)
 /-- a thing that is known to the object (the script;a dict while a loop walks it): read,never written while it is so -/
 | frz (o:Obj) (u:HO)
 /-- a code object's table -/
 | tbl (ps:Array Value)
 /-- any other thing,by what is true of its one object (a def of one's own: SetO a S n:=HO.ext λh=>..) -/
 | ext (φ:Heap->Prop)
noncomputable abbrev Hp:=Addr->Option HO
noncomputable def upd (H:Hp)(a:Addr)(o:HO):Hp:=λb=>if b=a then some o else H b
theorem af {H:Hp}{a:Addr}{o:HO}:upd H a o a=some o:=by unfold upd;rw[if_pos rfl]
theorem aj {H:Hp}{a b:Addr}{o:HO}(h:b≠a):upd H a o b=H b:=by unfold upd;rw[if_neg h]
theorem wg {H:Hp}{a:Addr}{o u:HO}:upd (upd H a o) a u=upd H a u:=by
 funext b;unfold upd;split<;>rfl
theorem iL {H:Hp}{a b:Addr}{o u:HO}(h:H a=some o)(h':H b=some u)(d:o≠u):a≠b:=by
 intro e;subst e;rw[h] at h';exact d (Option.some.inj h')
theorem az {H:Hp}{a b:Addr}{o:HO}(h:H a=some o)(h':H b=none):a≠b:=by
 intro e;subst e;rw[h] at h';cases h'
section
variable (P:Program) (w:World)
noncomputable def ObjOk (H:Hp)(h:Heap)(a:Addr):HO->Prop
 | .lst xs=>xs.length<=sizeLine/\∃(its:List Value) (n:Nat),Vals xs its/\h.get? a=some { cls:=.type "list",data:=.seq its.toArray n }
 | .tup xs=>xs.length<=sizeLine/\∃its:List Value,Vals xs its/\IsTup h a its.toArray
 | .dK kvs=>kvs.length<=sizeLine/\(a == sysModules)=false/\∃vs,KV kvs vs/\h.DictOf (mixKind P w) a vs
 | .dT kvs=>kvs.length<=sizeLine/\(a == sysModules)=false/\∃xs:List (List Key×Addr×Value),
   Paired (λ(p:List Key×V) (q:List Key×Addr×Value)=>p.1=q.1/\H q.2.1=some (.tup (p.1.map kV))/\RelV p.2 q.2.2) kvs xs/\
   ∃o es ep,h.get? a=some o/\o.ExactDict/\o.data=.dict es ep/\es.toList=xs.map (entryOfKey (tupleKind (mixKind P w)))/\(xs.map (·.1)).Nodup
 | .set S n=>h.SetOf (intKind P w) a S n
 | .ins C dx fs=>H dx=some (.own a)/\fs.length<=1000/\dx≠a/\h.get? a=some (W.instObj C dx)/\
   ∃mA,h.Ns1 dx mA/\(∀f,RelO (fs.lookup f) (mA f))/\PySem.Within mA (fs.map (·.1))
 | .own _=>∃o,h.get? a=some o
 | .xd fs=>∃mA,h.Ns1 a mA/\∀f,RelO (fs.lookup f) (mA f)
 | .rng lo hi=>∃t u v,h.get? a=some { cls:=.type "range",data:=.fields #[.int lo t,.int hi u,.int 1 v] }
 | .frz o u=>h.get? a=some o/\ObjOk H h a u
 | .tbl ps=>h.get? a=some { cls:=.none,data:=.fields ps }
 | .met f x=>h.get? a=some (W.methodObj (.ref f) (.ref x))
 | .ext φ=>φ h/\(∃o,h.get? a=some o)/\∀h1 h2:Heap,φ h1->(∀o,h1.get? a=some o->h2.get? a=some o)->φ h2
noncomputable def HOk (H:Hp)(h:Heap):Prop:=∀a o,H a=some o->ObjOk P w H h a o
end
section
variable {P:Program} {w:World} {H H':Hp} {h h':Heap} {a:Addr} {o:HO}
theorem ObjOk.lt (x:ObjOk P w H h a o):a < h.objs.size:=by
 cases o with
 | lst xs=>obtain⟨_,_,_,_,e⟩:=x;exact Heap.lt_size e
 | tup xs=>obtain⟨_,_,_,p⟩:=x;exact p.lt
 | dK kvs=>obtain⟨_,_,_,_,o,_,_,e,_⟩:=x;exact Heap.lt_size e
 | dT kvs=>obtain⟨_,_,_,_,o,_,_,e,_⟩:=x;exact Heap.lt_size e
 | set S n=>obtain⟨o,_,_,_,e,_⟩:=x;exact Heap.lt_size e
 | ins C dx fs=>obtain⟨_,_,_,e,_⟩:=x;exact Heap.lt_size e
 | own y=>obtain⟨_,e⟩:=x;exact Heap.lt_size e
 | xd fs=>obtain⟨_,⟨_,_,_,e,_⟩,_⟩:=x;exact Heap.lt_size e
 | rng lo hi=>obtain⟨_,_,_,e⟩:=x;exact Heap.lt_size e
 | frz ob u=>obtain⟨e,_⟩:=x;exact Heap.lt_size e
 | tbl ps=>exact Heap.lt_size (show h.get? a=some _ from x)
 | met f y=>exact Heap.lt_size (show h.get? a=some _ from x)
 | ext φ=>obtain⟨_,⟨_,e⟩,_⟩:=x;exact Heap.lt_size e
theorem Paired.mapP {α β:Type}{F G:α->β->Prop}:∀{l₁:List α} {l₂:List β},Paired F l₁ l₂->(∀a b,F a b->G a b)->Paired G l₁ l₂
 | _,_,.nil,_=>.nil
 | _,_,.cons r t,f=>.cons (f _ _ r) (Paired.mapP t f)
theorem ObjOk.stay (x:ObjOk P w H h a o)(k:∀b u,(b=a\/H b=some (.own a))->h.get? b=some u->h'.get? b=some u)
  (ho:∀b,H b=some (.own a)->H' b=some (.own a)) (ht:∀b xs,H b=some (.tup xs)->H' b=some (.tup xs)):ObjOk P w H' h' a o:=by
 induction o with
 | lst xs=>obtain⟨z,its,n,r,e⟩:=x;exact⟨z,its,n,r,k _ _ (.inl rfl) e⟩
 | tup xs=>obtain⟨z,its,r,ob,e,c⟩:=x;exact⟨z,its,r,ob,k _ _ (.inl rfl) e,c⟩
 | dK kvs=>obtain⟨z,y,vs,r,ob,es,ep,e,c⟩:=x;exact⟨z,y,vs,r,ob,es,ep,k _ _ (.inl rfl) e,c⟩
 | dT kvs=>
  obtain⟨z,y,xs,r,ob,es,ep,e,c⟩:=x
  exact⟨z,y,xs,Paired.mapP r λp q z=>⟨z.1,ht _ _ z.2.1,z.2.2⟩,ob,es,ep,k _ _ (.inl rfl) e,c⟩
 | set S n=>obtain⟨ob,es,ep,t,e,c⟩:=x;exact⟨ob,es,ep,t,k _ _ (.inl rfl) e,c⟩
 | ins C dx fs=>
  obtain⟨d,z,ne,e,mA,⟨od,es,ep,e2,c⟩,r⟩:=x
  exact⟨ho _ d,z,ne,k _ _ (.inl rfl) e,mA,⟨od,es,ep,k _ _ (.inr d) e2,c⟩,r⟩
 | own y=>obtain⟨ob,e⟩:=x;exact⟨ob,k _ _ (.inl rfl) e⟩
 | xd fs=>obtain⟨mA,⟨od,es,ep,e,c⟩,r⟩:=x;exact⟨mA,⟨od,es,ep,k _ _ (.inl rfl) e,c⟩,r⟩
 | rng lo hi=>obtain⟨t,u,v,e⟩:=x;exact⟨t,u,v,k _ _ (.inl rfl) e⟩
 | frz ob u ih=>obtain⟨e,q⟩:=x;exact⟨k _ _ (.inl rfl) e,ih q⟩
 | tbl ps=>
  have e:h.get? a=some { cls:=.none,data:=.fields ps }:=x
  show h'.get? a=some { cls:=.none,data:=.fields ps }
  exact k a _ (.inl rfl) e
 | met f y=>
  have e:h.get? a=some (W.methodObj (.ref f) (.ref y)):=x
  show h'.get? a=some (W.methodObj (.ref f) (.ref y))
  exact k a _ (.inl rfl) e
 | ext φ=>obtain⟨p,⟨o,e⟩,st⟩:=x;exact⟨st _ _ p λo q=>k _ _ (.inl rfl) q,⟨o,k _ _ (.inl rfl) e⟩,st⟩
theorem HOk.lt (x:HOk P w H h)(e:H a=some o):a < h.objs.size:=(x a o e).lt
theorem HOk.fresh (x:HOk P w H h)(e:h.objs.size<=a):H a=none:=by
 cases q:H a with
 | none=>rfl
 | some u=>exact absurd (Nat.lt_of_lt_of_le (x.lt q) e) (Nat.lt_irrefl _)
theorem HOk.kept (x:HOk P w H h)(k:∀b u,h.get? b=some u->h'.get? b=some u):HOk P w H h':=λa o e=>
 (x a o e).stay (λb u _ q=>k b u q) (λ_ q=>q) λ_ _ q=>q
theorem HOk.laid (x:HOk P w H h)(k:∀b u,h.get? b=some u->h'.get? b=some u)(hp:h.objs.size<=a)(new:ObjOk P w (upd H a o) h' a o):HOk P w (upd H a o) h':=λb u e=>by
 have hn:=x.fresh hp
 by_cases hb:b=a
 ·subst hb;rw[af] at e;cases e;exact new
 ·rw[aj hb] at e
  exact(x b u e).stay (λc v _ q=>k c v q) (λc q=>by rw[aj (az q hn)];exact q) λc xs q=>by rw[aj (az q hn)];exact q
end
noncomputable def Rd (H:Hp)(a:Addr)(u:HO):Prop:=H a=some u\/∃o,H a=some (.frz o u)
theorem Rd.ok {P:Program}{w:World}{H:Hp}{h:Heap}{a:Addr}{u:HO}(r:Rd H a u)(x:HOk P w H h):ObjOk P w H h a u:=by
 rcases r with r | ⟨o,r⟩
 ·exact x a u r
 ·obtain⟨_,q⟩:=x a _ r
  exact q
noncomputable def Mut:Option HO->Prop
 | some (.lst _)=>True
 | some (.dK _)=>True
 | some (.dT _)=>True
 | some (.set _ _)=>True
 | some (.ins _ _ _)=>True
 | some (.ext _)=>True
 | _=>False
section
variable {P:Program} {w:World} {H:Hp} {h h':Heap} {x e:Addr} {o':HO}
theorem HOk.write (ok:HOk P w H h)(mu:Mut (H x))(he:e=x\/H e=some (.own x))(k:∀b u,b≠e->h.get? b=some u->h'.get? b=some u)(heo:∃u,h'.get? e=some u)
  (new:ObjOk P w (upd H x o') h' x o'):HOk P w (upd H x o') h':=λb u q=>by
 have nown:∀c y,H c=some (.own y)->c≠x:=λc y r z=>by subst z;rw[r] at mu;exact mu
 have ntup:∀c xs,H c=some (.tup xs)->c≠x:=λc xs r z=>by subst z;rw[r] at mu;exact mu
 by_cases hb:b=x
 ·subst hb;rw[af] at q;cases q;exact new
 ·rw[aj hb] at q
  by_cases hbe:b=e
  ·have q':H b=some (.own x):=by
    rcases he with z | z
    ·exact absurd (hbe.trans z) hb
    ·rw[hbe];exact z
   rw[q] at q';cases q'
   obtain⟨v,hv⟩:=heo
   exact⟨v,by rw[hbe];exact hv⟩
  ·refine(ok b u q).stay (λc v hc r=>k c v ?_ r) (λc r=>by rw[aj (nown c b r)];exact r) λc xs r=>by rw[aj (ntup c xs r)];exact r
   rcases hc with rfl | hc
   ·exact hbe
   ·rintro rfl
    rcases he with z | z
    ·exact nown c b hc z
    ·rw[hc] at z;cases z;exact hb rfl
end
structure Un (fs ex:List Addr)(H H':Hp)(h h':Heap):Prop where
 keep:∀b o,h.get? b=some o->H b=none->b∉fs->b∉ex->h'.get? b=some o
 slot:∀b o,h.get? b=some o->H b=none->b∈fs->b∉ex->∃sl,h'.get? b=some { o with slots:=sl }
 free:∀b o,h.get? b=some o->H b=none->b∉ex->H' b=none
 there:∀b o,h.get? b=some o->b∉ex->∃o',h'.get? b=some o'
 tups:∀b xs,H b=some (.tup xs)->H' b=some (.tup xs)
 frzs:∀b o u,H b=some (.frz o u)->H' b=some (.frz o u)
 tbls:∀b ps,H b=some (.tbl ps)->∃more,H' b=some (.tbl (ps++more))
section
variable {fs fs' ex ex':List Addr} {H H1 H2:Hp} {h h1 h2 h':Heap} {a x e:Addr} {o:HO}
theorem Un.any (u:Un fs ex H H1 h h1){b:Addr}{ob:Obj}(q:h.get? b=some ob)(n:H b=none)(hx:b∉ex):∃sl,h1.get? b=some { ob with slots:=sl }:=by
 by_cases hb:b∈fs
 ·exact u.slot b ob q n hb hx
 ·exact⟨ob.slots,u.keep b ob q n hb hx⟩
theorem Un.kept (k:∀b u,h.get? b=some u->h'.get? b=some u):Un fs ex H H h h':=
 ⟨λb ob q _ _ _=>k b ob q,λb ob q _ _ _=>⟨ob.slots,k b ob q⟩,λ_ _ _ n _=>n,λb ob q _=>⟨ob,k b ob q⟩,λ_ _ q=>q,λ_ _ _ q=>q,λ_ ps q=>⟨#[],by rw[q];simp⟩⟩
theorem Un.refl:Un fs ex H H h h:=Un.kept λ_ _ q=>q
theorem Un.laid (k:∀b u,h.get? b=some u->h'.get? b=some u)(hp:h.objs.size<=a)(hn:H a=none):Un fs ex H (upd H a o) h h' where
 keep:=λb u q _ _ _=>k b u q
 slot:=λb u q _ _ _=>⟨u.slots,k b u q⟩
 free:=λb u q n _=>by rw[aj (Nat.ne_of_lt (Nat.lt_of_lt_of_le (Heap.lt_size q) hp))];exact n
 there:=λb u q _=>⟨u,k b u q⟩
 tups:=λb xs q=>by rw[aj (az q hn)];exact q
 frzs:=λb u xs q=>by rw[aj (az q hn)];exact q
 tbls:=λb ps q=>⟨#[],by rw[aj (az q hn),q];simp⟩
theorem Un.write (mu:Mut (H x))(he:e=x\/H e=some (.own x))(k:∀b u,b≠e->h.get? b=some u->h'.get? b=some u)(heo:∃u,h'.get? e=some u):Un fs ex H (upd H x o) h h':=by
 have hx:∀b,H b=none->b≠x:=λb n z=>by subst z;rw[n] at mu;exact mu
 have hb:∀b,H b=none->b≠e:=λb n z=>by
  subst z
  rcases he with r | r
  ·exact hx b n r
  ·rw[n] at r;cases r
 have hm:∀b u,H b=some u->¬Mut (some u)->b≠x:=λb u q nm z=>by subst z;rw[q] at mu;exact nm mu
 refine⟨λb u q n _ _=>k b u (hb b n) q,λb u q n _ _=>⟨u.slots,k b u (hb b n) q⟩,λb u q n _=>by rw[aj (hx b n)];exact n,λb u q _=>?_,
  λb xs q=>by rw[aj (hm b _ q λz=>z)];exact q,λb u xs q=>by rw[aj (hm b _ q λz=>z)];exact q,λb ps q=>⟨#[],by rw[aj (hm b _ q λz=>z),q];simp⟩⟩
 by_cases hbe:b=e
 ·subst hbe;exact heo
 ·exact⟨u,k b u hbe q⟩
end
noncomputable def trk (h:Heap)(H:Hp):List Addr:=(List.range h.objs.size).filter λa=>(H a).isSome
noncomputable def hidT (h:Heap)(H:Hp):Heap:=W.hideAll h (trk h H)
theorem xb (h:Heap)(H:Hp):(hidT h H).objs.size=h.objs.size:=W.hideAll_size _ _
theorem zw {h:Heap}{H:Hp}{b:Addr}{o:Obj}(e:h.get? b=some o)(n:H b=none):(hidT h H).get? b=some o:=
 W.hideAll_get _ e λhm=>by
  have q:(H b).isSome=true:=(List.mem_filter.mp hm).2
  rw[n] at q;simp at q
theorem Bj {h:Heap}{H:Hp}{b:Addr}{o:Obj}(e:(hidT h H).get? b=some o):h.get? b=some o/\H b=none:=by
 have e':h.get? b=some o:=W.of_hideAll (trk h H) e
 refine⟨e',?_⟩
 cases q:H b with
 | none=>rfl
 | some x=>
  have hm:b∈trk h H:=List.mem_filter.mpr ⟨List.mem_range.mpr (Heap.lt_size e'),by simp[q]⟩
  have z:(hidT h H).get? b=none:=W.hideAll_none (trk h H) hm
  rw[z] at e;cases e
structure Mod (K:W.Frag)(mg:Str->Option Value)(base:Heap):Prop where
 kin:K.In base
 glob:base.Ns mainGlobals mg
 blt:∃mb,base.Ns builtinsNs mb/\∀x:Str,x ≠ "__name__" -> mb x=bootBuiltins x
 nolimit:base.NoLimit
structure Cx where
 prog:Program
 w:World
 K:W.Frag
 mg:Str->Option Value
 base:Heap
 A:Around
 N:List Str
 s₀:Shared
 H₀:Hp
 env:Env
 outer:List Env
 stack:List Env
 ex:List Addr
 fn:Str->Bool
 calm:Bool
 pn:List (Addr×Obj)
 xe:Value->Shared->Prop
noncomputable def frs (l:List Env):List Addr:=l.filterMap (·.frame)
noncomputable abbrev Cx.fs (X:Cx):List Addr:=frs X.outer
noncomputable def Vis (sc:Scope)(x:Str):Prop:=sc.names.lookup x=some .local\/sc.names.lookup x=some .cell\/sc.names.lookup x=some .free
noncomputable def Loc (sc:Scope)(x:Str):Prop:=sc.names.lookup x=some .local\/sc.names.lookup x=some .cell
noncomputable def Look (env:Env)(h:Heap)(m:Str->Option Value)(x:Str)(u:Value):Prop:=
 (env.kindOf x=some .local/\m x=some u)\/((env.kindOf x=some .cell\/env.kindOf x=some .free)/\∃c,env.cells.lookup x=some c/\h.IsCell c (some u))
structure Cx.Ok (X:Cx):Prop where
 mod:Mod X.K X.mg X.base
 kind:X.env.scope.kind=.function
 glob:X.env.globals=mainGlobals
 blt:X.env.builtins=builtinsNs
 above:X.s₀.heap.objs.size<=X.env.locals
 inj:∀x y c,X.env.cells.lookup x=some c->X.env.cells.lookup y=some c->x=y
 has:∀x,(X.env.kindOf x=some .cell\/X.env.kindOf x=some .free)->∃c,X.env.cells.lookup x=some c
 cab:∀x c,X.fn x=true->X.env.cells.lookup x=some c->X.s₀.heap.objs.size<=c
 hd:X.calm=true->X.A.handled=none
 frames:X.A.frames=some X.stack
 stk:X.stack=X.outer\/(X.stack=X.env::X.outer/\X.env.frame=some X.env.locals)
 exf:∀b∈X.ex,b≠X.env.locals/\∀x c,X.env.cells.lookup x=some c->c≠b
 bs:∀b o,X.base.get? b=some o->X.s₀.heap.get? b=some o/\X.H₀ b=none
 bsz:X.base.objs.size<=X.s₀.heap.objs.size
 noex:∀b o,X.base.get? b=some o->b∉X.ex
 exfs:∀b∈X.ex,b∉X.fs
 funs:X.s₀.heap.FunFrames X.base X.outer
 frf:∀b∈X.fs,X.H₀ b=none
structure Inv (X:Cx)(pins:List (Addr×Obj))(σ:List (Option V))(H:Hp)(s:Shared):Prop where
 ok:X.Ok
 os:s.os=X.s₀.os
 bare:AllBare s.gens
 base:Un X.fs X.ex X.H₀ H X.s₀.heap s.heap
 loc:∃m,s.heap.Ns X.env.locals m/\∀(i:Nat) (x:Str) (v:V),X.N[i]?=some x->σ[i]?=some (some v)->Vis X.env.scope x->∃u,RelV v u/\Look X.env s.heap m x u
 cell:∀x c,X.env.cells.lookup x=some c->∃v,s.heap.IsCell c v
 free:H X.env.locals=none
 freeC:∀x c,X.env.cells.lookup x=some c->H c=none
 pin:∀p∈X.pn++pins,s.heap.get? p.1=some p.2/\H p.1=none/\p.1≠X.env.locals/\p.1∉X.fs/\∀v,p.2.data≠.cell v
 hok:HOk X.prog X.w H s.heap
 len:σ.length=X.N.length
section
variable {X:Cx} {pins:List (Addr×Obj)} {σ:List (Option V)} {H H':Hp} {s:Shared} {h':Heap}
theorem Cx.Ok.nofr (ok:X.Ok){b:Addr}{o:Obj}(e:X.base.get? b=some o):b∉X.fs:=λhb=>by
 have:=(ok.funs.mem hb).1
 rw[e] at this;cases this
theorem Inv.bs (I:Inv X pins σ H s):∀b o,X.base.get? b=some o->s.heap.get? b=some o/\H b=none:=λb o e=>
 ⟨I.base.keep b o (I.ok.bs b o e).1 (I.ok.bs b o e).2 (I.ok.nofr e) (I.ok.noex b o e),I.base.free b o (I.ok.bs b o e).1 (I.ok.bs b o e).2 (I.ok.noex b o e)⟩
theorem Inv.bk (I:Inv X pins σ H s):∀b o,X.base.get? b=some o->s.heap.get? b=some o:=λb o e=>(I.bs b o e).1
theorem Inv.mod (I:Inv X pins σ H s):Mod X.K X.mg X.base:=I.ok.mod
theorem Inv.kIn (I:Inv X pins σ H s):X.K.In s.heap:=I.ok.mod.kin.keeps I.bk
theorem Inv.lt (I:Inv X pins σ H s):X.env.locals < s.heap.objs.size:=let ⟨_,hn,_⟩:=I.loc;hn.lt
theorem Inv.sz (I:Inv X pins σ H s):X.s₀.heap.objs.size<=s.heap.objs.size:=Nat.le_trans I.ok.above (Nat.le_of_lt I.lt)
theorem Inv.nofs (I:Inv X pins σ H s){a:Addr}(h:s.heap.objs.size<=a):a∉X.fs:=λhb=>by
 obtain⟨_,o,ho,_⟩:=I.ok.funs.mem hb
 exact absurd (Nat.lt_of_lt_of_le (Heap.lt_size ho) (Nat.le_trans I.sz h)) (Nat.lt_irrefl _)
theorem Inv.cne (I:Inv X pins σ H s):∀x c,X.env.cells.lookup x=some c->c≠X.env.locals:=λx c e z=>by
 obtain⟨v,o,ho,hd⟩:=I.cell x c e
 obtain⟨m,⟨o',es,ep,ho',hd',_⟩,_⟩:=I.loc
 rw[z,ho'] at ho;cases ho;rw[hd'] at hd;cases hd
theorem Inv.funs (I:Inv X pins σ H s):s.heap.FunFrames X.base X.outer:=by
 have all:∀(l:List Env),(∀b∈frs l,b∈X.fs)->X.s₀.heap.FunFrames X.base l->s.heap.FunFrames X.base l:=by
  intro l
  induction l with
  | nil=>intro _ _;trivial
  | cons env r ih=>
   intro hs hl
   obtain⟨hk,⟨L,o,hf,hn,ho,hd⟩,hr⟩:=hl
   have hL:L∈X.fs:=hs L (by unfold frs;rw[List.filterMap_cons,hf];exact List.mem_cons_self)
   obtain⟨sl,e⟩:=I.base.slot L o ho (I.ok.frf L hL) hL λz=>I.ok.exfs L z hL
   exact⟨hk,⟨L,_,hf,hn,e,hd⟩,ih (λb hb=>hs b (by unfold frs;rw[List.filterMap_cons,hf];exact List.mem_cons_of_mem _ hb)) hr⟩
 exact all X.outer (λ_ hb=>hb) I.ok.funs
theorem Inv.stack (I:Inv X pins σ H s):s.heap.FunFrames X.base X.stack:=by
 rcases I.ok.stk with e | ⟨e,hf⟩
 ·rw[e];exact I.funs
 ·rw[e]
  obtain⟨m,hn,_⟩:=I.loc
  refine .cons (by rw[I.ok.kind];decide) hf hn ?_ I.funs
  exact Heap.get?_none_of_le (Nat.le_trans I.ok.bsz I.ok.above)
theorem Inv.stkSub (I:Inv X pins σ H s):∀b∈frs X.stack,b∈X.env.locals::X.fs:=λb hb=>by
 rcases I.ok.stk with e | ⟨e,hf⟩
 ·rw[e] at hb;exact List.mem_cons_of_mem _ hb
 ·rw[e] at hb
  unfold frs at hb
  rw[List.filterMap_cons,hf] at hb
  exact hb
theorem Inv.stkFree (I:Inv X pins σ H s):∀b∈frs X.stack,H b=none:=λb hb=>by
 rcases List.mem_cons.mp (I.stkSub b hb) with e | hb
 ·rw[e];exact I.free
 ·obtain⟨_,o,ho,_⟩:=I.ok.funs.mem hb
  exact I.base.free b o ho (I.ok.frf b hb) λz=>I.ok.exfs b z hb
theorem Inv.step {g':Array GenState}{t':Nat}{d':Drawn}{ch:List Addr}(I:Inv X pins σ H s)
  (hch:∀b∈ch,(b∈X.ex\/X.s₀.heap.objs.size<=b)/\b≠X.env.locals/\(∀x c,X.env.cells.lookup x=some c->c≠b)/\∀p∈X.pn++pins,p.1≠b)
  (keep:∀b o,b≠X.env.locals->b∉X.fs->b∉ch->s.heap.get? b=some o->H b=none->h'.get? b=some o)
  (slot:∀b o,b≠X.env.locals->b∈X.fs->b∉ch->s.heap.get? b=some o->H b=none->∃sl,h'.get? b=some { o with slots:=sl }) (free:∀b o,b∉ch->s.heap.get? b=some o->H b=none->H' b=none)
  (there:∀b o,b∉ch->s.heap.get? b=some o->∃o',h'.get? b=some o')
  (tups:∀b xs,H b=some (.tup xs)->H' b=some (.tup xs)) (frzs:∀b o u,H b=some (.frz o u)->H' b=some (.frz o u)) (tbls:∀b ps,H b=some (.tbl ps)->∃more,H' b=some (.tbl (ps++more)))
  (ns:∀m,s.heap.Ns X.env.locals m->h'.Ns X.env.locals m) (hok:HOk X.prog X.w H' h') (hg:AllBare g') :
  Inv X pins σ H' { s with heap:=h',gens:=g',drawn:=d',toks:=t' }:=by
 have neL:∀b o,X.s₀.heap.get? b=some o->b≠X.env.locals:=λb o e=>Nat.ne_of_lt (Nat.lt_of_lt_of_le (Heap.lt_size e) I.ok.above)
 have neC:∀b o,X.s₀.heap.get? b=some o->b∉X.ex->b∉ch:=λb o e hx hb=>by
  rcases(hch b hb).1 with z | z
  ·exact hx z
  ·exact absurd (Nat.lt_of_lt_of_le (Heap.lt_size e) z) (Nat.lt_irrefl _)
 have cellK:∀x c,X.env.cells.lookup x=some c->∀v,s.heap.IsCell c v->h'.IsCell c v:=λx c e v ⟨o,ho,hd⟩=>by
  have nch:c∉ch:=λz=>(hch c z).2.2.1 x c e rfl
  by_cases hc:c∈X.fs
  ·obtain⟨sl,q⟩:=slot c o (I.cne x c e) hc nch ho (I.freeC x c e)
   exact⟨_,q,hd⟩
  ·exact⟨o,keep c o (I.cne x c e) hc nch ho (I.freeC x c e),hd⟩
 refine⟨I.ok,I.os,hg,⟨λb o e n hb hx=>?_,λb o e n hb hx=>?_,λb o e n hx=>?_,λb o e hx=>?_,λb xs e=>tups b xs (I.base.tups b xs e),λb o xs e=>frzs b o xs (I.base.frzs b o xs e),λb ps e=>?_⟩,?_,λx c e=>?_,?_,λx c e=>?_,λp hp=>?_,hok,I.len⟩
 ·exact keep b o (neL b o e) hb (neC b o e hx) (I.base.keep b o e n hb hx) (I.base.free b o e n hx)
 ·obtain⟨sl,e1⟩:=I.base.slot b o e n hb hx
  obtain⟨sl',e2⟩:=slot b _ (neL b o e) hb (neC b o e hx) e1 (I.base.free b o e n hx)
  exact⟨sl',e2⟩
 ·obtain⟨o',e1⟩:=I.base.there b o e hx
  exact free b o' (neC b o e hx) e1 (I.base.free b o e n hx)
 ·obtain⟨o',e1⟩:=I.base.there b o e hx
  exact there b o' (neC b o e hx) e1
 ·obtain⟨m1,e1⟩:=I.base.tbls b ps e
  obtain⟨m2,e2⟩:=tbls b _ e1
  exact⟨m1++m2,by rw[e2,Array.append_assoc]⟩
 ·obtain⟨m,hn,hl⟩:=I.loc
  refine⟨m,ns m hn,λi x v e1 e2 e3=>?_⟩
  obtain⟨u,r,l⟩:=hl i x v e1 e2 e3
  refine⟨u,r,?_⟩
  rcases l with l | ⟨k,c,e,z⟩
  ·exact .inl l
  ·exact .inr ⟨k,c,e,cellK x c e _ z⟩
 ·obtain⟨v,z⟩:=I.cell x c e
  exact⟨v,cellK x c e v z⟩
 ·obtain⟨m,⟨o,_,_,ho,_⟩,_⟩:=I.loc
  exact free _ o (λz=>(hch _ z).2.1 rfl) ho I.free
 ·obtain⟨v,o,ho,hd⟩:=I.cell x c e
  exact free c o (λz=>(hch c z).2.2.1 x c e rfl) ho (I.freeC x c e)
 ·obtain⟨e,n,ne,nf,d⟩:=I.pin p hp
  have nch:p.1∉ch:=λz=>(hch p.1 z).2.2.2 p hp rfl
  exact⟨keep p.1 p.2 ne nf nch e n,free p.1 p.2 nch e n,ne,nf,d⟩
theorem Inv.un {t':Nat}(I:Inv X pins σ H s)(u:Un X.fs [] H H' s.heap h')(hok:HOk X.prog X.w H' h'):Inv X pins σ H' { s with heap:=h',toks:=t' }:=by
 obtain⟨m,⟨o,es,ep,ho,r⟩,_⟩:=id I.loc
 obtain⟨sl,hL⟩:=u.any ho I.free (by simp)
 exact I.step (g':=s.gens) (d':=s.drawn) (ch:=[]) (λ_ z=>nomatch z) (λb o _ hb _ e n=>u.keep b o e n hb (by simp)) (λb o _ hb _ e n=>u.slot b o e n hb (by simp)) (λb o _ e n=>u.free b o e n (by simp)) (λb o _ e=>u.there b o e (by simp)) u.tups u.frzs u.tbls (λm' hm=>by
  obtain⟨o',es',ep',ho',r'⟩:=hm
  rw[ho] at ho';cases ho'
  exact⟨_,es',ep',hL,r'⟩) hok I.bare
theorem Inv.call {g':Array GenState}{t':Nat}{d':Drawn}{ch:List Addr}(I:Inv X pins σ H s)(u:Un (frs X.stack) ch H H' s.heap h')(hok:HOk X.prog X.w H' h')(hg:AllBare g')
  (hch:∀b∈ch,(b∈X.ex\/X.s₀.heap.objs.size<=b)/\b≠X.env.locals/\(∀x c,X.env.cells.lookup x=some c->c≠b)/\∀p∈X.pn++pins,p.1≠b) :
  Inv X pins σ H' { s with heap:=h',gens:=g',drawn:=d',toks:=t' }:=by
 obtain⟨m,⟨o,es,ep,ho,r⟩,_⟩:=id I.loc
 obtain⟨sl,hL⟩:=u.any ho I.free λz=>(hch _ z).2.1 rfl
 exact I.step (ch:=ch) hch (λb o hL hb hc e n=>u.keep b o e n (λz=>(List.mem_cons.mp (I.stkSub b z)).elim hL hb) hc) (λb o _ _ hc e n=>u.any e n hc) (λb o hc e n=>u.free b o e n hc) (λb o hc e=>u.there b o e hc) u.tups u.frzs u.tbls (λm' hm=>by
  obtain⟨o',es',ep',ho',r'⟩:=hm
  rw[ho] at ho';cases ho'
  exact⟨_,es',ep',hL,r'⟩) hok hg
theorem Inv.turned {t':Nat}{it:Addr}(I:Inv X pins σ H s)(k:∀b o,b≠it->s.heap.get? b=some o->h'.get? b=some o)(hn:H it=none)(hL:it≠X.env.locals)
  (h1:it∈X.ex\/X.s₀.heap.objs.size<=it) (h2:∀x c,X.env.cells.lookup x=some c->c≠it) (h3:∀p∈X.pn++pins,p.1≠it):Inv X pins σ H { s with heap:=h',toks:=t' }:=by
 have nit:∀b u,H b=some u->b≠it:=λb u e z=>by rw[z,hn] at e;cases e
 refine I.step (g':=s.gens) (d':=s.drawn) (ch:=[it]) (λb hb=>?_) (λb o _ _ hc e _=>k b o (λz=>hc (by simp[z])) e) (λb o _ _ hc e _=>⟨o.slots,k b o (λz=>hc (by simp[z])) e⟩) (λ_ _ _ _ n=>n)
  (λb o hc e=>⟨o,k b o (λz=>hc (by simp[z])) e⟩) (λ_ _ e=>e) (λ_ _ _ e=>e) (λb ps e=>⟨#[],by rw[e];simp⟩) (λm hm=>?_) (λb u e=>?_) I.bare
 ·have e:b=it:=by simpa using hb
  subst e
  exact⟨h1,hL,h2,h3⟩
 ·obtain⟨o,es,ep,ho,r⟩:=hm
  exact⟨o,es,ep,k _ o (Ne.symm hL) ho,r⟩
 ·refine(I.hok b u e).stay (λc v hc q=>k c v ?_ q) (λ_ q=>q) λ_ _ q=>q
  rcases hc with z | z
  ·rw[z];exact nit b u e
  ·exact nit c _ z
theorem Inv.tok (I:Inv X pins σ H s)(t:Nat):Inv X pins σ H { s with toks:=t }:=I.un (h':=s.heap) (t':=t) Un.refl I.hok
theorem Inv.kept {t':Nat}(I:Inv X pins σ H s)(k:∀b u,s.heap.get? b=some u->h'.get? b=some u):Inv X pins σ H { s with heap:=h',toks:=t' }:=I.un (Un.kept k) (I.hok.kept k)
theorem Inv.laid {a:Addr}{o:HO}{t':Nat}(I:Inv X pins σ H s)(k:∀b u,s.heap.get? b=some u->h'.get? b=some u)(hp:s.heap.objs.size<=a)(new:ObjOk X.prog X.w (upd H a o) h' a o) :
  Inv X pins σ (upd H a o) { s with heap:=h',toks:=t' }:=I.un (Un.laid k hp (I.hok.fresh hp)) (I.hok.laid k hp new)
theorem Inv.write {x e:Addr}{o:HO}{t':Nat}(I:Inv X pins σ H s)(mu:Mut (H x))(he:e=x\/H e=some (.own x))(k:∀b u,b≠e->s.heap.get? b=some u->h'.get? b=some u)(heo:∃u,h'.get? e=some u)
  (new:ObjOk X.prog X.w (upd H x o) h' x o):Inv X pins σ (upd H x o) { s with heap:=h',toks:=t' }:=I.un (Un.write mu he k heo) (I.hok.write mu he k heo new)
theorem Inv.wj {pins':List (Addr×Obj)}(I:Inv X pins σ H s)(h:∀p∈pins',s.heap.get? p.1=some p.2/\H p.1=none/\p.1≠X.env.locals/\p.1∉X.fs/\∀v,p.2.data≠.cell v):Inv X pins' σ H s:=
 ⟨I.ok,I.os,I.bare,I.base,I.loc,I.cell,I.free,I.freeC,λp hp=>(List.mem_append.mp hp).elim (λz=>I.pin p (List.mem_append_left _ z)) (h p),I.hok,I.len⟩
theorem nN {N:List Str}(hN:N.Nodup){i j:Nat}{x:Str}(a:N[i]?=some x)(b:N[j]?=some x):i=j:=by
 obtain⟨h1,e1⟩:=List.getElem?_eq_some_iff.mp a
 obtain⟨h2,e2⟩:=List.getElem?_eq_some_iff.mp b
 exact(List.getElem_inj hN).mp (e1.trans e2.symm)
theorem pT {M:Model}{A:Around}{E:Value->Shared->Prop}{i:Nat}{x:Str}{v:V}{u:Value}{Q:Unit->Shared->Prop}(I:Inv X pins σ H s)(hN:X.N.Nodup)(hi:X.N[i]?=some x)(hx:Loc X.env.scope x)(r:RelV v u)
  (h:∀s',Inv X pins (σ.set i (some v)) H s'->(∃a,Heap.SameBut a s.heap s'.heap/\(a=X.env.locals\/X.env.cells.lookup x=some a))->Q () s') (hf:autoParam (X.fn x=true\/X.env.scope.names.lookup x=some .local) L2.dft0._auto_1):wpAny M A (storeName X.env x u) Q E s:=by
 obtain⟨m,hn,hl⟩:=id I.loc
 have hcls:(X.env.scope.kind == .class || (X.env.scope.kind == .module && X.env.locals != X.env.globals))=false:=by rw[I.ok.kind];rfl
 have hiσ:i < σ.length:=by rw[I.len];exact(List.getElem?_eq_some_iff.mp hi).1
 have cne:=I.cne
 have tracked:∀{a:Addr} {h':Heap},(∃o,s.heap.get? a=some o/\H a=none)->Heap.SameBut a s.heap h'->HOk X.prog X.w H h':=λ{a h'} ha hs b ob e=>by
  obtain⟨_,_,hfree⟩:=ha
  refine(I.hok b ob e).stay (λc w' hc q=>(hs.2 c ?_).trans q) (λ_ q=>q) λ_ _ q=>q
  rintro rfl
  rcases hc with rfl | hc
  ·rw[hfree] at e;cases e
  ·rw[hfree] at hc;cases hc
 rcases hx with hk | hk
 ·refine wpAny_storeName_local hk hn (λh' hn' hs=>?_) hcls
  obtain⟨oL,_,_,hoL,_⟩:=id hn
  refine h _ ⟨I.ok,I.os,I.bare,⟨λb o e n hb hx=>?_,λb o e n hb hx=>?_,I.base.free,λb o e hx=>?_,I.base.tups,I.base.frzs,I.base.tbls⟩,⟨_,hn',λj y v' e1 e2 e3=>?_⟩,λy c e=>?_,I.free,I.freeC,λp hp=>?_,tracked ⟨oL,hoL,I.free⟩ hs,by simpa using I.len⟩ ⟨_,hs,.inl rfl⟩
  ·exact(hs.2 b (Nat.ne_of_lt (Nat.lt_of_lt_of_le (Heap.lt_size e) I.ok.above))).trans (I.base.keep b o e n hb hx)
  ·obtain⟨sl,e1⟩:=I.base.slot b o e n hb hx
   exact⟨sl,(hs.2 b (Nat.ne_of_lt (Nat.lt_of_lt_of_le (Heap.lt_size e) I.ok.above))).trans e1⟩
  ·obtain⟨o',e1⟩:=I.base.there b o e hx
   exact⟨o',(hs.2 b (Nat.ne_of_lt (Nat.lt_of_lt_of_le (Heap.lt_size e) I.ok.above))).trans e1⟩
  ·by_cases hj:j=i
   ·subst hj
    rw[hi] at e1;cases e1
    rw[List.getElem?_set_self hiσ] at e2
    cases e2
    exact⟨u,r,.inl ⟨hk,by simp⟩⟩
   ·rw[List.getElem?_set_ne (Ne.symm hj)] at e2
    obtain⟨u',r',q⟩:=hl j y v' e1 e2 e3
    refine⟨u',r',?_⟩
    rcases q with⟨k,e⟩ | ⟨k,c,e,z⟩
    ·refine .inl ⟨k,?_⟩
     have:y≠x:=λe=>hj (nN hN e1 (e▸hi))
     simp[this,e]
    ·exact .inr ⟨k,c,e,z.sameBut hs (cne y c e)⟩
  ·obtain⟨w',z⟩:=I.cell y c e
   exact⟨w',z.sameBut hs (cne y c e)⟩
  ·obtain⟨e,n,ne,nf,d⟩:=I.pin p hp
   exact⟨(hs.2 p.1 ne).trans e,n,ne,nf,d⟩
 ·have hfn:X.fn x=true:=by
   rcases hf with z | z
   ·exact z
   ·rw[z] at hk;cases hk
  obtain⟨c,hc⟩:=I.ok.has x (.inl hk)
  obtain⟨w',z⟩:=I.cell x c hc
  refine wpAny_storeName_cell I.ok.kind hk hc z (λh' hc' hs=>?_)
  obtain⟨oc,hoc,hocd⟩:=id z
  refine h { s with heap:=h' } ⟨I.ok,I.os,I.bare,⟨λb o e n hb hx=>?_,λb o e n hb hx=>?_,I.base.free,λb o e hx=>?_,I.base.tups,I.base.frzs,I.base.tbls⟩,⟨m,hn.sameBut hs (Ne.symm (cne x c hc)),λj y v' e1 e2 e3=>?_⟩,λy c' e=>?_,I.free,I.freeC,λp hp=>?_,tracked ⟨oc,hoc,I.freeC x c hc⟩ hs,by simpa using I.len⟩ ⟨c,hs,.inr hc⟩
  ·exact(hs.2 b (Nat.ne_of_lt (Nat.lt_of_lt_of_le (Heap.lt_size e) (I.ok.cab x c hfn hc)))).trans (I.base.keep b o e n hb hx)
  ·obtain⟨sl,e1⟩:=I.base.slot b o e n hb hx
   exact⟨sl,(hs.2 b (Nat.ne_of_lt (Nat.lt_of_lt_of_le (Heap.lt_size e) (I.ok.cab x c hfn hc)))).trans e1⟩
  ·obtain⟨o',e1⟩:=I.base.there b o e hx
   exact⟨o',(hs.2 b (Nat.ne_of_lt (Nat.lt_of_lt_of_le (Heap.lt_size e) (I.ok.cab x c hfn hc)))).trans e1⟩
  ·by_cases hj:j=i
   ·subst hj
    rw[hi] at e1;cases e1
    rw[List.getElem?_set_self hiσ] at e2
    cases e2
    exact⟨u,r,.inr ⟨.inl hk,c,hc,hc'⟩⟩
   ·rw[List.getElem?_set_ne (Ne.symm hj)] at e2
    obtain⟨u',r',q⟩:=hl j y v' e1 e2 e3
    refine⟨u',r',?_⟩
    rcases q with q | ⟨k,c',e,z'⟩
    ·exact .inl q
    ·refine .inr ⟨k,c',e,z'.sameBut hs ?_⟩
     rintro rfl
     exact hj (nN hN e1 (I.ok.inj _ _ _ e hc▸hi))
  ·by_cases hcc:c'=c
   ·subst hcc;exact⟨_,hc'⟩
   ·obtain⟨w2,z2⟩:=I.cell y c' e
    exact⟨w2,z2.sameBut hs hcc⟩
  ·obtain⟨e,n,ne,nf,d⟩:=I.pin p hp
   refine⟨(hs.2 p.1 ?_).trans e,n,ne,nf,d⟩
   intro q
   rw[q,hoc] at e
   have q':oc=p.2:=Option.some.inj e
   exact d w' (by rw[<-q'];exact hocd)
theorem kG {M:Model}{A:Around}{E:Value->Shared->Prop}{i:Nat}{x:Str}{v:V}{u:Value}{Q:Unit->Shared->Prop}(I:Inv X pins σ H s)(hN:X.N.Nodup)(hi:X.N[i]?=some x)(hx:Loc X.env.scope x)(r:RelV v u)
  (h:∀s',Inv X pins (σ.set i (some v)) H s'->Q () s') (hf:autoParam (X.fn x=true\/X.env.scope.names.lookup x=some .local) L2.dft0._auto_1):wpAny M A (storeName X.env x u) Q E s:=
 pT I hN hi hx r (λs' I' _=>h s' I') hf
theorem Inv.call' {s':Shared}{ch:List Addr}(I:Inv X pins σ H s)(ho:s'.os=s.os)(u:Un (frs X.stack) ch H H' s.heap s'.heap)(hok:HOk X.prog X.w H' s'.heap)(hg:AllBare s'.gens)
  (hch:∀b∈ch,(b∈X.ex\/X.s₀.heap.objs.size<=b)/\b≠X.env.locals/\(∀x c,X.env.cells.lookup x=some c->c≠b)/\∀p∈X.pn++pins,p.1≠b):Inv X pins σ H' s':=by
 obtain⟨h',g',d',t',o'⟩:=s'
 have e:o'=s.os:=ho
 subst e
 exact I.call (g':=g') (t':=t') (d':=d') u hok hg hch
end
noncomputable abbrev XK:=Value->Option Addr->Hp->Prop
noncomputable abbrev St:=List (Option V)
noncomputable abbrev VK:=V->Hp->Prop
noncomputable abbrev TE:=St->Hp->VK->Prop
noncomputable abbrev TT:=St->Hp->(Bool->Hp->Prop)->Prop
noncomputable abbrev TA:=St->Hp->(List V->Hp->Prop)->Prop
structure Ends where
 nx:St->Hp->Prop
 rt:VK
 bk:St->Hp->Prop:=λ_ _=>False
 ct:St->Hp->Prop:=λ_ _=>False
noncomputable abbrev TS:=Ends->St->Hp->Prop
noncomputable def EP (X:Cx)(pins:List (Addr×Obj))(σ:St)(Q:VK)(u:Value)(s':Shared):Prop:=∃v H',Inv X pins σ H' s'/\RelV v u/\Q v H'
noncomputable def TP (X:Cx)(pins:List (Addr×Obj))(σ:St)(Q:Bool->Hp->Prop)(b:Bool)(s':Shared):Prop:=∃H',Inv X pins σ H' s'/\Q b H'
noncomputable def AP (X:Cx)(pins:List (Addr×Obj))(σ:St)(Q:List V->Hp->Prop)(us:List Value)(s':Shared):Prop:=∃vs H',Inv X pins σ H' s'/\Vals vs us/\Q vs H'
noncomputable def SP (X:Cx)(pins:List (Addr×Obj))(D:Ends)(f:Flow)(s':Shared):Prop:=
 match f with
 | .next=>∃σ' H',Inv X pins σ' H' s'/\D.nx σ' H'
 | .brk=>∃σ' H',Inv X pins σ' H' s'/\D.bk σ' H'
 | .cont=>∃σ' H',Inv X pins σ' H' s'/\D.ct σ' H'
 | .ret u=>∃v σ' H',Inv X pins σ' H' s'/\RelV v u/\D.rt v H'
noncomputable def PE (X:Cx)(e:Expr)(t:TE):Prop:=
 ∀(pins:List (Addr×Obj)) (s:Shared) (σ:St) (H:Hp) (Q:VK),Inv X pins σ H s->t σ H Q->wpAny (model X.prog X.w) X.A (eval e X.env) (EP X pins σ Q) X.xe s
noncomputable def PT (X:Cx)(e:Expr)(t:TT):Prop:=
 ∀(pins:List (Addr×Obj)) (s:Shared) (σ:St) (H:Hp) (Q:Bool->Hp->Prop),Inv X pins σ H s->t σ H Q->wpAny (model X.prog X.w) X.A (isTrue e X.env (eval e X.env)) (TP X pins σ Q) X.xe s
noncomputable def PW (X:Cx)(e:Expr)(t:TT):Prop:=
 ∀(whole:Sem Value) (pins:List (Addr×Obj)) (s:Shared) (σ:St) (H:Hp) (Q:Bool->Hp->Prop),Inv X pins σ H s->t σ H Q->wpAny (model X.prog X.w) X.A (isTrue e X.env whole) (TP X pins σ Q) X.xe s
theorem PW.pt {X:Cx}{e:Expr}{t:TT}(h:PW X e t):PT X e t:=h _
noncomputable def PA (X:Cx)(es:List Expr)(t:TA):Prop:=
 ∀(pos:Pos) (pins:List (Addr×Obj)) (s:Shared) (σ:St) (H:Hp) (Q:List V->Hp->Prop),Inv X pins σ H s->t σ H Q->wpAny (model X.prog X.w) X.A (spliced (backTo pos (starEach es X.env))) (AP X pins σ Q) X.xe s
noncomputable def PS (X:Cx)(st:Stmt)(t:TS):Prop:=
 ∀(pins:List (Addr×Obj)) (s:Shared) (σ:St) (H:Hp) (D:Ends),Inv X pins σ H s->t D σ H->wpAny (model X.prog X.w) X.A (exec st X.env) (SP X pins D) X.xe s
noncomputable def PSs (X:Cx)(st:List Stmt)(t:TS):Prop:=
 ∀(pins:List (Addr×Obj)) (s:Shared) (σ:St) (H:Hp) (D:Ends),Inv X pins σ H s->t D σ H->wpAny (model X.prog X.w) X.A (execs st X.env) (SP X pins D) X.xe s
theorem thn {α:Type}{t:Sem α}{Q Q':α->Shared->Prop}{M:Model}{A:Around}{E:Value->Shared->Prop}{s:Shared}(h:wpAny M A t Q E s)(hQ:∀a s,Q a s->Q' a s):wpAny M A t Q' E s:=wpAny_mono h hQ λ_ _ x=>x
theorem thnE {t:Sem Value}{X:Cx}{pins:List (Addr×Obj)}{σ:St}{Q:VK}{Q':Value->Shared->Prop}{M:Model}{A:Around}{E:Value->Shared->Prop}{s:Shared}(h:wpAny M A t (EP X pins σ Q) E s)(hQ:∀u s' v H',Inv X pins σ H' s'->RelV v u->Q v H'->Q' u s'):wpAny M A t Q' E s:=wpAny_mono h (λu s' ⟨v,H',I,r,q⟩=>hQ u s' v H' I r q) λ_ _ x=>x
theorem thnA {t:Sem (List Value)}{X:Cx}{pins:List (Addr×Obj)}{σ:St}{Q:List V->Hp->Prop}{Q':List Value->Shared->Prop}{M:Model}{A:Around}{E:Value->Shared->Prop}{s:Shared}(h:wpAny M A t (AP X pins σ Q) E s)(hQ:∀u s' v H',Inv X pins σ H' s'->Vals v u->Q v H'->Q' u s'):wpAny M A t Q' E s:=wpAny_mono h (λu s' ⟨v,H',I,r,q⟩=>hQ u s' v H' I r q) λ_ _ x=>x
section
variable {X:Cx}
noncomputable def onR (x:V)(R:Addr->Prop):Prop:=match x with | .ref a=>R a | _=>False
theorem onRr {a:Addr}{R:Addr->Prop}:onR (.ref a) R=R a:=rfl
theorem onRx {x:V}{R:Addr->Prop}:onR x R=∃a,x=.ref a/\R a:=by
 cases x<;>simp[onR]
theorem qJ {x:V}{R:Addr->Prop}(h:onR x R):∃a,x=.ref a/\R a:=onRx▸h
noncomputable def onB (x:V)(R:Bool->Prop):Prop:=match x with | .bl a=>R a | _=>False
theorem onBb {a:Bool}{R:Bool->Prop}:onB (.bl a) R=R a:=rfl
theorem onBx {x:V}{R:Bool->Prop}:onB x R=∃a,x=.bl a/\R a:=by
 cases x<;>simp[onB]
theorem nO {x:V}{R:Bool->Prop}(h:onB x R):∃a,x=.bl a/\R a:=onBx▸h
theorem mapC {α β:Type _}{f:α->β}{a:α}{l:List α}:List.map f (a::l)=f a::List.map f l:=rfl
theorem mapN {α β:Type _}{f:α->β}:List.map f []=[]:=rfl
noncomputable def tVar:Nat->St->Hp->VK->Prop
 | 0,some v::_,H,Q=>Q v H
 | 0,none::_,_,_=>False
 | n+1,_::r,H,Q=>tVar n r H Q
 | _,[],_,_=>False
theorem tV0 {v:V}{r:St}{H:Hp}{Q:VK}:tVar 0 (some v::r) H Q=Q v H:=rfl
theorem tVs {n:Nat}{x:Option V}{r:St}{H:Hp}{Q:VK}:tVar (n+1) (x::r) H Q=tVar n r H Q:=rfl
theorem wk:∀{i:Nat} {σ:St} {H:Hp} {Q:VK},tVar i σ H Q->∃v,σ[i]?=some (some v)/\Q v H
 | 0,some v::_,_,_,h=>⟨v,rfl,h⟩
 | 0,none::_,_,_,h=>h.elim
 | n+1,_::r,_,_,h=>let ⟨v,e,q⟩:=wk (i:=n) (σ:=r) h;⟨v,by simpa using e,q⟩
 | 0,[],_,_,h=>h.elim
 | _+1,[],_,_,h=>h.elim
noncomputable def tC (v:V):TE:=λ_ H Q=>Q v H
theorem Dj {i:Nat}{x:Str}{pos:Pos}(hN:X.N[i]?=some x)(hv:Vis X.env.scope x)(hd:autoParam ((x == ("__debug__":Str))=false) L2.dft1._auto_1)(hcd:autoParam ((x == ("__classdict__":Str))=false) L2.dft1._auto_1):PE X (.Name x pos) (tVar i):=by
 intro pins s σ H Q I h
 obtain⟨v,e,h⟩:=wk h
 obtain⟨m,hn,hl⟩:=I.loc
 obtain⟨u,r,l⟩:=hl i x v hN e hv
 have fin:EP X pins σ Q u s:=⟨v,H,I,r,h⟩
 rcases l with⟨hk,hm⟩ | ⟨hk,c,hc,hcell⟩
 ·exact wpAny_Name (wpAny_loadName_local I.ok.kind hk hn hm fin) hd
 ·rcases hk with hk | hk
  ·exact wpAny_Name (wpAny_loadName_cell I.ok.kind hk hc hcell fin) hd
  ·exact wpAny_Name (wpAny_loadName_free I.ok.kind hk hc hcell fin hcd) hd
theorem ah {i j pos}:PE X (.Constant (.int i) j pos) (tC (.int i)):=λ_ _ _ H _ I h=>wpAny_Constant_int ⟨.int i,H,I.tok _,⟨_,rfl⟩,h⟩
theorem d6 {b j pos}:PE X (.Constant (.bool b) j pos) (tC (.bl b)):=λ_ _ _ H _ I h=>Constant_bool ⟨.bl b,H,I,rfl,h⟩
theorem qK {j pos}:PE X (.Constant .none j pos) (tC .non):=λ_ _ _ H _ I h=>Constant_none ⟨.non,H,I,rfl,h⟩
theorem aK {x j pos}:PE X (.Constant (.str x) j pos) (tC (.str x)):=λ_ _ _ H _ I h=>Calls.Constant_str ⟨.str x,H,I.tok _,⟨_,rfl⟩,h⟩
noncomputable def Gl (X:Cx)(x:Str):Prop:=X.env.kindOf x=some .globalImplicit
theorem jo {E:Value->Shared->Prop}{pins:List (Addr×Obj)}{s:Shared}{σ:St}{H:Hp}{x:Str}{u:Value}{pos:Pos}{Q:Value->Shared->Prop}(I:Inv X pins σ H s)(hg:Gl X x)(hm:X.mg x=some u)(h:Q u s)
  (hd:autoParam ((x == ("__debug__":Str))=false) L2.dft1._auto_1):wpAny (model X.prog X.w) X.A (eval (.Name x pos) X.env) Q E s:=
 Calls.Name_function_global I.ok.kind hg (Calls.loadGlobal_global (by rw[I.ok.glob];exact I.mod.glob.keeps I.bk) hm h) hd
theorem dw {E:Value->Shared->Prop}{pins:List (Addr×Obj)}{s:Shared}{σ:St}{H:Hp}{x:Str}{u:Value}{pos:Pos}{Q:Value->Shared->Prop}(I:Inv X pins σ H s)(hg:Gl X x)(hm:X.mg x=none)(hv:bootBuiltins x=some u)(h:Q u s)
  (hn:autoParam (x ≠ "__name__") L2.dft1._auto_1) (hd:autoParam ((x == ("__debug__":Str))=false) L2.dft1._auto_1):wpAny (model X.prog X.w) X.A (eval (.Name x pos) X.env) Q E s:=by
 obtain⟨mb,h1,h2⟩:=I.mod.blt
 exact Calls.Name_function_global I.ok.kind hg (Calls.loadGlobal_builtin (by rw[I.ok.glob];exact I.mod.glob.keeps I.bk) hm (by rw[I.ok.blt];exact h1.keeps I.bk) ((h2 x hn).trans hv) h) hd
theorem qL {x:Str}{v:V}{u:Value}{pos:Pos}(hg:Gl X x)(hm:X.mg x=some u)(r:RelV v u)(hd:autoParam ((x == ("__debug__":Str))=false) L2.dft1._auto_1):PE X (.Name x pos) (tC v):=
 λ_ _ _ H _ I h=>jo I hg hm ⟨v,H,I,r,h⟩ hd
theorem cZ {x:Str}{v:V}{u:Value}{pos:Pos}(hg:Gl X x)(hm:X.mg x=none)(hv:bootBuiltins x=some u)(r:RelV v u)(hn:autoParam (x ≠ "__name__") L2.dft1._auto_1)(hd:autoParam ((x == ("__debug__":Str))=false) L2.dft1._auto_1):PE X (.Name x pos) (tC v):=
 λ_ _ _ H _ I h=>dw I hg hm hv ⟨v,H,I,r,h⟩ hn hd
variable {a b:Expr} {ta tb:TE} {pos:Pos}
noncomputable def PC (X:Cx)(op:CmpOp)(a b:Expr)(t:TE):Prop:=
 ∀(pins:List (Addr×Obj)) (s:Shared) (σ:St) (H:Hp) (Q:VK),Inv X pins σ H s->t σ H Q->
  wpAny (model X.prog X.w) X.A (eval a X.env) (λv s₁=>wpAny (model X.prog X.w) X.A (eval b X.env) (λu s₂=>wpAny (model X.prog X.w) X.A (compareOp op v u) (EP X pins σ Q) X.xe s₂) X.xe s₁) X.xe s
theorem nobehind (b:Expr){op:CmpOp}(h:op≠.In)(h2:op≠.NotIn):behindInMarks op b=false:=by
 have e1:(op == CmpOp.In)=false:=by cases op<;>first | rfl | exact absurd rfl h
 have e2:(op == CmpOp.NotIn)=false:=by cases op<;>first | rfl | exact absurd rfl h2
 cases b<;>simp[behindInMarks,e1,e2]
noncomputable def tIsN (ta:TE):TE:=λσ H Q=>ta σ H λx H1=>Q (.bl (decide (x=.non))) H1
noncomputable def tNotN (ta:TE):TE:=λσ H Q=>ta σ H λx H1=>Q (.bl (!decide (x=.non))) H1
theorem RelV.r6 {x:V}{v:Value}(r:RelV x v):(v == Value.none)=decide (x=.non):=by
 cases x with
 | non=>cases r;rfl
 | bl _=>cases r;rfl
 | int _=>obtain⟨t,rfl⟩:=r;rfl
 | str _=>obtain⟨t,rfl⟩:=r;rfl
 | byt _=>obtain⟨t,rfl⟩:=r;rfl
 | flt _=>obtain⟨t,rfl⟩:=r;rfl
 | ref _=>cases r;rfl
 | ty _=>cases r;rfl
theorem uz {j pos'}(ha:PE X a ta):PC X .Is a (.Constant .none j pos') (tIsN ta):=by
 intro pins s σ H Q I h
 refine thnE (ha pins s σ H _ I h) λv s1 x H1 I1 r1 q1=>?_
 exact Constant_none (is_none_gen ⟨.bl _,H1,I1,by rw[r1.r6];rfl,q1⟩)
theorem wm {j pos'}(ha:PE X a ta):PC X .IsNot a (.Constant .none j pos') (tNotN ta):=by
 intro pins s σ H Q I h
 refine thnE (ha pins s σ H _ I h) λv s1 x H1 I1 r1 q1=>?_
 exact Constant_none (isnot_none_gen ⟨.bl _,H1,I1,by rw[r1.r6];rfl,q1⟩)
noncomputable def tB (t:TE):TT:=λσ H Q=>t σ H λx H1=>∃c,x=.bl c/\Q c H1
theorem nP {op:CmpOp}{t:TE}(h:PC X op a b t)(h1:autoParam (behindInMarks op b=false) L2.dft2._auto_1):PT X (.Compare a [op] [b] pos) (tB t):=by
 intro pins s σ H Q I hw
 refine wpAny_isTrue_Compare1 (thn (h pins s σ H _ I hw) λv s1 h1=>thn h1 λu s2 h2=>thn h2 λc s3 ⟨x,H1,I1,r1,q1⟩=>?_) h1
 obtain⟨d,rfl,q⟩:=q1
 cases r1
 exact wpAny_truthy_bool ⟨H1,I1,q⟩
variable {tA tB':TT} {rest:List Expr}
noncomputable def tAnd (t u:TT):TT:=λσ H Q=>t σ H λc H1=>if c=true then u σ H1 Q else Q false H1
noncomputable def tOr (t u:TT):TT:=λσ H Q=>t σ H λc H1=>if c=true then Q true H1 else u σ H1 Q
noncomputable def tNot (t:TT):TT:=λσ H Q=>t σ H λc H1=>Q (!c) H1
theorem wq (ha:PT X a tA):PW X (.BoolOp .And [a] pos) tA:=by
 intro wh pins s σ H Q I h
 refine isTrue_and (thn (ha pins s σ H Q I h) λc s1 e=>?_)
 cases c with
 | true=>exact isTrue_and_nil e
 | false=>exact e
theorem iM (ha:PT X a tA):PW X (.BoolOp .Or [a] pos) tA:=by
 intro wh pins s σ H Q I h
 refine isTrue_or (thn (ha pins s σ H Q I h) λc s1 e=>?_)
 cases c with
 | false=>exact isTrue_or_nil e
 | true=>exact e
theorem zx (ha:PT X a tA)(hb:PW X (.BoolOp .And (b::rest) pos) tB'):PW X (.BoolOp .And (a::b::rest) pos) (tAnd tA tB'):=by
 intro wh pins s σ H Q I h
 refine isTrue_and (thn (ha pins s σ H _ I h) λc s1 ⟨H1,I1,q1⟩=>?_)
 cases c with
 | true=>exact hb wh pins s1 σ H1 Q I1 q1
 | false=>exact⟨H1,I1,q1⟩
theorem mM (ha:PT X a tA)(hb:PW X (.BoolOp .Or (b::rest) pos) tB'):PW X (.BoolOp .Or (a::b::rest) pos) (tOr tA tB'):=by
 intro wh pins s σ H Q I h
 refine isTrue_or (thn (ha pins s σ H _ I h) λc s1 ⟨H1,I1,q1⟩=>?_)
 cases c with
 | true=>exact⟨H1,I1,q1⟩
 | false=>exact hb wh pins s1 σ H1 Q I1 q1
theorem ck (ha:PT X a tA):PT X (.UnaryOp .Not a pos) (tNot tA):=by
 intro pins s σ H Q I h
 exact isTrue_not (ha pins s σ H (λc H1=>Q (!c) H1) I h)
noncomputable def tAndV (ta tb:TE):TE:=λσ H Q=>ta σ H λx H1=>∃c,x=.bl c/\if c=true then tb σ H1 Q else Q (.bl false) H1
noncomputable def tOrV (ta tb:TE):TE:=λσ H Q=>ta σ H λx H1=>∃c,x=.bl c/\if c=true then Q (.bl true) H1 else tb σ H1 Q
noncomputable def tNotV (ta:TE):TE:=λσ H Q=>ta σ H λx H1=>∃c,x=.bl c/\Q (.bl (!c)) H1
theorem fZ {op}{t:TE}(h:PE X a t):PE X (.BoolOp op [a] pos) t:=λpins s σ H Q I hw=>BoolOp_one (h pins s σ H Q I hw)
theorem dy (ha:PE X a ta)(hb:PE X (.BoolOp .And (b::rest) pos) tb):PE X (.BoolOp .And (a::b::rest) pos) (tAndV ta tb):=by
 intro pins s σ H Q I h
 refine BoolOp_and (thnE (ha pins s σ H _ I h) λv s1 x H1 I1 r1 q1=>?_)
 obtain⟨c,rfl,q1⟩:=q1
 cases r1
 refine wpAny_truthy_bool ?_
 cases c with
 | true=>exact hb pins s1 σ H1 Q I1 q1
 | false=>exact⟨.bl false,H1,I1,rfl,q1⟩
theorem zy (ha:PE X a ta):PE X (.UnaryOp .Not a pos) (tNotV ta):=by
 intro pins s σ H Q I h
 refine UnaryOp_ (thnE (ha pins s σ H _ I h) λv s1 x H1 I1 r1 q1=>?_)
 obtain⟨c,rfl,q1⟩:=q1
 cases r1
 exact not_of (wpAny_truthy_bool ⟨.bl (!c),H1,I1,rfl,q1⟩)
noncomputable def tIf (t:TT)(ta tb:TE):TE:=λσ H Q=>t σ H λc H1=>if c=true then ta σ H1 Q else tb σ H1 Q
theorem nQ {c:Expr}(hc:PT X c tA)(ha:PE X a ta)(hb:PE X b tb):PE X (.IfExp c a b pos) (tIf tA ta tb):=by
 intro pins s σ H Q I h
 refine wpAny_IfExp (thn (hc pins s σ H _ I h) λd s1 ⟨H1,I1,q1⟩=>?_)
 cases d with
 | true=>exact ha pins s1 σ H1 Q I1 q1
 | false=>exact hb pins s1 σ H1 Q I1 q1
end
noncomputable def SqL (K:W.Frag)(H:Hp)(a:Addr)(xs:List V):Prop:=
 Rd H a (.lst xs)\/
  ∃(o:Obj) (its:Array Value) (n:Nat),K.lookup a=some o/\o.cls=.type "list" /\ o.dict=none/\o.data=.seq its n/\its.size<=sizeLine/\Vals xs its.toList
noncomputable def SqT (K:W.Frag)(H:Hp)(a:Addr)(xs:List V):Prop:=
 Rd H a (.tup xs)\/
  ∃(o:Obj) (its:Array Value) (n:Nat),K.lookup a=some o/\o.cls=.type "tuple" /\ o.data=.seq its n/\its.size<=sizeLine/\Vals xs its.toList
noncomputable def absV:Value->Option V
 | .none=>some .non
 | .bool b=>some (.bl b)
 | .int i _=>some (.int i)
 | .str x _=>some (.str x)
 | .bytes b _=>some (.byt b)
 | .float b _=>some (.flt b)
 | .ref a=>some (.ref a)
 | .type n=>some (.ty n)
 | _=>none
theorem RelV.abs {x:V}{u:Value}(r:RelV x u):absV u=some x:=by
 cases x with
 | non=>cases r;rfl
 | bl _=>cases r;rfl
 | int _=>obtain⟨t,rfl⟩:=r;rfl
 | str _=>obtain⟨t,rfl⟩:=r;rfl
 | byt _=>obtain⟨t,rfl⟩:=r;rfl
 | flt _=>obtain⟨t,rfl⟩:=r;rfl
 | ref _=>cases r;rfl
 | ty _=>cases r;rfl
theorem RelV.inj {x y:V}{u:Value}(r:RelV x u)(q:RelV y u):x=y:=Option.some.inj (r.abs.symm.trans q.abs)
theorem Vals.inj:∀{xs ys:List V} {us:List Value},Vals xs us->Vals ys us->xs=ys
 | _,_,_,.nil,.nil=>rfl
 | _,_,_,.cons r t,.cons r' t'=>by rw[r.inj r',Vals.inj t t']
section
variable {X:Cx} {pins:List (Addr×Obj)} {σ:St} {H:Hp} {s:Shared} {a:Addr} {xs ys:List V}
theorem SqT.of {K:W.Frag}(h:H a=some (.tup xs)):SqT K H a xs:=.inl (.inl h)
theorem Inv.list (I:Inv X pins σ H s)(h:SqL X.K H a xs):∃its:List Value,Vals xs its/\PlainL s.heap a its.toArray/\xs.length<=sizeLine:=by
 rcases h with h | ⟨o,its,n,hk,hc,hd,hs,hz,r⟩
 ·obtain⟨z,its,n,r,e⟩:=h.ok I.hok
  exact⟨its,r,⟨_,n,e,rfl,rfl,rfl⟩,z⟩
 ·refine⟨its.toList,r,⟨o,n,I.kIn a o hk,hc,hd,by simpa using hs⟩,?_⟩
  have e:=r.length
  simp only[Array.length_toList] at e
  omega
theorem Inv.tuple (I:Inv X pins σ H s)(h:SqT X.K H a xs):∃its:List Value,Vals xs its/\IsTup s.heap a its.toArray/\xs.length<=sizeLine:=by
 rcases h with h | ⟨o,its,n,hk,hc,hs,hz,r⟩
 ·obtain⟨z,its,r,p⟩:=h.ok I.hok
  exact⟨its,r,p,z⟩
 ·refine⟨its.toList,r,⟨o,I.kIn a o hk,hc,n,by simpa using hs⟩,?_⟩
  have e:=r.length
  simp only[Array.length_toList] at e
  omega
theorem Inv.gB (I:Inv X pins σ H s)(h:SqL X.K H a xs)(h':SqL X.K H a ys):xs=ys:=by
 obtain⟨its,r,⟨o,n,e,_,_,d⟩,_⟩:=I.list h
 obtain⟨its',r',⟨o',n',e',_,_,d'⟩,_⟩:=I.list h'
 rw[e] at e';cases e'
 rw[d] at d'
 injection d' with d1 _
 have:its=its':=by simpa using congrArg Array.toList d1
 subst this
 exact r.inj r'
theorem Inv.pU (I:Inv X pins σ H s)(h:SqT X.K H a xs)(h':SqT X.K H a ys):xs=ys:=by
 obtain⟨its,r,⟨o,e,_,n,d⟩,_⟩:=I.tuple h
 obtain⟨its',r',⟨o',e',_,n',d'⟩,_⟩:=I.tuple h'
 rw[e] at e';cases e'
 rw[d] at d'
 injection d' with d1 _
 have:its=its':=by simpa using congrArg Array.toList d1
 subst this
 exact r.inj r'
end
noncomputable abbrev Cx.wish (X:Cx)(E:Value->Shared->Prop):Cx:={ X with xe:=E }
noncomputable abbrev Cx.nox (X:Cx):Cx:=X.wish λ_ _=>False
theorem Cx.Ok.wish {X:Cx}(ok:X.Ok)(E:Value->Shared->Prop):(X.wish E).Ok:=
 ⟨ok.mod,ok.kind,ok.glob,ok.blt,ok.above,ok.inj,ok.has,ok.cab,ok.hd,ok.frames,ok.stk,ok.exf,ok.bs,ok.bsz,ok.noex,ok.exfs,ok.funs,ok.frf⟩
theorem Cx.Ok.unwish {X:Cx}{E:Value->Shared->Prop}(ok:(X.wish E).Ok):X.Ok:=
 ⟨ok.mod,ok.kind,ok.glob,ok.blt,ok.above,ok.inj,ok.has,ok.cab,ok.hd,ok.frames,ok.stk,ok.exf,ok.bs,ok.bsz,ok.noex,ok.exfs,ok.funs,ok.frf⟩
section
variable {X:Cx} {pins:List (Addr×Obj)} {σ:St} {H:Hp} {s:Shared} {E:Value->Shared->Prop}
theorem Inv.wish (I:Inv X pins σ H s)(E:Value->Shared->Prop):Inv (X.wish E) pins σ H s:=⟨I.ok.wish E,I.os,I.bare,I.base,I.loc,I.cell,I.free,I.freeC,I.pin,I.hok,I.len⟩
theorem Inv.unwish (I:Inv (X.wish E) pins σ H s):Inv X pins σ H s:=⟨I.ok.unwish,I.os,I.bare,I.base,I.loc,I.cell,I.free,I.freeC,I.pin,I.hok,I.len⟩
theorem SP.unwish {D:Ends}{f:Flow}{s':Shared}(h:SP (X.wish E) pins D f s'):SP X pins D f s':=by
 cases f with
 | next=>obtain⟨σ',H',I,q⟩:=h;exact⟨σ',H',I.unwish,q⟩
 | brk=>obtain⟨σ',H',I,q⟩:=h;exact⟨σ',H',I.unwish,q⟩
 | cont=>obtain⟨σ',H',I,q⟩:=h;exact⟨σ',H',I.unwish,q⟩
 | ret u=>obtain⟨v,σ',H',I,r,q⟩:=h;exact⟨v,σ',H',I.unwish,r,q⟩
theorem PT.nox {e:Expr}{t:TT}(h:PT X.nox e t):PT X e t:=λpins s σ H Q I hw=>
 wpAny_mono (h pins s σ H Q (I.wish _) hw) (λ_ _ ⟨H',I',q⟩=>⟨H',I'.unwish,q⟩) λ_ _ z=>False.elim z
theorem PSs.nox {st:List Stmt}{t:TS}(h:PSs X.nox st t):PSs X st t:=λpins s σ H D I hw=>
 wpAny_mono (h pins s σ H D (I.wish _) hw) (λ_ _ q=>q.unwish) λ_ _ z=>False.elim z
end
section
variable {X:Cx} {st:Stmt} {rest:List Stmt} {t u:TS} {e:Expr} {te:TE} {pos:Pos}
noncomputable def tNext:TS:=λD σ H=>D.nx σ H
noncomputable def tSeq (t u:TS):TS:=λD σ H=>t { D with nx:=u D } σ H
theorem aD:PSs X [] tNext:=λ_ _ σ H _ I h=>wpAny_execs_nil ⟨σ,H,I,h⟩
theorem ag (h1:PS X st t)(h2:PSs X rest u):PSs X (st::rest) (tSeq t u):=by
 intro pins s σ H D I h
 refine wpAny_execs_cons (thn (h1 pins s σ H { D with nx:=u D } I h) λf s1 q=>?_)
 cases f with
 | next=>
  obtain⟨σ',H',I',q⟩:=q
  exact h2 pins s1 σ' H' D I' q
 | ret v=>exact q
 | brk=>exact q
 | cont=>exact q
theorem ai (h1:PS X st t):PSs X [st] t:=by
 intro pins s σ H D I h
 refine wpAny_execs_cons (thn (h1 pins s σ H D I h) λf s1 q=>?_)
 cases f with
 | next=>exact wpAny_execs_nil q
 | ret v=>exact q
 | brk=>exact q
 | cont=>exact q
noncomputable def tBreak:TS:=λD σ H=>D.bk σ H
noncomputable def tCont:TS:=λD σ H=>D.ct σ H
theorem zA:PS X (.Break pos) tBreak:=λ_ _ σ H _ I h=>wpAny_Break ⟨σ,H,I,h⟩
theorem Inv.quiet {pins:List (Addr×Obj)}{σ:St}{H:Hp}{s:Shared}(I:Inv X pins σ H s):interactive X.env=false:=by simp[interactive,I.ok.kind]
noncomputable def tDrop (te:TE):TS:=λD σ H=>te σ H λ_ H1=>D.nx σ H1
theorem aH (he:PE X e te)(hs:autoParam (swapsWith e none pos.line X.env=pure false) L2.dft3._auto_1):PS X (.Expr e pos) (tDrop te):=by
 intro pins s σ H D I h
 exact wpAny_Expr_any (thnE (he pins s σ H _ I h) λv s1 x H1 I1 r1 q1=>⟨σ,H1,I1,q1⟩) I.quiet hs
noncomputable def tRet (te:TE):TS:=λD σ H=>te σ H D.rt
theorem ar (he:PE X e te):PS X (.Return (some e) pos) (tRet te):=by
 intro pins s σ H D I h
 exact wpAny_Return_some (thnE (he pins s σ H _ I h) λv s1 x H1 I1 r1 q1=>⟨x,σ,H1,I1,r1,q1⟩)
noncomputable def tRetN:TS:=λD _ H=>D.rt .non H
noncomputable def tIfS (c:TT)(t u:TS):TS:=λD σ H=>c σ H λb H1=>if b=true then t D σ H1 else u D σ H1
theorem aS {c:Expr}{a b:List Stmt}{tc:TT}(hc:PT X c tc)(ha:PSs X a t)(hb:PSs X b u):PS X (.If c a b pos) (tIfS tc t u):=by
 intro pins s σ H D I h
 refine wpAny_If (thn (hc pins s σ H _ I h) λd s1 ⟨H1,I1,q1⟩=>?_)
 cases d with
 | true=>exact ha pins s1 σ H1 D I1 q1
 | false=>exact hb pins s1 σ H1 D I1 q1
noncomputable def tNever:TS:=λ_ _ _=>False
theorem zB:PS X st tNever:=λ_ _ _ _ _ _ h=>h.elim
theorem bh {sts:List Stmt}:PSs X sts tNever:=λ_ _ _ _ _ _ h=>h.elim
end
noncomputable abbrev TG:=V->St->Hp->(St->Hp->Prop)->Prop
noncomputable abbrev TGs:=List V->St->Hp->(St->Hp->Prop)->Prop
noncomputable def PG (X:Cx)(target:Expr)(t:TG):Prop:=
 ∀(pins:List (Addr×Obj)) (s:Shared) (σ:St) (H:Hp) (v:V) (u:Value) (Q:St->Hp->Prop),Inv X pins σ H s->RelV v u->t v σ H Q->
  wpAny (model X.prog X.w) X.A (assign target X.env u) (λ_ s'=>∃σ' H',Inv X pins σ' H' s'/\Q σ' H') X.xe s
noncomputable def PGs (X:Cx)(ts:List Expr)(t:TGs):Prop:=
 ∀(pins:List (Addr×Obj)) (s:Shared) (σ:St) (H:Hp) (vs:List V) (us:List Value) (Q:St->Hp->Prop),Inv X pins σ H s->Vals vs us->t vs σ H Q->
  wpAny (model X.prog X.w) X.A (assignInOrder ((assignEach ts X.env).map (·.2)) us) (λ_ s'=>∃σ' H',Inv X pins σ' H' s'/\Q σ' H') X.xe s
noncomputable abbrev TSet:=V->V->V->Hp->(Hp->Prop)->Prop
noncomputable def PSet (X:Cx)(t:TSet):Prop:=
 ∀(pins:List (Addr×Obj)) (s:Shared) (σ:St) (H:Hp) (o i v:V) (ov iv u:Value) (Q:Hp->Prop),Inv X pins σ H s->RelV o ov->RelV i iv->RelV v u->t o i v H Q->
  wpAny (model X.prog X.w) X.A (setItem ov iv u) (λ_ s'=>∃H',Inv X pins σ H' s'/\Q H') X.xe s
noncomputable abbrev TIp:=V->V->Hp->VK->Prop
noncomputable def PIp (X:Cx)(op:Operator)(t:TIp):Prop:=
 ∀(pins:List (Addr×Obj)) (s:Shared) (σ:St) (H:Hp) (x y:V) (v u:Value) (Q:VK),Inv X pins σ H s->RelV x v->RelV y u->t x y H Q->
  wpAny (model X.prog X.w) X.A (inplaceOp op v u) (EP X pins σ Q) X.xe s
section
variable {X:Cx} {pos:Pos}
noncomputable def gName (i:Nat):TG:=λv σ H Q=>Q (σ.set i (some v)) H
theorem aN {i:Nat}{x:Str}(hN:X.N.Nodup)(hi:X.N[i]?=some x)(hx:Loc X.env.scope x)(hf:autoParam (X.fn x=true\/X.env.scope.names.lookup x=some .local) L2.dft0._auto_1):PG X (.Name x pos) (gName i):=by
 intro pins s σ H v u Q I r h
 exact wpAny_assign_Name (kG I hN hi hx r (λs' I'=>⟨_,H,I',h⟩) hf)
noncomputable def gNil:TGs:=λvs σ H Q=>vs=[]/\Q σ H
noncomputable def gCons (t:TG)(u:TGs):TGs:=λvs σ H Q=>∃v r,vs=v::r/\t v σ H λσ' H'=>u r σ' H' Q
theorem gS:PGs X [] gNil:=by
 intro pins s σ H vs us Q I r h
 obtain⟨e,h⟩:=h
 subst e
 cases r
 exact assignInOrder_nil ⟨σ,H,I,h⟩
theorem bj {e:Expr}{es:List Expr}{t:TG}{u:TGs}(h1:PG X e t)(h2:PGs X es u)
  (hs:autoParam ((assignEach (e::es) X.env).map (·.2)=assign e X.env::(assignEach es X.env).map (·.2)) L2.dft3._auto_1):PGs X (e::es) (gCons t u):=by
 intro pins s σ H vs us Q I r h
 obtain⟨v,vr,e1,h⟩:=h
 subst e1
 cases r with
 | cons r rr=>
  rw[hs]
  refine assignInOrder_cons (thn (h1 pins s σ H _ _ _ I r h) λ_ s1 ⟨σ1,H1,I1,q1⟩=>?_)
  exact h2 pins s1 σ1 H1 _ _ Q I1 rr q1
noncomputable def gTup (K:W.Frag)(n:Nat)(t:TGs):TG:=λv σ H Q=>∃a xs,v=.ref a/\SqT K H a xs/\xs.length=n/\t xs σ H Q
theorem Dk {es:List Expr}{k:Nat}{t:TGs}{n:Nat}(hc:X.calm=true)(h:PGs X es t)
  (hn:autoParam ((assignEach es X.env).length=n) L2.dft3._auto_1) (hst:autoParam ((assignEach es X.env).findIdx? (·.1)=none) L2.dft3._auto_1):PG X (.Tuple es k pos) (gTup X.K n t):=by
 intro pins s σ H v u Q I r hw
 obtain⟨a,xs,e1,hq,hl,hw⟩:=hw
 subst e1
 cases r
 obtain⟨its,rv,ht,hz⟩:=I.tuple hq
 refine assign_Tuple_tuple (I.ok.hd hc) ht (by simp[hn,<-hl,rv.length]) hst λh' hx=>?_
 have I1:Inv X pins σ H { s with heap:=h' }:=I.kept (t':=s.toks) λb o e=>hx b o (Nat.ne_of_lt (Heap.lt_size e)) e
 exact h pins _ σ H xs _ Q I1 (by simpa using rv) hw
noncomputable def gSub (to ti:TE)(t:TSet):TG:=λv σ H Q=>to σ H λo H1=>ti σ H1 λi H2=>t o i v H2 λH3=>Q σ H3
theorem gb {o i:Expr}{to ti:TE}{t:TSet}(ho:PE X o to)(hi:PE X i ti)(hs:PSet X t)
  (ha:autoParam (∀v,assign (.Subscript o i pos) X.env v=(do
   let ov <-holding [v] (eval o X.env)
   let iv <-holding [v,ov] (eval i X.env)
   standAt pos
   holding [v,ov,iv] (setItem ov iv v)
   release [v,ov,iv] [])) L2.dft4._auto_1):PG X (.Subscript o i pos) (gSub to ti t):=by
 intro pins s σ H v u Q I r h
 rw[ha]
 refine wpAny_bind (wpAny_holding (thnE (ho pins s σ H _ I h) λov s1 x H1 I1 r1 q1=>?_))
 refine wpAny_bind (wpAny_holding (thnE (hi pins s1 σ H1 _ I1 q1) λiv s2 y H2 I2 r2 q2=>?_))
 refine wpAny_bind (wpAny_standAt (wpAny_bind (wpAny_holding (thn (hs pins s2 σ H2 x y v ov iv u _ I2 r1 r2 r q2) λ_ s3 ⟨H3,I3,q3⟩=>?_))))
 exact wpAny_release ⟨σ,H3,I3,q3⟩
noncomputable def tAsg (te:TE)(g:TG):TS:=λD σ H=>te σ H λx H1=>g x σ H1 D.nx
theorem gh {tg e:Expr}{te:TE}{g:TG}(he:PE X e te)(hg:PG X tg g)(hs:autoParam (swapsWithSole [tg] e pos.line X.env=pure false) L2.dft3._auto_1)(hw:autoParam (swappedStores [tg] e X.env=pure none) L2.dft3._auto_1)
  (h1:autoParam ((assignEach [tg] X.env).map (·.2)=[assign tg X.env]) L2.dft3._auto_1):PS X (.Assign [tg] e pos) (tAsg te g):=by
 intro pins s σ H D I h
 refine wpAny_Assign_stores (thnE (he pins s σ H _ I h) λv s1 x H1 I1 r1 q1=>?_) hs hw
 rw[h1]
 exact thn (hg pins s1 σ H1 x v _ I1 r1 q1) λ_ s2 q=>q
theorem av {i:Nat}{x:Str}{e:Expr}{te:TE}{pos':Pos}(hN:X.N.Nodup)(hi:X.N[i]?=some x)(hx:Loc X.env.scope x)(he:PE X e te)(hs:autoParam (swapsWith e (some (.Name x pos')) pos.line X.env=pure false) L2.dft3._auto_1)(hf:autoParam (X.fn x=true\/X.env.scope.names.lookup x=some .local) L2.dft0._auto_1) :
  PS X (.Assign [.Name x pos'] e pos) (tAsg te (gName i)):=by
 intro pins s σ H D I h
 refine wpAny_Assign_Name (thnE (he pins s σ H _ I h) λv s1 y H1 I1 r1 q1=>?_) hs
 exact kG I1 hN hi hx r1 (λs2 I2=>⟨_,H1,I2,q1⟩) hf
noncomputable def tAug (i:Nat)(te:TE)(ti:TIp):TS:=λD σ H=>∃x,σ[i]?=some (some x)/\te σ H λy H1=>ti x y H1 λz H2=>D.nx (σ.set i (some z)) H2
theorem zC {i:Nat}{x:Str}{e:Expr}{te:TE}{op:Operator}{ti:TIp}{pos':Pos}(hN:X.N.Nodup)(hi:X.N[i]?=some x)(hx:Loc X.env.scope x)(he:PE X e te)(ho:PIp X op ti)(hf:autoParam (X.fn x=true\/X.env.scope.names.lookup x=some .local) L2.dft0._auto_1) :
  PS X (.AugAssign (.Name x pos') op e pos) (tAug i te ti):=by
 intro pins s σ H D I h
 obtain⟨v,e1,h⟩:=h
 obtain⟨m,hn,hl⟩:=I.loc
 have vis:Vis X.env.scope x:=by rcases hx with k | k;exact .inl k;exact .inr (.inl k)
 obtain⟨u,r,l⟩:=hl i x v hi e1 vis
 refine wpAny_AugAssign_Name ?_
 have go:wpAny (model X.prog X.w) X.A (eval e X.env) (λw s₂=>wpAny (model X.prog X.w) X.A (inplaceOp op u w) (λr s₃=>wpAny (model X.prog X.w) X.A (storeName X.env x r) (λ_=>SP X pins D .next) X.xe s₃) X.xe s₂) X.xe s:=by
  refine thnE (he pins s σ H _ I h) λw s1 y H1 I1 r1 q1=>?_
  refine thnE (ho pins s1 σ H1 v y u w _ I1 r r1 q1) λz s2 zv H2 I2 r2 q2=>?_
  exact kG I2 hN hi hx r2 (λs3 I3=>⟨_,H2,I3,q2⟩) hf
 rcases l with⟨hk,hm⟩ | ⟨hk,c,hc,hcell⟩
 ·exact wpAny_loadName_local I.ok.kind hk hn hm go
 ·rcases hk with hk | hk
  ·exact wpAny_loadName_cell I.ok.kind hk hc hcell go
  ·rcases hx with k | k
   ·have:X.env.scope.names.lookup x=some .free:=hk
    rw[k] at this;cases this
   ·have:X.env.scope.names.lookup x=some .free:=hk
    rw[k] at this;cases this
end
section
variable {X:Cx} {pos:Pos}
noncomputable def tWhile (c:TT)(tb:TS):TS:=λD σ H=>∃W:Nat->St->Hp->Prop,(∃m,W m σ H)/\∀m σ H,W m σ H->
 c σ H λb H1=>if b=true then ∃N:St->Hp->Prop,(∀σ' H',N σ' H'->∃m',m' < m/\W m' σ' H')/\tb { D with nx:=N,ct:=N,bk:=D.nx } σ H1 else D.nx σ H1
theorem zD {c:Expr}{body:List Stmt}{tc:TT}{tb:TS}(hp:PassesOwn (model X.prog X.w) X.A X.env X.xe)(hc:PT X c tc)(hb:PSs X body tb):PS X (.While c body [] pos) (tWhile tc tb):=by
 intro pins s σ H D I h
 obtain⟨W,⟨m0,w0⟩,turn⟩:=h
 refine wpAny_While (codeAny_whileLoop (λn s'=>∃σ' H',Inv X pins σ' H' s'/\W n σ' H') ?_ m0 ⟨σ,H,I,w0⟩)
 rintro n s1 ⟨σ1,H1,I1,w1⟩
 refine wpAny_passesOwn hp (thn (hc pins s1 σ1 H1 _ I1 (turn n σ1 H1 w1)) λb s2 ⟨H2,I2,q2⟩=>?_)
 cases b with
 | true=>
  obtain⟨N,hN,q2⟩:=q2
  rw[if_pos rfl]
  refine wpAny_passesOwn hp (thn (hb pins s2 σ1 H2 _ I2 q2) λf s3 q3=>?_)
  cases f with
  | next=>
   obtain⟨σ3,H3,I3,n3⟩:=q3
   obtain⟨m',hm,w3⟩:=hN σ3 H3 n3
   exact⟨m',hm,σ3,H3,I3,w3⟩
  | cont=>
   obtain⟨σ3,H3,I3,n3⟩:=q3
   obtain⟨m',hm,w3⟩:=hN σ3 H3 n3
   exact⟨m',hm,σ3,H3,I3,w3⟩
  | brk=>exact q3
  | ret v=>exact q3
 | false=>
  rw[if_neg Bool.false_ne_true]
  exact wpAny_execs_nil ⟨σ1,H2,I2,q2⟩
end
structure It where
 go:Nat->Hp->Prop
 yld:Nat->Hp->V->Hp->Prop
 stop:Nat->Hp->Prop
noncomputable def FpOk (X:Cx)(pins:List (Addr×Obj))(H:Hp)(b:Addr):Prop:=
 H b=none/\b≠X.env.locals/\b∉X.fs/\(b∈X.ex\/X.s₀.heap.objs.size<=b)/\(∀x c,X.env.cells.lookup x=some c->c≠b)/\∀p∈X.pn++pins,p.1≠b
theorem Inv.fpOk {X:Cx}{pins:List (Addr×Obj)}{σ:St}{H H':Hp}{s:Shared}{b:Addr}(I:Inv X pins σ H s)(hb:s.heap.objs.size<=b)(hn:H' b=none):FpOk X pins H' b:=by
 refine⟨hn,Nat.ne_of_gt (Nat.lt_of_lt_of_le I.lt hb),I.nofs hb,.inr (Nat.le_trans I.sz hb),λx c e z=>?_,λp hp z=>?_⟩
 ·obtain⟨v,q⟩:=I.cell x c e
  exact absurd (Nat.lt_of_lt_of_le q.lt (by rw[z];exact hb)) (Nat.lt_irrefl _)
 ·exact absurd (Nat.lt_of_lt_of_le (Heap.lt_size (I.pin p hp).1) (by rw[z];exact hb)) (Nat.lt_irrefl _)
structure Turn (P:Program)(w:World)(K:W.Frag)(tg:Expr)(J:It)(fp:List Addr)(it:Addr)(tn:Nat->Heap->Prop):Prop where
 mem:it∈fp
 obj:∀i h,tn i h->∀b∈fp,∃o,h.get? b=some o/\∀v,o.data≠.cell v
 keep:∀i h h',tn i h->(∀b∈fp,∀o,h.get? b=some o->h'.get? b=some o)->tn i h'
 item:∀(X:Cx),X.prog=P->X.w=w->X.K=K->X.calm=true->∀(i:Nat) (pins:List (Addr×Obj)) (s:Shared) (σ:St) (H:Hp) (E:Value->Shared->Prop),Inv X pins σ H s->(∀b∈fp,FpOk X pins H b)->tn i s.heap->J.go i H->
  wpAny (model P w) X.A (pyNext (.ref it)) (λr s1=>∃u,r=some u/\
   wpAny (model P w) X.A (letOwnedTupleGo tg (.ref it) u) (λ_ s2=>∃x H',Inv X pins σ H' s2/\RelV x u/\J.yld i H x H'/\tn (i+1) s2.heap/\∀b∈fp,H' b=none) E s1) E s
 done:∀(X:Cx),X.prog=P->X.w=w->X.K=K->X.calm=true->∀(i:Nat) (pins:List (Addr×Obj)) (s:Shared) (σ:St) (H:Hp) (E:Value->Shared->Prop),Inv X pins σ H s->(∀b∈fp,FpOk X pins H b)->tn i s.heap->J.stop i H->
  wpAny (model P w) X.A (pyNext (.ref it)) (λr s1=>r=none/\Inv X pins σ H s1) E s
 self:∀(A:Around) (i:Nat) (s:Shared) (Q:Value->Shared->Prop) (E:Value->Shared->Prop),tn i s.heap->Q (.ref it) s->wpAny (model P w) A (pyIter (.ref it)) Q E s
noncomputable abbrev TI:=St->Hp->(It->Hp->Prop)->Prop
noncomputable def PIE (X:Cx)(pins:List (Addr×Obj))(σ:St)(tg:Expr)(R:It->Hp->Prop)(itv:Value)(s2:Shared):Prop:=
 ∃(it:Addr) (fp:List Addr) (tn:Nat->Heap->Prop) (J:It) (H':Hp),itv=.ref it/\Inv X pins σ H' s2/\Turn X.prog X.w X.K tg J fp it tn/\tn 0 s2.heap/\(∀b∈fp,FpOk X pins H' b)/\R J H'
noncomputable def PI (X:Cx)(tg iter:Expr)(wi:TI):Prop:=
 ∀(pins:List (Addr×Obj)) (s:Shared) (σ:St) (H:Hp) (R:It->Hp->Prop),Inv X pins σ H s->wi σ H R->
  wpAny (model X.prog X.w) X.A (eval iter X.env) (λv s1=>wpAny (model X.prog X.w) X.A (pyIter v) (PIE X pins σ tg R) X.xe s1) X.xe s
theorem r8 {M:Model}{A:Around}{E:Value->Shared->Prop}{s:Shared}{tg:Expr}{it:Addr}{u:Value}{o:Obj}{n:String}{vs:Array Value}{Q:Unit->Shared->Prop}(ho:s.heap.get? it=some o)(hc:o.cls=.type n)(hd:o.data=.fields vs)
  (hn:["enumerate","zip","dict_itemiterator","dict_reverseitemiterator","odict_iterator","itertools.zip_longest","itertools.pairwise"].contains n=false) (hQ:Q () s):wpAny M A (letOwnedTupleGo tg (.ref it) u) Q E s:=by
 unfold letOwnedTupleGo
 cases tg<;>first
  | exact wpAny_pure hQ
  | (cases u<;>first
    | exact wpAny_pure hQ
    | (refine wpAny_bind (wpAny_load ho ?_)
       rw[hc,hd]
       show wpAny M A (if (["enumerate","zip","dict_itemiterator","dict_reverseitemiterator","odict_iterator","itertools.zip_longest","itertools.pairwise"].contains n && vs[0]? == some (rawInt _))=true then _ else _) Q E s
       rw[if_neg (by intro h;rw[hn,Bool.false_and] at h;cases h)]
       exact wpAny_pure hQ))
noncomputable def Itl (K:W.Frag)(a:Addr):It:=
 ⟨λi H=>∃xs x,SqL K H a xs/\xs[i]?=some x,λi H x H'=>H'=H/\∀xs,SqL K H a xs->xs[i]?=some x,λi H=>∃xs,SqL K H a xs/\xs.length<=i⟩
noncomputable def Itt (K:W.Frag)(a:Addr):It:=
 ⟨λi H=>∃xs x,SqT K H a xs/\xs[i]?=some x,λi H x H'=>H'=H/\∀xs,SqT K H a xs->xs[i]?=some x,λi H=>∃xs,SqT K H a xs/\xs.length<=i⟩
noncomputable def Itr (lo:Int)(n:Nat):It:=⟨λi _=>i < n,λi H x H'=>H'=H/\x=.int (lo+i),λi _=>n<=i⟩
theorem xf {P:Program}{w:World}{K:W.Frag}{tg:Expr}(a it:Addr):Turn P w K tg (Itl K a) [it] it (λi h=>h.IsListIter it a i) where
 mem:=by simp
 obj:=λi h st b hb=>by
  have e:b=it:=by simpa using hb
  subst e
  obtain⟨o,e,c,d⟩:=st
  exact⟨o,e,λv z=>by rw[d] at z;cases z⟩
 keep:=λi h h' st k=>st.at λo e=>k it (by simp) o e
 item:=by
  intro X hP hw hK hc i pins s σ H E I hf st hg
  subst hP hw hK
  obtain⟨xs,x,hq,hx⟩:=hg
  obtain⟨its,rv,p,hz⟩:=I.list hq
  obtain⟨u,hu,ru⟩:=rv.get hx
  obtain⟨f0,f1,f2,f3,f4,f5⟩:=hf it (by simp)
  refine wpAny_pyNext_list_item st p.isList (x:=u) (by simpa using hu) λh' st' sb=>?_
  have I1:Inv X pins σ H { s with heap:=h' }:=I.turned (t':=s.toks) (λb o hb e=>(sb.2 b hb).trans e) f0 f1 f3 f4 f5
  obtain⟨o,e,c,d⟩:=id st'
  exact⟨u,rfl,r8 (s:={ s with heap:=h' }) e c d (by decide) ⟨x,H,I1,ru,⟨rfl,λys hy=>by rw[I.gB hy hq];exact hx⟩,st',λb hb=>(hf b hb).1⟩⟩
 done:=by
  intro X hP hw hK hc i pins s σ H E I hf st hg
  subst hP hw hK
  obtain⟨xs,hq,hx⟩:=hg
  obtain⟨its,rv,p,hz⟩:=I.list hq
  obtain⟨f0,f1,f2,f3,f4,f5⟩:=hf it (by simp)
  have hl:=rv.length
  exact wpAny_pyNext_list_end (I.ok.hd hc) st p.isList (by simp;omega) λh' eb=>⟨rfl,I.turned (t':=s.toks) (λb o hb e=>eb b o hb e) f0 f1 f3 f4 f5⟩
 self:=λ_ _ _ _ _ st h=>wpAny_pyIter_listiter st h
theorem uA {P:Program}{w:World}{K:W.Frag}{tg:Expr}(a it:Addr):Turn P w K tg (Itt K a) [it] it (λi h=>h.IsTupleIter it a i) where
 mem:=by simp
 obj:=λi h st b hb=>by
  have e:b=it:=by simpa using hb
  subst e
  obtain⟨o,e,c,d⟩:=st
  exact⟨o,e,λv z=>by rw[d] at z;cases z⟩
 keep:=λi h h' st k=>st.at λo e=>k it (by simp) o e
 item:=by
  intro X hP hw hK hc i pins s σ H E I hf st hg
  subst hP hw hK
  obtain⟨xs,x,hq,hx⟩:=hg
  obtain⟨its,rv,p,hz⟩:=I.tuple hq
  obtain⟨u,hu,ru⟩:=rv.get hx
  obtain⟨f0,f1,f2,f3,f4,f5⟩:=hf it (by simp)
  refine wpAny_pyNext_tuple_item st (show s.heap.IsTuple a its.toArray from p) (x:=u) (by simpa using hu) λh' st' sb=>?_
  have I1:Inv X pins σ H { s with heap:=h' }:=I.turned (t':=s.toks) (λb o hb e=>(sb.2 b hb).trans e) f0 f1 f3 f4 f5
  obtain⟨o,e,c,d⟩:=id st'
  exact⟨u,rfl,r8 (s:={ s with heap:=h' }) e c d (by decide) ⟨x,H,I1,ru,⟨rfl,λys hy=>by rw[I.pU hy hq];exact hx⟩,st',λb hb=>(hf b hb).1⟩⟩
 done:=by
  intro X hP hw hK hc i pins s σ H E I hf st hg
  subst hP hw hK
  obtain⟨xs,hq,hx⟩:=hg
  obtain⟨its,rv,p,hz⟩:=I.tuple hq
  obtain⟨f0,f1,f2,f3,f4,f5⟩:=hf it (by simp)
  have hl:=rv.length
  exact wpAny_pyNext_tuple_end (I.ok.hd hc) st (show s.heap.IsTuple a its.toArray from p) (by simp;omega) λh' eb=>⟨rfl,I.turned (t':=s.toks) (λb o hb e=>eb b o hb e) f0 f1 f3 f4 f5⟩
 self:=λ_ _ _ _ _ st h=>wpAny_pyIter_tupleiter st h
theorem uB {P:Program}{w:World}{K:W.Frag}{tg:Expr}(it:Addr)(lo:Int)(n:Nat):Turn P w K tg (Itr lo n) [it] it (λi h=>IsRangeIter h it (lo+(i:Nat) * 1) ((n:Int) - (i:Nat)) 1) where
 mem:=by simp
 obj:=λi h st b hb=>by
  have e:b=it:=by simpa using hb
  subst e
  exact⟨_,st,λv z=>by
   have z':Data.fields _=Data.cell v:=z
   cases z'⟩
 keep:=λi h h' st k=>k it (by simp) _ st
 item:=by
  intro X hP hw hK hc i pins s σ H E I hf st hg
  subst hP hw hK
  obtain⟨f0,f1,f2,f3,f4,f5⟩:=hf it (by simp)
  have W:=Walks.range (prog:=X.prog) (w:=X.w) (I.ok.hd hc) it lo 1 n
  refine W.item i s _ _ hg st λv h' tk hv st' kk=>?_
  obtain⟨t,rfl⟩:=hv
  have I1:Inv X pins σ H { s with heap:=h',toks:=tk }:=I.turned (λb o hb e=>kk b o (by simpa using hb) e) f0 f1 f3 f4 f5
  refine⟨_,rfl,r8 (s:={ s with heap:=h',toks:=tk }) (n:="range_iterator") st' rfl rfl (by decide) ⟨.int (lo+i),H,I1,⟨t,?_⟩,⟨rfl,rfl⟩,st',λb hb=>(hf b hb).1⟩⟩
  rw[Int.mul_one]
 done:=by
  intro X hP hw hK hc i pins s σ H E I hf st hg
  subst hP hw hK
  obtain⟨f0,f1,f2,f3,f4,f5⟩:=hf it (by simp)
  exact wpAny_pyNext_range_end (I.ok.hd hc) st (by have:n<=i:=hg;omega) λh' eb=>⟨rfl,I.turned (t':=s.toks) (λb o hb e=>eb b o hb e) f0 f1 f3 f4 f5⟩
 self:=λ_ _ _ _ _ st h=>wpAny_pyIter_rangeiter st h
section
variable {X:Cx} {tg:Expr}
theorem r9 {pins:List (Addr×Obj)}{σ:St}{H:Hp}{s:Shared}{R:It->Hp->Prop}{E:Value->Shared->Prop}{lo hi:Int}{t u v:Tok}{tk:Nat}(I:Inv X pins σ H s)(h1:-(2 ^ 62)<=lo)(h2:lo < 2 ^ 62)(h3:-(2 ^ 62)<=hi)(h4:hi < 2 ^ 62)
  (q:R (Itr lo (hi - lo).toNat) H):wpAny (model X.prog X.w) X.A (pyIter (.ref s.heap.objs.size)) (PIE X pins σ tg R) E { s with heap:=s.heap.push { cls:=.type "range",data:=.fields #[.int lo t,.int hi u,.int 1 v] },toks:=tk }:=by
 refine wpAny_pyIter_range (IsRange.new ..) (small_one h1 h2 h3 h4) ?_
 have I1:Inv X pins σ H { s with heap:=s.heap.push { cls:=.type "range",data:=.fields #[.int lo t,.int hi u,.int 1 v] },toks:=tk }:=I.kept λb o e=>Heap.get?_push_of_some _ e
 refine⟨(s.heap.push { cls:=.type "range",data:=.fields #[.int lo t,.int hi u,.int 1 v] }).objs.size,[(s.heap.push { cls:=.type "range",data:=.fields #[.int lo t,.int hi u,.int 1 v] }).objs.size],_,_,H,rfl,
  I1.kept (t':=tk) λb o e=>Heap.get?_push_of_some _ e,uB _ lo (hi - lo).toNat,?_,λb hb=>?_,q⟩
 ·have e1:lo+((0:Nat):Int) * 1=lo:=by simp
  have e2:(((hi - lo).toNat:Nat):Int) - ((0:Nat):Int)=Builtin.Range.rangeSize lo hi 1:=by rw[rangeSize_one];split<;>omega
  show IsRangeIter _ _ (lo+((0:Nat):Int) * 1) ((((hi - lo).toNat:Nat):Int) - ((0:Nat):Int)) 1
  rw[e1,e2]
  exact Heap.get?_push_size _ rfl
 ·have e:b=(s.heap.push { cls:=.type "range",data:=.fields #[.int lo t,.int hi u,.int 1 v] }).objs.size:=by simpa using hb
  subst e
  exact I1.fpOk (Nat.le_refl _) (I1.hok.fresh (Nat.le_refl _))
noncomputable def iRng1 (ta:TA):TI:=λσ H R=>ta σ H λvs H1=>∃j:Int,vs=[.int j]/\-(2 ^ 62)<=j/\j < 2 ^ 62/\R (Itr 0 j.toNat) H1
noncomputable def iRng2 (ta:TA):TI:=λσ H R=>ta σ H λvs H1=>∃i j:Int,vs=[.int i,.int j]/\(-(2 ^ 62)<=i/\i < 2 ^ 62/\-(2 ^ 62)<=j/\j < 2 ^ 62)/\R (Itr i (j - i).toNat) H1
theorem dz {a:Expr}{ta:TA}{p pos:Pos}(hg:Gl X "range")(hm:X.mg "range"=none)(ha:PA X [a] ta)(hs:autoParam (starEach [a] X.env=[(false,eval a X.env)]) L2.dft3._auto_1):PI X tg (.Call (.Name "range" p) [a] [] pos) (iRng1 ta):=by
 intro pins s σ H R I h
 refine Call_ (dw I hg hm boot_range (PyProof.Rows.callWith_type1 (thnA (ha pos pins s σ H _ I h) λus s1 vs H1 I1 r1 q1=>?_) hs rfl))
 obtain⟨j,e,q1,q2,q⟩:=q1
 subst e
 cases r1 with
 | cons r rr=>
  cases rr
  obtain⟨t,rfl⟩:=r
  exact call_range_1 (r9 I1 (by omega) (by omega) q1 q2 (by simpa using q))
theorem xg {a b:Expr}{ta:TA}{p pos:Pos}(hg:Gl X "range")(hm:X.mg "range"=none)(ha:PA X [a,b] ta)(hs:autoParam (starEach [a,b] X.env=[(false,eval a X.env),(false,eval b X.env)]) L2.dft3._auto_1)(hs2:autoParam (starEach [b] X.env=[(false,eval b X.env)]) L2.dft3._auto_1) :
  PI X tg (.Call (.Name "range" p) [a,b] [] pos) (iRng2 ta):=by
 intro pins s σ H R I h
 refine Call_ (dw I hg hm boot_range (PyProof.Rows.callWith_type1 (thnA (ha pos pins s σ H _ I h) λus s1 vs H1 I1 r1 q1=>?_) (by rw[hs,hs2]) (by rw[hs2];rfl)))
 obtain⟨i,j,e,⟨q1,q2,q3,q4⟩,q⟩:=q1
 subst e
 cases r1 with
 | cons r rr=>
  cases rr with
  | cons r' rr=>
   cases rr
   obtain⟨t,rfl⟩:=r
   obtain⟨t',rfl⟩:=r'
   exact call_range_2 (r9 I1 q1 q2 q3 q4 q)
noncomputable def tFor (wi:TI)(g:TG)(tb:TS):TS:=λD σ H=>wi σ H λJ H1=>∃W:Nat->Nat->St->Hp->Prop,(∃m,W 0 m σ H1)/\∀i m σ H,W i m σ H->
 (J.stop i H/\D.nx σ H)\/(J.go i H/\∃N:St->Hp->Prop,(∀σ' H',N σ' H'->∃m',m' < m/\W (i+1) m' σ' H')/\∀x H',J.yld i H x H'->g x σ H' λσ2 H2=>tb { D with nx:=N,ct:=N,bk:=D.nx } σ2 H2)
noncomputable def pinsAt (fp:List Addr)(h:Heap):List (Addr×Obj):=fp.filterMap λb=>(h.get? b).map λo=>(b,o)
theorem gU {fp:List Addr}{h:Heap}{b:Addr}{o:Obj}(hb:b∈fp)(e:h.get? b=some o):(b,o)∈pinsAt fp h:=List.mem_filterMap.mpr ⟨b,hb,by rw[e];rfl⟩
theorem xi {fp:List Addr}{h:Heap}{p:Addr×Obj}(hp:p∈pinsAt fp h):p.1∈fp/\h.get? p.1=some p.2:=by
 obtain⟨b,hb,e⟩:=List.mem_filterMap.mp hp
 cases q:h.get? b with
 | none=>rw[q] at e;cases e
 | some o=>
  rw[q] at e
  have e':(b,o)=p:=Option.some.inj e
  subst e'
  exact⟨hb,q⟩
theorem Inv.pinned {pins:List (Addr×Obj)}{σ:St}{H:Hp}{s:Shared}{fp:List Addr}(I:Inv X pins σ H s)(hf:∀b∈fp,FpOk X pins H b)(ho:∀b∈fp,∃o,s.heap.get? b=some o/\∀v,o.data≠.cell v):Inv X (pins++pinsAt fp s.heap) σ H s:=
 I.wj λp hp=>(List.mem_append.mp hp).elim (λz=>I.pin p (List.mem_append_right _ z)) λz=>by
  obtain⟨hb,e⟩:=xi z
  obtain⟨f0,f1,f2,_⟩:=hf p.1 hb
  obtain⟨o,e',d⟩:=ho p.1 hb
  rw[e] at e';cases e'
  exact⟨e,f0,f1,f2,d⟩
theorem Inv.unpinned {pins pl:List (Addr×Obj)}{σ:St}{H:Hp}{s:Shared}(I:Inv X (pins++pl) σ H s):Inv X pins σ H s:=I.wj λp hp=>I.pin p (List.mem_append_right _ (List.mem_append_left _ hp))
theorem bS {iter:Expr}{body:List Stmt}{wi:TI}{g:TG}{tb:TS}{pos:Pos}(hp:PassesOwn (model X.prog X.w) X.A X.env X.xe)(hc:X.calm=true)(hi:PI X tg iter wi)(hg:PG X tg g)(hb:PSs X body tb)
  (hs:autoParam (∀x,foldedSetIterable iter X.env x=pure x) L2.dft4._auto_1):PS X (.For tg iter body [] pos) (tFor wi g tb):=by
 intro pins s σ H D I h
 refine wpAny_For (thn (hi pins s σ H _ I h) λv s1 h1=>thn h1 λitv s2 h2=>?_) hs
 obtain⟨it,fp,tn,J,H2,e,I2,T,st2,f2,W,⟨m0,w0⟩,turn⟩:=h2
 subst e
 have stat:∀{H':Hp},(∀b∈fp,H' b=none)->∀b∈fp,FpOk X pins H' b:=λhn b hb=>⟨hn b hb,(f2 b hb).2⟩
 refine codeAny_forLoop_any (λn s'=>∃i σ' H',Inv X pins σ' H' s'/\tn i s'.heap/\(∀b∈fp,H' b=none)/\W i n σ' H') ?_ m0 ⟨0,σ,H2,I2,st2,λb hb=>(f2 b hb).1,w0⟩
 rintro n s3 ⟨i,σ3,H3,I3,st3,fr3,w3⟩
 rcases turn i n σ3 H3 w3 with⟨stop,qn⟩ | ⟨go,N,hN,step⟩
 ·refine wpAny_passesOwn hp (thn (T.done X rfl rfl rfl hc i pins s3 σ3 H3 X.xe I3 (stat fr3) st3 stop) λr s4 ⟨hr,I4⟩=>?_)
  subst hr
  exact wpAny_execs_nil ⟨σ3,H3,I4,qn⟩
 ·refine wpAny_passesOwn hp (thn (T.item X rfl rfl rfl hc i pins s3 σ3 H3 X.xe I3 (stat fr3) st3 go) λr s4 ⟨u,hr,h4⟩=>?_)
  subst hr
  refine wpAny_passesOwn hp (thn h4 λ_ s5 ⟨x,H5,I5,r5,y5,st5,fr5⟩=>?_)
  have I5':=I5.pinned (stat fr5) (T.obj _ _ st5)
  refine wpAny_passesOwn hp (thn (hg _ s5 σ3 H5 x u _ I5' r5 (step x H5 y5)) λ_ s6 ⟨σ6,H6,I6,q6⟩=>?_)
  refine wpAny_passesOwn hp (thn (hb _ s6 σ6 H6 _ I6 q6) λf s7 q7=>?_)
  have again:∀{σ7:St} {H7:Hp},Inv X (pins++pinsAt fp s5.heap) σ7 H7 s7->N σ7 H7->∃m,m < n/\∃i σ' H',Inv X pins σ' H' s7/\tn i s7.heap/\(∀b∈fp,H' b=none)/\W i m σ' H':=λ{σ7 H7} I7 n7=>by
   obtain⟨m',hm,w7⟩:=hN σ7 H7 n7
   refine⟨m',hm,i+1,σ7,H7,I7.unpinned,T.keep _ _ _ st5 λb hb o e=>(I7.pin (b,o) (List.mem_append_right _ (List.mem_append_right _ (gU hb e)))).1,λb hb=>?_,w7⟩
   obtain⟨o,e,d⟩:=T.obj _ _ st5 b hb
   exact(I7.pin (b,o) (List.mem_append_right _ (List.mem_append_right _ (gU hb e)))).2.1
  cases f with
  | next=>obtain⟨σ7,H7,I7,n7⟩:=q7;exact again I7 n7
  | cont=>obtain⟨σ7,H7,I7,n7⟩:=q7;exact again I7 n7
  | brk=>obtain⟨σ7,H7,I7,q7⟩:=q7;exact⟨σ7,H7,I7.unpinned,q7⟩
  | ret v=>obtain⟨x7,σ7,H7,I7,r7,q7⟩:=q7;exact⟨x7,σ7,H7,I7.unpinned,r7,q7⟩
end
theorem zE {K:W.Frag}{a:Addr}{xs:List V}{g:TG}{tb:TS}{D:Ends}{σ:St}{H:Hp}(Pv:Nat->St->Hp->Prop)(h0:Pv 0 σ H)(hl:∀i σ H,i<=xs.length->Pv i σ H->SqL K H a xs)
  (hs:∀i x σ H,xs[i]?=some x->Pv i σ H->g x σ H λσ2 H2=>tb { D with nx:=Pv (i+1),ct:=Pv (i+1),bk:=D.nx } σ2 H2) (hd:∀σ H,Pv xs.length σ H->D.nx σ H) :
  ∃W:Nat->Nat->St->Hp->Prop,(∃m,W 0 m σ H)/\∀i m σ H,W i m σ H->
   ((Itl K a).stop i H/\D.nx σ H)\/((Itl K a).go i H/\∃N:St->Hp->Prop,(∀σ' H',N σ' H'->∃m',m' < m/\W (i+1) m' σ' H')/\∀x H',(Itl K a).yld i H x H'->g x σ H' λσ2 H2=>tb { D with nx:=N,ct:=N,bk:=D.nx } σ2 H2):=by
 refine⟨λi m σ H=>m=xs.length - i/\i<=xs.length/\Pv i σ H,⟨xs.length,by simp,Nat.zero_le _,h0⟩,?_⟩
 rintro i m σ H ⟨rfl,hi,p⟩
 have q:=hl i σ H hi p
 by_cases hlt:i < xs.length
 ·refine .inr ⟨⟨xs,xs[i],q,by simp[hlt]⟩,Pv (i+1),λσ' H' p'=>⟨xs.length - (i+1),by omega,rfl,hlt,p'⟩,λx H' y=>?_⟩
  obtain⟨e,y⟩:=y
  subst e
  exact hs i x σ _ (y xs q) p
 ·have e:i=xs.length:=by omega
  subst e
  exact .inl ⟨⟨xs,q,Nat.le_refl _⟩,hd σ H p⟩
theorem xj {lo:Int}{n:Nat}{g:TG}{tb:TS}{D:Ends}{σ:St}{H:Hp}(Pv:Nat->St->Hp->Prop)(h0:Pv 0 σ H)
  (hs:∀i σ H,i < n->Pv i σ H->g (.int (lo+i)) σ H λσ2 H2=>tb { D with nx:=Pv (i+1),ct:=Pv (i+1),bk:=D.nx } σ2 H2) (hd:∀σ H,Pv n σ H->D.nx σ H) :
  ∃W:Nat->Nat->St->Hp->Prop,(∃m,W 0 m σ H)/\∀i m σ H,W i m σ H->
   ((Itr lo n).stop i H/\D.nx σ H)\/((Itr lo n).go i H/\∃N:St->Hp->Prop,(∀σ' H',N σ' H'->∃m',m' < m/\W (i+1) m' σ' H')/\∀x H',(Itr lo n).yld i H x H'->g x σ H' λσ2 H2=>tb { D with nx:=N,ct:=N,bk:=D.nx } σ2 H2):=by
 refine⟨λi m σ H=>m=n - i/\i<=n/\Pv i σ H,⟨n,by simp,Nat.zero_le _,h0⟩,?_⟩
 rintro i m σ H ⟨rfl,hi,p⟩
 by_cases hlt:i < n
 ·refine .inr ⟨hlt,Pv (i+1),λσ' H' p'=>⟨n - (i+1),by omega,rfl,hlt,p'⟩,λx H' y=>?_⟩
  obtain⟨e,y⟩:=y
  subst e y
  exact hs i σ _ hlt p
 ·have e:i=n:=by omega
  subst e
  exact .inl ⟨Nat.le_refl _,hd σ H p⟩
noncomputable abbrev R2:=V->V->Hp->VK->Prop
noncomputable def OpR (X:Cx)(f:Value->Value->Sem Value)(r:R2):Prop:=
 ∀(pins:List (Addr×Obj)) (s:Shared) (σ:St) (H:Hp) (x y:V) (v u:Value) (Q:VK),Inv X pins σ H s->RelV x v->RelV y u->r x y H Q->
  wpAny (model X.prog X.w) X.A (f v u) (EP X pins σ Q) X.xe s
noncomputable def UnR (X:Cx)(f:Value->Sem Value)(r:V->Hp->VK->Prop):Prop:=
 ∀(pins:List (Addr×Obj)) (s:Shared) (σ:St) (H:Hp) (x:V) (v:Value) (Q:VK),Inv X pins σ H s->RelV x v->r x H Q->
  wpAny (model X.prog X.w) X.A (f v) (EP X pins σ Q) X.xe s
noncomputable def CallR (X:Cx)(f:Value)(r:List V->Hp->VK->Prop):Prop:=
 ∀(pins:List (Addr×Obj)) (s:Shared) (σ:St) (H:Hp) (xs:List V) (us:List Value) (Q:VK),Inv X pins σ H s->Vals xs us->r xs H Q->
  wpAny (model X.prog X.w) X.A (call f us) (EP X pins σ Q) X.xe s
noncomputable def TruR (X:Cx)(r:V->Hp->(Bool->Hp->Prop)->Prop):Prop:=
 ∀(pins:List (Addr×Obj)) (s:Shared) (σ:St) (H:Hp) (x:V) (v:Value) (Q:Bool->Hp->Prop),Inv X pins σ H s->RelV x v->r x H Q->
  wpAny (model X.prog X.w) X.A (truthy v) (TP X pins σ Q) X.xe s
noncomputable def tOp (r:R2)(ta tb:TE):TE:=λσ H Q=>ta σ H λx H1=>tb σ H1 λy H2=>r x y H2 Q
noncomputable def tUn (r:V->Hp->VK->Prop)(ta:TE):TE:=λσ H Q=>ta σ H λx H1=>r x H1 Q
noncomputable def rI (C:Int->Int->Prop)(g:Int->Int->V):R2:=λx y H Q=>∃i j,x=.int i/\y=.int j/\C i j/\Q (g i j) H
noncomputable def rI0 (g:Int->Int->V):R2:=λx y H Q=>∃i j,x=.int i/\y=.int j/\Q (g i j) H
noncomputable def rU (g:Int->V):V->Hp->VK->Prop:=λx H Q=>∃i,x=.int i/\Q (g i) H
section
variable {X:Cx} {a b c:Expr} {ta tb tc:TE} {pos:Pos}
theorem binT (ha:PE X a ta)(hb:PE X b tb){pins:List (Addr×Obj)}{s:Shared}{σ:St}{H:Hp}{R:V->V->Hp->Prop}(I:Inv X pins σ H s)
  (h:ta σ H λx H1=>tb σ H1 λy H2=>R x y H2) {Q:Value->Shared->Prop} {f:Value->Value->Sem Value}
  (hf:∀v u s2 x y H2,Inv X pins σ H2 s2->RelV x v->RelV y u->R x y H2->wpAny (model X.prog X.w) X.A (f v u) Q X.xe s2) :
  wpAny (model X.prog X.w) X.A (eval a X.env) (λv s₁=>wpAny (model X.prog X.w) X.A (eval b X.env) (λu s₂=>wpAny (model X.prog X.w) X.A (f v u) Q X.xe s₂) X.xe s₁) X.xe s:=by
 refine thnE (ha pins s σ H _ I h) λv s1 x H1 I1 r1 q1=>?_
 refine thnE (hb pins s1 σ H1 _ I1 q1) λu s2 y H2 I2 r2 q2=>?_
 exact hf v u s2 x y H2 I2 r1 r2 q2
theorem ax {op:Operator}{r:R2}(ho:OpR X (binaryOp op) r)(ha:PE X a ta)(hb:PE X b tb):PE X (.BinOp a op b pos) (tOp r ta tb):=by
 intro pins s σ H Q I h
 exact wpAny_BinOp (binT ha hb I h λv u s2 x y H2 I2 rx ry q=>ho pins s2 σ H2 x y v u Q I2 rx ry q)
theorem Ct {op:UnaryOp}{r:V->Hp->VK->Prop}(ho:UnR X (unaryOp op) r)(ha:PE X a ta):PE X (.UnaryOp op a pos) (tUn r ta):=by
 intro pins s σ H Q I h
 exact UnaryOp_ (thnE (ha pins s σ H _ I h) λv s1 x H1 I1 r1 q1=>ho pins s1 σ H1 x v Q I1 r1 q1)
theorem opI {f:Value->Value->Sem Value}{C:Int->Int->Prop}{g:Int->Int->Int}
  (rule:∀(i j:Int) (t u:Tok) (s:Shared) (Q:Value->Shared->Prop) (E:Value->Shared->Prop),C i j->Q (.int (g i j) s.toks) { s with toks:=s.toks+1 }->wpAny (model X.prog X.w) X.A (f (.int i t) (.int j u)) Q E s) :
  OpR X f (rI C λi j=>.int (g i j)):=by
 intro pins s σ H x y v u Q I rx ry h
 obtain⟨i,j,rfl,rfl,hc,q⟩:=h
 obtain⟨t,rfl⟩:=rx
 obtain⟨t',rfl⟩:=ry
 exact rule i j t t' s _ _ hc ⟨.int (g i j),H,I.tok _,⟨_,rfl⟩,q⟩
theorem opI0 {f:Value->Value->Sem Value}{g:Int->Int->Int}
  (rule:∀(i j:Int) (t u:Tok) (s:Shared) (Q:Value->Shared->Prop) (E:Value->Shared->Prop),Q (.int (g i j) s.toks) { s with toks:=s.toks+1 }->wpAny (model X.prog X.w) X.A (f (.int i t) (.int j u)) Q E s) :
  OpR X f (rI0 λi j=>.int (g i j)):=by
 intro pins s σ H x y v u Q I rx ry h
 obtain⟨i,j,rfl,rfl,q⟩:=h
 obtain⟨t,rfl⟩:=rx
 obtain⟨t',rfl⟩:=ry
 exact rule i j t t' s _ _ ⟨.int (g i j),H,I.tok _,⟨_,rfl⟩,q⟩
theorem opB0 {f:Value->Value->Sem Value}{g:Int->Int->Bool}
  (rule:∀(i j:Int) (t u:Tok) (s:Shared) (Q:Value->Shared->Prop) (E:Value->Shared->Prop),Q (.bool (g i j)) s->wpAny (model X.prog X.w) X.A (f (.int i t) (.int j u)) Q E s) :
  OpR X f (rI0 λi j=>.bl (g i j)):=by
 intro pins s σ H x y v u Q I rx ry h
 obtain⟨i,j,rfl,rfl,q⟩:=h
 obtain⟨t,rfl⟩:=rx
 obtain⟨t',rfl⟩:=ry
 exact rule i j t t' s _ _ ⟨.bl (g i j),H,I,rfl,q⟩
noncomputable def CDiv (i j:Int):Prop:=0 < j/\j < 1073741824
noncomputable def CPow (i j:Int):Prop:=0<=j/\j<=1000000/\i.natAbs < 2 ^ 64
noncomputable def CMul (i j:Int):Prop:=(-(2 ^ 64) < i/\i < 2 ^ 64)\/(-(2 ^ 64) < j/\j < 2 ^ 64)
theorem CMul.ok {i j:Int}(h:CMul i j):IntMulOk i j:=by
 rcases h with⟨h1,h2⟩ | ⟨h1,h2⟩
 ·exact .of_left (intBits_le_64 h1 h2)
 ·exact .of_right (intBits_le_64 h1 h2)
theorem uC (k:Nat):(0:Int)<=2 ^ k:=by
 rw[two_pow_cast]
 exact Int.natCast_nonneg _
theorem Dl:OpR X (binaryOp .Add) (rI0 λi j=>.int (i+j)):=opI0 λ_ _ _ _ _ _ _ q=>add_int q
theorem Dm:OpR X (binaryOp .Sub) (rI0 λi j=>.int (i - j)):=opI0 λ_ _ _ _ _ _ _ q=>sub_int q
theorem Dn:OpR X (binaryOp .Mult) (rI CMul λi j=>.int (i * j)):=opI λ_ _ _ _ _ _ _ hc q=>mul_int q hc.ok
theorem qM:OpR X (binaryOp .FloorDiv) (rI CDiv λi j=>.int (i / j)):=opI λi j _ _ _ _ _ hc q=>by
 have h1:(0:Int) < j:=hc.1
 have h2:j < 1073741824:=hc.2
 exact floordiv_int (by omega) (by rw[Int.fdiv_eq_ediv_of_nonneg i (by omega)];exact q) (.inl (PyProof.noPylong_small (by omega)))
theorem bg:OpR X (binaryOp .Mod) (rI (λ_ j=>0 < j) λi j=>.int (i % j)):=opI λi j _ _ _ _ _ hc q=>by
 have h1:(0:Int) < j:=hc
 exact mod_int' (by omega) (by rw[Int.fmod_eq_emod_of_nonneg i (by omega)];exact q)
theorem Dp:OpR X (binaryOp .LShift) (rI CPow λi j=>.int (i * 2 ^ j.toNat)):=opI λ_ _ _ _ _ _ _ hc q=>lshift_int_small hc.1 hc.2.1 hc.2.2 q
theorem zF:OpR X (binaryOp .RShift) (rI (λ_ j=>0<=j) λi j=>.int (i / 2 ^ j.toNat)):=opI λi j _ _ _ _ _ hc q=>
 rshift_int hc (by rw[Int.fdiv_eq_ediv_of_nonneg i (uC _)];exact q)
theorem zG:OpR X (binaryOp .BitAnd) (rI0 λi j=>.int (Builtin.bitAnd i j)):=opI0 λ_ _ _ _ _ _ _ q=>and_int q
theorem EC:OpR X (binaryOp .BitOr) (rI0 λi j=>.int (Builtin.bitOr i j)):=opI0 λ_ _ _ _ _ _ _ q=>or_int q
theorem zH:OpR X (binaryOp .BitXor) (rI0 λi j=>.int (Builtin.bitXor i j)):=opI0 λ_ _ _ _ _ _ _ q=>xor_int q
theorem Bk:OpR X (inplaceOp .Add) (rI0 λi j=>.int (i+j)):=opI0 λ_ _ _ _ _ _ _ q=>iadd_int q
theorem unI {f:Value->Sem Value}{g:Int->Int}
  (rule:∀(i:Int) (t:Tok) (s:Shared) (Q:Value->Shared->Prop) (E:Value->Shared->Prop),Q (.int (g i) s.toks) { s with toks:=s.toks+1 }->wpAny (model X.prog X.w) X.A (f (.int i t)) Q E s) :
  UnR X f (rU λi=>.int (g i)):=by
 intro pins s σ H x v Q I rx h
 obtain⟨i,rfl,q⟩:=h
 obtain⟨t,rfl⟩:=rx
 exact rule i t s _ _ ⟨.int (g i),H,I.tok _,⟨_,rfl⟩,q⟩
theorem zI:UnR X (unaryOp .USub) (rU λi=>.int (-i)):=unI λ_ _ _ _ _ q=>neg_int q
end
noncomputable def scal:V->V->Bool
 | .non,.non=>true | .non,.int _=>true | .int _,.non=>true | .non,.bl _=>true | .bl _,.non=>true | .non,.str _=>true | .str _,.non=>true
 | .int _,.int _=>true | .bl _,.bl _=>true | .str _,.str _=>true | .byt _,.byt _=>true
 | .int _,.str _=>true | .str _,.int _=>true | .bl _,.str _=>true | .str _,.bl _=>true
 | _,_=>false
noncomputable def rEq:R2:=λx y H Q=>scal x y=true/\Q (.bl (decide (x=y))) H
noncomputable def rNe:R2:=λx y H Q=>scal x y=true/\Q (.bl (!decide (x=y))) H
theorem wt {i j:Int}:decide (V.int i=V.int j)=(i == j):=by
 rw[Bool.eq_iff_iff]
 simp
theorem zJ {i j:Bool}:decide (V.bl i=V.bl j)=(i == j):=by
 rw[Bool.eq_iff_iff]
 simp
theorem wu {i j:Str}:decide (V.str i=V.str j)=(i == j):=by
 rw[Bool.eq_iff_iff]
 simp
theorem wx {i j:Array UInt8}:decide (V.byt i=V.byt j)=(i.toList == j.toList):=by
 rw[Bool.eq_iff_iff]
 cases i
 cases j
 simp
section
variable {X:Cx} {a b c:Expr} {ta tb tc:TE} {pos:Pos}
theorem aX {pins:List (Addr×Obj)}{σ:St}{H:Hp}{s:Shared}{Q:VK}{k k':Bool}(I:Inv X pins σ H s)(q:Q (.bl k) H)(e:k=k'):EP X pins σ Q (.bool k') s:=by
 subst e
 exact⟨.bl k,H,I,rfl,q⟩
theorem ED:OpR X (compareOp .Eq) rEq:=by
 intro pins s σ H x y v u Q I rx ry h
 obtain⟨hs,q⟩:=h
 cases x with
 | non=>
  cases rx
  cases y with
  | non=>cases ry;exact PySem.EqNone.eq_none_none (aX I q (by simp))
  | bl j=>cases ry;exact PySem.EqNone.eq_none_bool (aX I q (by simp))
  | int j=>obtain⟨t',rfl⟩:=ry;exact PySem.EqNone.eq_none_int (aX I q (by simp))
  | str j=>obtain⟨t',rfl⟩:=ry;exact PySem.EqNone.eq_none_str (aX I q (by simp))
  | _=>exact absurd (show false=true from hs) Bool.false_ne_true
 | bl i=>
  cases rx
  cases y with
  | non=>cases ry;exact PySem.EqNone.eq_bool_none (aX I q (by simp))
  | bl j=>cases ry;exact eq_bool (aX I q zJ)
  | str j=>obtain⟨t',rfl⟩:=ry;exact PySem.EqMixed.eq_bool_str (aX I q (by simp))
  | _=>exact absurd (show false=true from hs) Bool.false_ne_true
 | int i=>
  obtain⟨t,rfl⟩:=rx
  cases y with
  | non=>cases ry;exact PySem.EqNone.eq_int_none (aX I q (by simp))
  | int j=>obtain⟨t',rfl⟩:=ry;exact eq_int (aX I q wt)
  | str j=>obtain⟨t',rfl⟩:=ry;exact PySem.EqMixed.eq_int_str (aX I q (by simp))
  | _=>exact absurd (show false=true from hs) Bool.false_ne_true
 | str i=>
  obtain⟨t,rfl⟩:=rx
  cases y with
  | non=>cases ry;exact PySem.EqNone.eq_str_none (aX I q (by simp))
  | bl j=>cases ry;exact PySem.EqMixed.eq_str_bool (aX I q (by simp))
  | int j=>obtain⟨t',rfl⟩:=ry;exact PySem.EqMixed.eq_str_int (aX I q (by simp))
  | str j=>obtain⟨t',rfl⟩:=ry;exact eq_str (aX I q wu)
  | _=>exact absurd (show false=true from hs) Bool.false_ne_true
 | byt i=>
  obtain⟨t,rfl⟩:=rx
  cases y with
  | byt j=>obtain⟨t',rfl⟩:=ry;exact W.eq_bytes (aX I q wx)
  | _=>exact absurd (show false=true from hs) Bool.false_ne_true
 | _=>cases y<;>exact absurd (show false=true from hs) Bool.false_ne_true
theorem EE:OpR X (compareOp .NotEq) rNe:=by
 intro pins s σ H x y v u Q I rx ry h
 obtain⟨hs,q⟩:=h
 cases x with
 | non=>
  cases rx
  cases y with
  | non=>cases ry;exact PySem.EqNone.ne_none_none (aX I q (by simp))
  | bl j=>cases ry;exact PySem.EqNone.ne_none_bool (aX I q (by simp))
  | int j=>obtain⟨t',rfl⟩:=ry;exact PySem.EqNone.ne_none_int (aX I q (by simp))
  | str j=>obtain⟨t',rfl⟩:=ry;exact PySem.EqNone.ne_none_str (aX I q (by simp))
  | _=>exact absurd (show false=true from hs) Bool.false_ne_true
 | bl i=>
  cases rx
  cases y with
  | non=>cases ry;exact PySem.EqNone.ne_bool_none (aX I q (by simp))
  | bl j=>cases ry;exact ne_bool (aX I q (congrArg not zJ))
  | str j=>obtain⟨t',rfl⟩:=ry;exact PySem.EqMixed.ne_bool_str (aX I q (by simp))
  | _=>exact absurd (show false=true from hs) Bool.false_ne_true
 | int i=>
  obtain⟨t,rfl⟩:=rx
  cases y with
  | non=>cases ry;exact PySem.EqNone.ne_int_none (aX I q (by simp))
  | int j=>obtain⟨t',rfl⟩:=ry;exact ne_int (aX I q (congrArg not wt))
  | str j=>obtain⟨t',rfl⟩:=ry;exact PySem.EqMixed.ne_int_str (aX I q (by simp))
  | _=>exact absurd (show false=true from hs) Bool.false_ne_true
 | str i=>
  obtain⟨t,rfl⟩:=rx
  cases y with
  | non=>cases ry;exact PySem.EqNone.ne_str_none (aX I q (by simp))
  | bl j=>cases ry;exact PySem.EqMixed.ne_str_bool (aX I q (by simp))
  | int j=>obtain⟨t',rfl⟩:=ry;exact PySem.EqMixed.ne_str_int (aX I q (by simp))
  | str j=>obtain⟨t',rfl⟩:=ry;exact ne_str (aX I q (congrArg not wu))
  | _=>exact absurd (show false=true from hs) Bool.false_ne_true
 | byt i=>
  obtain⟨t,rfl⟩:=rx
  cases y with
  | byt j=>obtain⟨t',rfl⟩:=ry;exact W.ne_bytes (aX I q (congrArg not wx))
  | _=>exact absurd (show false=true from hs) Bool.false_ne_true
 | _=>cases y<;>exact absurd (show false=true from hs) Bool.false_ne_true
theorem EF:OpR X (compareOp .Lt) (rI0 λi j=>.bl (decide (i < j))):=opB0 λ_ _ _ _ _ _ _ q=>lt_int q
theorem EG:OpR X (compareOp .LtE) (rI0 λi j=>.bl (decide (i<=j))):=opB0 λ_ _ _ _ _ _ _ q=>le_int q
theorem EH:OpR X (compareOp .Gt) (rI0 λi j=>.bl (decide (j < i))):=opB0 λ_ _ _ _ _ _ _ q=>gt_int q
theorem EI:OpR X (compareOp .GtE) (rI0 λi j=>.bl (decide (j<=i))):=opB0 λ_ _ _ _ _ _ _ q=>ge_int q
theorem xl:OpR X (compareOp .In) (λx y H Q=>∃i j,x=.str i/\y=.str j/\Q (.bl (!(Builtin.Str.occurrences j i 0 j.length 1).isEmpty)) H):=by
 intro pins s σ H x y v u Q I rx ry h
 obtain⟨i,j,rfl,rfl,q⟩:=h
 obtain⟨t,rfl⟩:=rx
 obtain⟨t',rfl⟩:=ry
 exact in_str (aX I q rfl)
theorem OpR.or {f:Value->Value->Sem Value}{r r':R2}(h:OpR X f r)(h':OpR X f r'):OpR X f (λx y H Q=>r x y H Q\/r' x y H Q):=by
 intro pins s σ H x y v u Q I rx ry q
 rcases q with q | q
 ·exact h pins s σ H x y v u Q I rx ry q
 ·exact h' pins s σ H x y v u Q I rx ry q
theorem nomark (b:Expr){op:CmpOp}(h:autoParam (op≠.In) L2.dft1._auto_1)(h2:autoParam (op≠.NotIn) L2.dft1._auto_1):behindInMarks op b=false:=by
 have e1:(op == CmpOp.In)=false:=by cases op<;>first | rfl | exact absurd rfl h
 have e2:(op == CmpOp.NotIn)=false:=by cases op<;>first | rfl | exact absurd rfl h2
 cases b<;>simp[behindInMarks,e1,e2]
theorem jq {op:CmpOp}{r:R2}(ho:OpR X (compareOp op) r)(ha:PE X a ta)(hb:PE X b tb)(hm:behindInMarks op b=false):PE X (.Compare a [op] [b] pos) (tOp r ta tb):=by
 intro pins s σ H Q I h
 exact wpAny_Compare1 (binT ha hb I h λv u s2 x y H2 I2 rx ry q=>ho pins s2 σ H2 x y v u Q I2 rx ry q) hm
noncomputable def tTest (t:TE):TT:=λσ H Q=>t σ H λx H'=>onB x λk=>Q k H'
theorem aM {op:CmpOp}{r:R2}(ho:OpR X (compareOp op) r)(ha:PE X a ta)(hb:PE X b tb)(hm:behindInMarks op b=false):PT X (.Compare a [op] [b] pos) (tTest (tOp r ta tb)):=by
 intro pins s σ H Q I h
 refine wpAny_isTrue_Compare1 (thnE (ha pins s σ H _ I h) λv s1 x H1 I1 r1 q1=>thnE (hb pins s1 σ H1 _ I1 q1) λu s2 y H2 I2 r2 q2=>
  thnE (ho pins s2 σ H2 x y v u _ I2 r1 r2 q2) λc s3 z H3 I3 r3 q0=>?_) hm
 obtain⟨k,e,q3⟩:=nO q0
 subst e
 cases r3
 exact wpAny_truthy_bool ⟨H3,I3,q3⟩
noncomputable def tChain (r r':R2)(ta tb tc:TE):TE:=λσ H Q=>ta σ H λx H1=>tb σ H1 λy H2=>r x y H2 λz H3=>onB z λk=>
 (if k=true then tc σ H3 λw' H4=>r' y w' H4 Q else Q (.bl false) H3)
theorem nS {op op':CmpOp}{r r':R2}(ho:OpR X (compareOp op) r)(ho':OpR X (compareOp op') r')(ha:PE X a ta)(hb:PE X b tb)(hc:PE X c tc)
  (hm:autoParam (lastMarks [op,op'] [b,c]=false) L2.dft5._auto_1):PE X (.Compare a [op,op'] [b,c] pos) (tChain r r' ta tb tc):=by
 intro pins s σ H Q I h
 refine Compare_chain (thnE (ha pins s σ H _ I h) λv s1 x H1 I1 r1 q1=>chain_link (thnE (hb pins s1 σ H1 _ I1 q1) λu s2 y H2 I2 r2 q2=>
  thnE (ho pins s2 σ H2 x y v u _ I2 r1 r2 q2) λd s3 z H3 I3 r3 q0=>?_)) hm
 obtain⟨k,e,q3⟩:=nO q0
 subst e
 cases r3
 refine wpAny_truthy_bool ?_
 cases k with
 | false=>exact ite_ff ⟨.bl false,H3,I3,rfl,q3⟩
 | true=>exact ite_tt (chain_last (thnE (hc pins s3 σ H3 _ I3 q3) λw' s4 z' H4 I4 r4 q4=>ho' pins s4 σ H4 y z' u w' Q I4 r2 r4 q4))
theorem sf {op op':CmpOp}{r r':R2}(ho:OpR X (compareOp op) r)(ho':OpR X (compareOp op') r')(ha:PE X a ta)(hb:PE X b tb)(hc:PE X c tc)
  (hm:autoParam (lastMarks [op,op'] [b,c]=false) L2.dft5._auto_1):PT X (.Compare a [op,op'] [b,c] pos) (tTest (tChain r r' ta tb tc)):=by
 intro pins s σ H Q I h
 refine isTrue_chain (thnE (ha pins s σ H _ I h) λv s1 x H1 I1 r1 q1=>test_link (thnE (hb pins s1 σ H1 _ I1 q1) λu s2 y H2 I2 r2 q2=>
  thnE (ho pins s2 σ H2 x y v u _ I2 r1 r2 q2) λd s3 z H3 I3 r3 q0=>?_)) hm
 obtain⟨k,e,q3⟩:=nO q0
 subst e
 cases r3
 refine wpAny_truthy_bool ?_
 cases k with
 | false=>
  obtain⟨k',e',q'⟩:=nO (x:=.bl false) (R:=λk=>Q k H3) q3
  cases e'
  exact ite_ff ⟨H3,I3,q'⟩
 | true=>
  refine ite_tt (test_last (thnE (hc pins s3 σ H3 _ I3 q3) λw' s4 z' H4 I4 r4 q4=>thnE (ho' pins s4 σ H4 y z' u w' _ I4 r2 r4 q4) λd' s5 z2 H5 I5 r5 q0=>?_))
  obtain⟨k2,e2,q5⟩:=nO q0
  subst e2
  cases r5
  exact wpAny_truthy_bool ⟨H5,I5,q5⟩
noncomputable def TruV (K:W.Frag)(x:V)(H:Hp)(k:Bool):Prop:=
 match x with
 | .non=>k=false
 | .bl b=>k=b
 | .int i=>k=(i != 0)
 | .str y=>y.length<=sizeLine/\k=((y.length:Int) != 0)
 | .byt y=>y.size<=sizeLine/\k=((y.size:Int) != 0)
 | .ref p=>(∃xs,SqL K H p xs/\k=!xs.isEmpty)\/(∃xs,SqT K H p xs/\k=!xs.isEmpty)\/∃kvs,H p=some (.dK kvs)/\k=!kvs.isEmpty
 | _=>False
theorem uD {κ:Type}{kvs:List (κ×V)}{vs:List (κ×Value)}(r:KV kvs vs):(!vs.isEmpty)=!kvs.isEmpty:=by
 cases r<;>rfl
theorem nU {xs:List V}{its:List Value}(r:Vals xs its):(!its.toArray.isEmpty)=!xs.isEmpty:=by
 cases r<;>simp
theorem line63:(sizeLine:Nat) < 2 ^ 63:=by rw[sizeLine_eq];decide
theorem Dq:TruR X (λx H Q=>∃k,TruV X.K x H k/\Q k H):=by
 intro pins s σ H x v Q I rx h
 obtain⟨k,e,q⟩:=h
 have hl:=line63
 have hs:sizeLine=16777216:=sizeLine_eq
 cases x with
 | non=>
  cases rx
  have e':k=false:=e
  subst e'
  exact truthy_none ⟨H,I,q⟩
 | bl b=>
  cases rx
  have e':k=b:=e
  subst e'
  exact wpAny_truthy_bool ⟨H,I,q⟩
 | int i=>
  obtain⟨t,rfl⟩:=rx
  have e':k=(i != 0):=e
  subst e'
  exact PySem.P.truthy_int ⟨H,I,q⟩
 | str y=>
  obtain⟨t,rfl⟩:=rx
  obtain⟨hy,e'⟩:y.length<=sizeLine/\k=((y.length:Int) != 0):=e
  subst e'
  exact PySem.P.truthy_str (by omega) ⟨H,I.tok _,q⟩
 | byt y=>
  obtain⟨t,rfl⟩:=rx
  obtain⟨hy,e'⟩:y.size<=sizeLine/\k=((y.size:Int) != 0):=e
  subst e'
  exact W.truthy_bytes (by omega) ⟨H,I.tok _,q⟩
 | ref p=>
  cases rx
  have e':(∃xs,SqL X.K H p xs/\k=!xs.isEmpty)\/(∃xs,SqT X.K H p xs/\k=!xs.isEmpty)\/∃kvs,H p=some (.dK kvs)/\k=!kvs.isEmpty:=e
  rcases e' with⟨xs,hx,e'⟩ | ⟨xs,hx,e'⟩ | ⟨kvs,hx,e'⟩
  ·subst e'
   obtain⟨its,r,pl,hz⟩:=I.list hx
   have hlen:=r.length
   exact wpAny_truthy_list pl.isList (by simp only[List.size_toArray];omega) ⟨H,I.tok _,by rw[nU r];exact q⟩
  ·subst e'
   obtain⟨its,r,pl,hz⟩:=I.tuple hx
   have hlen:=r.length
   exact truthy_tuple pl (by simp only[List.size_toArray];omega) ⟨H,I.tok _,by rw[nU r];exact q⟩
  ·subst e'
   obtain⟨hz,hS,vs,r,m⟩:kvs.length<=sizeLine/\(p == sysModules)=false/\∃vs,KV kvs vs/\s.heap.DictOf (mixKind X.prog X.w) p vs:=I.hok p _ hx
   have hlen:kvs.length=vs.length:=Paired.length r
   exact wpAny_truthy_dict hS m (by omega) ⟨H,I.tok _,by rw[uD r];exact q⟩
 | _=>exact(show False from e).elim
theorem zK (ha:PE X a ta)(he:∀whole,isTrue a X.env whole=(do let v <-whole;standAt a.pos;holding [v] (truthy v))) :
  PT X a (λσ H Q=>ta σ H λx H'=>∃k,TruV X.K x H' k/\Q k H'):=by
 intro pins s σ H Q I h
 exact isTrue_plain (thnE (ha pins s σ H _ I h) λv s1 x H1 I1 r1 q1=>Dq pins s1 σ H1 x v Q I1 r1 q1) (he _)
theorem uE:OpR X (binaryOp .Add) (λx y H Q=>∃i j,x=.str i/\y=.str j/\i.length+j.length<=sizeLine/\Q (.str (i++j)) H):=by
 intro pins s σ H x y v u Q I rx ry h
 obtain⟨i,j,rfl,rfl,hz,q⟩:=h
 obtain⟨t,rfl⟩:=rx
 obtain⟨t',rfl⟩:=ry
 exact add_str (λt' tk=>⟨.str (i++j),H,I.tok _,⟨_,rfl⟩,q⟩) hz
theorem vals1 {x:V}{us:List Value}(r:Vals [x] us):∃u,us=[u]/\RelV x u:=by
 cases r with
 | cons r1 r2=>cases r2;exact⟨_,rfl,r1⟩
theorem vals2 {x y:V}{us:List Value}(r:Vals [x,y] us):∃u w',us=[u,w']/\RelV x u/\RelV y w':=by
 cases r with
 | cons r1 r2=>
  cases r2 with
  | cons r3 r4=>cases r4;exact⟨_,_,rfl,r1,r3⟩
theorem xm (hc:X.calm=true):CallR X (.builtin "max") (λxs H Q=>∃i j,xs=[.int i,.int j]/\Q (.int (if j > i then j else i)) H):=by
 intro pins s σ H xs us Q I r h
 obtain⟨i,j,rfl,q⟩:=h
 obtain⟨u,w',rfl,⟨t,rfl⟩,⟨t',rfl⟩⟩:=vals2 r
 refine max_two_ints (I.ok.hd hc) λh' tk k=>⟨_,H,I.kept k,?_,q⟩
 by_cases hj:j > i
 ·rw[if_pos hj,if_pos hj];exact⟨_,rfl⟩
 ·rw[if_neg hj,if_neg hj];exact⟨_,rfl⟩
theorem xn (hc:X.calm=true):CallR X (.builtin "min") (λxs H Q=>∃i j,xs=[.int i,.int j]/\Q (.int (if j < i then j else i)) H):=by
 intro pins s σ H xs us Q I r h
 obtain⟨i,j,rfl,q⟩:=h
 obtain⟨u,w',rfl,⟨t,rfl⟩,⟨t',rfl⟩⟩:=vals2 r
 refine min_two_ints (I.ok.hd hc) λh' tk k=>⟨_,H,I.kept k,?_,q⟩
 by_cases hj:j < i
 ·rw[if_pos hj,if_pos hj];exact⟨_,rfl⟩
 ·rw[if_neg hj,if_neg hj];exact⟨_,rfl⟩
theorem qN:CallR X (.type "str") (λxs H Q=>∃i,xs=[.int i]/\i.natAbs.log2 < 1920/\Q (.str (toString i)) H):=by
 intro pins s σ H xs us Q I r h
 obtain⟨i,rfl,hz,q⟩:=h
 obtain⟨u,rfl,t,rfl⟩:=vals1 r
 exact PySem.P.str_of_int hz ⟨.str _,H,I.tok _,⟨_,rfl⟩,q⟩
theorem zL:CallR X (.builtin "ord") (λxs H Q=>∃x,xs=[.str x]/\x.length=1/\Q (.int (x.cps.getD 0 0:Nat)) H):=by
 intro pins s σ H xs us Q I r h
 obtain⟨x,rfl,hz,q⟩:=h
 obtain⟨u,rfl,t,rfl⟩:=vals1 r
 exact ord_of_one hz ⟨.int _,H,I.tok _,⟨_,rfl⟩,q⟩
end
structure ObjM (h:Heap)(x dx C:Addr)(mA:Str->Option Value):Prop where
 obj:h.get? x=some (W.instObj C dx)
 ns:h.Ns1 dx mA
 ne:dx≠x
theorem lN {h:Heap}{dx:Addr}{mA:Str->Option Value}(n:h.Ns1 dx mA):∃od,h.get? dx=some od/\∀name,W.lookIn name od=some (mA name):=by
 obtain⟨o,es,ep,ho,hd,hk,_,hm⟩:=n
 refine⟨o,ho,λname=>?_⟩
 have e:=hm name
 unfold nsFind findBy at e
 rw[<-Array.find?_toList] at e
 unfold W.lookIn
 rw[hd]
 dsimp only
 split
 ·rename_i y q
  rw[q] at e
  exact congrArg some e
 ·rename_i q
  rw[q] at e
  have a:es.toList.any (·.refKey)=false:=by
   rw[List.any_eq_false]
   intro y hy
   obtain⟨z,t,hkey⟩:=hk y (Array.mem_toList_iff.mp hy)
   simp[DictEntry.refKey,hkey]
  have a':¬es.toList.any (·.refKey)=true:=by rw[a];exact Bool.false_ne_true
  rw[if_neg a']
  exact congrArg some e
theorem ObjM.look {h:Heap}{x dx C:Addr}{mA:Str->Option Value}(I:ObjM h x dx C mA):∃od,W.InstAt h x (W.instObj C dx) C (some od)/\∀name,W.lookIn name od=some (mA name):=
 let ⟨od,ho,hl⟩:=lN I.ns
 ⟨od,⟨I.obj,rfl,rfl,ho⟩,hl⟩
section
variable {prog:Program} {w:World} {A:Around} {E:Value->Shared->Prop} {s:Shared} {K:W.Frag} {x dx C f:Addr} {mA:Str->Option Value} {name:Str} {v:Value}
theorem get_map {expr:Bool}{Q:Value->Shared->Prop}(X:K.In s.heap)(I:ObjM s.heap x dx C mA)(hg:W.plainGet K C name=true)(hh:W.hasDictIn K C=true)
  (ha:W.findIn K (.ref C) name=some none) (hv:mA name=some v) (hv':W.handedIn v=true) (h:Q v { s with toks:=s.toks+1 }) :
  wpAny (model prog w) A (getAttr (.ref x) name expr) Q E s:=by
 obtain⟨od,J,hl⟩:=I.look
 exact W.get_value X J (W.plainGet_of hg).1 (W.findObj_own hh ha rfl (by rw[hl,hv])) hv' h
theorem zM {pl:Sem Bool}{Q:Value×List Value->Shared->Prop}(X:K.In s.heap)(I:ObjM s.heap x dx C mA)(hg:W.plainGet K C name=true)
  (hf:W.findIn K (.ref C) name=some (some (.ref f))) (ht:W.isFn K (.ref f)=true) (hv:mA name=none) (h:Q (.ref f,[.ref x]) s) :
  wpAny (model prog w) A (getMethod (.ref x) name pl) Q E s:=by
 obtain⟨od,J,hl⟩:=I.look
 exact W.method_fn X J (W.plainGet_of hg).1 (W.plainGet_of hg).2 hf (beq_iff_eq.mp ht) (by show(W.lookIn name od).map (·.isSome)=some false;rw[hl,hv];rfl) h
theorem Bl {ns:List Str}{Q:Unit->Shared->Prop}(X:K.In s.heap)(I:ObjM s.heap x dx C mA)
  (hs:W.findIn K (.ref C) "__setattr__"=some (some (.builtin "object.__setattr__"))) (hp:W.plainOver K C=true) (ht:W.takerIn K C name=some none) (hh:W.hasDictIn K C=true)
  (hw:PySem.Within mA ns) (hsz:ns.length<=sizeLine)
  (h:∀h',ObjM h' x dx C (λy=>if y=name then some v else mA y)->Heap.SameBut dx s.heap h'->Q () { s with heap:=h',toks:=s.toks+2 }) :
  wpAny (model prog w) A (setAttr (.ref x) name v) Q E s:=by
 obtain⟨od,J,hl⟩:=I.look
 refine W.set_plain X J hs (W.osa_open (s:={ s with toks:=s.toks+1 }) (r:=none) X J hp ht λb=>?_)
 obtain⟨cd,hc,hd'⟩:=W.any_some hh
 have hx:s.heap.get? x=some ⟨.ref C,some dx,.plain,#[]⟩:=I.obj
 refine wpAny_bind (wpAny_pure (wpAny_bind (wpAny_bind (wpAny_loadPart hx (wpAny_bind (W.Looks.here (s:={ s with toks:=s.toks+1 }) (W.looks_clsIn X hc) ?_))))))
 rw[hd']
 refine wpAny_pure (a:=some dx) (wpAny_bind (wpAny_pure (wpAny_bind ?_)))
 refine wpAny_nsSet1 (s:={ s with toks:=s.toks+1 }) I.ns λh' hn2 hs2=>?_
 obtain⟨oD,esD,epD,hoD,hdD,hcD⟩:=hn2.count (PySem.Within.cons name v hw)
 refine wpAny_bind (wpAny_lookBehind hoD (by rw[hdD];exact pastItsLine_dict (Nat.le_trans hcD (by rw[List.length_cons];omega))) ?_)
 exact wpAny_pure (h _ ⟨(hs2.2 _ (Ne.symm I.ne)).trans I.obj,hn2,I.ne⟩ hs2)
theorem zN {R:Result->Shared->Prop}{vs:List Value}{kw:List (Str×Value)}(X:K.In s.heap)(hm:W.makesIn K C=true)
  (hi:W.findIn K (.ref C) "__init__"=some (some (.ref f))) (hf:W.typeIn K (.ref f)=some (.type "function"))
  (h:codeAny (model prog w) (A.under (.builtin "type.__call__" ⟨.ref C::vs,kw⟩)) (.call (.ref f) ⟨.ref (s.heap.objs.size+1)::vs,kw⟩) (W.InitBack (s.heap.objs.size+1) R)
   { s with heap:=(s.heap.push W.emptyDict).push (W.instObj C s.heap.objs.size) }) :
  codeAny (model prog w) A (.call (.ref C) ⟨vs,kw⟩) R s:=by
 obtain⟨hh,g,d,t,os⟩:=s
 exact W.make_core (W.makes_of X hm) (W.looks_findIn X hi) (λself=>W.bind_fn X self hf) (.inl rfl) h
end
noncomputable def putF (f:Str)(v:V):List (Str×V)->List (Str×V)
 | []=>[(f,v)]
 | (g,x)::r=>if g=f then(g,v)::r else(g,x)::putF f v r
theorem iN (f g:Str)(v:V):∀fs:List (Str×V),(putF f v fs).lookup g=if g=f then some v else fs.lookup g
 | []=>by
  show List.lookup g [(f,v)]=_
  by_cases h:g=f
  ·have hb:(g == f)=true:=beq_iff_eq.mpr h
   simp only[List.lookup,hb,if_pos h]
  ·have hb:(g == f)=false:=beq_eq_false_iff_ne.mpr h
   simp only[List.lookup,hb,if_neg h]
 | (k,x)::r=>by
  have ih:=iN f g v r
  rw[show putF f v ((k,x)::r)=(if k=f then(k,v)::r else(k,x)::putF f v r) from rfl]
  by_cases hk:k=f
  ·rw[if_pos hk]
   by_cases h:g=k
   ·have hb:(g == k)=true:=beq_iff_eq.mpr h
    simp only[List.lookup,hb,if_pos (h.trans hk)]
   ·have hb:(g == k)=false:=beq_eq_false_iff_ne.mpr h
    simp only[List.lookup,hb,if_neg (λe:g=f=>h (e.trans hk.symm))]
  ·rw[if_neg hk]
   by_cases h:g=k
   ·have hb:(g == k)=true:=beq_iff_eq.mpr h
    simp only[List.lookup,hb,if_neg (λe:g=f=>hk (h.symm.trans e))]
   ·have hb:(g == k)=false:=beq_eq_false_iff_ne.mpr h
    simp only[List.lookup,hb]
    exact ih
theorem lO (f:Str)(v:V):∀fs:List (Str×V),f∈(putF f v fs).map (·.1)/\∀g,g∈fs.map (·.1)->g∈(putF f v fs).map (·.1)
 | []=>⟨by simp[putF],λg h=>by simp at h⟩
 | (k,x)::r=>by
  obtain⟨i1,i2⟩:=lO f v r
  rw[show putF f v ((k,x)::r)=(if k=f then(k,v)::r else(k,x)::putF f v r) from rfl]
  by_cases hk:k=f
  ·rw[if_pos hk]
   subst hk
   exact⟨by simp,λg h=>by simpa using h⟩
  ·rw[if_neg hk]
   refine⟨?_,λg h=>?_⟩
   ·rw[List.map_cons]
    exact List.mem_cons_of_mem _ i1
   ·rw[List.map_cons] at h ⊢
    rcases List.mem_cons.mp h with e | e
    ·exact List.mem_cons.mpr (.inl e)
    ·exact List.mem_cons_of_mem _ (i2 g e)
theorem mN (f:Str)(v:V):∀fs:List (Str×V),(putF f v fs).length<=fs.length+1
 | []=>by simp[putF]
 | (k,x)::r=>by
  have ih:=mN f v r
  rw[show putF f v ((k,x)::r)=(if k=f then(k,v)::r else(k,x)::putF f v r) from rfl]
  by_cases hk:k=f
  ·rw[if_pos hk,List.length_cons,List.length_cons];omega
  ·rw[if_neg hk,List.length_cons,List.length_cons];omega
theorem RelO.some_of {v:V}{o:Option Value}(r:RelO (some v) o):∃u,o=some u/\RelV v u:=by
 cases o with
 | none=>exact(show False from r).elim
 | some u=>exact⟨u,rfl,r⟩
theorem RelO.none_of {o:Option Value}(r:RelO none o):o=none:=by
 cases o with
 | none=>rfl
 | some u=>exact(show False from r).elim
theorem pV {v:V}{u:Value}(r:RelV v u):W.handedIn u=true:=by
 cases v with
 | non=>cases (show u=Value.none from r);rfl
 | bl b=>cases (show u=Value.bool b from r);rfl
 | int i=>obtain⟨t,e⟩:=(show ∃t,u=Value.int i t from r);cases e;rfl
 | str x=>obtain⟨t,e⟩:=(show ∃t,u=Value.str x t from r);cases e;rfl
 | byt b=>obtain⟨t,e⟩:=(show ∃t,u=Value.bytes b t from r);cases e;rfl
 | flt b=>obtain⟨t,e⟩:=(show ∃t,u=Value.float b t from r);cases e;rfl
 | ref a=>cases (show u=Value.ref a from r);rfl
 | ty n=>cases (show u=Value.type n from r);rfl
section
variable {P:Program} {w:World} {H H':Hp} {h h':Heap} {a C dx:Addr} {fs fs':List (Str×V)}
theorem nI (hok:HOk P w H h)(e:H a=some (.ins C dx fs)):∃mA,ObjM h a dx C mA/\(∀f,RelO (fs.lookup f) (mA f))/\PySem.Within mA (fs.map (·.1))/\fs.length<=1000/\H dx=some (.own a):=by
 obtain⟨d,z,ne,ob,mA,n,r,q⟩:=(show ObjOk P w H h a (.ins C dx fs) from hok a _ e)
 exact⟨mA,⟨ob,n,ne⟩,r,q,z,d⟩
end
structure Cls (K:W.Frag)(C:Addr):Prop where
 pg:W.plainGet K C Str.empty=true
 hd:W.hasDictIn K C=true
 po:W.plainOver K C=true
 sa:W.findIn K (.ref C) "__setattr__"=some (some (.builtin "object.__setattr__"))
theorem Cls.get {K:W.Frag}{C:Addr}(c:Cls K C)(f:Str):W.plainGet K C f=true:=c.pg
noncomputable def NoAttr (K:W.Frag)(C:Addr)(f:Str):Prop:=W.findIn K (.ref C) f=some none
theorem NoAttr.taker {K:W.Frag}{C:Addr}{f:Str}(n:NoAttr K C f):W.takerIn K C f=some none:=by
 unfold W.takerIn
 rw[show W.findIn K (.ref C) f=some none from n]
 rfl
structure Meth (K:W.Frag)(C:Addr)(m:Str)(f:Addr):Prop where
 at_:W.findIn K (.ref C) m=some (some (.ref f))
 fn:W.isFn K (.ref f)=true
 kp:W.keepIn K (.ref f)=true
section
variable {X:Cx} {pins:List (Addr×Obj)} {σ:St} {H:Hp} {s:Shared} {a C dx:Addr} {fs:List (Str×V)} {f:Str} {v:V} {A:Around} {E:Value->Shared->Prop}
theorem uF {b:Bool}{Q:Value->Shared->Prop}(I:Inv X pins σ H s)(e:H a=some (.ins C dx fs))(c:Cls X.K C)(n:NoAttr X.K C f)(l:fs.lookup f=some v)
  (h:∀u s',Inv X pins σ H s'->RelV v u->Q u s'):wpAny (model X.prog X.w) A (getAttr (.ref a) f b) Q E s:=by
 obtain⟨mA,O,r,_,_,_⟩:=nI I.hok e
 obtain⟨u,hu,ru⟩:=RelO.some_of (v:=v) (o:=mA f) (by rw[<-l];exact r f)
 exact get_map I.kIn O (c.get f) c.hd n hu (pV ru) (h u _ (I.tok _) ru)
theorem gW {m:Str}{g:Addr}{pl:Sem Bool}{Q:Value×List Value->Shared->Prop}(I:Inv X pins σ H s)(e:H a=some (.ins C dx fs))(c:Cls X.K C)(k:Meth X.K C m g)(l:fs.lookup m=none)
  (h:Q (.ref g,[.ref a]) s):wpAny (model X.prog X.w) A (getMethod (.ref a) m pl) Q E s:=by
 obtain⟨mA,O,r,_,_,_⟩:=nI I.hok e
 have hn:mA m=none:=RelO.none_of (by rw[<-l];exact r m)
 exact zM I.kIn O (c.get m) k.at_ k.fn hn h
theorem uG {y:V}{u:Value}{Q:Unit->Shared->Prop}(I:Inv X pins σ H s)(e:H a=some (.ins C dx fs))(c:Cls X.K C)(n:NoAttr X.K C f)(hl:fs.length < 1000)(ry:RelV y u)
  (h:∀s',Inv X pins σ (upd H a (.ins C dx (putF f y fs))) s'->Q () s'):wpAny (model X.prog X.w) A (setAttr (.ref a) f u) Q E s:=by
 obtain⟨mA,O,r,wi,_,ho⟩:=nI I.hok e
 have hz:(fs.map (·.1)).length<=sizeLine:=by rw[List.length_map,sizeLine_eq];omega
 refine Bl I.kIn O c.sa c.po n.taker c.hd wi hz λh' O' sb=>h _ ?_
 have hd:∃o,h'.get? dx=some o:=let ⟨o,_,_,e',_⟩:=O'.ns;⟨o,e'⟩
 refine I.write (x:=a) (e:=dx) (by rw[e];exact True.intro) (.inr ho) (λb q hb z=>(sb.2 b hb).trans z) hd ?_
 refine⟨by rw[aj O.ne];exact ho,?_,O.ne,O'.obj,_,O'.ns,λg=>?_,λg hg=>?_⟩
 ·have:=mN f y fs;omega
 ·show RelO ((putF f y fs).lookup g) (if g=f then some u else mA g)
  rw[iN]
  by_cases q:g=f
  ·rw[if_pos q,if_pos q];exact ry
  ·rw[if_neg q,if_neg q];exact r g
 ·by_cases q:g=f
  ·rw[q];exact(lO f y fs).1
  ·refine(lO f y fs).2 g (wi g λz=>hg ?_)
   show(if g=f then some u else mA g)=none
   rw[if_neg q];exact z
theorem Inv.made (I:Inv X pins σ H s):Inv X pins σ (upd (upd H s.heap.objs.size (.own (s.heap.objs.size+1))) (s.heap.objs.size+1) (.ins C s.heap.objs.size []))
  { s with heap:=(s.heap.push W.emptyDict).push (W.instObj C s.heap.objs.size) }:=by
 have e1:(s.heap.push W.emptyDict).get? s.heap.objs.size=some W.emptyDict:=Heap.get?_push_size s.heap rfl
 have e2:((s.heap.push W.emptyDict).push (W.instObj C s.heap.objs.size)).get? (s.heap.objs.size+1)=some (W.instObj C s.heap.objs.size):=by
  have:=Heap.get?_push_size (s.heap.push W.emptyDict) (o:=W.instObj C s.heap.objs.size) rfl
  rwa [Heap.size_push] at this
 have e3:(s.heap.push W.emptyDict).Ns s.heap.objs.size (λ_=>none):=⟨W.emptyDict,#[],_,e1,rfl,(λe he=>absurd he (by simp)),λ_=>rfl⟩
 have I1:=I.laid (a:=s.heap.objs.size) (o:=.own (s.heap.objs.size+1)) (h':=s.heap.push W.emptyDict) (t':=s.toks) (λb u q=>Heap.get?_push_of_some _ q) (Nat.le_refl _) ⟨_,e1⟩
 refine I1.laid (a:=s.heap.objs.size+1) (o:=.ins C s.heap.objs.size []) (t':=s.toks) (λb u q=>Heap.get?_push_of_some _ q) (Nat.le_of_eq (Heap.size_push _ _)) ?_
 have ne:s.heap.objs.size≠s.heap.objs.size+1:=Nat.ne_of_lt (Nat.lt_succ_self _)
 refine⟨by rw[aj ne,af],Nat.zero_le _,ne,e2,λ_=>none,(Heap.Ns1.of_empty e3).at λo q=>Heap.get?_push_of_some _ q,λ_=>True.intro,λy hy=>absurd rfl hy⟩
theorem wy {prog:Program}{w:World}{env:Env}{e:Expr}{f:Str}{pos:Pos}{s:Shared}{Q:Value->Shared->Prop}(hb:attributeBase e f env (eval e env)=eval e env)
  (h:wpAny (model prog w) A (eval e env) (λo s₁=>wpAny (model prog w) A (getAttr o f true) Q E s₁) E s):wpAny (model prog w) A (eval (.Attribute e f pos) env) Q E s:=
 Attribute_any_ h (by rw[arm_eval_Attribute,hb])
end
noncomputable def tFld (K:W.Frag)(ta:TE)(f:Str):TE:=λσ H Q=>ta σ H λx H1=>onR x λa=>∃C dx fs,H1 a=some (.ins C dx fs)/\Cls K C/\NoAttr K C f/\∃v,fs.lookup f=some v/\Q v H1
noncomputable def sFld (K:W.Frag)(ta tv:TE)(f:Str):TS:=λD σ H=>tv σ H λy H1=>ta σ H1 λx H2=>onR x λa=>∃C dx fs,H2 a=some (.ins C dx fs)/\Cls K C/\NoAttr K C f/\fs.length < 1000/\
 D.nx σ (upd H2 a (.ins C dx (putF f y fs)))
section
variable {X:Cx} {o e value:Expr} {f:Str} {pos pos' tpos:Pos} {ta tv:TE}
theorem Dr (he:PE X e ta)(hb:attributeBase e f X.env (eval e X.env)=eval e X.env):PE X (.Attribute e f pos) (tFld X.K ta f):=by
 intro pins s σ H Q I h
 refine wy hb (thnE (he pins s σ H _ I h) λu s1 x H1 I1 rx q0=>?_)
 obtain⟨a,ex,C,dx,fs,ea,c,n,v,l,q⟩:=qJ q0
 subst ex
 obtain rfl:u=Value.ref a:=rx
 exact uF I1 ea c n l λu' s2 I2 ru=>⟨v,H1,I2,ru,q⟩
theorem bu (ha:PE X o ta)(hv:PE X value tv)(hs:swapsWith value (some (.Attribute o f pos')) pos.line X.env=pure false):PS X (.Assign [.Attribute o f pos'] value pos) (sFld X.K ta tv f):=by
 intro pins s σ H D I h
 refine plainObj_wpAny_Assign_Attribute (thnE (hv pins s σ H _ I h) λu s1 y H1 I1 ry q=>thnE (ha pins s1 σ H1 _ I1 q) λov s2 x H2 I2 rx q0=>?_) hs
 obtain⟨a,ex,C,dx,fs,ea,c,n,l,q2⟩:=qJ q0
 subst ex
 obtain rfl:ov=Value.ref a:=rx
 exact uG I2 ea c n l ry λs3 I3=>⟨σ,_,I3,q2⟩
theorem Cu {pl:Sem Bool}{m:Str}{apos:Pos}{args:List Expr}{pins:List (Addr×Obj)}{s:Shared}{σ:St}{H:Hp}{Q:Value->Shared->Prop}{te:TE}(he:PE X e te)(I:Inv X pins σ H s)
  (h:te σ H λx H1=>∃a C dx fs g,x=.ref a/\H1 a=some (.ins C dx fs)/\Cls X.K C/\Meth X.K C m g/\fs.lookup m=none/\
   ∀s1,Inv X pins σ H1 s1->wpAny (model X.prog X.w) X.A (callWith pos (.ref g) [.ref a] (backTo pos (starEach args X.env)) (backToKw pos (keywordEach [] X.env))) Q X.xe s1)
  (ht:eval (.Call (.Attribute e m apos) args [] pos) X.env=(do
   let ov <-eval e X.env
   standAt apos.atName
   let (f,first) <-holding [ov] (getMethod ov m pl)
   callWith pos f first (backTo pos (starEach args X.env)) (backToKw pos (keywordEach [] X.env)))) :
  wpAny (model X.prog X.w) X.A (eval (.Call (.Attribute e m apos) args [] pos) X.env) Q X.xe s:=by
 refine W.methodCall_KW (pl:=pl) (thn (he pins s σ H _ I h) λu s1 ⟨x,H1,I1,rx,a,C,dx,fs,g,ex,ea,c,k,l,q⟩=>?_) ht
 subst ex
 obtain rfl:u=Value.ref a:=rx
 exact gW I1 ea c k l (q s1 I1)
end
section
variable {X:Cx} {pins:List (Addr×Obj)} {σ:St} {H:Hp} {s:Shared} {A:Around} {E:Value->Shared->Prop} {Q:Value->Shared->Prop} {c:Value} {b:Bool}
inductive TyOf (K:W.Frag) (H:Hp):V->Value->Prop where
 | non:TyOf K H .non (.type "NoneType")
 | bl (x:Bool):TyOf K H (.bl x) (.type "bool")
 | int (i:Int):TyOf K H (.int i) (.type "int")
 | str (x:Str):TyOf K H (.str x) (.type "str")
 | flt (x:UInt64):TyOf K H (.flt x) (.type "float")
 | lst {a:Addr} {xs:List V} (e:H a=some (.lst xs)):TyOf K H (.ref a) (.type "list")
 | frz {a:Addr} {o:Obj} {xs:List V} (e:H a=some (.frz o (.lst xs))):TyOf K H (.ref a) (.type "list")
 | tup {a:Addr} {xs:List V} (e:H a=some (.tup xs)):TyOf K H (.ref a) (.type "tuple")
 | dK {a:Addr} {kvs:List (Key×V)} (e:H a=some (.dK kvs)):TyOf K H (.ref a) (.type "dict")
 | dT {a:Addr} {kvs:List (List Key×V)} (e:H a=some (.dT kvs)):TyOf K H (.ref a) (.type "dict")
 | ins {a C dx:Addr} {fs:List (Str×V)} (e:H a=some (.ins C dx fs)) (cl:Cls K C) (ha:W.findIn K (.ref C) "__class__"=some (some (.builtin "object.__class__")))
   (hn:W.specialIn K (.builtin "object.__class__") "__get__"=some (some (.builtin "getset_descriptor.__get__"))) (htk:W.takesIn K (.builtin "object.__class__")=some true)
   (hm:W.mroIn K C (.type "object")=some true):TyOf K H (.ref a) (.ref C)
theorem pW {x:V}{u t:Value}(I:Inv X pins σ H s)(rx:RelV x u)(ty:TyOf X.K H x t)(e:W.kitOne X.K t c=some b)(h:∀tk,Q (.bool b) { s with toks:=tk }) :
  wpAny (model X.prog X.w) A (call (.builtin "isinstance") [u,c]) Q E s:=by
 cases ty with
 | non=>cases (show u=Value.none from rx);exact W.kia_one W.kitx_none I.kIn True.intro e (λz=>nomatch z) h
 | bl y=>cases (show u=Value.bool y from rx);exact W.kia_one W.kitx_bool I.kIn True.intro e (λz=>nomatch z) h
 | int i=>obtain⟨t,q⟩:=(show ∃t,u=Value.int i t from rx);cases q;exact W.kia_one W.kitx_int I.kIn True.intro e (λz=>nomatch z) h
 | str y=>obtain⟨t,q⟩:=(show ∃t,u=Value.str y t from rx);cases q;exact W.kia_one W.kitx_str I.kIn True.intro e (λz=>nomatch z) h
 | flt y=>obtain⟨t,q⟩:=(show ∃t,u=Value.float y t from rx);cases q;exact W.kia_one W.kitx_float I.kIn True.intro e (λz=>nomatch z) h
 | @lst a xs ea=>
  cases (show u=Value.ref a from rx)
  obtain⟨_,_,n,_,h1⟩:=(show ObjOk X.prog X.w H s.heap a (.lst xs) from I.hok a _ ea)
  exact W.kia_one W.kitx_list I.kIn ⟨_,h1,rfl⟩ e (λz=>nomatch z) h
 | @frz a ob xs ea=>
  cases (show u=Value.ref a from rx)
  obtain⟨_,_,_,n,_,h1⟩:=(show ObjOk X.prog X.w H s.heap a (.frz ob (.lst xs)) from I.hok a _ ea)
  exact W.kia_one W.kitx_list I.kIn ⟨_,h1,rfl⟩ e (λz=>nomatch z) h
 | @tup a xs ea=>
  cases (show u=Value.ref a from rx)
  obtain⟨_,_,_,p⟩:=(show ObjOk X.prog X.w H s.heap a (.tup xs) from I.hok a _ ea)
  obtain⟨o,h1,h2,_⟩:=p
  exact W.kia_one W.kitx_tuple I.kIn ⟨o,h1,h2⟩ e (λz=>nomatch z) h
 | @dK a kvs ea=>
  cases (show u=Value.ref a from rx)
  obtain⟨_,_,vs,_,p⟩:=(show ObjOk X.prog X.w H s.heap a (.dK kvs) from I.hok a _ ea)
  obtain⟨o,es,ep,h1,h2,_⟩:=p
  exact W.kia_one W.kitx_dict I.kIn ⟨o,h1,h2.1⟩ e (λz=>nomatch z) h
 | @dT a kvs ea=>
  cases (show u=Value.ref a from rx)
  obtain⟨_,_,xs,_,o,es,ep,h1,h2,_⟩:=(show ObjOk X.prog X.w H s.heap a (.dT kvs) from I.hok a _ ea)
  exact W.kia_one W.kitx_dict I.kIn ⟨o,h1,h2.1⟩ e (λz=>nomatch z) h
 | @ins a C dx fs ea cl ha hn htk hm=>
  cases (show u=Value.ref a from rx)
  obtain⟨mA,O,_⟩:=nI I.hok ea
  obtain⟨od,J,_⟩:=O.look
  exact W.kia_one (W.kitx_own (cl.get _) cl.hd ha hn htk hm) I.kIn J e (λz=>nomatch z) h
end
structure Room (k:Nat)(A:Around):Prop where
 hd:A.handled=none
 dp:A.depth+3 * k+5 < recursionLimit
 un:A.units+16 * k+200 < cLine
theorem Room.mono {j k:Nat}{A:Around}(r:Room k A)(h:j<=k):Room j A:=⟨r.hd,by have:=r.dp;omega,by have:=r.un;omega⟩
theorem Room.deeper {k:Nat}{A:Around}(r:Room (k+1) A)(env:Env):Room k (A.deeper env):=
 ⟨r.hd,by have:=r.dp;show A.depth+1+3 * k+5 < _;omega,by have:=r.un;show A.units+3+16 * k+200 < _;omega⟩
theorem uH {A:Around}{C:Addr}{us:List Value}{kw:List (Str×Value)}:(A.under (.builtin "type.__call__" ⟨.ref C::us,kw⟩)).depth=A.depth+1:=by
 first | rfl | simp[Around.under,Code.weight,Code.isCreation,Code.isGuard,Code.isCaller,Code.frames,Code.isFrame,guardIds]
theorem uI {A:Around}{C:Addr}{us:List Value}{kw:List (Str×Value)}:(A.under (.builtin "type.__call__" ⟨.ref C::us,kw⟩)).units=A.units+1:=by
 first | rfl | simp[Around.under,Code.cUnits,Code.frames,Code.isFrame]
theorem Room.make {k:Nat}{A:Around}(r:Room (k+1) A)(C:Addr)(us:List Value)(kw:List (Str×Value)):Room k (A.under (.builtin "type.__call__" ⟨.ref C::us,kw⟩)):=
 ⟨r.hd,by have:=r.dp;rw[uH];omega,by have:=r.un;rw[uI];omega⟩
theorem Room.depth {k:Nat}{A:Around}(r:Room k A):A.depth < recursionLimit:=by have:=r.dp;omega
theorem Room.units {k:Nat}{A:Around}(r:Room k A):A.units+64 < cLine:=by have:=r.un;omega
noncomputable def tNil:TA:=λ_ H Q=>Q [] H
noncomputable def tCons (ta:TE)(tr:TA):TA:=λσ H Q=>ta σ H λx H1=>tr σ H1 λxs H2=>Q (x::xs) H2
section
variable {X:Cx} {e:Expr} {es:List Expr} {te:TE} {t:TA} {pos:Pos}
theorem ae:PA X [] tNil:=λ_ _ _ _ H Q I h=>Calls.spliced_nil ⟨[],H,I,.nil,h⟩
theorem aa (ha:PE X e te)(hr:PA X es t)(hs:autoParam (starEach (e::es) X.env=(false,eval e X.env)::starEach es X.env) L2.dft3._auto_1):PA X (e::es) (tCons te t):=by
 intro pos pins s σ H Q I h
 rw[hs]
 show wpAny _ _ (spliced ((false,eval e X.env)::backTo pos (starEach es X.env))) _ _ s
 refine Calls.spliced_cons (thnE (ha pins s σ H _ I h) λu s1 x H1 I1 r1 q1=>?_)
 exact thnA (hr pos pins s1 σ H1 _ I1 q1) λus s2 xs H2 I2 r2 q2=>⟨x::xs,H2,I2,.cons r1 r2,q2⟩
noncomputable def tTup (t:TA):TE:=λσ H Q=>t σ H λxs H1=>xs.length<=sizeLine/\∀p,H1 p=none->Q (.ref p) (upd H1 p (.tup xs))
noncomputable def tLst (t:TA):TE:=λσ H Q=>t σ H λxs H1=>xs.length<=sizeLine/\∀p,H1 p=none->Q (.ref p) (upd H1 p (.lst xs))
theorem bC {x1}(h:PA X es t):PE X (.Tuple es x1 pos) (tTup t):=by
 intro pins s σ H Q I hq
 refine wpAny_Tuple_spliced (thn (h pos pins s σ H _ I hq) λus s1 ⟨xs,H1,I1,r,z,q⟩=>⟨by rw[<-r.length];exact z,?_⟩)
 have hf:H1 s1.heap.objs.size=none:=I1.hok.fresh (Nat.le_refl _)
 refine⟨.ref s1.heap.objs.size,upd H1 s1.heap.objs.size (.tup xs),I1.laid (t':=s1.toks) (λb u e=>Heap.get?_push_of_some _ e) (Nat.le_refl _) ?_,rfl,q _ hf⟩
 exact⟨z,us,r,⟨_,Heap.get?_push_size _ rfl,rfl,_,rfl⟩⟩
theorem aU (h:PA X es t):PE X (.List es pos) (tLst t):=by
 intro pins s σ H Q I hq
 refine wpAny_List_spliced (thn (h pos pins s σ H _ I hq) λus s1 ⟨xs,H1,I1,r,z,q⟩=>⟨by rw[<-r.length];exact z,?_⟩)
 have hf:H1 s1.heap.objs.size=none:=I1.hok.fresh (Nat.le_refl _)
 refine⟨.ref s1.heap.objs.size,upd H1 s1.heap.objs.size (.lst xs),I1.laid (t':=s1.toks) (λb u e=>Heap.get?_push_of_some _ e) (Nat.le_refl _) ?_,rfl,q _ hf⟩
 exact⟨z,us,0,r,Heap.get?_push_size _ rfl⟩
end
noncomputable abbrev Sp:=List V->Hp->VK->XK->Prop
noncomputable abbrev CXT:=List Env->Hp->Shared->XK->Value->Shared->Prop
structure Env0 (P:Program)(w:World)(K:W.Frag)(mg:Str->Option Value)(base:Heap)(A:Around)(outer:List Env)(s:Shared)(H:Hp):Prop where
 frames:A.frames=some outer
 mod:Mod K mg base
 bs:∀b o,base.get? b=some o->s.heap.get? b=some o/\H b=none
 bsz:base.objs.size<=s.heap.objs.size
 funs:s.heap.FunFrames base outer
 frf:∀b∈frs outer,H b=none
 hok:HOk P w H s.heap
 bare:AllBare s.gens
noncomputable def CE (outer:List Env)(P:Program)(w:World)(H:Hp)(s:Shared)(Q:VK)(u:Value)(s':Shared):Prop:=
 ∃v H',s'.os=s.os/\AllBare s'.gens/\Un (frs outer) [] H H' s.heap s'.heap/\HOk P w H' s'.heap/\RelV v u/\Q v H'
noncomputable def CR (CX:CXT)(outer:List Env)(P:Program)(w:World)(H:Hp)(s:Shared)(Q:VK)(E:XK)(r:Result)(s':Shared):Prop:=
 match r with
 | .ok (.ret u)=>CE outer P w H s Q u s'
 | .ok _=>False
 | .error e=>CX outer H s E e s'
structure FnOk (P:Program)(w:World)(K:W.Frag)(mg:Str->Option Value)(base:Heap)(CX:CXT)(k:Nat)(f:Addr)(fd:FuncData)(ps:List Str)(sp:Sp):Prop where
 len:∀vs H Q E,sp vs H Q E->vs.length=ps.length
 run:∀(A:Around) (outer:List Env) (s:Shared) (H:Hp) (args:Args) (us:List Value) (vs:List V) (Q:VK) (E:XK),Room k A->Env0 P w K mg base A outer s H->BindsTo s fd args (ps.zip us)->Vals vs us->sp vs H Q E->
  codeAny (model P w) A (.call (.ref f) args) (CR CX outer P w H s Q E) s
theorem Env0.make {P:Program}{w:World}{K:W.Frag}{mg:Str->Option Value}{base:Heap}{A:Around}{outer:List Env}{s:Shared}{H:Hp}(e:Env0 P w K mg base A outer s H)(C:Addr)(us:List Value)(kw:List (Str×Value)) :
  Env0 P w K mg base (A.under (.builtin "type.__call__" ⟨.ref C::us,kw⟩)) outer s H:=⟨by first | exact e.frames | (simpa [Around.under,Code.envs,Code.isFrame,pushEnvs] using e.frames),e.mod,e.bs,e.bsz,e.funs,e.frf,e.hok,e.bare⟩
section
variable {X:Cx} {pins:List (Addr×Obj)} {σ:St} {H:Hp} {s s':Shared}
theorem Inv.env0 (I:Inv X pins σ H s):Env0 X.prog X.w X.K X.mg X.base X.A X.stack s H:=
 ⟨I.ok.frames,I.ok.mod,I.bs,Nat.le_trans I.ok.bsz I.sz,I.stack,I.stkFree,I.hok,I.bare⟩
theorem Inv.after {Q:VK}{u:Value}(I:Inv X pins σ H s)(h:CE X.stack X.prog X.w H s Q u s'):EP X pins σ Q u s':=by
 obtain⟨v,H',os,bare,un,hok,r,q⟩:=h
 obtain⟨hh,g,d,t,os'⟩:=s'
 obtain rfl:os'=s.os:=os
 exact⟨v,H',I.call (h':=hh) (g':=g) (d':=d) (t':=t) (ch:=[]) un hok bare (λb z=>absurd z (by simp)),r,q⟩
end
noncomputable def tCall (sp:Sp)(dvs:List V)(E:XK)(t:TA):TE:=λσ H Q=>t σ H λvs H1=>sp (vs++dvs) H1 Q E
noncomputable def tMeth (C:Addr)(m:Str)(sp:Sp)(dvs:List V)(E:XK)(ta:TE)(t:TA):TE:=λσ H Q=>ta σ H λx H1=>onR x λa=>∃dx fs,H1 a=some (.ins C dx fs)/\fs.lookup m=none/\
 t σ H1 λvs H2=>sp (x::(vs++dvs)) H2 Q E
noncomputable def tMake (C:Addr)(sp:Sp)(dvs:List V)(E:XK)(t:TA):TE:=λσ H Q=>t σ H λvs H1=>∀x dx,H1 x=none->H1 dx=none->dx≠x->
 sp (.ref x::(vs++dvs)) (upd (upd H1 dx (.own x)) x (.ins C dx [])) (λv H2=>v=.non/\Q (.ref x) H2) E
noncomputable def Binds (K:W.Frag)(fd:FuncData)(ps:List Str)(ds:List Value):Prop:=
 ∀(s:Shared) (us:List Value),K.In s.heap->(us++ds).length=ps.length->BindsTo s fd ⟨us,[]⟩ (ps.zip (us++ds))
theorem Binds.all {K:W.Frag}{fd:FuncData}{ps:List Str}(h:∀us:List Value,us.length=ps.length->bindArgs fd ⟨us,[]⟩=pure (ps.zip us)):Binds K fd ps []:=λs us _ hl=>by
 rw[List.append_nil] at hl ⊢
 exact .of_eq (h us hl)
noncomputable def Passes (CX:CXT)(X:Cx)(E:XK):Prop:=∀(pins:List (Addr×Obj)) (σ:St) (H:Hp) (s:Shared) (e:Value) (s':Shared),Inv X pins σ H s->CX X.stack H s E e s'->X.xe e s'
section
variable {X:Cx} {CX:CXT} {k:Nat} {f C:Addr} {fd:FuncData} {ps:List Str} {sp:Sp} {dvs:List V} {ds:List Value} {E:XK} {x m:Str} {p pos apos:Pos} {e o:Expr} {es:List Expr} {ta:TE} {t:TA}
theorem qO {pins:List (Addr×Obj)}{σ:St}{H:Hp}{s:Shared}{Q:VK}{us:List Value}{vs:List V}(F:FnOk X.prog X.w X.K X.mg X.base CX k f fd ps sp)(hr:Room k X.A)(hb:Binds X.K fd ps ds)(hd:Vals dvs ds)(hx:Passes CX X E)
  (I:Inv X pins σ H s) (r:Vals vs us) (h:sp (vs++dvs) H Q E):wpAny (model X.prog X.w) X.A (call (.ref f) us) (EP X pins σ Q) X.xe s:=by
 have r2:Vals (vs++dvs) (us++ds):=r.append hd
 have hl:(us++ds).length=ps.length:=by rw[<-r2.length];exact F.len _ _ _ _ h
 refine wpAny_call (codeAny_mono (F.run X.A X.stack s H ⟨us,[]⟩ (us++ds) (vs++dvs) Q E hr I.env0 (hb s us I.kIn hl) r2 h) λr s' hq=>?_)
 cases r with
 | error e=>exact hx pins σ H s e s' I hq
 | ok fl=>
  cases fl with
  | ret u=>exact I.after hq
  | next=>exact False.elim hq
  | brk=>exact False.elim hq
  | cont=>exact False.elim hq
theorem ak (F:FnOk X.prog X.w X.K X.mg X.base CX k f fd ps sp)(hr:Room k X.A)(hg:Gl X x)(hm:X.mg x=some (.ref f))(hk:W.keepIn X.K (.ref f)=true)(hb:Binds X.K fd ps ds)(hd:Vals dvs ds)(hx:Passes CX X E)
  (ha:PA X (e::es) t) (hdb:autoParam ((x == ("__debug__":Str))=false) L2.dft1._auto_1) (he:autoParam (starEach (e::es) X.env=(false,eval e X.env)::starEach es X.env) L2.dft3._auto_1) (hpl:autoParam ((backTo pos (starEach es X.env)).any (·.1)=false) L2.dft3._auto_1) :
  PE X (.Call (.Name x p) (e::es) [] pos) (tCall sp dvs E t):=by
 intro pins s σ H Q I h
 refine wpAny_Call_Name_kw (jo I hg hm ?_ hdb)
 refine W.callWith_K (h₀:=X.base) I.ok.mod.kin hk (thnA (ha pos pins s σ H _ I h) λus s1 vs H1 I1 r q=>⟨I1.kIn,?_⟩) he hpl
 exact qO F hr hb hd hx I1 r q
theorem aF {pl:Sem Bool}(he:PE X o ta)(c:Cls X.K C)(hm:Meth X.K C m f)(F:FnOk X.prog X.w X.K X.mg X.base CX k f fd ps sp)(hr:Room k X.A)(hb:Binds X.K fd ps ds)(hd:Vals dvs ds)(hx:Passes CX X E)(ha:PA X (e::es) t)
  (hst:autoParam (starEach (e::es) X.env=(false,eval e X.env)::starEach es X.env) L2.dft3._auto_1) (hpl:autoParam ((backTo pos (starEach es X.env)).any (·.1)=false) L2.dft3._auto_1)
  (ht:autoParam (eval (.Call (.Attribute o m apos) (e::es) [] pos) X.env=(do
   let ov <-eval o X.env
   standAt apos.atName
   let (f,first) <-holding [ov] (getMethod ov m pl)
   callWith pos f first (backTo pos (starEach (e::es) X.env)) (backToKw pos (keywordEach [] X.env)))) L2.dft3._auto_1) :
  PE X (.Call (.Attribute o m apos) (e::es) [] pos) (tMeth C m sp dvs E ta t):=by
 intro pins s σ H Q I h
 refine W.methodCall_KW (pl:=pl) (thnE (he pins s σ H _ I h) λu s1 x H1 I1 rx q0=>?_) ht
 obtain⟨a,ex,dx,fs,ea,l,q⟩:=qJ q0
 subst ex
 obtain rfl:u=Value.ref a:=rx
 refine gW I1 ea c hm l ?_
 refine W.callWith_K (first:=[.ref a]) (h₀:=X.base) I.ok.mod.kin hm.kp (thnA (ha pos pins s1 σ H1 _ I1 q) λus s2 vs H2 I2 r q2=>⟨I2.kIn,?_⟩) hst hpl
 exact qO (us:=.ref a::us) (vs:=.ref a::vs) F hr hb hd hx I2 (.cons rfl r) q2
theorem nV {pl:Sem Bool}(he:PE X o ta)(c:Cls X.K C)(hm:Meth X.K C m f)(F:FnOk X.prog X.w X.K X.mg X.base CX k f fd ps sp)(hr:Room k X.A)(hb:Binds X.K fd ps ds)(hd:Vals dvs ds)(hx:Passes CX X E)
  (ht:autoParam (eval (.Call (.Attribute o m apos) [] [] pos) X.env=(do
   let ov <-eval o X.env
   standAt apos.atName
   let (f,first) <-holding [ov] (getMethod ov m pl)
   callWith pos f first (backTo pos (starEach [] X.env)) (backToKw pos (keywordEach [] X.env)))) L2.dft3._auto_1) :
  PE X (.Call (.Attribute o m apos) [] [] pos) (tMeth C m sp dvs E ta tNil):=by
 intro pins s σ H Q I h
 refine W.methodCall_KW (pl:=pl) (thnE (he pins s σ H _ I h) λu s1 x H1 I1 rx q0=>?_) ht
 obtain⟨a,ex,dx,fs,ea,l,q⟩:=qJ q0
 subst ex
 obtain rfl:u=Value.ref a:=rx
 refine gW I1 ea c hm l ?_
 exact W.callWith_K0 (first:=[.ref a]) I1.kIn hm.kp (qO (us:=[.ref a]) (vs:=[.ref a]) F hr hb hd hx I1 (.cons rfl .nil) q)
structure Mk (K:W.Frag)(C f:Addr):Prop where
 makes:W.makesIn K C=true
 init:W.findIn K (.ref C) "__init__"=some (some (.ref f))
 fn:W.isFn K (.ref f)=true
 kp:W.keepIn K (.ref C)=true
theorem si {pins:List (Addr×Obj)}{σ:St}{H:Hp}{s:Shared}{Q:VK}{us:List Value}{vs:List V}(M:Mk X.K C f)(F:FnOk X.prog X.w X.K X.mg X.base CX k f fd ps sp)(hr:Room (k+1) X.A)(hb:Binds X.K fd ps ds)(hd:Vals dvs ds)
  (hx:Passes CX X E) (I:Inv X pins σ H s) (r:Vals vs us)
  (h:∀x dx,H x=none->H dx=none->dx≠x->sp (.ref x::(vs++dvs)) (upd (upd H dx (.own x)) x (.ins C dx [])) (λv H2=>v=.non/\Q (.ref x) H2) E) :
  wpAny (model X.prog X.w) X.A (call (.ref C) us) (EP X pins σ Q) X.xe s:=by
 have hq:=h (s.heap.objs.size+1) s.heap.objs.size (I.hok.fresh (Nat.le_succ _)) (I.hok.fresh (Nat.le_refl _)) (Nat.ne_of_lt (Nat.lt_succ_self _))
 have I2:=Inv.made (C:=C) I
 have r2:Vals (V.ref (s.heap.objs.size+1)::(vs++dvs)) (Value.ref (s.heap.objs.size+1)::(us++ds)):=.cons rfl (r.append hd)
 have hl:(Value.ref (s.heap.objs.size+1)::us++ds).length=ps.length:=by
  have e:=r2.length
  rw[F.len _ _ _ _ hq] at e
  exact e.symm
 refine wpAny_call (zN (f:=f) I.kIn M.makes M.init (beq_iff_eq.mp M.fn) (codeAny_mono (F.run _ X.stack _ _ ⟨Value.ref (s.heap.objs.size+1)::us,[]⟩ (Value.ref (s.heap.objs.size+1)::(us++ds)) _ _ E (hr.make C us [])
  (I2.env0.make C us []) (hb _ (Value.ref (s.heap.objs.size+1)::us) I2.kIn hl) r2 hq) λr s' hq'=>?_))
 cases r with
 | error e=>exact hx pins σ _ _ e s' I2 hq'
 | ok fl=>
  cases fl with
  | ret u=>
   obtain⟨v,H',I3,rv,ev,q3⟩:=I2.after hq'
   subst ev
   exact⟨rv,⟨V.ref (s.heap.objs.size+1),H',I3,rfl,q3⟩⟩
  | next=>exact False.elim hq'
  | brk=>exact False.elim hq'
  | cont=>exact False.elim hq'
theorem qP (M:Mk X.K C f)(F:FnOk X.prog X.w X.K X.mg X.base CX k f fd ps sp)(hr:Room (k+1) X.A)(hg:Gl X x)(hm:X.mg x=some (.ref C))(hb:Binds X.K fd ps ds)(hd:Vals dvs ds)(hx:Passes CX X E)
  (ha:PA X (e::es) t) (hdb:autoParam ((x == ("__debug__":Str))=false) L2.dft1._auto_1) (he:autoParam (starEach (e::es) X.env=(false,eval e X.env)::starEach es X.env) L2.dft3._auto_1) (hpl:autoParam ((backTo pos (starEach es X.env)).any (·.1)=false) L2.dft3._auto_1) :
  PE X (.Call (.Name x p) (e::es) [] pos) (tMake C sp dvs E t):=by
 intro pins s σ H Q I h
 refine wpAny_Call_Name_kw (jo I hg hm ?_ hdb)
 refine W.callWith_K (h₀:=X.base) I.ok.mod.kin M.kp (thnA (ha pos pins s σ H _ I h) λus s1 vs H1 I1 r q=>⟨I1.kIn,?_⟩) he hpl
 exact si M F hr hb hd hx I1 r q
theorem iO (M:Mk X.K C f)(F:FnOk X.prog X.w X.K X.mg X.base CX k f fd ps sp)(hr:Room (k+1) X.A)(hg:Gl X x)(hm:X.mg x=some (.ref C))(hb:Binds X.K fd ps ds)(hd:Vals dvs ds)(hx:Passes CX X E)
  (hdb:autoParam ((x == ("__debug__":Str))=false) L2.dft1._auto_1):PE X (.Call (.Name x p) [] [] pos) (tMake C sp dvs E tNil):=by
 intro pins s σ H Q I h
 refine wpAny_Call_Name_kw (jo I hg hm ?_ hdb)
 exact W.callWith_K0 I.kIn M.kp (si (us:=[]) M F hr hb hd hx I .nil h)
end
section
variable {X:Cx} {CX:CXT} {k:Nat} {f C:Addr} {fd:FuncData} {ps ks:List Str} {sp:Sp} {E:XK} {x m:Str} {p pos apos kpos:Pos} {e o:Expr} {es:List Expr} {kws:List Keyword} {te ta:TE} {t tk:TA} {nm:Option Str}
variable {g:List Value->List Value->List Value} {gV:List V->List V->List V}
end
structure FnScope (N P:List Str)(sc:Scope):Prop where
 kind:sc.kind=.function
 co:sc.isCoroutine=false
 gen:sc.isGenerator=false
 nd:N.Nodup
 pre:N.take P.length=P
 par:∀x∈P,sc.names.lookup x=some .local\/sc.names.lookup x=some .cell
 nofree:∀y∈sc.names,y.2≠.free
theorem pX {kindOf:Str->Option NameKind}{x:Str}:∀{binds:List (Str×Value)} {m:Str->Option Value},(∀v,(x,v)∉binds)->bindL kindOf binds m x=m x
 | [],_,_=>rfl
 | (n,v)::r,m,h=>by
  unfold bindL
  rw[pX λw hw=>h w (List.mem_cons_of_mem _ hw)]
  split
  ·have:x≠n:=by rintro rfl;exact h v List.mem_cons_self
   simp[this]
  ·rfl
theorem pY {kindOf:Str->Option NameKind}{x:Str}:∀{binds:List (Str×Value)} {m:Str->Option Value},(∀v,(x,v)∉binds)->bindC kindOf binds m x=m x
 | [],_,_=>rfl
 | (n,v)::r,m,h=>by
  unfold bindC
  rw[pY λw hw=>h w (List.mem_cons_of_mem _ hw)]
  split
  ·rfl
  ·have:x≠n:=by rintro rfl;exact h v List.mem_cons_self
   simp[this]
theorem pZ {kindOf:Str->Option NameKind}{x:Str}{v:Value}:∀{P:List Str} {vs:List Value} {i:Nat} {m:Str->Option Value},P.Nodup->P[i]?=some x->vs[i]?=some v->kindOf x=some .local->
  bindL kindOf (P.zip vs) m x=some v
 | [],_,_,_,_,h,_,_=>by simp at h
 | _::_,[],_,_,_,_,h,_=>by simp at h
 | p::P,w::vs,0,m,nd,h1,h2,hk=>by
  simp at h1 h2;subst h1;subst h2
  show bindL kindOf ((p,w)::P.zip vs) m p=_
  unfold bindL
  rw[pX λv hv=>(List.nodup_cons.mp nd).1 (List.of_mem_zip hv).1,if_pos hk]
  simp
 | p::P,w::vs,i+1,m,nd,h1,h2,hk=>by
  show bindL kindOf ((p,w)::P.zip vs) m x=_
  unfold bindL
  exact pZ (i:=i) (List.nodup_cons.mp nd).2 (by simpa using h1) (by simpa using h2) hk
theorem p9 {kindOf:Str->Option NameKind}{x:Str}{v:Value}:∀{P:List Str} {vs:List Value} {i:Nat} {m:Str->Option Value},P.Nodup->P[i]?=some x->vs[i]?=some v->kindOf x≠some .local->
  bindC kindOf (P.zip vs) m x=some v
 | [],_,_,_,_,h,_,_=>by simp at h
 | _::_,[],_,_,_,_,h,_=>by simp at h
 | p::P,w::vs,0,m,nd,h1,h2,hk=>by
  simp at h1 h2;subst h1;subst h2
  show bindC kindOf ((p,w)::P.zip vs) m p=_
  unfold bindC
  rw[pY λv hv=>(List.nodup_cons.mp nd).1 (List.of_mem_zip hv).1,if_neg hk]
  simp
 | p::P,w::vs,i+1,m,nd,h1,h2,hk=>by
  show bindC kindOf ((p,w)::P.zip vs) m x=_
  unfold bindC
  exact p9 (i:=i) (List.nodup_cons.mp nd).2 (by simpa using h1) (by simpa using h2) hk
noncomputable def start (N:List Str)(vs:List V):St:=vs.map some++List.replicate (N.length - vs.length) none
noncomputable def cxOf (CX:CXT)(P:Program)(w:World)(K:W.Frag)(mg:Str->Option Value)(base:Heap)(N:List Str)(qual:Str)(scope:Scope)(f:Addr)(cd:Value)(A:Around)(outer:List Env)(s:Shared)(H:Hp)(E:XK):Cx where
 prog:=P
 w:=w
 K:=K
 mg:=mg
 base:=base
 A:=A.deeper (envOfC qual scope s.heap.objs.size f cd)
 N:=N
 s₀:=s
 H₀:=H
 env:=envOfC qual scope s.heap.objs.size f cd
 outer:=outer
 stack:=envOfC qual scope s.heap.objs.size f cd::outer
 ex:=[]
 calm:=true
 fn:=λ_=>true
 pn:=[]
 xe:=λe s'=>wpAny (model P w) (A.deeper (envOfC qual scope s.heap.objs.size f cd)) (leaving (envOfC qual scope s.heap.objs.size f cd) e) (λ_ s''=>CX outer H s E e s'') (λe' s''=>CX outer H s E e' s'') s'
theorem sj {sc:Scope}{n:Nat}{x:Str}(h:sc.names.lookup x=some .cell):∃c,(cellsFrom n sc.names []).lookup x=some c:=by
 have q:=W.cellsFrom_some sc.names n [] (.inl h)
 exact Option.isSome_iff_exists.mp q
theorem qb {CX:CXT}{P:Program}{w:World}{K:W.Frag}{mg:Str->Option Value}{base:Heap}{N ps:List Str}{qual:Str}{scope:Scope}{f:Addr}{cd:Value}{A:Around}{outer:List Env}{s s1:Shared}{H:Hp}{E:XK}{us:List Value}{vs:List V}
  (S:FnScope N ps scope) (hd:A.handled=none) (e0:Env0 P w K mg base A outer s H) (hl:vs.length=ps.length) (r:Vals vs us)
  (x:InCallC s s.heap.objs.size (bindL (envOfC qual scope s.heap.objs.size f cd).kindOf (ps.zip us) λ_=>none) (cellsFrom (s.heap.objs.size+1) scope.names []) (bindC (envOfC qual scope s.heap.objs.size f cd).kindOf (ps.zip us) λ_=>none) s1) :
  Inv (cxOf CX P w K mg base N qual scope f cd A outer s H E) [] (start N vs) H s1:=by
 have hpl:ps.length<=N.length:=by have:=congrArg List.length S.pre;rw[List.length_take] at this;omega
 obtain⟨h1,tk,rfl,hk⟩:=x.done
 have noA:∀b:Addr,b∉(cxOf CX P w K mg base N qual scope f cd A outer s H E).ex:=λb z=>absurd (show b∈([]:List Addr) from z) (by simp)
 refine⟨⟨e0.mod,S.kind,rfl,rfl,Nat.le_refl _,λy z c h1 h2=>?_,λy hy=>?_,λy c _ h=>?_,λ_=>hd,Around.frames_deeper e0.frames,.inr ⟨rfl,rfl⟩,λb z=>absurd z (noA b),e0.bs,e0.bsz,λb _ _=>noA b,λb z=>absurd z (noA b),e0.funs,e0.frf⟩,
  rfl,e0.bare,Un.kept hk,⟨_,x.toInCall.ns,λi y v h1 h2 h3=>?_⟩,λy c h=>⟨_,x.cell y c h⟩,e0.hok.fresh (Nat.le_refl _),λy c h=>?_,λp hp=>absurd (show p∈([]:List (Addr×Obj)) from hp) (by simp),e0.hok.kept hk,?_⟩
 ·exact name_of_addr x.apart (PySem.mem_of_lookup h1) (PySem.mem_of_lookup h2)
 ·have hy:scope.names.lookup y=some .cell\/scope.names.lookup y=some .free:=hy
  rcases hy with hy | hy
  ·exact sj hy
  ·exact absurd rfl (S.nofree _ (PySem.mem_of_lookup hy))
 ·exact Nat.le_of_lt (x.above y c (PySem.mem_of_lookup h))
 ·have hi:i < vs.length:=by
   unfold start at h2
   by_cases hi:i < vs.length
   ·exact hi
   ·rw[List.getElem?_append_right (by simpa using hi)] at h2
    rw[List.getElem?_replicate] at h2
    split at h2<;>cases h2
  have ha:vs[i]?=some v:=by
   unfold start at h2
   rw[List.getElem?_append_left (by simpa using hi),List.getElem?_map] at h2
   cases e:vs[i]? with
   | none=>rw[e] at h2;cases h2
   | some a=>rw[e] at h2;cases h2;rfl
  obtain⟨u,hu,rv⟩:=r.get ha
  have hp:ps[i]?=some y:=by
   rw[<-S.pre,List.getElem?_take_of_lt (by omega)];exact h1
  have ndP:ps.Nodup:=by rw[<-S.pre];exact S.nd.sublist (List.take_sublist _ _)
  refine⟨u,rv,?_⟩
  rcases S.par y (List.mem_of_getElem? hp) with k | k
  ·exact .inl ⟨k,pZ ndP hp hu k⟩
  ·obtain⟨c,e⟩:=sj (n:=s.heap.objs.size+1) k
   refine .inr ⟨.inl k,c,e,?_⟩
   have q:=x.cell y c e
   rw[p9 ndP hp hu (by show scope.names.lookup y≠_;rw[k];decide)] at q
   exact q
 ·exact e0.hok.fresh (Nat.le_of_lt (x.above y c (PySem.mem_of_lookup h)))
 ·unfold start
  show _=N.length
  rw[List.length_append,List.length_map,List.length_replicate]
  omega
theorem wz {CX:CXT}{P:Program}{w:World}{K:W.Frag}{mg:Str->Option Value}{base:Heap}{k:Nat}{f:Addr}{name qual:Str}{params:Arguments}{body:List Stmt}{scope:Scope}{dV kV doc pm cdv ct oc:Value}{an od:Option Addr}
  {osl:Array (Option Value)} {N ps:List Str} {sp:Sp} (lk:K.lookup f=some ⟨oc,od,.func (W.fnOf name qual params body scope dV kV doc pm an cdv ct),osl⟩) (hcd:W.codeIn K cdv qual=true) (S:FnScope N ps scope)
  (len:∀vs H Q E,sp vs H Q E->vs.length=ps.length)
  (hbody:∀(A:Around) (outer:List Env) (s:Shared) (H:Hp) (vs:List V) (Q:VK) (E:XK),Room k (A.deeper (envOfC qual scope s.heap.objs.size f cdv))->sp vs H Q E->
   ∃t,PSs (cxOf CX P w K mg base N qual scope f cdv A outer s H E) body t/\t { nx:=λ_ H'=>Q .non H',rt:=Q } (start N vs) H) :
  FnOk P w K mg base CX (k+1) f (W.fnOf name qual params body scope dV kV doc pm an cdv ct) ps sp:=by
 refine⟨len,λA outer s H args us vs Q E hr e0 hb r hsp=>?_⟩
 have hl:=len _ _ _ _ hsp
 have KX:K.In s.heap:=e0.mod.kin.keeps λb o e=>(e0.bs b o e).1
 have lim:s.heap.NoLimit:=e0.mod.nolimit.keeps λb o e=>(e0.bs b o e).1
 have hkind:∀y∈ps.zip us,scope.names.lookup y.1=some .local\/(scope.names.lookup y.1=some .cell/\((cellsFrom (s.heap.objs.size+1) scope.names []).lookup y.1).isSome=true):=λ⟨n,v⟩ hy=>by
  rcases S.par n (List.of_mem_zip hy).1 with q | q
  ·exact .inl q
  ·exact .inr ⟨q,W.cellsFrom_some _ _ _ (.inl q)⟩
 refine codeAny_call_function hr.depth (KX _ _ lk) rfl S.co S.gen rfl (W.codeRec_of KX hcd) (hb _ _ _ _ ?_)
 refine wpAny_newFunctionEnv_cells S.kind hkind λenv he s1 x=>?_
 subst he
 refine⟨lim.keeps x.toInCall.keep,codeAny_func ?_⟩
 obtain⟨t,ht,hq⟩:=hbody A outer s H vs Q E (hr.deeper _) hsp
 have I:Inv (cxOf CX P w K mg base N qual scope f cdv A outer s H E) [] (start N vs) H s1:=qb S hr.hd e0 hl r x
 refine wpAny_mono (ht [] s1 (start N vs) H _ I hq) (λfl s' hs=>?_) λe s' hs=>hs
 have fin:∀{σ':St} {H':Hp} {v:V} {u:Value},Inv (cxOf CX P w K mg base N qual scope f cdv A outer s H E) [] σ' H' s'->RelV v u->Q v H'->CE outer P w H s Q u s':=
  λ{σ' H' v u} J rv q=>⟨v,H',J.os,J.bare,J.base,J.hok,rv,q⟩
 cases fl with
 | ret u=>
  obtain⟨v,σ',H',J,rv,q⟩:=hs
  exact fin J rv q
 | next=>
  obtain⟨σ',H',J,q⟩:=hs
  exact fin (v:=V.non) (u:=Value.none) J rfl q
 | brk=>
  obtain⟨_,_,_,q⟩:=hs
  exact False.elim q
 | cont=>
  obtain⟨_,_,_,q⟩:=hs
  exact False.elim q
section
variable {X:Cx} {x:Str} {p pos:Pos} {e:Expr} {es:List Expr} {t:TA} {id T:String} {r:List V->Hp->VK->Prop}
noncomputable def tCB (r:List V->Hp->VK->Prop)(t:TA):TE:=λσ H Q=>t σ H λvs H1=>r vs H1 Q
theorem aw (hc:CallR X (.builtin id) r)(hg:Gl X x)(hm:X.mg x=none)(hv:bootBuiltins x=some (.builtin id))(ha:PA X (e::es) t)(hn:autoParam (x ≠ "__name__") L2.dft1._auto_1)(hdb:autoParam ((x == ("__debug__":Str))=false) L2.dft1._auto_1)
  (he:autoParam (starEach (e::es) X.env=(false,eval e X.env)::starEach es X.env) L2.dft3._auto_1) (hpl:autoParam ((backTo pos (starEach es X.env)).any (·.1)=false) L2.dft3._auto_1):PE X (.Call (.Name x p) (e::es) [] pos) (tCB r t):=by
 intro pins s σ H Q I h
 refine wpAny_Call_Name_kw (dw I hg hm hv ?_ hn hdb)
 exact PyProof.Rows.callWith_builtin1 (thnA (ha pos pins s σ H _ I h) λus s1 vs H1 I1 r1 q1=>hc pins s1 σ H1 vs us Q I1 r1 q1) he hpl
theorem bD (hc:CallR X (.type T) r)(hg:Gl X x)(hm:X.mg x=none)(hv:bootBuiltins x=some (.type T))(ha:PA X (e::es) t)(hn:autoParam (x ≠ "__name__") L2.dft1._auto_1)(hdb:autoParam ((x == ("__debug__":Str))=false) L2.dft1._auto_1)
  (he:autoParam (starEach (e::es) X.env=(false,eval e X.env)::starEach es X.env) L2.dft3._auto_1) (hpl:autoParam ((backTo pos (starEach es X.env)).any (·.1)=false) L2.dft3._auto_1):PE X (.Call (.Name x p) (e::es) [] pos) (tCB r t):=by
 intro pins s σ H Q I h
 refine wpAny_Call_Name_kw (dw I hg hm hv ?_ hn hdb)
 exact PyProof.Rows.callWith_type1 (thnA (ha pos pins s σ H _ I h) λus s1 vs H1 I1 r1 q1=>hc pins s1 σ H1 vs us Q I1 r1 q1) he hpl
end
end L2
namespace HT
open PySem PyProof.Rows
section
open PySem.SeqAt
open PySem.AutoSeq1 (wpAny_loadPart')
open PySem.MeetsSeq PySem.MeetsSeq2 PySem.MeetsSeq3
end
section
variable {prog:Program} {w:World} {A:Around} {E:Value->Shared->Prop} {s:Shared}
noncomputable def sIx (n d:Nat):Option Int->Nat
 | none=>d
 | some v=>if v < 0 then(v+(n:Int)).toNat else min v.toNat n
theorem sk (n d:Nat):sIx n d none=d:=rfl
theorem qQ (n d k:Nat):sIx n d (some (k:Int))=min k n:=by
 show(if (k:Int) < 0 then((k:Int)+(n:Int)).toNat else min (k:Int).toNat n)=min k n
 rw[if_neg (by omega),Int.toNat_natCast]
theorem zO (n d:Nat)(hd:d<=n)(o:Option Int):sIx n d o<=n:=by
 cases o with
 | none=>exact hd
 | some v=>
  show(if v < 0 then(v+(n:Int)).toNat else min v.toNat n)<=n
  by_cases hv:v < 0
  ·rw[if_pos hv];omega
  ·rw[if_neg hv];exact Nat.min_le_right _ _
end
end HT
namespace L2
open PySem PySem.Spec PyProof.Rows
noncomputable abbrev TO:=St->Hp->(Option Int->Hp->Prop)->Prop
noncomputable def PO (X:Cx)(e:Option Expr)(t:TO):Prop:=
 ∀(pins:List (Addr×Obj)) (s:Shared) (σ:St) (H:Hp) (Q:Option Int->Hp->Prop),Inv X pins σ H s->t σ H Q->
  wpAny (model X.prog X.w) X.A (evalPart e X.env) (λu s'=>∃o H',Inv X pins σ H' s'/\IsPart u o/\Q o H') X.xe s
noncomputable def tNoPart:TO:=λ_ H Q=>Q none H
noncomputable def tPart (t:TE):TO:=λσ H Q=>t σ H λx H1=>∃i,x=.int i/\Q (some i) H1
theorem intsAre_of {ns:List Int}:∀{us:List Value},Vals (ns.map V.int) us->IntsAre us ns:=by
 induction ns with
 | nil=>intro us r;rw[List.map_nil] at r;cases r;exact .nil
 | cons n ns ih=>
  intro us r
  rw[List.map_cons] at r
  cases r with
  | cons r1 r2=>
   obtain⟨t,e⟩:=r1
   subst e
   exact .cons n t (ih r2)
section
variable {X:Cx} {e:Expr} {te:TE} {lo hi:Option Expr} {tl th:TO} {pos p2:Pos}
theorem qR:PO X none tNoPart:=by
 intro pins s σ H Q I h
 rw[evalPart_none]
 exact wpAny_pure ⟨none,H,I,.none,h⟩
theorem gX (h:PE X e te):PO X (some e) (tPart te):=by
 intro pins s σ H Q I hw
 rw[evalPart_some]
 refine thnE (h pins s σ H _ I hw) λu s1 x H1 I1 r1 q1=>?_
 obtain⟨i,rfl,q⟩:=q1
 obtain⟨t,rfl⟩:=r1
 exact⟨some i,H1,I1,.int i t,q⟩
noncomputable def SlR (X:Cx)(r:V->Option Int->Option Int->Hp->VK->Prop):Prop:=
 ∀(pins:List (Addr×Obj)) (s:Shared) (σ:St) (H:Hp) (x:V) (v vl vu:Value) (lo hi:Option Int) (sl:Addr) (Q:VK),Inv X pins σ H s->RelV x v->s.heap.IsSliceOf sl vl vu .none->IsPart vl lo->IsPart vu hi->r x lo hi H Q->
  ∃T id,typeLookup (.type T) "__getitem__"=pure (some (.builtin id))/\s.TypeIs v T/\wpAny (model X.prog X.w) X.A (getItem v (.ref sl)) (EP X pins σ Q) X.xe s
theorem SlR.or {r r':V->Option Int->Option Int->Hp->VK->Prop}(h:SlR X r)(h':SlR X r'):SlR X (λx lo hi H Q=>r x lo hi H Q\/r' x lo hi H Q):=by
 intro pins s σ H x v vl vu lo hi sl Q I rx hs pl pu q
 rcases q with q | q
 ·exact h pins s σ H x v vl vu lo hi sl Q I rx hs pl pu q
 ·exact h' pins s σ H x v vl vu lo hi sl Q I rx hs pl pu q
noncomputable def tSl (r:V->Option Int->Option Int->Hp->VK->Prop)(te:TE)(tl th:TO):TE:=λσ H Q=>te σ H λx H1=>tl σ H1 λl H2=>th σ H2 λu H3=>r x l u H3 Q
theorem iP {r:V->Option Int->Option Int->Hp->VK->Prop}(hr:SlR X r)(he:PE X e te)(hl:PO X lo tl)(hu:PO X hi th):PE X (.Subscript e (.Slice lo hi none p2) pos) (tSl r te tl th):=by
 intro pins s σ H Q I h
 refine Subscript_ (thnE (he pins s σ H _ I h) λv s1 x H1 I1 r1 q1=>?_)
 refine wpAny_Slice (thn (hl pins s1 σ H1 _ I1 q1) λvl s2 ⟨l,H2,I2,pl,q2⟩=>thn (hu pins s2 σ H2 _ I2 q2) λvu s3 ⟨u,H3,I3,pu,q3⟩=>?_)
 rw[evalPart_none]
 refine wpAny_pure ?_
 have I4:Inv X pins σ H3 { s3 with heap:=s3.heap.push { cls:=.type "slice",data:=.fields #[vl,vu,.none] } }:=I3.kept (t':=s3.toks) λb ob q=>Heap.get?_push_of_some _ q
 obtain⟨T,id,hT,ht,hg⟩:=hr pins { s3 with heap:=s3.heap.push { cls:=.type "slice",data:=.fields #[vl,vu,.none] } } σ H3 x v vl vu l u s3.heap.objs.size Q I4 r1 (Heap.IsSliceOf.new ..) pl pu q3
 show wpAny (model X.prog X.w) X.A (subscriptTail e (.Slice lo hi none p2) v (.ref s3.heap.objs.size)) (EP X pins σ Q) X.xe { s3 with heap:=s3.heap.push { cls:=.type "slice",data:=.fields #[vl,vu,.none] } }
 exact tail_any (ops:=[.ref s3.heap.objs.size,v]) ht hT hg (by with_unfolding_all rfl)
noncomputable def cutV (xs:List V)(lo hi:Option Int):List V:=(xs.drop (HT.sIx xs.length 0 lo)).take (HT.sIx xs.length xs.length hi - HT.sIx xs.length 0 lo)
theorem sr (xs:List V)(lo hi:Option Int):(cutV xs lo hi).length<=xs.length:=by
 unfold cutV
 rw[List.length_take,List.length_drop]
 omega
end
noncomputable def ixN (n:Nat)(i:Int):Option Nat:=if 0<=i then(if i < n then some i.toNat else none) else if -(n:Int)<=i then some (i+n).toNat else none
noncomputable def atI {α:Type}(xs:List α)(i:Int):Option α:=(ixN xs.length i).bind λj=>xs[j]?
theorem wA {n:Nat}{i:Int}{j:Nat}(h:ixN n i=some j):seqIndex? i n=some j/\j < n/\-(n:Int)<=i/\i < n:=by
 unfold ixN at h
 by_cases h0:0<=i
 ·rw[if_pos h0] at h
  by_cases h1:i < n
  ·rw[if_pos h1] at h
   have e:i.toNat=j:=Option.some.inj h
   exact⟨by rw[seqIndex_of h0 h1,e],by omega,by omega,h1⟩
  ·rw[if_neg h1] at h;cases h
 ·rw[if_neg h0] at h
  by_cases h1:-(n:Int)<=i
  ·rw[if_pos h1] at h
   have e:(i+n).toNat=j:=Option.some.inj h
   exact⟨by rw[seqIndex_neg (by omega) h1,e],by omega,h1,by omega⟩
  ·rw[if_neg h1] at h;cases h
theorem qS {α:Type}{xs:List α}{i:Int}{v:α}(h:atI xs i=some v):∃j,seqIndex? i xs.length=some j/\xs[j]?=some v/\j < xs.length/\-(xs.length:Int)<=i/\i < xs.length:=by
 unfold atI at h
 cases e:ixN xs.length i with
 | none=>rw[e] at h;cases h
 | some j=>
  rw[e] at h
  obtain⟨h1,h2,h3,h4⟩:=wA e
  exact⟨j,h1,h,h2,h3,h4⟩
theorem Bm {α:Type}{xs:List α}{j:Nat}{v:α}(h:xs[j]?=some v):atI xs (j:Int)=some v:=by
 have hj:j < xs.length:=(List.getElem?_eq_some_iff.mp h).1
 have e:ixN xs.length (j:Int)=some j:=by
  unfold ixN
  rw[if_pos (by omega),if_pos (by omega)];simp
 unfold atI;rw[e];exact h
noncomputable def PlainIx (b:Expr):Prop:=∀o i,subscripted b false o i=operate [o,i] (getItem o i)
noncomputable def IxR (X:Cx)(r:R2):Prop:=
 ∀(value slice:Expr) (pins:List (Addr×Obj)) (s:Shared) (σ:St) (H:Hp) (x y:V) (v u:Value) (Q:VK),Inv X pins σ H s->RelV x v->RelV y u->r x y H Q->
  subscripted slice false v u=operate [v,u] (getItem v u)->wpAny (model X.prog X.w) X.A (subscriptTail value slice v u) (EP X pins σ Q) X.xe s
noncomputable def MtR (X:Cx)(id:String)(r:V->List V->Hp->VK->Prop):Prop:=
 ∀(pins:List (Addr×Obj)) (s:Shared) (σ:St) (H:Hp) (x:V) (xs:List V) (v:Value) (us:List Value) (Q:VK),Inv X pins σ H s->RelV x v->Vals xs us->r x xs H Q->
  wpAny (model X.prog X.w) X.A (call (.builtin id) (v::us)) (EP X pins σ Q) X.xe s
section
variable {X:Cx} {a b:Expr} {ta tb:TE} {pos:Pos}
theorem IxR.or {r r':R2}(h:IxR X r)(h':IxR X r'):IxR X (λx y H Q=>r x y H Q\/r' x y H Q):=by
 intro value slice pins s σ H x y v u Q I rx ry q hs
 rcases q with q | q
 ·exact h value slice pins s σ H x y v u Q I rx ry q hs
 ·exact h' value slice pins s σ H x y v u Q I rx ry q hs
theorem aB {r:R2}(hr:IxR X r)(ha:PE X a ta)(hb:PE X b tb)(hs:PlainIx b):PE X (.Subscript a b pos) (tOp r ta tb):=by
 intro pins s σ H Q I h
 exact Subscript_ (binT ha hb I h λv u s2 x y H2 I2 rx ry q=>hr a b pins s2 σ H2 x y v u Q I2 rx ry q (hs _ _))
noncomputable def rIxL (K:W.Frag):R2:=λx y H Q=>∃p xs i v,x=.ref p/\y=.int i/\SqL K H p xs/\atI xs i=some v/\Q v H
noncomputable def rIxT (K:W.Frag):R2:=λx y H Q=>∃p xs i v,x=.ref p/\y=.int i/\SqT K H p xs/\atI xs i=some v/\Q v H
noncomputable def rIxS:R2:=λx y H Q=>∃z i c,x=.str z/\y=.int i/\z.length<=sizeLine/\atI z.cps.toList i=some c/\Q (.str ⟨#[c]⟩) H
theorem Bo:IxR X (rIxL X.K):=by
 intro value slice pins s σ H x y v u Q I rx ry h hs
 obtain⟨p,xs,i,z,rfl,rfl,hq,he,q⟩:=h
 cases rx
 obtain⟨t,rfl⟩:=ry
 obtain⟨its,r,pl,hz⟩:=I.list hq
 obtain⟨j,h1,h2,h3,h4,h5⟩:=qS he
 obtain⟨w,ew,rw'⟩:=r.get h2
 have hl:=r.length
 have hn:=line63
 have fin:EP X pins σ Q w s:=⟨z,H,I,rw',q⟩
 by_cases h0:0<=i
 ·have hj:i.toNat=j:=by
   rw[seqIndex_of h0 h5] at h1
   exact Option.some.inj h1
  exact item_listR pl.isList h0 (by omega) (by rw[hj];simpa using ew) fin hs
 ·have hj:(i+(its.toArray.size:Int)).toNat=j:=by
   rw[seqIndex_neg (by omega) h4] at h1
   rw[List.size_toArray,<-hl]
   exact Option.some.inj h1
  exact subscriptTail_builtinR (x:=w) pl.isList.typeIs slot_list_getitem.lookup
   (wpAny_getItem_list_neg (Q:=λr s'=>r=w/\EP X pins σ Q r s') pl.isList (by omega) (by rw[List.size_toArray]<;>omega) (by omega) (by rw[hj];simpa using ew) ⟨rfl,fin⟩) hs
theorem Ds:IxR X (rIxT X.K):=by
 intro value slice pins s σ H x y v u Q I rx ry h hs
 obtain⟨p,xs,i,z,rfl,rfl,hq,he,q⟩:=h
 cases rx
 obtain⟨t,rfl⟩:=ry
 obtain⟨its,r,pl,hz⟩:=I.tuple hq
 obtain⟨j,h1,h2,h3,h4,h5⟩:=qS he
 obtain⟨w,ew,rw'⟩:=r.get h2
 have hl:=r.length
 have hn:=line63
 have fin:EP X pins σ Q w s:=⟨z,H,I,rw',q⟩
 exact subscriptTail_builtinR (x:=w) pl.typeIs slot_tuple_getitem.lookup
  (getItem_tuple (j:=j) (Q:=λr s'=>r=w/\EP X pins σ Q r s') pl (by omega) (by omega) (by rw[List.size_toArray,<-hl];exact h1) (by simpa using ew) ⟨rfl,fin⟩) hs
theorem Dt:IxR X rIxS:=by
 intro value slice pins s σ H x y v u Q I rx ry h hs
 obtain⟨z,i,c,rfl,rfl,hz,he,q⟩:=h
 obtain⟨t,rfl⟩:=rx
 obtain⟨t',rfl⟩:=ry
 obtain⟨j,h1,h2,h3,h4,h5⟩:=qS he
 have hl:z.cps.toList.length=z.length:=by simp[Str.length]
 rw[hl] at h1 h4 h5
 have hn:=line63
 exact tail_any (typeIs_str s z t) slot_str_getitem.lookup (getItem_str (c:=c) (by
  have e1:decide (i < -(2 ^ 63:Int))=false:=decide_eq_false (by omega)
  have e2:decide (i≥2 ^ 63)=false:=decide_eq_false (by omega)
  rw[e1,e2,Bool.or_false]) (by rw[h1];simpa using h2) ⟨.str ⟨#[c]⟩,H,I.tok _,⟨_,rfl⟩,q⟩) hs
theorem uJ (its:List Value)(n j:Nat)(u:Value):Obj.mapSeq (·.setIfInBounds j u) { cls:=.type "list",data:=.seq its.toArray n }={ cls:=.type "list",data:=.seq (its.set j u).toArray n }:=by
 simp[Obj.mapSeq]
theorem Inv.lst {pins:List (Addr×Obj)}{σ:St}{H:Hp}{s:Shared}{p:Addr}{xs:List V}(I:Inv X pins σ H s)(h:H p=some (.lst xs)) :
  ∃(its:List Value) (n:Nat),Vals xs its/\s.heap.get? p=some { cls:=.type "list",data:=.seq its.toArray n }/\xs.length<=sizeLine:=by
 obtain⟨z,its,n,r,e⟩:=I.hok p _ h
 exact⟨its,n,r,e,z⟩
theorem Inv.lstUpd {pins:List (Addr×Obj)}{σ:St}{H:Hp}{s:Shared}{p:Addr}{xs ys:List V}{its its':List Value}{n n':Nat}{f:Obj->Obj}(I:Inv X pins σ H s)(h:H p=some (.lst xs))
  (ho:s.heap.get? p=some { cls:=.type "list",data:=.seq its.toArray n }) (hf:f { cls:=.type "list",data:=.seq its.toArray n }={ cls:=.type "list",data:=.seq its'.toArray n' }) (r:Vals ys its') (hz:ys.length<=sizeLine) (t:Nat) :
  Inv X pins σ (upd H p (.lst ys)) { s with heap:=s.heap.update p f,toks:=t }:=by
 have e:(s.heap.update p f).get? p=some { cls:=.type "list",data:=.seq its'.toArray n' }:=by
  rw[Heap.get?_update_self f ho (by rw[hf]<;>rfl),hf]
 refine I.write (x:=p) (e:=p) (by rw[h];trivial) (.inl rfl) (λb u hb q=>(Heap.get?_update_other _ _ (Ne.symm hb)).trans q) ⟨_,e⟩ ?_
 exact⟨hz,its',n',r,e⟩
noncomputable def rSetL:V->V->V->Hp->(Hp->Prop)->Prop:=λo i v H Q=>∃p xs k j,o=.ref p/\i=.int k/\H p=some (.lst xs)/\ixN xs.length k=some j/\Q (upd H p (.lst (xs.set j v)))
theorem set_list:PSet X rSetL:=by
 intro pins s σ H o i v ov iv u Q I ro ri rv h
 obtain⟨p,xs,k,j,rfl,rfl,hp,hj,q⟩:=h
 cases ro
 obtain⟨t,rfl⟩:=ri
 obtain⟨its,n,r,ho,hz⟩:=I.lst hp
 obtain⟨h1,h2,h3,h4⟩:=wA hj
 have hl:=r.length
 have hn:=line63
 have I':Inv X pins σ (upd H p (.lst (xs.set j v))) { s with heap:=s.heap.update p (Obj.mapSeq (·.setIfInBounds j u)) }:=
  I.lstUpd hp ho (uJ its n j u) (r.set rv j) (by rw[List.length_set];exact hz) s.toks
 by_cases h0:0<=k
 ·have hk:k.toNat=j:=by
   rw[seqIndex_of h0 h4] at h1
   exact Option.some.inj h1
  exact W.ki_setAt ho h0 (by omega) (by rw[List.size_toArray,<-hl];exact h4) (by rw[hk];exact⟨_,I',q⟩)
 ·have hk:(k+(its.toArray.size:Int)).toNat=j:=by
   rw[seqIndex_neg (by omega) h3] at h1
   rw[List.size_toArray,<-hl]
   exact Option.some.inj h1
  exact W.ki_setBack ho (by omega) (by rw[List.size_toArray,<-hl];exact h3) (by omega) (by rw[hk];exact⟨_,I',q⟩)
theorem qT (lo hi:Option Int)(n:Nat):(sliceBounds lo hi none n).1=((HT.sIx n 0 lo:Nat):Int)/\(sliceBounds lo hi none n).2.1=((HT.sIx n n hi:Nat):Int)/\(sliceBounds lo hi none n).2.2=1:=by
 refine⟨?_,?_,rfl⟩
 ·cases lo with
  | none=>simp[sliceBounds,HT.sIx]
  | some i=>
   simp only[sliceBounds,HT.sIx,Option.getD_none,show(1:Int) > 0 by decide,if_true]
   by_cases h:i < 0
   ·simp only[h,if_true]<;>omega
   ·simp only[h,if_false]<;>omega
 ·cases hi with
  | none=>simp[sliceBounds,HT.sIx]
  | some i=>
   simp only[sliceBounds,HT.sIx,Option.getD_none,show(1:Int) > 0 by decide,if_true]
   by_cases h:i < 0
   ·simp only[h,if_true]<;>omega
   ·simp only[h,if_false]<;>omega
theorem pJ (its:List Value)(lo hi:Option Int):slicePick its.toArray lo hi none=((its.drop (HT.sIx its.length 0 lo)).take (HT.sIx its.length its.length hi - HT.sIx its.length 0 lo)).toArray:=by
 obtain⟨h1,h2,h3⟩:=qT lo hi its.toArray.size
 unfold slicePick
 rw[h1,h2,h3]
 simp only[sliceRange_one,pick_run,List.size_toArray]<;>rfl
noncomputable def rSlL (K:W.Frag):V->Option Int->Option Int->Hp->VK->Prop:=λx lo hi H Q=>∃a xs,x=.ref a/\SqL K H a xs/\∀p,H p=none->Q (.ref p) (upd H p (.lst (cutV xs lo hi)))
theorem Bp:SlR X (rSlL X.K):=by
 intro pins s σ H x v vl vu lo hi sl Q I rx hs pl pu h
 obtain⟨a,xs,rfl,hx,q⟩:=h
 cases rx
 obtain⟨its,r,ht,hz⟩:=I.list hx
 have hlen:=r.length
 refine⟨"list",_,slot_list_getitem.lookup,ht.isList.typeIs,?_⟩
 refine wpAny_getItem_list_slice ht.isList hs pl pu .none (by simp) ?_ (by rw[List.size_toArray]<;>omega)
 rw[pJ,<-hlen]
 refine⟨.ref s.heap.objs.size,_,I.laid (t':=s.toks) (o:=.lst (cutV xs lo hi)) (λb ob q=>Heap.get?_push_of_some _ q) (Nat.le_refl _) ?_,rfl,q _ (I.hok.fresh (Nat.le_refl _))⟩
 exact⟨Nat.le_trans (sr xs lo hi) hz,_,0,(r.drop (HT.sIx xs.length 0 lo)).take (HT.sIx xs.length xs.length hi - HT.sIx xs.length 0 lo),Heap.get?_push_size _ rfl⟩
noncomputable def flatV:V->Bool
 | .non=>true
 | .bl _=>true
 | .int _=>true
 | .str _=>true
 | _=>false
noncomputable def eqV:V->V->Bool
 | .non,.non=>true
 | .bl a,.bl b=>a == b
 | .bl a,.int b=>(if a then 1 else 0) == b
 | .int a,.bl b=>a == (if b then 1 else 0)
 | .int a,.int b=>a == b
 | .str a,.str b=>a == b
 | _,_=>false
theorem Du {A:Around}{s:Shared}{y x:V}{u v:Value}(ry:RelV y u)(rx:RelV x v)(fy:flatV y=true)(fx:flatV x=true):SeqAt.EqAt A s u v (eqV y x):=by
 cases y with
 | non=>
  cases ry
  cases x with
  | non=>cases rx;exact SeqAt.EqAt.same _
  | bl b=>cases rx;exact SeqAt.EqAt.none_bool b
  | int b=>obtain⟨t,rfl⟩:=rx;exact SeqAt.EqAt.none_int b t
  | str b=>obtain⟨t,rfl⟩:=rx;exact SeqAt.EqAt.none_str b t
  | _=>exact absurd (show false=true from fx) Bool.false_ne_true
 | bl a=>
  cases ry
  cases x with
  | non=>cases rx;exact SeqAt.EqAt.bool_none a
  | bl b=>cases rx;exact SeqAt.EqAt.bool_bool a b
  | int b=>obtain⟨t,rfl⟩:=rx;exact SeqAt.EqAt.bool_int a b t
  | str b=>obtain⟨t,rfl⟩:=rx;exact SeqAt.EqAt.bool_str a b t
  | _=>exact absurd (show false=true from fx) Bool.false_ne_true
 | int a=>
  obtain⟨t',rfl⟩:=ry
  cases x with
  | non=>cases rx;exact SeqAt.EqAt.int_none a t'
  | bl b=>cases rx;exact SeqAt.EqAt.int_bool a t' b
  | int b=>obtain⟨t,rfl⟩:=rx;exact SeqAt.EqAt.int_int a t' b t
  | str b=>obtain⟨t,rfl⟩:=rx;exact SeqAt.EqAt.int_str a t' b t
  | _=>exact absurd (show false=true from fx) Bool.false_ne_true
 | str a=>
  obtain⟨t',rfl⟩:=ry
  cases x with
  | non=>cases rx;exact SeqAt.EqAt.str_none a t'
  | bl b=>cases rx;exact SeqAt.EqAt.str_bool a t' b
  | int b=>obtain⟨t,rfl⟩:=rx;exact SeqAt.EqAt.str_int a t' b t
  | str b=>obtain⟨t,rfl⟩:=rx;exact SeqAt.EqAt.str_str a t' b t
  | _=>exact absurd (show false=true from fx) Bool.false_ne_true
 | _=>exact absurd (show false=true from fy) Bool.false_ne_true
noncomputable def eqU (x:V)(u:Value):Bool:=match u with
 | .none=>eqV .non x
 | .bool b=>eqV (.bl b) x
 | .int i _=>eqV (.int i) x
 | .str z _=>eqV (.str z) x
 | _=>false
theorem zP {x y:V}{u:Value}(r:RelV y u)(f:flatV y=true):eqU x u=eqV y x:=by
 cases y with
 | non=>cases r;rfl
 | bl b=>cases r;rfl
 | int i=>obtain⟨t,rfl⟩:=r;rfl
 | str z=>obtain⟨t,rfl⟩:=r;rfl
 | _=>exact absurd (show false=true from f) Bool.false_ne_true
theorem kH {x:V}:∀{xs:List V} {us:List Value},Vals xs us->xs.all flatV=true->us.any (eqU x)=xs.any λy=>eqV y x
 | _,_,.nil,_=>rfl
 | y::xs,u::us,.cons r t,f=>by
  rw[List.all_cons,Bool.and_eq_true] at f
  rw[List.any_cons,List.any_cons,zP r f.1,kH t f.2]
theorem iQ {A:Around}{s:Shared}{x:V}{v:Value}(rx:RelV x v)(fx:flatV x=true):∀{xs:List V} {us:List Value},Vals xs us->xs.all flatV=true->∀u∈us,SeqAt.EqAt A s u v (eqU x u)
 | _,_,.nil,_=>λu hu=>by cases hu
 | y::xs,u::us,.cons r t,f=>λu' hu=>by
  rw[List.all_cons,Bool.and_eq_true] at f
  rcases List.mem_cons.mp hu with rfl | hu
  ·rw[zP r f.1];exact Du r rx f.1 fx
  ·exact iQ rx fx t f.2 u' hu
noncomputable def inV (x:V)(xs:List V):Bool:=xs.any λy=>eqV y x
noncomputable def rIn (K:W.Frag)(neg:Bool):R2:=λx y H Q=>∃p xs,y=.ref p/\(SqL K H p xs\/SqT K H p xs)/\flatV x=true/\xs.all flatV=true/\Q (.bl (if neg then !inV x xs else inV x xs)) H
theorem xp:OpR X (compareOp .In) (rIn X.K false):=by
 intro pins s σ H x y v u Q I rx ry h
 obtain⟨p,xs,rfl,hq,fx,fs,q⟩:=h
 cases ry
 rcases hq with hq | hq
 ·obtain⟨its,r,pl,hz⟩:=I.list hq
  refine SeqAt.in_listAt (eqU x) pl.isList (λw hw=>iQ rx fx r fs w (by simpa using hw)) ⟨.bl _,H,I,rfl,?_⟩
  rw[show its.toArray.any (eqU x)=its.any (eqU x) by simp,kH r fs]
  exact q
 ·obtain⟨its,r,pl,hz⟩:=I.tuple hq
  refine SeqAt.in_tupleAt (eqU x) pl (λw hw=>iQ rx fx r fs w (by simpa using hw)) ⟨.bl _,H,I,rfl,?_⟩
  rw[show its.toArray.any (eqU x)=its.any (eqU x) by simp,kH r fs]
  exact q
theorem qU:OpR X (compareOp .NotIn) (rIn X.K true):=by
 intro pins s σ H x y v u Q I rx ry h
 obtain⟨p,xs,rfl,hq,fx,fs,q⟩:=h
 cases ry
 rcases hq with hq | hq
 ·obtain⟨its,r,pl,hz⟩:=I.list hq
  refine SeqAt.notIn_listAt (eqU x) pl.isList (λw hw=>iQ rx fx r fs w (by simpa using hw)) ⟨.bl _,H,I,rfl,?_⟩
  rw[show its.toArray.any (eqU x)=its.any (eqU x) by simp,kH r fs]
  exact q
 ·obtain⟨its,r,pl,hz⟩:=I.tuple hq
  refine SeqAt.notIn_tupleAt (eqU x) pl (λw hw=>iQ rx fx r fs w (by simpa using hw)) ⟨.bl _,H,I,rfl,?_⟩
  rw[show its.toArray.any (eqU x)=its.any (eqU x) by simp,kH r fs]
  exact q
theorem qV:OpR X (compareOp .NotIn) (λx y H Q=>∃i j,x=.str i/\y=.str j/\Q (.bl (!(!(Builtin.Str.occurrences j i 0 j.length 1).isEmpty))) H):=by
 intro pins s σ H x y v u Q I rx ry h
 obtain⟨i,j,rfl,rfl,q⟩:=h
 obtain⟨t,rfl⟩:=rx
 obtain⟨t',rfl⟩:=ry
 exact notIn_str ⟨.bl _,H,I,rfl,q⟩
theorem qW:CallR X (.builtin "len") (λxs H Q=>∃p ys,xs=[.ref p]/\(SqL X.K H p ys\/SqT X.K H p ys)/\Q (.int ys.length) H):=by
 intro pins s σ H xs us Q I r h
 obtain⟨p,ys,rfl,hq,q⟩:=h
 obtain⟨u,rfl,rx⟩:=vals1 r
 cases rx
 have hn:=line63
 rcases hq with hq | hq
 ·obtain⟨its,r',pl,hz⟩:=I.list hq
  have hlen:=r'.length
  exact Calls.call_len_list pl.isList (by simp only[List.size_toArray]<;>omega) ⟨.int ys.length,H,I.tok _,⟨s.toks+1,by rw[List.size_toArray,hlen]⟩,q⟩
 ·obtain⟨its,r',pl,hz⟩:=I.tuple hq
  have hlen:=r'.length
  exact len_tuple pl (by simp only[List.size_toArray]<;>omega) ⟨.int ys.length,H,I.tok _,⟨s.toks+1,by rw[List.size_toArray,hlen]⟩,q⟩
theorem qX:CallR X (.builtin "len") (λxs H Q=>∃z,xs=[.str z]/\z.length<=sizeLine/\Q (.int z.length) H):=by
 intro pins s σ H xs us Q I r h
 obtain⟨z,rfl,hz,q⟩:=h
 obtain⟨u,rfl,t,rfl⟩:=vals1 r
 have hn:=line63
 exact len_str (by omega) ⟨.int z.length,H,I.tok _,⟨_,rfl⟩,q⟩
theorem CallR.or {f:Value}{r r':List V->Hp->VK->Prop}(h:CallR X f r)(h':CallR X f r'):CallR X f (λxs H Q=>r xs H Q\/r' xs H Q):=by
 intro pins s σ H xs us Q I rs q
 rcases q with q | q
 ·exact h pins s σ H xs us Q I rs q
 ·exact h' pins s σ H xs us Q I rs q
theorem qY:CallR X (.type "list") (λxs H Q=>∃p ys,xs=[.ref p]/\(SqL X.K H p ys\/SqT X.K H p ys)/\∀l,H l=none->Q (.ref l) (upd H l (.lst ys))):=by
 intro pins s σ H xs us Q I r h
 obtain⟨p,ys,rfl,hq,q⟩:=h
 obtain⟨u,rfl,rx⟩:=vals1 r
 cases rx
 have fin:∀(its:List Value),Vals ys its->ys.length<=sizeLine->∀(h':Heap) (c':Nat),(∀b o',s.heap.get? b=some o'->h'.get? b=some o')->
   h'.get? s.heap.objs.size=some { cls:=.type "list",dict:=none,data:=.seq its.toArray c',slots:=#[] }->EP X pins σ Q (.ref s.heap.objs.size) { s with heap:=h' }:=λits r' hz h' c' kp e=>
  ⟨.ref s.heap.objs.size,_,I.laid (t':=s.toks) kp (Nat.le_refl _) (show ObjOk X.prog X.w _ h' _ (.lst ys) from⟨hz,its,c',r',e⟩),rfl,q _ (I.hok.fresh (Nat.le_refl _))⟩
 rcases hq with hq | hq
 ·obtain⟨its,r',pl,hz⟩:=I.list hq
  have hlen:=r'.length
  obtain⟨o,ho,hc,n,hd⟩:=pl.isList
  exact call_list_seq p (.inl rfl) ho hc hd (λh' c' kp e=>fin its r' hz h' c' kp e) (by simp only[List.size_toArray]<;>omega)
 ·obtain⟨its,r',pl,hz⟩:=I.tuple hq
  have hlen:=r'.length
  obtain⟨o,ho,hc,n,hd⟩:=pl
  exact call_list_seq p (.inr rfl) ho hc hd (λh' c' kp e=>fin its r' hz h' c' kp e) (by simp only[List.size_toArray]<;>omega)
noncomputable def tyV (K:W.Frag)(T:String)(x:V)(H:Hp):Prop:=match x with
 | .str _=>T="str"
 | .int _=>T="int"
 | .ref p=>(T="list" /\ ∃xs,SqL K H p xs)\/(T="tuple" /\ ∃o,K.lookup p=some o/\o.cls=.type "tuple" /\ o.dict=none)\/
   (T="dict" /\ ((∃kvs,H p=some (.dK kvs))\/∃kvs,H p=some (.dT kvs)))\/(T="set" /\ ∃S n,H p=some (.set S n))
 | _=>False
theorem Dv {pins:List (Addr×Obj)}{σ:St}{H:Hp}{s:Shared}{T:String}{x:V}{v:Value}(I:Inv X pins σ H s)(r:RelV x v)(ty:tyV X.K T x H) :
  s.TypeIs v T/\∀a,v=.ref a->∃ob,s.heap.get? a=some ob/\ob.dict=none:=by
 cases x with
 | str z=>
  obtain⟨t,rfl⟩:=r
  cases (show T="str" from ty)
  exact⟨typeIs_str s z t,λ_ e=>nomatch e⟩
 | int i=>
  obtain⟨t,rfl⟩:=r
  cases (show T="int" from ty)
  exact⟨typeIs_int s i t,λ_ e=>nomatch e⟩
 | ref p=>
  cases r
  rcases ty with⟨rfl,xs,hq⟩ | ⟨rfl,o,hk,hc,hd⟩ | ⟨rfl,hk⟩ | ⟨rfl,S,n,hk⟩
  ·obtain⟨its,_,pl,_⟩:=I.list hq
   refine⟨pl.isList.typeIs,λa e=>?_⟩
   cases e
   obtain⟨o,n,e,c,hd,_⟩:=pl
   exact⟨o,e,hd⟩
  ·refine⟨⟨o,I.kIn p o hk,hc⟩,λa e=>?_⟩
   cases e
   exact⟨o,I.kIn _ o hk,hd⟩
  ·have z:∃o,s.heap.get? p=some o/\o.ExactDict:=by
    rcases hk with⟨kvs,hk⟩ | ⟨kvs,hk⟩
    ·obtain⟨_,_,_,_,o,_,_,e,ex,_⟩:=I.hok p _ hk
     exact⟨o,e,ex⟩
    ·obtain⟨_,_,_,_,o,_,_,e,ex,_⟩:=I.hok p _ hk
     exact⟨o,e,ex⟩
   obtain⟨o,e,ex⟩:=z
   refine⟨⟨o,e,ex.1⟩,λa e2=>?_⟩
   cases e2
   exact⟨o,e,ex.2.1⟩
  ·obtain⟨o,_,_,_,e,ex,_⟩:=I.hok p _ hk
   refine⟨⟨o,e,ex.1⟩,λa e2=>?_⟩
   cases e2
   exact⟨o,e,ex.2.1⟩
 | _=>exact False.elim ty
noncomputable def tBM0 (K:W.Frag)(T:String)(r:V->List V->Hp->VK->Prop)(to:TE):TE:=λσ H Q=>to σ H λx H1=>tyV K T x H1/\r x [] H1 Q
noncomputable def tBM (K:W.Frag)(T:String)(r:V->List V->Hp->VK->Prop)(to:TE)(t:TA):TE:=λσ H Q=>to σ H λx H1=>tyV K T x H1/\t σ H1 λxs H2=>r x xs H2 Q
variable {o e:Expr} {es:List Expr} {to:TE} {t:TA} {name:Str} {apos cpos:Pos} {T id:String} {r:V->List V->Hp->VK->Prop}
theorem EJ (pa:PlainAttrs T)(slot:Slot T name id)(hty:typeOf (.builtin id)=pure (.type "method_descriptor"))(hm:MtR X id r)(ho:PE X o to)(ha:PA X (e::es) t)
  (hbase:autoParam (attributeBase o name X.env (eval o X.env)=eval o X.env) L2.dft3._auto_1)
  (hfew:autoParam (((backTo cpos (starEach (e::es) X.env)).all (λx=>!x.1) && (backToKw cpos (keywordEach [] X.env)).all (λx=>x.1.isSome)
   && decide ((e::es).length+([]:List Keyword).length+(if ([]:List Keyword).isEmpty then 0 else 1) < 30))=true) L2.dft3._auto_1)
  (hline:autoParam ((apos.endLine == cpos.line)=true) L2.dft3._auto_1) (hs:autoParam (starEach (e::es) X.env=(false,eval e X.env)::starEach es X.env) L2.dft3._auto_1) (hplain:autoParam ((backTo cpos (starEach es X.env)).any (·.1)=false) L2.dft3._auto_1) :
  PE X (.Call (.Attribute o name apos) (e::es) [] cpos) (tBM X.K T r to t):=by
 intro pins s σ H Q I h
 refine wpAny_Call_method_late hbase hfew hline rfl (thn (ho pins s σ H _ I h) λv s1 ⟨x,H1,I1,r1,ty,q1⟩=>?_)
 obtain⟨h1,h2⟩:=Dv I1 r1 ty
 refine⟨T,id,pa,slot,hty,h1,h2,?_⟩
 have hA:=ha cpos pins s1 σ H1 _ I1 q1
 rw[hs] at hA ⊢
 refine Calls.callWith_builtin (by show(false || (backTo cpos (starEach es X.env)).any (·.1))=false;rw[hplain]<;>rfl) (Calls.evalArgs_plain ?_)
 exact thn hA λus s2 ⟨vs,H2,I2,r2,q2⟩=>hm pins s2 σ H2 x vs v us Q I2 r1 r2 q2
end
noncomputable def MtM (X:Cx)(id:String)(r:V->List V->Hp->VK->Prop):Prop:=
 ∀(pins:List (Addr×Obj)) (s:Shared) (σ:St) (H:Hp) (x:V) (xs:List V) (v:Value) (us:List Value) (Q:VK),Inv X pins σ H s->RelV x v->Vals xs us->r x xs H Q->
  wpAny (model X.prog X.w) X.A (call (.builtin id) (v::us)) (EP X pins σ Q) X.xe s
theorem Vals.one:∀{x:V} {us:List Value},Vals [x] us->∃u,us=[u]/\RelV x u
 | _,_,.cons r .nil=>⟨_,rfl,r⟩
section
variable {X:Cx} {pins:List (Addr×Obj)} {σ:St} {H:Hp} {s:Shared} {l b:Addr} {xs ys zs:List V}
theorem Inv.lset {its its':List Value}{n:Nat}{f:Array Value->Array Value}{t':Nat}(I:Inv X pins σ H s)(hH:H l=some (.lst xs))
  (e:s.heap.get? l=some { cls:=.type "list",data:=.seq its.toArray n }) (hf:f its.toArray=its'.toArray) (hv:Vals ys its') (hz:ys.length<=sizeLine) :
  Inv X pins σ (upd H l (.lst ys)) { s with heap:=s.heap.update l (Obj.mapSeq f),toks:=t' }:=by
 have q:=PySem.IsL.update e f
 rw[hf] at q
 refine I.write (x:=l) (e:=l) (by rw[hH];exact trivial) (.inl rfl) (λb' u hb hu=>(Heap.get?_update_other s.heap (Obj.mapSeq f) (Ne.symm hb)).trans hu) ⟨_,q⟩ ?_
 exact⟨hz,its',_,hv,q⟩
theorem Inv.lnew {its:List Value}{t':Nat}(I:Inv X pins σ H s)(hv:Vals ys its)(hz:ys.length<=sizeLine) :
  Inv X pins σ (upd H s.heap.objs.size (.lst ys)) { s with heap:=s.heap.push { cls:=.type "list",data:=.seq its.toArray },toks:=t' }:=
 I.laid (λ_ _ q=>Heap.get?_push_of_some _ q) (Nat.le_refl _) ⟨hz,its,0,hv,Heap.get?_push_size _ rfl⟩
theorem Inv.fresh (I:Inv X pins σ H s):H s.heap.objs.size=none:=I.hok.fresh (Nat.le_refl _)
theorem Inv.lstM (I:Inv X pins σ H s)(hH:H l=some (.lst xs)):xs.length<=sizeLine/\∃(its:List Value) (n:Nat),Vals xs its/\xs.length=its.length/\s.heap.get? l=some { cls:=.type "list",data:=.seq its.toArray n }:=by
 obtain⟨z,its,n,r,e⟩:=I.hok l _ hH
 exact⟨z,its,n,r,r.length,e⟩
theorem notLongL {n:Nat}(h:n<=sizeLine):Builtin.List.listTooLong n=false:=by
 unfold Builtin.List.listTooLong
 exact decide_eq_false (by omega)
end
section
variable {X:Cx}
noncomputable def rAppend:V->List V->Hp->VK->Prop:=λx vs H Q=>∃l xs y,x=.ref l/\vs=[y]/\H l=some (.lst xs)/\xs.length < sizeLine/\Q .non (upd H l (.lst (xs++[y])))
theorem b9:MtM X "list.append" rAppend:=by
 intro pins s σ H x vs v us Q I rx rv h
 obtain⟨l,xs,y,rfl,rfl,hH,hz,q⟩:=h
 cases rx
 obtain⟨u,rfl,ru⟩:=rv.one
 obtain⟨z,its,n,r,hl,e⟩:=I.lstM hH
 refine call_meets F.slot_list_append ⟨_,e,rfl⟩ F.entry_list_append (F.args_list_append_2 _ _) (PySem.list_append l its.toArray n u (by rw[List.size_toArray];omega)) ⟨e,?_⟩
 refine⟨.non,_,I.lset (its':=its++[u]) hH e (by simp) (r.append (.cons ru .nil)) ?_,rfl,q⟩
 rw[List.length_append,List.length_singleton]
 omega
noncomputable def rExtend:V->List V->Hp->VK->Prop:=λx vs H Q=>∃l b xs zs,x=.ref l/\vs=[.ref b]/\H l=some (.lst xs)/\H b=some (.lst zs)/\xs.length+zs.length<=sizeLine/\Q .non (upd H l (.lst (xs++zs)))
theorem xq:MtM X "list.extend" rExtend:=by
 intro pins s σ H x vs v us Q I rx rv h
 obtain⟨l,b,xs,zs,rfl,rfl,hH,hB,hz,q⟩:=h
 cases rx
 obtain⟨u,rfl,ru⟩:=rv.one
 cases ru
 obtain⟨z,its,n,r,hl,e⟩:=I.lstM hH
 obtain⟨z2,its2,n2,r2,hl2,e2⟩:=I.lstM hB
 have hsz:its.toArray.size+its2.toArray.size<=sizeLine:=by rw[List.size_toArray,List.size_toArray];omega
 have hlong:¬(!its.toArray.isEmpty && Builtin.List.listTooLong (its.toArray.size+its2.toArray.size))=true:=by
  rw[notLongL hsz,Bool.and_false]
  exact Bool.false_ne_true
 refine call_meets F.slot_list_extend ⟨_,e,rfl⟩ F.entry_list_extend (F.args_list_extend_2 _ _)
  (AutoSeq1.list_extend_list_list_0 l its.toArray n b its2.toArray n2 hlong (by rw[List.size_toArray];omega) (by omega)) ⟨e,e2,?_⟩
 refine⟨.non,_,I.lset (its':=its++its2) hH e (by simp) (r.append r2) ?_,rfl,q⟩
 rw[List.length_append]
 omega
end
section
variable {prog:Program} {w:World} {A:Around} {E:Value->Shared->Prop} {s:Shared}
end
section
variable {X:Cx}
end
end L2
namespace Att
open PySem PySem.W PySem.Calls PyProof.Rows
theorem m9 {P:Params}{h:Heap}:∀(ns:List Int) (vs:List Value),WellAll P h vs (ns.map WData.int)->IntsAre vs ns:=by
 intro ns
 induction ns with
 | nil=>
  intro vs w
  rw[List.map_nil] at w
  cases w
  exact .nil
 | cons n ns ih=>
  intro vs w
  rw[List.map_cons] at w
  cases w with
  | cons a b=>
   cases a
   exact .cons _ _ (ih _ b)
theorem xr {l:OpenLaw}{n:Nat}(hn:l.most=some n){P:Params}{h:Heap}{args:List WData}{vals:List Value}
  (hpre:l.row.toRowW.claim.pre args=true) (hwl:WellAll P h vals args) :
  ∃a vs ns,vals=[Value.ref a]/\args=[WData.list (ns.map WData.int)]/\h.get? a=some { cls:=.type "list",data:=.seq vs.toArray }/\IntsAre vs ns/\ns.length<=n:=by
 have hsh:WShape.hasAll [] args [.list .int]=true:=(pre_splitW hpre).1
 have hc:l.pre.holds [] { args:=args }=true:=(pre_splitW hpre).2
 obtain⟨d,r,rfl,h1,h2⟩:=hasAllW_cons hsh
 obtain rfl:=hasAllW_nil h2
 obtain⟨xs,rfl,h3⟩:=hasW_list h1
 obtain⟨ns,rfl⟩:=items_int h3
 have hlen:ns.length<=n:=by
  unfold OpenLaw.pre at hc
  have h4:(WTm.not (.lt (.lit (.int (n:Int))) (.len (.arg 0)))).holds [] { args:=[.list (ns.map .int)] }=true:=by
   have h4:=(holds_andW hc).1
   rw[hn] at h4
   exact h4
  have h5:=condW_of h4 (w_not (w_lt w_lit (w_len_list (w_arg rfl))))
  rw[List.length_map] at h5
  refine Nat.le_of_not_lt λq=>?_
  have q':(n:Int) < ((ns.length:Nat):Int):=by omega
  first
   | (rw[decide_eq_true q'] at h5;exact absurd h5 (by decide))
   | (simp at h5;omega)
 cases hwl with
 | cons w1 w2=>
  cases w2
  cases w1 with
  | list ho hall=>exact⟨_,_,ns,rfl,rfl,ho,m9 ns _ hall,hlen⟩
theorem xt (l:OpenLaw)(args:List WData):l.row.toRowW.claim.post args (.bool true) args=true:=
 postW_of (r:=l.row.toRowW) (X:=(true == true))
  (show WShape.has [] (.bool true) .bool=true by first | rfl | decide | simp[WShape.has,WShape.arms,WShape.armsAll])
  (show(WTm.eq .res (.lit (.bool true))).value [] { args:=args,res:=some (.bool true),after:=args }=some (.bool (true == true)) from w_eq_bool (w_res rfl) w_lit) rfl
theorem su {l:OpenLaw}{n:Nat}{q:Program}{loose:List Str}{XP:(Str->Option Value)->Heap->Prop}{YP:World->Heap->Prop}{d:DefRec}
  (hn:l.most=some n) (hdf:d.params.defaults=[])
  (call:∀(w:World) (s₀ s₁:Shared) (mg mb:Str->Option Value) (fa:Addr) (o:Obj) (pm cd doc:Value) (a:Addr) (vs:List Value) (ns:List Int),
   Ground q loose [] XP w s₀ mg mb s₁.heap->YP w s₁.heap->
   s₁.heap.get? fa=some o->o.data=.func (docDef d.name d.params d.body d.scope pm cd doc)->s₁.heap.CodeRec cd d.name->mg d.name=some (.ref fa)->
   s₁.heap.get? a=some { cls:=.type "list",data:=.seq vs.toArray }->IntsAre vs ns->ns.length<=n->s₁.gens=#[]->
   codeAny (model l.prog w) callerA (.call (.ref fa) ⟨[.ref a],[]⟩) (λr s'=>r=.ok (.ret (.bool true))/\OldK s₁.heap s'.heap/\s'.os=s₁.os/\AllBare s'.gens) s₁) :
  WalkO q loose XP YP l.row.toRowW d [] (λf vs=>PySem.call f vs):=by
 intro w s₀ s₁ mg mb G Y fa o pm cd doc dV kV ho hd hcd hD hmg hg args vals as hpre hlay hrd hwl hlo
 obtain rfl:dV=.none:=Dflts.none hD hdf
 obtain rfl:kV=.none:=Dflts.noKw hD
 obtain⟨a,vs,ns,rfl,rfl,hobj,hints,hlen⟩:=xr hn hpre hwl
 refine enter_call (codeAny_mono (call w s₀ s₁ mg mb fa o pm cd doc a vs ns G Y ho (fd_plain hd) hcd hmg hobj hints hlen hg) λr s' hq=>?_)
 obtain⟨rfl,h2,h3,h4⟩:=hq
 exact⟨.inl ⟨.bool true,.bool true,[],rfl,λ_=>rfl,.bool true,xt l _,λ_=>⟨List.Pairwise.nil,λ_ hm=>(nomatch hm)⟩⟩,h2,h3,h4⟩
section
variable {prog:Program} {w:World} {A:Around} {E:Value->Shared->Prop} {s:Shared} {K:Frag}
end
end Att
namespace L2
open PySem PySem.Spec PyProof.Rows
theorem qc:∀{vs:List Value} {ns:List Int},IntsAre vs ns->Vals (ns.map V.int) vs
 | _,_,.nil=>.nil
 | _,_,.cons n t h=>.cons ⟨t,rfl⟩ (qc h)
noncomputable def Only (H:Hp):Prop:=∀b,H b=none\/∃o xs,H b=some (.frz o (.lst xs))
theorem zQ {P:Program}{w:World}{K:W.Frag}{mg mb:Str->Option Value}{CX:CXT}{k:Nat}{fa a:Addr}{fd:FuncData}{x:Str}{sp:Sp}{s₁:Shared}{vs:List Value}{ns:List Int}
  (KX:K.In s₁.heap) (hns:s₁.heap.Ns mainGlobals mg) (hb:s₁.heap.Ns builtinsNs mb) (hbb:∀x:Str,x ≠ "__name__" -> mb x=bootBuiltins x) (hlim:s₁.heap.NoLimit) (hg:s₁.gens=#[])
  (ha:s₁.heap.get? a=some { cls:=.type "list",data:=.seq vs.toArray }) (hi:IntsAre vs ns) (hl:ns.length<=sizeLine) (hr:Room k callerA)
  (F:∀base:Heap,K.In base->base.Ns mainGlobals mg->FnOk P w K mg base CX k fa fd [x] sp) (hbind:∀(s:Shared) (u:Value),BindsTo s fd ⟨[u],[]⟩ [(x,u)])
  (hsp:∀H:Hp,Only H->SqL K H a (ns.map V.int)->sp [.ref a] H (λv _=>v=.bl true) λ_ _ _=>False)
  (hCX:∀H e s',CX [] H s₁ (λ_ _ _=>False) e s'->False) :
  codeAny (model P w) callerA (.call (.ref fa) ⟨[.ref a],[]⟩) (λr s'=>r=.ok (.ret (.bool true))/\OldK s₁.heap s'.heap/\s'.os=s₁.os/\AllBare s'.gens) s₁:=by
 have rv:=qc hi
 have lenV:=hi.length
 have core:∀H:Hp,Only H->SqL K H a (ns.map V.int)->HOk P w H s₁.heap->(∀b,H b≠none->b=a)->(H a≠none->K.lookup a=none)->
   codeAny (model P w) callerA (.call (.ref fa) ⟨[.ref a],[]⟩) (λr s'=>r=.ok (.ret (.bool true))/\OldK s₁.heap s'.heap/\s'.os=s₁.os/\AllBare s'.gens) s₁:=by
  intro H hO hS hok hA hK
  have base_of:∀{b:Addr} {o:Obj},s₁.heap.get? b=some o->H b=none->(hidT s₁.heap H).get? b=some o:=λe n=>zw e n
  have noA:∀{b:Addr} {o:Obj} {es:Array DictEntry} {ep:Nat},s₁.heap.get? b=some o->o.data=.dict es ep->H b=none:=λ{b o es ep} e d=>by
   cases q:H b with
   | none=>rfl
   | some u=>
    have e':b=a:=hA b (by rw[q];simp)
    subst e'
    rw[ha] at e;cases e
    have d':Data.seq vs.toArray _=Data.dict es ep:=d
    cases d'
  have nsK:∀{b:Addr} {m:Str->Option Value},s₁.heap.Ns b m->(hidT s₁.heap H).Ns b m:=λ{b m} ⟨o,es,ep,e,d,r⟩=>⟨o,es,ep,base_of e (noA e d),d,r⟩
  have hKb:K.In (hidT s₁.heap H):=λb o e=>base_of (KX b o e) (by
   cases q:H b with
   | none=>rfl
   | some u=>
    have e':b=a:=hA b (by rw[q];simp)
    subst e'
    rw[hK (by rw[q];simp)] at e;cases e)
  have hM:Mod K mg (hidT s₁.heap H):=⟨hKb,nsK hns,⟨mb,nsK hb,hbb⟩,let ⟨mc,h1,h2⟩:=hlim;⟨mc,nsK h1,h2⟩⟩
  have e0:Env0 P w K mg (hidT s₁.heap H) callerA [] s₁ H:=⟨rfl,hM,λb o e=>Bj e,Nat.le_of_eq (xb _ _),trivial,λb hb=>absurd (show b∈([]:List Addr) from hb) (by simp),hok,.of_eq hg⟩
  refine codeAny_mono ((F _ hKb (nsK hns)).run callerA [] s₁ H ⟨[.ref a],[]⟩ [.ref a] [.ref a] _ _ hr e0 (hbind s₁ (.ref a)) (.cons rfl .nil) (hsp H hO hS)) λr s' h=>?_
  cases r with
  | error e=>exact(hCX H e s' h).elim
  | ok fl=>
   cases fl with
   | next=>exact False.elim h
   | brk=>exact False.elim h
   | cont=>exact False.elim h
   | ret u=>
    obtain⟨v,H',os,bare,un,hok',r',q⟩:=h
    have q':v=.bl true:=q
    subst q'
    obtain rfl:u=Value.bool true:=r'
    refine⟨rfl,OldK.of_keep λb o e=>?_,os,bare⟩
    cases q:H b with
    | none=>exact un.keep b o e q (by intro z;exact absurd (show b∈([]:List Addr) from z) (by simp)) (by simp)
    | some u=>
     rcases hO b with z | ⟨ob,xs,z⟩
     ·rw[q] at z;cases z
     ·have z2:=un.frzs b ob _ z
      obtain⟨e1,_⟩:=hok b _ z
      obtain⟨e2,_⟩:=hok' b _ z2
      rw[e] at e1;cases e1
      exact e2
 cases hk:K.lookup a with
 | some o=>
  have e:=KX a o hk
  rw[ha] at e
  cases e
  refine core (λ_=>none) (λ_=>.inl rfl) (.inr ⟨_,vs.toArray,_,hk,rfl,rfl,rfl,by rw[List.size_toArray,lenV];exact hl,by simpa using rv⟩) (λb u z=>by have z':(none:Option HO)=some u:=z;cases z') (λb z=>absurd rfl z) λz=>absurd rfl z
 | none=>
  refine core (λb=>if b=a then some (.frz { cls:=.type "list",data:=.seq vs.toArray } (.lst (ns.map V.int))) else none) (λb=>?_) (.inl (.inr ⟨{ cls:=.type "list",data:=.seq vs.toArray },if_pos rfl⟩)) (λb u z=>?_) (λb z=>?_) λ_=>hk
  ·by_cases hb:b=a
   ·exact .inr ⟨_,_,if_pos hb⟩
   ·exact .inl (if_neg hb)
  ·by_cases hb:b=a
   ·have z':=(if_pos hb).symm.trans z
    cases z'
    subst hb
    exact⟨ha,by rw[List.length_map];exact hl,vs,_,rv,ha⟩
   ·have z':=(if_neg hb).symm.trans z
    cases z'
  ·by_cases hb:b=a
   ·exact hb
   ·exact absurd (if_neg hb) z
noncomputable abbrev KOf {K:W.Frag}{h:Heap}(_:K.In h):W.Frag:=K
theorem Bq {l:W.OpenLaw}{n k:Nat}{q:Program}{loose:List Str}{XP:(Str->Option Value)->Heap->Prop}{YP:World->Heap->Prop}{d:DefRec}{K:Params->W.Frag}{CX:World->CXT}{sp:World->Sp}{x:Str}
  (hn:l.most=some n) (hn2:n<=sizeLine) (hdf:d.params.defaults=[]) (hr:Room k callerA)
  (hY:∀(w:World) (h:Heap),YP w h->(K w.params).In h)
  (F:∀(w:World) (mg:Str->Option Value) (fa:Addr) (h:Heap),(K w.params).In h->h.Ns mainGlobals mg->mg d.name=some (.ref fa)->
   ∃fd:FuncData,(∀(s:Shared) (u:Value),BindsTo s fd ⟨[u],[]⟩ [(x,u)])/\
    ∀base:Heap,(K w.params).In base->base.Ns mainGlobals mg->FnOk l.prog w (K w.params) mg base (CX w) k fa fd [x] (sp w))
  (hsp:∀(w:World) (H:Hp) (a:Addr) (ns:List Int),ns.length<=n->Only H->SqL (K w.params) H a (ns.map V.int)->sp w [.ref a] H (λv _=>v=.bl true) λ_ _ _=>False)
  (hCX:∀(w:World) (H:Hp) (s:Shared) (e:Value) (s':Shared),CX w [] H s (λ_ _ _=>False) e s'->False) :
  W.WalkO q loose XP YP l.row.toRowW d [] (λf vs=>PySem.call f vs):=by
 refine Att.su hn hdf λw s₀ s₁ mg mb fa o pm cd doc a vs ns G Y ho hd hcd hmg hobj hints hlen hg=>?_
 have KX:=hY w _ Y
 obtain⟨fd,hb,hF⟩:=F w mg fa _ KX G.T.g hmg
 exact zQ KX G.T.g G.T.b G.T.builtins G.T.nolimit hg hobj hints (Nat.le_trans hlen hn2) hr hF hb (λH hO hS=>hsp w H a ns hlen hO hS) λH e s'=>hCX w H s₁ e s'
noncomputable def inClass (s:Stmt)(j:Nat):Stmt:=match s with
 | .ClassDef _ _ _ body _ _ _ _ _ _ _=>body.getD j (.Pass ⟨0,0,0,0⟩)
 | _=>.Pass ⟨0,0,0,0⟩
noncomputable def defArgs (s:Stmt):Arguments:=match s with
 | .FunctionDef _ a _ _ _ _ _ _ _ _=>a
 | _=>{ posonlyargs:=[],args:=[],vararg:=none,kwonlyargs:=[],kw_defaults:=[],kwarg:=none,defaults:=[] }
noncomputable def defBody (s:Stmt):List Stmt:=match s with
 | .FunctionDef _ _ b _ _ _ _ _ _ _=>b
 | _=>[]
noncomputable def defScope (s:Stmt):Scope:=match s with
 | .FunctionDef _ _ _ _ _ _ sc _ _ _=>sc
 | _=>{ kind:=.function,names:=[],isGenerator:=false,isCoroutine:=false }
noncomputable abbrev CX0:CXT:=λ_ _ _ _ _ _=>False
noncomputable abbrev E0:XK:=λ_ _ _=>False
theorem pass0 {X:Cx}:Passes CX0 X E0:=λ_ _ _ _ _ _ _ h=>h.elim
structure Fun (K:W.Frag)(x qual:Str)(st:Stmt)(f:Addr)(fd:FuncData):Prop where
 ex:∃(oc:Value) (od:Option Addr) (kV doc pm:Value) (an:Option Addr) (cdv ct:Value) (osl:Array (Option Value)),
  fd=W.fnOf x qual (defArgs st) (defBody st) (defScope st) .none kV doc pm an cdv ct/\K.lookup f=some ⟨oc,od,.func fd,osl⟩/\W.codeIn K cdv qual=true
 kp:W.keepIn K (.ref f)=true
section
variable {P:Program} {w:World} {K:W.Frag} {mg:Str->Option Value} {base:Heap}
theorem Fun.ok {x qual:Str}{st:Stmt}{f:Addr}{fd:FuncData}{N ps:List Str}{k:Nat}{sp:Sp}(F:Fun K x qual st f fd)(S:FnScope N ps (defScope st))(len:∀vs H Q E,sp vs H Q E->vs.length=ps.length)
  (hbody:∀(cdv:Value) (A:Around) (outer:List Env) (s:Shared) (H:Hp) (vs:List V) (Q:VK) (E:XK),Room k (A.deeper (envOfC qual (defScope st) s.heap.objs.size f cdv))->sp vs H Q E->
   ∃t,PSs (cxOf CX0 P w K mg base N qual (defScope st) f cdv A outer s H E).nox (defBody st) t/\t { nx:=λ_ H'=>Q .non H',rt:=Q } (start N vs) H):FnOk P w K mg base CX0 (k+1) f fd ps sp:=by
 obtain⟨oc,od,kV,doc,pm,an,cdv,ct,osl,rfl,lk,hcd⟩:=F.ex
 refine wz lk hcd S len λA outer s H vs Q E hr hsp=>?_
 obtain⟨t,h,q⟩:=hbody cdv A outer s H vs Q E hr hsp
 exact⟨t,h.nox,q⟩
theorem Fun.binds {x qual:Str}{st:Stmt}{f:Addr}{fd:FuncData}{ps:List Str}(F:Fun K x qual st f fd)
  (h:∀(kV doc pm:Value) (an:Option Addr) (cdv ct:Value) (us:List Value),us.length=ps.length->bindArgs (W.fnOf x qual (defArgs st) (defBody st) (defScope st) .none kV doc pm an cdv ct) ⟨us,[]⟩=pure (ps.zip us)):Binds K fd ps []:=by
 obtain⟨oc,od,kV,doc,pm,an,cdv,ct,osl,rfl,lk,hcd⟩:=F.ex
 exact .all (h kV doc pm an cdv ct)
theorem lP {x qual:Str}{st:Stmt}{f:Addr}{oc:Value}{od an:Option Addr}{osl:Array (Option Value)}{kV doc pm cdv ct:Value}(l:K.lookup f=some ⟨oc,od,.func (W.fnOf x qual (defArgs st) (defBody st) (defScope st) .none kV doc pm an cdv ct),osl⟩)
  (c:W.codeIn K cdv qual=true) (k:W.keepIn K (.ref f)=true):Fun K x qual st f (W.fnOf x qual (defArgs st) (defBody st) (defScope st) .none kV doc pm an cdv ct):=⟨⟨oc,od,kV,doc,pm,an,cdv,ct,osl,rfl,l,c⟩,k⟩
end
theorem EK {A:Around}{k:Nat}(hr:Room k A):A.units+1 < cLine:=Nat.lt_of_le_of_lt (Nat.add_le_add_left (by decide:1<=64) _) hr.units
section
variable {X:Cx}
theorem pv (i:Nat){x:Str}{pos:Pos}(hN:autoParam (X.N[i]?=some x) L2.dft3._auto_1)(hv:autoParam (Vis X.env.scope x) L2.dft6._auto_1)(hd:autoParam ((x == ("__debug__":Str))=false) L2.dft1._auto_1)
  (hcd:autoParam ((x == ("__classdict__":Str))=false) L2.dft1._auto_1):PE X (.Name x pos) (tVar i):=Dj hN hv hd hcd
end
theorem ite2 {c A B:Prop}[Decidable c](h1:c->A)(h2:¬c->B):if c then A else B:=by
 by_cases h:c
 ·rw[if_pos h]
  exact h1 h
 ·rw[if_neg h]
  exact h2 h
noncomputable def Same (H H':Hp):Prop:=∀b o,H b=some o->H' b=some o
theorem Same.refl (H:Hp):Same H H:=λ_ _ h=>h
theorem Same.trans {H H1 H2:Hp}(a:Same H H1)(b:Same H1 H2):Same H H2:=λc o h=>b c o (a c o h)
theorem Same.free {H H':Hp}(e:Same H H'){l:Addr}(h:H' l=Option.none):H l=Option.none:=by
 cases q:H l with
 | none=>rfl
 | some o=>
  rw[e l o q] at h
  cases h
theorem Same.seq {K:W.Frag}{H H':Hp}{a:Addr}{xs:List V}(e:Same H H')(h:SqL K H a xs):SqL K H' a xs:=by
 rcases h with(h | ⟨o,h⟩) | h
 ·exact .inl (.inl (e _ _ h))
 ·exact .inl (.inr ⟨o,e _ _ h⟩)
 ·exact .inr h
section
variable (P:Program) (w:World)
end
section
variable {P:Program} {w:World} {H H':Hp} {h h':Heap} {a:Addr} {o:HO}
end
section
variable {P:Program} {w:World} {H:Hp} {h h':Heap} {x e:Addr} {o':HO}
end
section
variable {fs fs' ex ex':List Addr} {H H1 H2:Hp} {h h1 h2 h':Heap} {a x e:Addr} {o:HO}
end
section
variable {X:Cx} {pins:List (Addr×Obj)} {σ:List (Option V)} {H H':Hp} {s:Shared} {h':Heap}
end
section
variable {X:Cx}
variable {a b:Expr} {ta tb:TE} {pos:Pos}
variable {tA tB':TT} {rest:List Expr}
end
section
variable {X:Cx} {pins:List (Addr×Obj)} {σ:St} {H:Hp} {s:Shared} {a:Addr} {xs ys:List V}
end
section
variable {X:Cx} {pins:List (Addr×Obj)} {σ:St} {H:Hp} {s:Shared} {E:Value->Shared->Prop}
end
section
variable {X:Cx} {st:Stmt} {rest:List Stmt} {t u:TS} {e:Expr} {te:TE} {pos:Pos}
end
section
variable {X:Cx} {pos:Pos}
end
section
variable {X:Cx} {pos:Pos}
end
section
variable {X:Cx} {tg:Expr}
end
section
variable {X:Cx} {a b c:Expr} {ta tb tc:TE} {pos:Pos}
end
section
variable {X:Cx} {a b c:Expr} {ta tb tc:TE} {pos:Pos}
end
section
variable {prog:Program} {w:World} {A:Around} {E:Value->Shared->Prop} {s:Shared} {K:W.Frag} {x dx C f:Addr} {mA:Str->Option Value} {name:Str} {v:Value}
end
section
variable {P:Program} {w:World} {H H':Hp} {h h':Heap} {a C dx:Addr} {fs fs':List (Str×V)}
end
section
variable {X:Cx} {pins:List (Addr×Obj)} {σ:St} {H:Hp} {s:Shared} {a C dx:Addr} {fs:List (Str×V)} {f:Str} {v:V} {A:Around} {E:Value->Shared->Prop}
end
section
variable {X:Cx} {o e value:Expr} {f:Str} {pos pos' tpos:Pos} {ta tv:TE}
end
section
variable {X:Cx} {pins:List (Addr×Obj)} {σ:St} {H:Hp} {s:Shared} {A:Around} {E:Value->Shared->Prop} {Q:Value->Shared->Prop} {c:Value} {b:Bool}
end
section
variable {X:Cx} {e:Expr} {es:List Expr} {te:TE} {t:TA} {pos:Pos}
end
section
variable {X:Cx} {pins:List (Addr×Obj)} {σ:St} {H:Hp} {s s':Shared}
end
section
variable {X:Cx} {CX:CXT} {k:Nat} {f C:Addr} {fd:FuncData} {ps:List Str} {sp:Sp} {dvs:List V} {ds:List Value} {E:XK} {x m:Str} {p pos apos:Pos} {e o:Expr} {es:List Expr} {ta:TE} {t:TA}
end
section
variable {X:Cx} {CX:CXT} {k:Nat} {f C:Addr} {fd:FuncData} {ps ks:List Str} {sp:Sp} {E:XK} {x m:Str} {p pos apos kpos:Pos} {e o:Expr} {es:List Expr} {kws:List Keyword} {te ta:TE} {t tk:TA} {nm:Option Str}
variable {g:List Value->List Value->List Value} {gV:List V->List V->List V}
end
section
variable {X:Cx} {x:Str} {p pos:Pos} {e:Expr} {es:List Expr} {t:TA} {id T:String} {r:List V->Hp->VK->Prop}
end
section
variable {κ:Type} [DecidableEq κ]
noncomputable def valV (kvs:List (κ×V))(k:κ):Option V:=(kvs.find? λkv=>decide (kv.1=k)).map (·.2)
noncomputable def putK (kvs:List (κ×V))(k:κ)(v:V):List (κ×V):=
 if (kvs.any λkv=>decide (kv.1=k))=true then kvs.map (λkv=>if kv.1=k then(kv.1,v) else kv) else kvs++[(k,v)]
noncomputable def dropK (kvs:List (κ×V))(k:κ):List (κ×V):=kvs.filter λkv=>decide (kv.1≠k)
theorem bY {p:κ×V}{r:List (κ×V)}{k:κ}(e:p.1=k):valV (p::r) k=some p.2:=by simp[valV,List.find?_cons,e]
theorem bM {p:κ×V}{r:List (κ×V)}{k:κ}(e:¬p.1=k):valV (p::r) k=valV r k:=by simp[valV,List.find?_cons,e]
theorem kI (k:κ):∀kvs:List (κ×V),(kvs.any λkv=>decide (kv.1=k))=(valV kvs k).isSome
 | []=>rfl
 | p::r=>by
  rw[List.any_cons]
  by_cases e:p.1=k
  ·simp only[bY e,decide_eq_true e,Bool.true_or,Option.isSome_some]
  ·rw[bM e,decide_eq_false e,Bool.false_or];exact kI k r
theorem sv (k j:κ)(y:V):∀kvs:List (κ×V),valV (kvs.map λkv=>if kv.1=k then(kv.1,y) else kv) j=(valV kvs j).map λx=>if j=k then y else x
 | []=>rfl
 | p::r=>by
  have ih:=sv k j y r
  rw[List.map_cons]
  by_cases h:p.1=k
  ·rw[if_pos h]
   by_cases e:p.1=j
   ·rw[bY (p:=(p.1,y)) e,bY e,Option.map_some,if_pos (e.symm.trans h)]
   ·rw[bM (p:=(p.1,y)) e,bM e,ih]
  ·rw[if_neg h]
   by_cases e:p.1=j
   ·rw[bY (p:=p) e,bY e,Option.map_some,if_neg (λz=>h (e.trans z))]
   ·rw[bM (p:=p) e,bM e,ih]
theorem qf (k j:κ)(y:V):∀kvs:List (κ×V),valV kvs k=none->valV (kvs++[(k,y)]) j=if j=k then some y else valV kvs j
 | [],_=>by
  by_cases e:k=j
  ·rw[if_pos e.symm];exact bY (p:=(k,y)) e
  ·rw[if_neg (λz=>e z.symm)];exact bM (p:=(k,y)) e
 | p::r,hn=>by
  rw[List.cons_append]
  have hk:¬p.1=k:=λz=>by rw[bY z] at hn;cases hn
  rw[bM hk] at hn
  have ih:=qf k j y r hn
  by_cases e:p.1=j
  ·rw[bY e,bY e,if_neg (λz=>hk (e.trans z))]
  ·rw[bM e,bM e,ih]
theorem eE (kvs:List (κ×V))(k j:κ)(y:V):valV (putK kvs k y) j=if j=k then some y else valV kvs j:=by
 unfold putK
 by_cases a:(kvs.any λkv=>decide (kv.1=k))=true
 ·rw[if_pos a,sv]
  rw[kI] at a
  by_cases e:j=k
  ·obtain⟨x,hx⟩:=Option.isSome_iff_exists.mp a
   rw[if_pos e,e,hx,Option.map_some,if_pos rfl]
  ·rw[if_neg e]
   cases valV kvs j with
   | none=>rfl
   | some x=>rw[Option.map_some,if_neg e]
 ·rw[if_neg a]
  refine qf k j y kvs ?_
  rw[kI] at a
  cases q:valV kvs k with
  | none=>rfl
  | some x=>rw[q] at a;exact(a rfl).elim
theorem bF (kvs:List (κ×V))(k:κ)(v:V):(putK kvs k v).length<=kvs.length+1:=by
 unfold putK
 split
 ·rw[List.length_map];omega
 ·rw[List.length_append,List.length_cons,List.length_nil];omega
theorem RelO.gC {o:Option V}{u:Option Value}(r:RelO o u):o.isSome=u.isSome:=by
 cases o with
 | none=>cases u with
  | none=>rfl
  | some _=>exact(show False from r).elim
 | some _=>cases u with
  | none=>exact(show False from r).elim
  | some _=>rfl
theorem RelO.getD {o:Option V}{u:Option Value}{d:V}{d':Value}(r:RelO o u)(rd:RelV d d'):RelV (o.getD d) (u.getD d'):=by
 cases o with
 | none=>cases u with
  | none=>exact rd
  | some _=>exact(show False from r).elim
 | some _=>cases u with
  | none=>exact(show False from r).elim
  | some _=>exact r
theorem KV.val {kvs:List (κ×V)}{vs:List (κ×Value)}(r:KV kvs vs)(k:κ):RelO (valV kvs k) (valueAt vs k):=by
 unfold KV at r
 induction r with
 | nil=>exact True.intro
 | @cons p q ps qs h t ih=>
  obtain⟨h1,h2⟩:=h
  by_cases e:p.1=k
  ·have e':q.1=k:=h1.symm.trans e
   have b:valueAt (q::qs) k=some q.2:=by simp[valueAt,List.find?_cons,e']
   rw[bY e,b];exact h2
  ·have e':¬q.1=k:=λz=>e (h1.trans z)
   have b:valueAt (q::qs) k=valueAt qs k:=by simp[valueAt,List.find?_cons,e']
   rw[bM e,b];exact ih
theorem KV.any {kvs:List (κ×V)}{vs:List (κ×Value)}(r:KV kvs vs)(k:κ):(kvs.any λkv=>decide (kv.1=k))=vs.any λkv=>decide (kv.1=k):=by
 unfold KV at r
 induction r with
 | nil=>rfl
 | cons h t ih=>rw[List.any_cons,List.any_cons,ih,h.1]
theorem KV.repl {kvs:List (κ×V)}{vs:List (κ×Value)}(r:KV kvs vs)(k:κ){y:V}{u:Value}(ry:RelV y u) :
  KV (kvs.map λkv=>if kv.1=k then(kv.1,y) else kv) (vs.map λkv=>if kv.1=k then(kv.1,u) else kv):=by
 unfold KV at r ⊢
 induction r with
 | nil=>exact .nil
 | @cons p q ps qs h t ih=>
  rw[List.map_cons,List.map_cons]
  refine .cons ?_ ih
  obtain⟨h1,h2⟩:=h
  by_cases e:p.1=k
  ·rw[if_pos e,if_pos (h1.symm.trans e)];exact⟨h1,ry⟩
  ·rw[if_neg e,if_neg (λz=>e (h1.trans z))];exact⟨h1,h2⟩
theorem KV.put {kvs:List (κ×V)}{vs:List (κ×Value)}(r:KV kvs vs)(k:κ){y:V}{u:Value}(ry:RelV y u):KV (putK kvs k y) (stored vs k u):=by
 unfold putK stored
 rw[r.any k]
 by_cases e:(vs.any λkv=>decide (kv.1=k))=true
 ·rw[if_pos e,if_pos e];exact r.repl k ry
 ·rw[if_neg e,if_neg e];exact Paired.snoc r ⟨rfl,ry⟩
theorem KV.length {kvs:List (κ×V)}{vs:List (κ×Value)}(r:KV kvs vs):kvs.length=vs.length:=Paired.length r
end
theorem kJ {P:Program}{w:World}{k:Key}{u:Value}(r:RelV (kV k) u):(mixKind P w).is k u=true:=by
 cases k with
 | inl i=>obtain⟨t,e⟩:=(show ∃t,u=Value.int i t from r);subst e;exact rZ P w i t
 | inr x=>obtain⟨t,e⟩:=(show ∃t,u=Value.str x t from r);subst e;exact mL P w x t
theorem qg {P:Program}{w:World}:∀{ks:List Key} {us:List Value},Vals (ks.map kV) us->ItemsAre (mixKind P w) ks us
 | [],_,r=>by rw[List.map_nil] at r;cases r;exact .nil
 | k::ks,_,r=>by
  rw[List.map_cons] at r
  cases r with
  | cons h t=>exact .cons (kJ h) (qg t)
noncomputable abbrev KT (H:Hp):List (List Key×V)->List (List Key×Addr×Value)->Prop:=Paired λp q=>p.1=q.1/\H q.2.1=some (.tup (p.1.map kV))/\RelV p.2 q.2.2
theorem KT.val {H:Hp}{kvs:List (List Key×V)}{xs:List (List Key×Addr×Value)}(r:KT H kvs xs)(k:List Key):RelO (valV kvs k) ((atKey xs k).map (·.2)):=by
 induction r with
 | nil=>exact True.intro
 | @cons p q ps qs h t ih=>
  obtain⟨h1,_,h2⟩:=h
  by_cases e:p.1=k
  ·have e':q.1=k:=h1.symm.trans e
   have b:atKey (q::qs) k=some q.2:=by simp[atKey,List.find?_cons,e']
   rw[bY e,b];exact h2
  ·have e':¬q.1=k:=λz=>e (h1.trans z)
   have b:atKey (q::qs) k=atKey qs k:=by simp[atKey,List.find?_cons,e']
   rw[bM e,b];exact ih
theorem KT.repl {H:Hp}{kvs:List (List Key×V)}{xs:List (List Key×Addr×Value)}(r:KT H kvs xs)(k:List Key){y:V}{u:Value}(ry:RelV y u) :
  KT H (kvs.map λkv=>if kv.1=k then(kv.1,y) else kv) (xs.map (putAt k u)):=by
 induction r with
 | nil=>exact .nil
 | @cons p q ps qs h t ih=>
  rw[List.map_cons,List.map_cons]
  refine .cons ?_ ih
  obtain⟨h1,h2,h3⟩:=h
  unfold putAt
  by_cases e:p.1=k
  ·rw[if_pos e,if_pos (h1.symm.trans e)];exact⟨h1,h2,ry⟩
  ·rw[if_neg e,if_neg (λz=>e (h1.trans z))];exact⟨h1,h2,h3⟩
theorem KT.put {H:Hp}{kvs:List (List Key×V)}{xs:List (List Key×Addr×Value)}(r:KT H kvs xs)(k:List Key){b:Addr}{y:V}{u:Value}(hb:H b=some (.tup (k.map kV)))(ry:RelV y u) :
  KT H (putK kvs k y) (storedH xs k b u):=by
 have e:(kvs.any λkv=>decide (kv.1=k))=(atKey xs k).isSome:=by
  rw[kI,(r.val k).gC,Option.isSome_map]
 unfold putK storedH
 rw[e]
 by_cases q:(atKey xs k).isSome=true
 ·rw[if_pos q,if_pos q];exact r.repl k ry
 ·rw[if_neg q,if_neg q];exact Paired.snoc r ⟨rfl,hb,ry⟩
theorem KT.keeps {H H':Hp}{kvs:List (List Key×V)}{xs:List (List Key×Addr×Value)}(r:KT H kvs xs)(ht:∀b ys,H b=some (.tup ys)->H' b=some (.tup ys)):KT H' kvs xs:=
 Paired.mapP r λ_ _ z=>⟨z.1,ht _ _ z.2.1,z.2.2⟩
section
variable {P:Program} {w:World} {H:Hp} {h:Heap} {a:Addr}
theorem Cv {u:HO}(ok:HOk P w H h)(e:Rd H a u):ObjOk P w H h a u:=e.ok ok
theorem kK {kvs:List (Key×V)}(ok:HOk P w H h)(e:Rd H a (.dK kvs)):kvs.length<=sizeLine/\(a == sysModules)=false/\∃vs,KV kvs vs/\h.DictOf (mixKind P w) a vs:=
 show ObjOk P w H h a (.dK kvs) from Cv ok e
theorem Cw {kvs:List (Key×V)}(ok:HOk P w H h)(e:H a=some (.dK kvs)):kvs.length<=sizeLine/\(a == sysModules)=false/\∃vs,KV kvs vs/\h.DictOf (mixKind P w) a vs:=kK ok (.inl e)
theorem j9 {ks:List Key}(ok:HOk P w H h)(e:H a=some (.tup (ks.map kV))):(tupleKind (mixKind P w)).is h ks a:=by
 obtain⟨_,its,r,o,h1,h2,n,h3⟩:=(show ObjOk P w H h a (.tup (ks.map kV)) from ok a _ e)
 exact⟨o,its.toArray,n,h1,h2,h3,by simpa using qg r⟩
theorem mO {kvs:List (List Key×V)}(ok:HOk P w H h)(e:Rd H a (.dT kvs)):kvs.length<=sizeLine/\(a == sysModules)=false/\
  ∃xs,KT H kvs xs/\h.DictOfH (tupleKind (mixKind P w)) a xs:=by
 obtain⟨z,y,xs,r,o,es,ep,h1,h2,h3,h4,h5⟩:=(show ObjOk P w H h a (.dT kvs) from Cv ok e)
 refine⟨z,y,xs,r,o,es,ep,h1,h2,h3,h4,λx hx=>?_,h5⟩
 have all:∀{l:List (List Key×V)} {m:List (List Key×Addr×Value)},KT H l m->∀x∈m,(tupleKind (mixKind P w)).is h x.1 x.2.1:=by
  intro l m q
  induction q with
  | nil=>intro x hx;exact nomatch hx
  | @cons p q ps qs hq t ih=>
   intro x hx
   rcases List.mem_cons.mp hx with e | hx
   ·subst e
    exact j9 ok (by rw[<-hq.1];exact hq.2.1)
   ·exact ih x hx
 exact all r x hx
theorem EL {kvs:List (List Key×V)}(ok:HOk P w H h)(e:H a=some (.dT kvs)):kvs.length<=sizeLine/\(a == sysModules)=false/\
  ∃xs,KT H kvs xs/\h.DictOfH (tupleKind (mixKind P w)) a xs:=mO ok (.inl e)
end
noncomputable def DGet (H:Hp)(a:Addr)(y:V)(r:Option V):Prop:=
 (∃kvs k,Rd H a (.dK kvs)/\y=kV k/\r=valV kvs k)\/∃kvs k b,Rd H a (.dT kvs)/\y=.ref b/\H b=some (.tup (k.map kV))/\r=valV kvs k
noncomputable def DPut (H:Hp)(a:Addr)(y v:V)(H':Hp):Prop:=
 (∃kvs k,H a=some (.dK kvs)/\y=kV k/\kvs.length < sizeLine/\H'=upd H a (.dK (putK kvs k v)))\/
 ∃kvs k b,H a=some (.dT kvs)/\y=.ref b/\H b=some (.tup (k.map kV))/\kvs.length < sizeLine/\H'=upd H a (.dT (putK kvs k v))
theorem DGet.k {H:Hp}{a:Addr}{kvs:List (Key×V)}{k:Key}(e:H a=some (.dK kvs)):DGet H a (kV k) (valV kvs k):=.inl ⟨kvs,k,.inl e,rfl,rfl⟩
theorem DPut.k {H:Hp}{a:Addr}{kvs:List (Key×V)}{k:Key}{v:V}(e:H a=some (.dK kvs))(hl:kvs.length < sizeLine):DPut H a (kV k) v (upd H a (.dK (putK kvs k v))):=.inl ⟨kvs,k,e,rfl,hl,rfl⟩
section
variable {X:Cx} {pins:List (Addr×Obj)} {σ:St} {H:Hp} {s:Shared} {a:Addr} {y v:V} {u r:Value} {o:Option V} {A:Around} {E:Value->Shared->Prop}
theorem Inv.big (I:Inv X pins σ H s):sysModules < s.heap.objs.size:=by
 have h:mainGlobals < s.heap.objs.size:=(I.mod.glob.keeps I.bk).lt
 exact Nat.lt_trans (by decide) h
theorem xu {Q:Value->Shared->Prop}(hu:A.units+1 < cLine)(I:Inv X pins σ H s)(g:DGet H a y (some v))(ry:RelV y u)(h:∀w' s',Inv X pins σ H s'->RelV v w'->Q w' s') :
  wpAny (model X.prog X.w) A (getItem (.ref a) u) Q E s:=by
 rcases g with⟨kvs,k,e,ey,l⟩ | ⟨kvs,k,b,e,ey,eb,l⟩
 ·subst ey
  obtain⟨z,hd,vs,rel,dd⟩:=kK I.hok e
  obtain⟨w',hw,rw'⟩:=RelO.some_of (v:=v) (o:=valueAt vs k) (by rw[l];exact rel.val k)
  exact wpAny_getItem_of (kJ ry) dd.mapOf hw (h w' _ (I.tok _) rw')
 ·subst ey
  cases (show u=Value.ref b from ry)
  obtain⟨z,hd,xs,rel,dd⟩:=mO I.hok e
  obtain⟨w',hw,rw'⟩:=RelO.some_of (v:=v) (o:=(atKey xs k).map (·.2)) (by rw[l];exact rel.val k)
  obtain⟨p,hp,hp2⟩:=Option.map_eq_some_iff.mp hw
  refine wpAny_getItem_heap (tupleKind_room_in1 hu) (j9 I.hok eb) dd hp ?_
  rw[hp2]
  exact h w' _ (I.tok _) rw'
theorem Fp {Q:Value->Shared->Prop}(hu:A.units+1 < cLine)(I:Inv X pins σ H s)(g:DGet H a y o)(ry:RelV y u)(h:∀s',Inv X pins σ H s'->Q (.bool o.isSome) s') :
  wpAny (model X.prog X.w) A (compareOp .In u (.ref a)) Q E s:=by
 rcases g with⟨kvs,k,e,ey,l⟩ | ⟨kvs,k,b,e,ey,eb,l⟩
 ·subst ey
  obtain⟨z,hd,vs,rel,dd⟩:=kK I.hok e
  refine wpAny_in_of (kJ ry) hd dd.mapOf ?_
  rw[<-(rel.val k).gC,<-l]
  exact h _ (I.tok _)
 ·subst ey
  cases (show u=Value.ref b from ry)
  obtain⟨z,hd,xs,rel,dd⟩:=mO I.hok e
  refine wpAny_in_heap (tupleKind_room_in1 hu) (j9 I.hok eb) hd dd ?_
  have q:=(rel.val k).gC
  rw[Option.isSome_map] at q
  rw[<-q,<-l]
  exact h _ (I.tok _)
theorem Br {Q:Value->Shared->Prop}(hu:A.units+1 < cLine)(I:Inv X pins σ H s)(g:DGet H a y o)(ry:RelV y u)(h:∀s',Inv X pins σ H s'->Q (.bool (!o.isSome)) s') :
  wpAny (model X.prog X.w) A (compareOp .NotIn u (.ref a)) Q E s:=by
 rcases g with⟨kvs,k,e,ey,l⟩ | ⟨kvs,k,b,e,ey,eb,l⟩
 ·subst ey
  obtain⟨z,hd,vs,rel,dd⟩:=kK I.hok e
  refine wpAny_notIn_of (kJ ry) hd dd.mapOf ?_
  rw[<-(rel.val k).gC,<-l]
  exact h _ (I.tok _)
 ·subst ey
  cases (show u=Value.ref b from ry)
  obtain⟨z,hd,xs,rel,dd⟩:=mO I.hok e
  refine wpAny_notIn_heap (tupleKind_room_in1 hu) (j9 I.hok eb) hd dd ?_
  have q:=(rel.val k).gC
  rw[Option.isSome_map] at q
  rw[<-q,<-l]
  exact h _ (I.tok _)
theorem qZ {h':Heap}{t':Nat}{ob:HO}(I:Inv X pins σ H s)(mu:Mut (H a))(hs:Heap.SameBut a s.heap h')(he:∃q,h'.get? a=some q)(new:ObjOk X.prog X.w (upd H a ob) h' a ob) :
  Inv X pins σ (upd H a ob) { s with heap:=h',toks:=t' }:=
 I.write (x:=a) (e:=a) mu (.inl rfl) (λb q hb z=>(hs.2 b hb).trans z) he new
theorem zR {P:Program}{w:World}{H':Hp}{h':Heap}{kvs:List (Key×V)}{vs:List (Key×Value)}(z:kvs.length<=sizeLine)(hd:(a == sysModules)=false)(rel:KV kvs vs)(dd:h'.DictOf (mixKind P w) a vs) :
  ObjOk P w H' h' a (.dK kvs):=⟨z,hd,vs,rel,dd⟩
theorem xv {H':Hp}{Q:Unit->Shared->Prop}(hu:A.units+1 < cLine)(I:Inv X pins σ H s)(g:DPut H a y v H')(ry:RelV y u)(rv:RelV v r)(h:∀s',Inv X pins σ H' s'->Q () s') :
  wpAny (model X.prog X.w) A (setItem (.ref a) u r) Q E s:=by
 rcases g with⟨kvs,k,e,ey,l,eH⟩ | ⟨kvs,k,b,e,ey,eb,l,eH⟩
 ·subst ey eH
  obtain⟨z,hd,vs,rel,dd⟩:=Cw I.hok e
  have hz:vs.length<=sizeLine:=by rw[<-rel.length];exact z
  have hl:(putK kvs k v).length<=sizeLine:=by have:=bF kvs k v;omega
  refine wpAny_setItem_pairs (hsz:=hz) (kJ ry) dd λh' dd' hs=>h _ ?_
  have he:∃q,h'.get? a=some q:=let ⟨q,_,_,hq,_⟩:=dd';⟨q,hq⟩
  exact qZ I (by rw[e];exact True.intro) hs he (zR hl hd (rel.put k rv) dd')
 ·subst ey eH
  cases (show u=Value.ref b from ry)
  obtain⟨z,hd,xs,rel,dd⟩:=EL I.hok e
  have hz:xs.length<=sizeLine:=by rw[<-Paired.length rel];exact z
  have hl:(putK kvs k v).length<=sizeLine:=by have:=bF kvs k v;omega
  refine wpAny_setItem_heap (hsz:=hz) (tupleKind_room_in1 hu) (j9 I.hok eb) dd λh' dd' hs=>h _ ?_
  obtain⟨q,es,ep,hq,h2,h3,h4,_,h5⟩:=dd'
  refine qZ I (by rw[e];exact True.intro) hs ⟨q,hq⟩ ⟨hl,hd,_,(rel.put k eb rv).keeps λc ys ec=>?_,q,es,ep,hq,h2,h3,h4,h5⟩
  rw[aj (iL ec e (λz=>nomatch z))]
  exact ec
end
section
variable {X:Cx} {pins:List (Addr×Obj)} {σ:St} {H:Hp} {s:Shared} {a:Addr} {kvs:List (Key×V)} {k:Key} {u:Value} {A:Around} {E:Value->Shared->Prop}
theorem EM {Q:Value->Shared->Prop}(I:Inv X pins σ H s)(e:Rd H a (.dK kvs))(h:∀t s',Inv X pins σ H s'->Q (.int kvs.length t) s'):wpAny (model X.prog X.w) A (call (.builtin "len") [.ref a]) Q E s:=by
 obtain⟨z,hd,vs,rel,dd⟩:=kK I.hok e
 refine call_len_dict hd dd (by rw[<-rel.length];rw[sizeLine_eq] at z;omega) ?_
 rw[<-rel.length]
 exact h _ _ (I.tok _)
end
theorem sy {X:Cx}{pins:List (Addr×Obj)}{σ:St}{H:Hp}{s:Shared}{a:Addr}{y:V}{o:Option V}(I:Inv X pins σ H s)(g:DGet H a y o):s.TypeIs (.ref a) "dict":=by
 rcases g with⟨kvs,k,e,_,_⟩ | ⟨kvs,k,b,e,_,_,_⟩
 ·obtain⟨_,_,vs,_,dd⟩:=kK I.hok e
  exact dd.typeIs
 ·obtain⟨_,_,xs,_,dd⟩:=mO I.hok e
  exact dd.typeIs
section
variable {X:Cx} {o i e value:Expr} {pos pos' tpos:Pos} {td ty tv:TE}
end
theorem sC {P:Program}{w:World}{H:Hp}(h:Heap)(hb:sysModules < h.objs.size):ObjOk P w H (h.push { cls:=.type "dict",data:=.dict #[] }) h.objs.size (.dK []):=
 ⟨Nat.zero_le _,beq_eq_false_iff_ne.mpr (Ne.symm (Nat.ne_of_lt hb)),[],.nil,Heap.DictOf.new h⟩
noncomputable def tDNewK:TE:=λ_ H Q=>∀p,H p=none->Q (.ref p) (upd H p (.dK []))
section
variable {X:Cx} {pos:Pos}
theorem dU:PE X (.Dict [] [] pos) tDNewK:=λpins s σ H Q I h=>
 wpAny_Dict_empty ⟨.ref s.heap.objs.size,_,I.laid (a:=s.heap.objs.size) (o:=.dK []) (t':=s.toks) (λ_ _ q=>Heap.get?_push_of_some _ q) (Nat.le_refl _) (sC s.heap I.big),rfl,h _ (I.hok.fresh (Nat.le_refl _))⟩
end
noncomputable def tPairs:List (TE×TE)->St->Hp->(List (V×V)->Hp->Prop)->Prop
 | [],_,H,Q=>Q [] H
 | (tk,tv)::r,σ,H,Q=>tk σ H λx H1=>tv σ H1 λy H2=>tPairs r σ H2 λps H3=>Q ((x,y)::ps) H3
noncomputable abbrev VV:List (V×V)->List (Value×Value)->Prop:=Paired λp q=>RelV p.1 q.1/\RelV p.2 q.2
noncomputable def PPs (X:Cx)(pos:Pos)(keys:List (Option Expr))(values:List Expr)(trs:List (TE×TE)):Prop:=
 ∀(pins:List (Addr×Obj)) (s:Shared) (σ:St) (H:Hp) (Q:List (V×V)->Hp->Prop),Inv X pins σ H s->tPairs trs σ H Q->
  wpAny (model X.prog X.w) X.A (evalPairs (pairTrees keys values X.env pos)) (λvs s'=>∃ps H',Inv X pins σ H' s'/\VV ps vs/\Q ps H') X.xe s
theorem Bs {X:Cx}{pos:Pos}:PPs X pos [] [] []:=λpins s σ H Q I h=>pairTrees_nil_walk ⟨[],H,I,.nil,h⟩
theorem zS {X:Cx}{pos:Pos}{k v:Expr}{ks:List (Option Expr)}{vs:List Expr}{tk tv:TE}{trs:List (TE×TE)}(hk:PE X k tk)(hv:PE X v tv)(hr:PPs X pos ks vs trs) :
  PPs X pos (some k::ks) (v::vs) ((tk,tv)::trs):=λpins s σ H Q I h=>
 pairTrees_cons_walk (thnE (hk pins s σ H _ I h) λu s1 x H1 I1 rx q1=>thnE (hv pins s1 σ H1 _ I1 q1) λw2 s2 y H2 I2 ry q2=>
  thn (hr pins s2 σ H2 _ I2 q2) λws s3 ⟨ps,H3,I3,rel,q3⟩=>⟨(x,y)::ps,H3,I3,.cons ⟨rx,ry⟩ rel,q3⟩)
noncomputable def mergeK (kvs more:List (Key×V)):List (Key×V):=more.foldl (λacc kv=>putK acc kv.1 kv.2) kvs
theorem KV.merge:∀{more:List (Key×V)} {rs:List (Key×Value)} {kvs:List (Key×V)} {vs:List (Key×Value)},KV more rs->KV kvs vs->KV (mergeK kvs more) (merged vs rs):=by
 intro more rs kvs vs r
 unfold KV at r
 induction r generalizing kvs vs with
 | nil=>intro q;exact q
 | @cons p q ps qs h t ih=>
  intro r0
  have e:KV (putK kvs p.1 p.2) (stored vs q.1 q.2):=by
   have:=r0.put p.1 h.2
   rw[<-h.1];exact this
  exact ih e
theorem jX:∀(more kvs:List (Key×V)),(mergeK kvs more).length<=kvs.length+more.length
 | [],kvs=>by show kvs.length<=kvs.length+0;omega
 | p::r,kvs=>by
  have h1:=jX r (putK kvs p.1 p.2)
  have h2:=bF kvs p.1 p.2
  show(mergeK (putK kvs p.1 p.2) r).length<=_
  rw[List.length_cons];omega
theorem nW {P:Program}{w:World}:∀{kvs:List (Key×V)} {ws:List (Value×Value)},VV (kvs.map λkv=>(kV kv.1,kv.2)) ws->∃rs,Carries (mixKind P w) ws rs/\KV kvs rs
 | [],_,r=>by rw[List.map_nil] at r;cases r;exact⟨[],True.intro,.nil⟩
 | p::kvs,_,r=>by
  rw[List.map_cons] at r
  cases r with
  | @cons a b as bs h t=>
   obtain⟨rs,c,q⟩:=nW (P:=P) (w:=w) t
   obtain⟨b1,b2⟩:=b
   exact⟨(p.1,b2)::rs,⟨kJ h.1,rfl,c⟩,.cons ⟨rfl,h.2⟩ q⟩
noncomputable def tDisp (trs:List (TE×TE)):TE:=λσ H Q=>∀p,H p=none->tPairs trs σ (upd H p (.dK [])) λps H2=>H2 p=some (.dK [])/\∃kvs:List (Key×V),ps=kvs.map (λkv=>(kV kv.1,kv.2))/\kvs.length<=15/\Q (.ref p) (upd H2 p (.dK (mergeK [] kvs)))
theorem Bt {X:Cx}{pos:Pos}{keys:List (Option Expr)}{values:List Expr}{trs:List (TE×TE)}(h:PPs X pos keys values trs)(hall:keys.all (·.isSome)=true)(hl:keys.length=values.length)(h0:keys≠[])
  (h15:keys.length<=15):PE X (.Dict keys values pos) (tDisp trs):=by
 intro pins s σ H Q I q
 have hn:=I.hok.fresh (Nat.le_refl s.heap.objs.size)
 have I1:=I.laid (a:=s.heap.objs.size) (o:=.dK []) (h':=s.heap.push { cls:=.type "dict",data:=.dict #[] }) (t':=s.toks) (λ_ _ q=>Heap.get?_push_of_some _ q) (Nat.le_refl _) (sC s.heap I.big)
 refine wpAny_Dict_walk (knd:=mixKind X.prog X.w) hall hl h0 h15 (thn (h pins _ σ _ _ I1 (q _ hn)) λws s2 ⟨ps,H2,I2,rel,e,kvs,ep,lk,q2⟩=>?_)
 subst ep
 obtain⟨rs,c,rk⟩:=nW (P:=X.prog) (w:=X.w) rel
 obtain⟨z,hd,vs0,r0,dd⟩:=Cw I2.hok e
 cases r0
 refine⟨rs,c,dd,λh' dd' hs=>⟨.ref s.heap.objs.size,_,?_,rfl,q2⟩⟩
 have hz:(mergeK [] kvs).length<=sizeLine:=by
  have h1:=jX kvs []
  rw[List.length_nil] at h1
  rw[sizeLine_eq];omega
 have he:∃q,h'.get? s.heap.objs.size=some q:=let ⟨q,_,_,hq,_⟩:=dd';⟨q,hq⟩
 exact qZ I2 (by rw[e];exact True.intro) hs he (zR hz hd (rk.merge .nil) dd')
structure M1 (X:Cx)(o:Expr)(m:Str)(apos:Pos)(e:Expr)(cpos:Pos):Prop where
 base:attributeBase o m X.env (eval o X.env)=eval o X.env
 few:((backTo cpos (starEach [e] X.env)).all (λx=>!x.1) && (backToKw cpos (keywordEach [] X.env)).all (λx=>x.1.isSome)
  && decide (([e]:List Expr).length+([]:List Keyword).length+(if ([]:List Keyword).isEmpty then 0 else 1) < 30))=true
 line:(apos.endLine == cpos.line)=true
 trees:backTo cpos (starEach [e] X.env)=[(false,eval e X.env)]
structure M2 (X:Cx)(o:Expr)(m:Str)(apos:Pos)(e f:Expr)(cpos:Pos):Prop where
 base:attributeBase o m X.env (eval o X.env)=eval o X.env
 few:((backTo cpos (starEach [e,f] X.env)).all (λx=>!x.1) && (backToKw cpos (keywordEach [] X.env)).all (λx=>x.1.isSome)
  && decide (([e,f]:List Expr).length+([]:List Keyword).length+(if ([]:List Keyword).isEmpty then 0 else 1) < 30))=true
 line:(apos.endLine == cpos.line)=true
 trees:backTo cpos (starEach [e,f] X.env)=[(false,eval e X.env),(false,eval f X.env)]
noncomputable def IsD (H:Hp)(a:Addr):Prop:=(∃kvs,Rd H a (.dK kvs))\/∃kvs,Rd H a (.dT kvs)
theorem zT {X:Cx}{pins:List (Addr×Obj)}{σ:St}{H:Hp}{s:Shared}{a:Addr}(I:Inv X pins σ H s)(d:IsD H a) :
  s.TypeIs (.ref a) "dict" /\ (∀b,Value.ref a=.ref b->∃ob,s.heap.get? b=some ob/\ob.dict=none)/\(a == sysModules)=false:=by
 rcases d with⟨kvs,e⟩ | ⟨kvs,e⟩
 ·obtain⟨_,hd,vs,_,dd⟩:=kK I.hok e
  refine⟨dd.typeIs,λb q=>?_,hd⟩
  cases q
  obtain⟨ob,_,_,h1,h2,_⟩:=dd
  exact⟨ob,h1,h2.2.1⟩
 ·obtain⟨_,hd,xs,_,dd⟩:=mO I.hok e
  refine⟨dd.typeIs,λb q=>?_,hd⟩
  cases q
  obtain⟨ob,_,_,h1,h2,_⟩:=dd
  exact⟨ob,h1,h2.2.1⟩
section
variable {X:Cx} {pins:List (Addr×Obj)} {σ:St} {H:Hp} {s:Shared} {a:Addr} {y d:V} {u r:Value} {o:Option V} {A:Around} {E:Value->Shared->Prop}
theorem Dw {Q:Value->Shared->Prop}(hu:A.units+1 < cLine)(I:Inv X pins σ H s)(g:DGet H a y o)(ry:RelV y u)(h:∀w' s',Inv X pins σ H s'->RelV (o.getD .non) w'->Q w' s') :
  wpAny (model X.prog X.w) A (call (.builtin "dict.get") [.ref a,u]) Q E s:=by
 rcases g with⟨kvs,k,e,ey,l⟩ | ⟨kvs,k,b,e,ey,eb,l⟩
 ·subst ey
  obtain⟨z,hd,vs,rel,dd⟩:=kK I.hok e
  refine call_meetsIn PySem.F.slot_dict_get dd.typeIs PySem.F.entry_dict_get (PySem.F.args_dict_get_2 _ _) (meets_dict_get (mixKind X.prog X.w) a (kJ ry) hd) ⟨_,dd.mapOf,h _ _ (I.tok _) ?_⟩
  rw[l]
  exact(rel.val k).getD rfl
 ·subst ey
  cases (show u=Value.ref b from ry)
  obtain⟨z,hd,xs,rel,dd⟩:=mO I.hok e
  refine call_meetsIn PySem.F.slot_dict_get dd.typeIs PySem.F.entry_dict_get (PySem.F.args_dict_get_2 _ _) (meetsH_dict_get (tupleKind (mixKind X.prog X.w)) a b hd) ⟨tupleKind_room_in1 hu,k,xs,j9 I.hok eb,dd,h _ _ (I.tok _) ?_⟩
  rw[l]
  exact(rel.val k).getD rfl
theorem Dx {Q:Value->Shared->Prop}(hu:A.units+1 < cLine)(I:Inv X pins σ H s)(g:DGet H a y o)(ry:RelV y u)(rd:RelV d r)(h:∀w' s',Inv X pins σ H s'->RelV (o.getD d) w'->Q w' s') :
  wpAny (model X.prog X.w) A (call (.builtin "dict.get") [.ref a,u,r]) Q E s:=by
 rcases g with⟨kvs,k,e,ey,l⟩ | ⟨kvs,k,b,e,ey,eb,l⟩
 ·subst ey
  obtain⟨z,hd,vs,rel,dd⟩:=kK I.hok e
  refine call_meetsIn PySem.F.slot_dict_get dd.typeIs PySem.F.entry_dict_get (PySem.F.args_dict_get_3 _ _ _) (meets_dict_get_default (mixKind X.prog X.w) a (kJ ry) hd r) ⟨_,dd.mapOf,h _ _ (I.tok _) ?_⟩
  rw[l]
  exact(rel.val k).getD rd
 ·subst ey
  cases (show u=Value.ref b from ry)
  obtain⟨z,hd,xs,rel,dd⟩:=mO I.hok e
  refine call_meetsIn PySem.F.slot_dict_get dd.typeIs PySem.F.entry_dict_get (PySem.F.args_dict_get_3 _ _ _) (meetsH_dict_get_default (tupleKind (mixKind X.prog X.w)) a b hd r) ⟨tupleKind_room_in1 hu,k,xs,j9 I.hok eb,dd,h _ _ (I.tok _) ?_⟩
  rw[l]
  exact(rel.val k).getD rd
end
noncomputable def tDGet1 (td ty:TE):TE:=λσ H Q=>td σ H λx H1=>∃a,x=.ref a/\IsD H1 a/\ty σ H1 λy H2=>∃o,DGet H2 a y o/\Q (o.getD .non) H2
noncomputable def tDGet2 (td ty tx:TE):TE:=λσ H Q=>td σ H λx H1=>∃a,x=.ref a/\IsD H1 a/\ty σ H1 λy H2=>tx σ H2 λz H3=>∃o,DGet H3 a y o/\Q (o.getD z) H3
noncomputable def tDPop1 (td ty:TE):TE:=λσ H Q=>td σ H λx H1=>∃a,x=.ref a/\IsD H1 a/\ty σ H1 λy H2=>∃kvs k v,H2 a=some (.dK kvs)/\y=kV k/\valV kvs k=some v/\Q v (upd H2 a (.dK (dropK kvs k)))
noncomputable def tDPop2 (td ty tx:TE):TE:=λσ H Q=>td σ H λx H1=>∃a,x=.ref a/\IsD H1 a/\ty σ H1 λy H2=>tx σ H2 λz H3=>∃kvs k,H3 a=some (.dK kvs)/\y=kV k/\
 (∀v,valV kvs k=some v->Q v (upd H3 a (.dK (dropK kvs k))))/\(valV kvs k=none->Q z H3)
section
variable {X:Cx} {o e f:Expr} {apos cpos:Pos} {td ty tx:TE}
theorem zU (hu:X.A.units+1 < cLine)(ho:PE X o td)(he:PE X e ty)(m:M1 X o "get" apos e cpos):PE X (.Call (.Attribute o "get" apos) [e] [] cpos) (tDGet1 td ty):=by
 intro pins s σ H Q I h
 refine wpAny_Call_method m.base m.few m.line PySem.F.plainAttrs_dict PySem.F.slot_dict_get PySem.F.type_dict_get (thn (ho pins s σ H _ I h) λu s1 ⟨x,H1,I1,rx,a,ex,d,q1⟩=>?_)
 subst ex
 obtain rfl:u=Value.ref a:=rx
 obtain⟨t1,t2,_⟩:=zT I1 d
 refine⟨t1,t2,?_⟩
 rw[m.trees]
 refine Calls.callWith_builtin rfl (Calls.evalArgs_plain (Calls.spliced_cons (thn (he pins s1 σ H1 _ I1 q1) λiv s2 ⟨y,H2,I2,ry,ov,g,q2⟩=>Calls.spliced_nil ?_)))
 exact Dw hu I2 g ry λw' s3 I3 rw'=>⟨_,H2,I3,rw',q2⟩
theorem nX (hu:X.A.units+1 < cLine)(ho:PE X o td)(he:PE X e ty)(hf:PE X f tx)(m:M2 X o "get" apos e f cpos):PE X (.Call (.Attribute o "get" apos) [e,f] [] cpos) (tDGet2 td ty tx):=by
 intro pins s σ H Q I h
 refine wpAny_Call_method m.base m.few m.line PySem.F.plainAttrs_dict PySem.F.slot_dict_get PySem.F.type_dict_get (thn (ho pins s σ H _ I h) λu s1 ⟨x,H1,I1,rx,a,ex,d,q1⟩=>?_)
 subst ex
 obtain rfl:u=Value.ref a:=rx
 obtain⟨t1,t2,_⟩:=zT I1 d
 refine⟨t1,t2,?_⟩
 rw[m.trees]
 refine Calls.callWith_builtin rfl (Calls.evalArgs_plain (Calls.spliced_cons (thnE (he pins s1 σ H1 _ I1 q1) λiv s2 y H2 I2 ry q2=>
  Calls.spliced_cons (thn (hf pins s2 σ H2 _ I2 q2) λfv s3 ⟨z,H3,I3,rz,ov,g,q3⟩=>Calls.spliced_nil ?_))))
 exact Dx hu I3 g ry rz λw' s4 I4 rw'=>⟨_,H3,I4,rw',q3⟩
end
section
variable {X:Cx} {pins:List (Addr×Obj)} {σ:St} {H:Hp} {s:Shared} {a:Addr} {kvs:List (Key×V)} {A:Around} {E:Value->Shared->Prop}
end
section
variable {X:Cx} {pins:List (Addr×Obj)} {σ:St} {H:Hp} {s:Shared} {a:Addr} {y:V} {u:Value} {A:Around} {E:Value->Shared->Prop}
end
end L2
namespace Att
open PySem PySem.W PySem.Calls PyProof.Rows
section
variable {prog:Program} {w:World} {A:Around} {E:Value->Shared->Prop} {s:Shared} {K:Frag}
end
end Att
namespace L2
open PySem PySem.Spec PyProof.Rows
section
variable {P:Program} {w:World} {K:W.Frag} {mg:Str->Option Value} {base:Heap}
end
section
variable {X:Cx}
theorem xx:CallR X (.builtin "len") (λxs H Q=>∃a kvs,xs=[V.ref a]/\H a=some (.dK kvs)/\Q (.int kvs.length) H):=by
 intro pins s σ H xs us Q I r h
 obtain⟨a,kvs,rfl,ha,q⟩:=h
 obtain⟨u,rfl,ru⟩:=vals1 r
 cases ru
 exact EM I (.inl ha) λt s' I'=>⟨.int kvs.length,H,I',⟨t,rfl⟩,q⟩
end
section
variable {κ:Type} [DecidableEq κ]
end
noncomputable def closOf (cells:List (Str×Addr)):List (Str×NameKind)->List (Str×Addr)->List (Str×Addr)
 | [],cs=>cs
 | (n,k)::r,cs=>if k=NameKind.free then(match cells.lookup n with | some a=>closOf cells r ((n,a)::cs) | none=>closOf cells r cs) else closOf cells r cs
theorem mP {env:Env}:∀(names:List (Str×NameKind)) (cs:List (Str×Addr)),(∀y∈names,y.2=NameKind.free->∃c,env.cells.lookup y.1=some c)->
  (forIn names cs λ(x:Str×NameKind) r=>match x with
   | (name,kind)=>if (kind == NameKind.free)=true then do let a <-cellOf env name;pure (ForInStep.yield ((name,a)::r)) else pure (ForInStep.yield r))=(pure (closOf env.cells names cs):Sem (List (Str×Addr)))
 | [],cs,_=>rfl
 | (n,k)::r,cs,h=>by
  have ih:=λcs'=>mP (env:=env) r cs' λy hy=>h y (List.mem_cons_of_mem _ hy)
  rw[List.forIn_cons]
  by_cases hk:k=NameKind.free
  ·obtain⟨c,hc⟩:=h (n,k) List.mem_cons_self hk
   have hc':env.cells.lookup n=some c:=hc
   have hcell:cellOf env n=pure c:=by unfold cellOf;rw[hc']
   have e1:closOf env.cells ((n,k)::r) cs=closOf env.cells r ((n,c)::cs):=by
    rw[closOf,if_pos hk,hc']
   rw[e1,<-ih ((n,c)::cs)]
   subst hk
   dsimp only
   rw[hcell]
   rfl
  ·have hb:(k == NameKind.free)=false:=by simpa using hk
   have e1:closOf env.cells ((n,k)::r) cs=closOf env.cells r cs:=by
    rw[closOf,if_neg hk]
   rw[e1,<-ih cs]
   dsimp only
   rw[hb]
   rfl
theorem ka {scope:Scope}{env:Env}(h:∀y∈scope.names,y.2=NameKind.free->∃c,env.cells.lookup y.1=some c):closureFor scope env=pure (closOf env.cells scope.names []):=by
 have e:=mP (env:=env) scope.names [] h
 unfold closureFor
 exact(congrArg (λt:Sem (List (Str×Addr))=>t >>= λs=>pure s) e).trans rfl
theorem bf {cells:List (Str×Addr)}:∀(names:List (Str×NameKind)) (cs:List (Str×Addr)),(∀x c,cs.lookup x=some c->cells.lookup x=some c)->∀x c,(closOf cells names cs).lookup x=some c->cells.lookup x=some c
 | [],cs,h,x,c,e=>h x c e
 | (n,k)::r,cs,h,x,c,e=>by
  by_cases hk:k=NameKind.free
  ·cases q:cells.lookup n with
   | none=>
    rw[closOf,if_pos hk,q] at e
    exact bf r cs h x c e
   | some a=>
    rw[closOf,if_pos hk,q] at e
    refine bf r _ (λy d z=>?_) x c e
    rw[List.lookup_cons] at z
    by_cases hy:(y == n)=true
    ·rw[hy] at z
     have hy':y=n:=by simpa using hy
     subst hy'
     exact q.trans z
    ·have hy':(y == n)=false:=by simpa using hy
     rw[hy'] at z
     exact h y d z
  ·rw[closOf,if_neg hk] at e
   exact bf r cs h x c e
theorem fu {cells:List (Str×Addr)}:∀(names:List (Str×NameKind)) (cs:List (Str×Addr)) (x:Str),(cs.lookup x).isSome=true->((closOf cells names cs).lookup x).isSome=true
 | [],cs,x,h=>h
 | (n,k)::r,cs,x,h=>by
  by_cases hk:k=NameKind.free
  ·cases q:cells.lookup n with
   | none=>rw[closOf,if_pos hk,q];exact fu r cs x h
   | some a=>
    rw[closOf,if_pos hk,q]
    refine fu r _ x ?_
    rw[List.lookup_cons]
    cases hy:x == n with
    | true=>rfl
    | false=>exact h
  ·rw[closOf,if_neg hk];exact fu r cs x h
theorem eF {cells:List (Str×Addr)}:∀(names:List (Str×NameKind)) (cs:List (Str×Addr)) (x:Str),(x,NameKind.free)∈names->(cells.lookup x).isSome=true->((closOf cells names cs).lookup x).isSome=true
 | [],cs,x,h,_=>by simp at h
 | (n,k)::r,cs,x,h,hc=>by
  rcases List.mem_cons.mp h with e | e
  ·cases e
   obtain⟨c,hc'⟩:=Option.isSome_iff_exists.mp hc
   rw[closOf,if_pos rfl,hc']
   refine fu r _ _ ?_
   rw[List.lookup_cons,beq_self_eq_true]
   rfl
  ·by_cases hk:k=NameKind.free
   ·cases q:cells.lookup n with
    | none=>rw[closOf,if_pos hk,q];exact eF r cs x e hc
    | some a=>rw[closOf,if_pos hk,q];exact eF r _ x e hc
   ·rw[closOf,if_neg hk];exact eF r cs x e hc
theorem lookup_mem {α:Type}:∀{l:List (Str×α)} {x:Str} {a:α},l.lookup x=some a->(x,a)∈l
 | [],x,a,h=>by simp at h
 | (n,k)::r,x,a,h=>by
  rw[List.lookup_cons] at h
  cases hx:x == n with
  | true=>
   rw[hx] at h
   have e:x=n:=by simpa using hx
   subst e
   cases h
   exact List.mem_cons_self
  | false=>
   rw[hx] at h
   exact List.mem_cons_of_mem _ (lookup_mem h)
theorem bT {env:Env}:∀(names:List (Str×NameKind)) (x:Str) (k:NameKind),
  (names.map λ(p:Str×NameKind)=>match p with | (n,k)=>if (k == NameKind.free && env.scope.kind == .function && env.kindOf n == some .cell) then(n,NameKind.cell) else(n,k)).lookup x=some k->
   names.lookup x=some k\/(k=.cell/\names.lookup x=some .free)
 | [],x,k,h=>by simp at h
 | (n,k₀)::r,x,k,h=>by
  rw[List.map_cons] at h
  dsimp only at h
  cases hx:x == n with
  | true=>
   rw[List.lookup_cons,hx]
   by_cases hc:(k₀ == NameKind.free && env.scope.kind == .function && env.kindOf n == some .cell)=true
   ·rw[if_pos hc,List.lookup_cons,hx] at h
    cases h
    have:k₀=.free:=by
     simp only[Bool.and_eq_true] at hc
     simpa using hc.1.1
    subst this
    exact .inr ⟨rfl,rfl⟩
   ·rw[if_neg hc,List.lookup_cons,hx] at h
    exact .inl h
  | false=>
   rw[List.lookup_cons,hx]
   by_cases hc:(k₀ == NameKind.free && env.scope.kind == .function && env.kindOf n == some .cell)=true
   ·rw[if_pos hc,List.lookup_cons,hx] at h
    exact bT r x k h
   ·rw[if_neg hc,List.lookup_cons,hx] at h
    exact bT r x k h
theorem gY {env:Env}:∀(names:List (Str×NameKind)) (x:Str),names.lookup x=some .free->
  (names.map λ(p:Str×NameKind)=>match p with | (n,k)=>if (k == NameKind.free && env.scope.kind == .function && env.kindOf n == some .cell) then(n,NameKind.cell) else(n,k)).lookup x=some .free\/
  (names.map λ(p:Str×NameKind)=>match p with | (n,k)=>if (k == NameKind.free && env.scope.kind == .function && env.kindOf n == some .cell) then(n,NameKind.cell) else(n,k)).lookup x=some .cell
 | [],x,h=>by simp at h
 | (n,k₀)::r,x,h=>by
  rw[List.map_cons]
  dsimp only
  cases hx:x == n with
  | true=>
   rw[List.lookup_cons,hx] at h
   cases h
   by_cases hc:(NameKind.free == NameKind.free && env.scope.kind == .function && env.kindOf n == some .cell)=true
   ·rw[if_pos hc,List.lookup_cons,hx]
    exact .inr rfl
   ·rw[if_neg hc,List.lookup_cons,hx]
    exact .inl rfl
  | false=>
   rw[List.lookup_cons,hx] at h
   by_cases hc:(k₀ == NameKind.free && env.scope.kind == .function && env.kindOf n == some .cell)=true
   ·rw[if_pos hc,List.lookup_cons,hx]
    exact gY r x h
   ·rw[if_neg hc,List.lookup_cons,hx]
    exact gY r x h
noncomputable def hideN (x y:Str):Str:=if y=x then Str.empty else y
noncomputable abbrev blk (X:Cx)(x:Str)(scope:Scope)(M:List Str)(C:Addr)(s₀:Shared)(H₀:Hp)(fp:List Addr):Cx:=
 { X with N:=x::M,s₀:=s₀,H₀:=H₀,env:=compEnvC scope (closOf X.env.cells scope.names []) C X.env,outer:=X.stack,stack:=X.stack,ex:=fp,fn:=λ_=>false,pn:=[],xe:=λ_ _=>False }
structure CompOk (N M:List Str)(sc:Scope)(x:Str)(scope:Scope):Prop where
 kind:scope.kind=.function
 cell:∀y∈scope.names,y.2≠.cell
 names:∀y∈scope.names,y.2=.local->scope.names.lookup y.1=some .local
 own:scope.names.lookup x=some .local
 free:∀y∈scope.names,y.2=.free->sc.names.lookup y.1=some .cell\/sc.names.lookup y.1=some .free
 hid:N.map (hideN x)=M
 nd:(x::M).Nodup
 others:∀y∈M,scope.names.lookup y≠some .local
 void:scope.names.lookup Str.empty=none
noncomputable def tComp (wi:TI)(tt:TT)(te:TE):TE:=λσ H Q=>wi σ H λJ H1=>∀D,H1 D=none->∃W:Nat->Nat->List V->Hp->Prop,(∃m,W 0 m [] (upd H1 D (.lst [])))/\∀i m ys H2,W i m ys H2->
 (J.stop i H2/\H2 D=some (.lst ys)/\Q (.ref D) H2)\/(J.go i H2/\ys.length < sizeLine/\∀x H3,J.yld i H2 x H3->tt (some x::σ) H3 λb H4=>
  if b=true then te (some x::σ) H4 λy H5=>H5 D=some (.lst ys)/\∃m',m' < m/\W (i+1) m' (ys++[y]) (upd H5 D (.lst (ys++[y]))) else ∃m',m' < m/\W (i+1) m' ys H4)
noncomputable def tYes:TT:=λ_ H Q=>Q true H
section
variable {prog:Program} {w:World} {A:Around} {R:Result->Shared->Prop} {s:Shared}
theorem sD {elt target iter:Expr}{ifs:List Expr}{scope:Scope}{pos:Pos}{it acc:Value}{env:Env}(Jv:Nat->Shared->Prop)
  (turn:∀n s,Jv n s->wpAny (model prog w) A (pyNext it) (λr s₁=>match r with
   | none=>R (.ok .next) s₁
   | some v=>wpAny (model prog w) A (letOwnedTupleGo target it v) (λ_ s₀=>wpAny (model prog w) A (assign target env v) (λ_ s₂=>
     wpAny (model prog w) A (forIn ifs true λc r=>if r=true then do let ok <-isTrue c env (eval c env);pure (ForInStep.yield ok) else pure (ForInStep.yield r)) (λok s₃=>
      if ok=true then wpAny (model prog w) A (eval elt env) (λx s₄=>wpAny (model prog w) A (call (.builtin "list.append") [acc,x]) (λ_ s₅=>∃m,m < n/\Jv m s₅) (λ_ _=>False) s₄) (λ_ _=>False) s₃
      else ∃m,m < n/\Jv m s₃) (λ_ _=>False) s₂) (λ_ _=>False) s₀) (λ_ _=>False) s₁) (λ_ _=>False) s)
  (n:Nat) (h:Jv n s):codeAny (model prog w) A (.compLoop (.ListComp elt [⟨target,iter,ifs,0⟩] scope pos) 0 it acc env) R s:=by
 have no:∀{α:Type} {t:Sem α} {Q:α->Shared->Prop} {E:Value->Shared->Prop} {s':Shared},wpAny (model prog w) A t Q (λ_ _=>False) s'->wpAny (model prog w) A t Q E s':=λh=>wpAny_mono h (λ_ _ q=>q) λ_ _ f=>f.elim
 refine codeAny_loop rfl Jv (λn s hI=>?_) n h
 refine wpAny_noted (env:=env) ?_
 rw[compTurn_list]
 refine wpAny_bind (wpAny_standAt (wpAny_bind (thn (no (turn n s hI)) λr s₁ h₁=>?_)))
 cases r with
 | none=>exact wpAny_pure h₁
 | some v=>
  refine wpAny_bind (thn (no h₁) λ_ s₀ h₀=>wpAny_bind (thn (no h₀) λ_ s₂ h₂=>wpAny_bind (thn (no h₂) λok s₃ h₃=>?_)))
  cases ok with
  | false=>exact wpAny_pure ⟨rfl,h₃⟩
  | true=>exact wpAny_bind (wpAny_bind (thn (no h₃) λx s₄ h₄=>wpAny_bind (thn (no h₄) λ_ s₅ h₅=>wpAny_pure (wpAny_pure ⟨rfl,h₅⟩))))
end
section
variable {X:Cx} {pins:List (Addr×Obj)} {σ:St} {H2:Hp} {s2:Shared} {E:Value->Shared->Prop}
end
noncomputable def hideT (xs:List Str)(y:Str):Str:=if y∈xs then Str.empty else y
noncomputable abbrev blkT (X:Cx)(xs:List Str)(scope:Scope)(M:List Str)(C:Addr)(s₀:Shared)(H₀:Hp)(fp:List Addr):Cx:=
 { X with N:=xs++M,s₀:=s₀,H₀:=H₀,env:=compEnvC scope (closOf X.env.cells scope.names []) C X.env,outer:=X.stack,stack:=X.stack,ex:=fp,fn:=λ_=>false,pn:=[],xe:=λ_ _=>False }
structure CompOkT (N M:List Str)(sc:Scope)(xs:List Str)(scope:Scope):Prop where
 kind:scope.kind=.function
 cell:∀y∈scope.names,y.2≠.cell
 names:∀y∈scope.names,y.2=.local->scope.names.lookup y.1=some .local
 free:∀y∈scope.names,y.2=.free->sc.names.lookup y.1=some .cell\/sc.names.lookup y.1=some .free
 hid:N.map (hideT xs)=M
 others:∀y∈M,scope.names.lookup y≠some .local
 void:scope.names.lookup Str.empty=none
noncomputable def tCompT (n:Nat)(wi:TI)(g:TG)(tt:TT)(te:TE):TE:=λσ H Q=>wi σ H λJ H1=>∀D,H1 D=none->∃W:Nat->Nat->List V->Hp->Prop,(∃m,W 0 m [] (upd H1 D (.lst [])))/\∀i m ys H2,W i m ys H2->
 (J.stop i H2/\H2 D=some (.lst ys)/\Q (.ref D) H2)\/(J.go i H2/\ys.length < sizeLine/\∀x H3,J.yld i H2 x H3->∀o:St,o.length=n->g x (o++σ) H3 λσ' H3'=>(∃o':St,o'.length=n/\σ'=o'++σ)/\tt σ' H3' λb H4=>
  if b=true then te σ' H4 λy H5=>H5 D=some (.lst ys)/\∃m',m' < m/\W (i+1) m' (ys++[y]) (upd H5 D (.lst (ys++[y]))) else ∃m',m' < m/\W (i+1) m' ys H4)
section
variable {X:Cx} {pins:List (Addr×Obj)} {σ:St} {H2:Hp} {s2:Shared} {E:Value->Shared->Prop}
theorem Bu {N M:List Str}{sc scope:Scope}{xs:List Str}{C:Addr}{H:Hp}{s:Shared}{fp:List Addr}(I:Inv X pins σ H s)(hsc:X.env.scope=sc)(O:CompOkT N M sc xs scope)(hC:s.heap.objs.size<=C)
  (hf:∀b∈fp,FpOk X pins H b) (hlt:∀b∈fp,b < s.heap.objs.size):(blkT X xs scope M C s H fp).Ok where
 mod:=I.ok.mod
 kind:=O.kind
 glob:=I.ok.glob
 blt:=I.ok.blt
 above:=hC
 inj:=λy z c e1 e2=>I.ok.inj y z c (bf _ _ (λ_ _ z=>by simp at z) _ _ e1) (bf _ _ (λ_ _ z=>by simp at z) _ _ e2)
 has:=λy hy=>by
  have q:scope.names.lookup y=some .free:=by
   rcases hy with hy | hy
   ·rcases bT _ _ _ hy with z | ⟨_,z⟩
    ·exact absurd rfl (O.cell _ (lookup_mem z))
    ·exact z
   ·rcases bT _ _ _ hy with z | ⟨z,_⟩
    ·exact z
    ·cases z
  have q2:=O.free _ (lookup_mem q) rfl
  rw[<-hsc] at q2
  obtain⟨c,hc⟩:=I.ok.has y q2
  exact Option.isSome_iff_exists.mp (eF _ _ _ (lookup_mem q) (by rw[hc];rfl))
 cab:=λy c h=>by cases h
 hd:=I.ok.hd
 frames:=I.ok.frames
 stk:=.inl rfl
 exf:=λb hb=>⟨Nat.ne_of_lt (Nat.lt_of_lt_of_le (hlt b hb) hC),λy c e=>(hf b hb).2.2.2.2.1 y c (bf _ _ (λ_ _ z=>by simp at z) _ _ e)⟩
 bs:=I.bs
 bsz:=Nat.le_trans I.ok.bsz I.sz
 noex:=λb o e hb=>by
  rcases(hf b hb).2.2.2.1 with z | z
  ·exact I.ok.noex b o e z
  ·exact absurd (Nat.lt_of_lt_of_le (Heap.lt_size (I.ok.bs b o e).1) z) (Nat.lt_irrefl _)
 exfs:=λb hb z=>by
  obtain⟨_,f1,f2,_⟩:=hf b hb
  exact(List.mem_cons.mp (I.stkSub b z)).elim f1 f2
 funs:=I.stack
 frf:=I.stkFree
theorem zV {N M:List Str}{sc scope:Scope}{xs:List Str}{H:Hp}{s:Shared}{fp:List Addr}{h':Heap}{tk:Nat}(I:Inv X pins σ H s)(hX:X.N=N)(hsc:X.env.scope=sc)(O:CompOkT N M sc xs scope)
  (hf:∀b∈fp,FpOk X pins H b) (hlt:∀b∈fp,b < s.heap.objs.size) {m:Str->Option Value} (hns:h'.Ns s.heap.objs.size m) (k:∀b u,s.heap.get? b=some u->h'.get? b=some u) :
  Inv (blkT X xs scope M s.heap.objs.size s H fp) [] (List.replicate xs.length none++σ) H { s with heap:=h',toks:=tk } where
 ok:=Bu I hsc O (Nat.le_refl _) hf hlt
 os:=rfl
 bare:=I.bare
 base:=Un.kept k
 loc:=by
  refine⟨m,hns,λj y v e1 e2 e3=>?_⟩
  by_cases hj:j < xs.length
  ·rw[List.getElem?_append_left (by simpa using hj),List.getElem?_replicate,if_pos hj] at e2
   cases e2
  ·obtain⟨i,rfl⟩:∃i,j=xs.length+i:=⟨j - xs.length,by omega⟩
   have e1':M[i]?=some y:=by
    have:=e1
    rw[List.getElem?_append_right (by omega)] at this
    simpa using this
   have e2':σ[i]?=some (some v):=by
    rw[List.getElem?_append_right (by simp)] at e2
    simpa using e2
   have hyM:y∈M:=List.mem_of_getElem? e1'
   have hfree:scope.names.lookup y=some .free:=by
    rcases e3 with e3 | e3 | e3
    ·rcases bT _ _ _ e3 with z | ⟨z,_⟩
     ·exact absurd z (O.others y hyM)
     ·cases z
    ·rcases bT _ _ _ e3 with z | ⟨_,z⟩
     ·exact absurd rfl (O.cell _ (lookup_mem z))
     ·exact z
    ·rcases bT _ _ _ e3 with z | ⟨z,_⟩
     ·exact z
     ·cases z
   have hN:X.N[i]?=some y:=by
    rw[hX]
    rw[<-O.hid,List.getElem?_map] at e1'
    cases q:N[i]? with
    | none=>rw[q] at e1';cases e1'
    | some z=>
     rw[q] at e1'
     have e4:hideT xs z=y:=Option.some.inj e1'
     unfold hideT at e4
     by_cases hz:z∈xs
     ·rw[if_pos hz] at e4
      rw[<-e4,O.void] at hfree
      cases hfree
     ·rw[if_neg hz] at e4
      rw[e4]
   have q2:=O.free _ (lookup_mem hfree) rfl
   rw[<-hsc] at q2
   have hvis:Vis X.env.scope y:=q2.elim (λz=>.inr (.inl z)) λz=>.inr (.inr z)
   obtain⟨m0,hn0,hl⟩:=I.loc
   obtain⟨u,r,l⟩:=hl i y v hN e2' hvis
   refine⟨u,r,?_⟩
   rcases l with⟨l,_⟩ | ⟨l,c,hc,z⟩
   ·exfalso
    have l':X.env.scope.names.lookup y=some .local:=l
    rcases q2 with q2 | q2
    ·have q2':X.env.scope.names.lookup y=some .cell:=q2
     rw[l'] at q2';cases q2'
    ·have q2':X.env.scope.names.lookup y=some .free:=q2
     rw[l'] at q2';cases q2'
   ·have hsome:=eF scope.names [] y (lookup_mem hfree) (cells:=X.env.cells) (by rw[hc];rfl)
    obtain⟨c',hc'⟩:=Option.isSome_iff_exists.mp hsome
    have e5:=bf _ _ (λ_ _ z=>by simp at z) _ _ hc'
    rw[hc] at e5
    cases e5
    obtain⟨o,ho,hd⟩:=z
    refine .inr ⟨?_,c,hc',o,k c o ho,hd⟩
    rcases gY (env:=X.env) _ _ hfree with z | z
    ·exact .inr z
    ·exact .inl z
 cell:=λy c e=>by
  obtain⟨v,o,ho,hd⟩:=I.cell y c (bf _ _ (λ_ _ z=>by simp at z) _ _ e)
  exact⟨v,o,k c o ho,hd⟩
 free:=I.hok.fresh (Nat.le_refl _)
 freeC:=λy c e=>I.freeC y c (bf _ _ (λ_ _ z=>by simp at z) _ _ e)
 pin:=λp hp=>by simp at hp
 hok:=I.hok.kept k
 len:=by
  have e:N.length=M.length:=by rw[<-O.hid,List.length_map]
  rw[List.length_append,List.length_replicate,List.length_append]
  rw[I.len,hX,e]
variable {elt iter tg:Expr} {ifs:List Expr} {xs:List Str} {pos:Pos} {g:TG} {N M:List Str} {sc scope:Scope} {tt:TT} {te:TE} {it:Addr} {fp:List Addr} {tn:Nat->Heap->Prop} {J:It}
theorem mQ (hcalm:X.calm=true)(hX:X.N=N)(hsc:X.env.scope=sc)(O:CompOkT N M sc xs scope)
  (hts:∀(C:Addr) (s₀:Shared) (H₀:Hp) (fp:List Addr) (pins:List (Addr×Obj)) (s:Shared) (σ:St) (H:Hp) (Q:Bool->Hp->Prop),Inv (blkT X xs scope M C s₀ H₀ fp) pins σ H s->tt σ H Q->
   wpAny (model X.prog X.w) X.A (forIn ifs true λc r=>if r=true then do let ok <-isTrue c (blkT X xs scope M C s₀ H₀ fp).env (eval c (blkT X xs scope M C s₀ H₀ fp).env);pure (ForInStep.yield ok) else pure (ForInStep.yield r)) (TP (blkT X xs scope M C s₀ H₀ fp) pins σ Q) (λ_ _=>False) s)
  (hel:∀(C:Addr) (s₀:Shared) (H₀:Hp) (fp:List Addr),PE (blkT X xs scope M C s₀ H₀ fp) elt te)
  (hg:∀(C:Addr) (s₀:Shared) (H₀:Hp) (fp:List Addr),PG (blkT X xs scope M C s₀ H₀ fp) tg g)
  (I2:Inv X pins σ H2 s2) (T:Turn X.prog X.w X.K tg J fp it tn) (st2:tn 0 s2.heap) (f2:∀b∈fp,FpOk X pins H2 b) {Qd:Addr->Hp->Prop}
  (q:∀D,H2 D=none->∃W:Nat->Nat->List V->Hp->Prop,(∃m,W 0 m [] (upd H2 D (.lst [])))/\∀i m ys H3,W i m ys H3->
   (J.stop i H3/\H3 D=some (.lst ys)/\Qd D H3)\/(J.go i H3/\ys.length < sizeLine/\∀x H4,J.yld i H3 x H4->∀o:St,o.length=xs.length->g x (o++σ) H4 λσ' H4'=>(∃o':St,o'.length=xs.length/\σ'=o'++σ)/\tt σ' H4' λb H5=>
    if b=true then te σ' H5 λy H6=>H6 D=some (.lst ys)/\∃m',m' < m/\W (i+1) m' (ys++[y]) (upd H6 D (.lst (ys++[y]))) else ∃m',m' < m/\W (i+1) m' ys H5))
  {RR:Value->Addr->Result->Shared->Prop} (hRR:∀D C H' s',Inv X pins σ H' s'->FpOk X pins H' C->(∃m,s'.heap.Ns C m)->Qd D H'->RR (.ref D) C (.ok .next) s') :
  wpAny (model X.prog X.w) X.A (newList []) (λacc s₃=>wpAny (model X.prog X.w) X.A (newFunctionEnv scope X.env.globals (closOf X.env.cells scope.names []) [] X.env.qual none .none (some X.env)) (λcenv s₄=>
   codeAny (model X.prog X.w) X.A (.compStart (.ListComp elt [⟨tg,iter,ifs,0⟩] scope pos) 0 (.ref it) acc { cenv with scope:=relabel scope X.env }) (RR acc cenv.locals) s₄) E s₃) E s2:=by
 have hlt2:∀b∈fp,b < s2.heap.objs.size:=λb hb=>let ⟨o,e,_⟩:=T.obj _ _ st2 b hb;Heap.lt_size e
 have nD:H2 s2.heap.objs.size=none:=I2.hok.fresh (Nat.le_refl _)
 obtain⟨W,⟨m0,w0⟩,turn⟩:=q s2.heap.objs.size nD
 have I3:=I2.lnew (its:=[]) (ys:=[]) (t':=s2.toks) .nil (Nat.zero_le _)
 refine wpAny_newObj_type (wpAny_newFunctionEnv O.cell (by intro y hy;simp at hy) (λh₁ hns₁ hsb₁=>?_) O.kind)
 dsimp only at hns₁ hsb₁ ⊢
 generalize hs3:({ s2 with heap:=s2.heap.push { cls:=.type "list",data:=.seq ([]:List Value).toArray },toks:=s2.toks }:Shared)=s3 at I3
 have eh:s3.heap=s2.heap.push { cls:=.type "list",data:=.seq ([]:List Value).toArray }:=by rw[<-hs3]
 have es:s3={ s2 with heap:=s2.heap.push { cls:=.type "list",data:=.seq ([]:List Value).toArray } }:=hs3.symm
 have k1:∀b u,s3.heap.get? b=some u->h₁.get? b=some u:=λb u e=>by
  refine hsb₁.extBut b u ?_ (Heap.get?_push_of_some _ (by rw[<-eh];exact e))
  rw[<-eh]
  exact Nat.ne_of_lt (Heap.lt_size e)
 have f3:∀b∈fp,FpOk X pins (upd H2 s2.heap.objs.size (.lst [])) b:=λb hb=>⟨by rw[aj (Nat.ne_of_lt (hlt2 b hb))];exact(f2 b hb).1,(f2 b hb).2⟩
 have hlt3:∀b∈fp,b < s3.heap.objs.size:=λb hb=>by
  rw[eh,Heap.size_push]
  exact Nat.lt_succ_of_lt (hlt2 b hb)
 have st3:tn 0 h₁:=T.keep _ _ _ st2 λb hb o e=>k1 b o (by rw[eh];exact Heap.get?_push_of_some _ e)
 have hns3:h₁.Ns s3.heap.objs.size (λx=>([]:List (Str×Value)).reverse.lookup x):=by rw[eh];exact hns₁
 have IB:=zV (tk:=s2.toks) I3 hX hsc O f3 hlt3 hns3 k1
 have eC:s3.heap.objs.size=(s2.heap.push { cls:=.type "list",data:=.seq ([]:List Value).toArray }).objs.size:=by rw[eh]
 have stat:∀{H':Hp},(∀b∈fp,H' b=none)->∀b∈fp,FpOk (blkT X xs scope M s3.heap.objs.size s3 (upd H2 s2.heap.objs.size (.lst [])) fp) [] H' b:=λhn b hb=>by
  obtain⟨g0,g1,g2,g3,g4,g5⟩:=f3 b hb
  exact⟨hn b hb,Nat.ne_of_lt (hlt3 b hb),λz=>(List.mem_cons.mp (I3.stkSub b z)).elim g1 g2,.inl hb,λy c e=>g4 y c (bf _ _ (λ_ _ z=>by simp at z) _ _ e),λp hp=>by simp at hp⟩
 have loop:∀s4:Shared,s4={ s3 with heap:=h₁,toks:=s2.toks }->
   codeAny (model X.prog X.w) X.A (.compLoop (.ListComp elt [⟨tg,iter,ifs,0⟩] scope pos) 0 (.ref it) (.ref s2.heap.objs.size) (compEnvC scope (closOf X.env.cells scope.names []) s3.heap.objs.size X.env))
    (RR (.ref s2.heap.objs.size) s3.heap.objs.size) s4:=by
  rintro s4 rfl
  refine sD (λn s'=>∃i ys,∃o:St,∃H',o.length=xs.length/\Inv (blkT X xs scope M s3.heap.objs.size s3 (upd H2 s2.heap.objs.size (.lst [])) fp) [] (o++σ) H' s'/\tn i s'.heap/\(∀b∈fp,H' b=none)/\W i n ys H') ?_ m0
   ⟨0,[],_,_,List.length_replicate,IB,st3,λb hb=>(f3 b hb).1,w0⟩
  rintro n s5 ⟨i,ys,o,H5,lo,I5,st5,fr5,w5⟩
  rcases turn i n ys H5 w5 with⟨stop,hD,qd⟩ | ⟨go,hz,step⟩
  ·refine thn (T.done (blkT X xs scope M s3.heap.objs.size s3 (upd H2 s2.heap.objs.size (.lst [])) fp) rfl rfl rfl hcalm i [] s5 _ H5 _ I5 (stat fr5) st5 stop) λr s6 ⟨hr,I6⟩=>?_
   subst hr
   have IX:=I3.call' I6.os I6.base I6.hok I6.bare λb hb=>let ⟨_,g1,_,g3,g4,g5⟩:=f3 b hb;⟨g3,g1,g4,g5⟩
   obtain⟨mm,hmm,_⟩:=I6.loc
   exact hRR _ _ H5 s6 IX (I3.fpOk (Nat.le_refl _) I6.free) ⟨mm,hmm⟩ qd
  ·refine thn (T.item (blkT X xs scope M s3.heap.objs.size s3 (upd H2 s2.heap.objs.size (.lst [])) fp) rfl rfl rfl hcalm i [] s5 _ H5 _ I5 (stat fr5) st5 go) λr s6 ⟨u,hr,h6⟩=>?_
   subst hr
   refine thn h6 λ_ s7 ⟨y,H7,I7,r7,y7,st7,fr7⟩=>?_
   have I7':=I7.pinned (stat fr7) (T.obj _ _ st7)
   refine thn (wpAny_mono (hg _ _ _ _ _ s7 _ H7 y u _ I7' r7 (step y H7 y7 o lo)) (λ_ _ q=>q) λ_ _ f=>f.elim) λ_ s8 ⟨σ8,H8,I8',⟨o8,lo8,e8⟩,q8⟩=>?_
   subst e8
   refine thn (hts _ _ _ _ _ s8 _ H8 _ I8' q8) λok s9 ⟨H9,I9,q9⟩=>?_
   have again:∀{ys':List V} {H':Hp} {s':Shared} {m:Nat},Inv (blkT X xs scope M s3.heap.objs.size s3 (upd H2 s2.heap.objs.size (.lst [])) fp) ([]++pinsAt fp s7.heap) (o8++σ) H' s'->m < n->W (i+1) m ys' H'->
     ∃m,m < n/\∃i ys,∃o:St,∃H',o.length=xs.length/\Inv (blkT X xs scope M s3.heap.objs.size s3 (upd H2 s2.heap.objs.size (.lst [])) fp) [] (o++σ) H' s'/\tn i s'.heap/\(∀b∈fp,H' b=none)/\W i m ys H':=λ{ys' H' s' m} I' hm w'=>by
    refine⟨m,hm,i+1,ys',o8,H',lo8,I'.unpinned,T.keep _ _ _ st7 λb hb o e=>(I'.pin (b,o) (List.mem_append_right _ (List.mem_append_right _ (gU hb e)))).1,λb hb=>?_,w'⟩
    obtain⟨o,e,d⟩:=T.obj _ _ st7 b hb
    exact(I'.pin (b,o) (List.mem_append_right _ (List.mem_append_right _ (gU hb e)))).2.1
   cases ok with
   | false=>
    obtain⟨m',hm,w'⟩:=q9
    exact again I9 hm w'
   | true=>
    refine thn (hel _ _ _ _ _ s9 _ H9 _ I9 q9) λu2 s10 ⟨y2,H10,I10,r10,hD,m',hm,w'⟩=>?_
    refine thnE (b9 _ s10 _ H10 (.ref s2.heap.objs.size) [y2] (.ref s2.heap.objs.size) [u2] (λ_ H'=>H'=upd H10 s2.heap.objs.size (.lst (ys++[y2]))) I10 rfl (.cons r10 .nil) ⟨_,ys,y2,rfl,rfl,hD,hz,rfl⟩) λ_ s11 _ H11 I11 _ e11=>?_
    subst e11
    exact again I11 hm w'
 have fin:=codeAny_compStart_list (loop _ rfl) (T.self X.A 0 _ _ _ st3 (loop _ rfl))
 rw[es] at fin
 exact fin
end
section
variable {X:Cx} {pins:List (Addr×Obj)} {σ:St} {H2:Hp} {s2:Shared} {E:Value->Shared->Prop}
variable {elt iter:Expr} {ifs:List Expr} {x:Str} {px pos:Pos} {N M:List Str} {sc scope:Scope} {tt:TT} {te:TE} {it:Addr} {fp:List Addr} {tn:Nat->Heap->Prop} {J:It}
theorem nY (hcalm:X.calm=true)(hX:X.N=N)(hsc:X.env.scope=sc)(O:CompOk N M sc x scope)
  (hts:∀(C:Addr) (s₀:Shared) (H₀:Hp) (fp:List Addr) (pins:List (Addr×Obj)) (s:Shared) (σ:St) (H:Hp) (Q:Bool->Hp->Prop),Inv (blk X x scope M C s₀ H₀ fp) pins σ H s->tt σ H Q->
   wpAny (model X.prog X.w) X.A (forIn ifs true λc r=>if r=true then do let ok <-isTrue c (blk X x scope M C s₀ H₀ fp).env (eval c (blk X x scope M C s₀ H₀ fp).env);pure (ForInStep.yield ok) else pure (ForInStep.yield r)) (TP (blk X x scope M C s₀ H₀ fp) pins σ Q) (λ_ _=>False) s)
  (hel:∀(C:Addr) (s₀:Shared) (H₀:Hp) (fp:List Addr),PE (blk X x scope M C s₀ H₀ fp) elt te)
  (I2:Inv X pins σ H2 s2) (T:Turn X.prog X.w X.K (.Name x px) J fp it tn) (st2:tn 0 s2.heap) (f2:∀b∈fp,FpOk X pins H2 b) {Qd:Addr->Hp->Prop}
  (q:∀D,H2 D=none->∃W:Nat->Nat->List V->Hp->Prop,(∃m,W 0 m [] (upd H2 D (.lst [])))/\∀i m ys H3,W i m ys H3->
   (J.stop i H3/\H3 D=some (.lst ys)/\Qd D H3)\/(J.go i H3/\ys.length < sizeLine/\∀x H4,J.yld i H3 x H4->tt (some x::σ) H4 λb H5=>
    if b=true then te (some x::σ) H5 λy H6=>H6 D=some (.lst ys)/\∃m',m' < m/\W (i+1) m' (ys++[y]) (upd H6 D (.lst (ys++[y]))) else ∃m',m' < m/\W (i+1) m' ys H5))
  {RR:Value->Addr->Result->Shared->Prop} (hRR:∀D C H' s',Inv X pins σ H' s'->FpOk X pins H' C->(∃m,s'.heap.Ns C m)->Qd D H'->RR (.ref D) C (.ok .next) s') :
  wpAny (model X.prog X.w) X.A (newList []) (λacc s₃=>wpAny (model X.prog X.w) X.A (newFunctionEnv scope X.env.globals (closOf X.env.cells scope.names []) [] X.env.qual none .none (some X.env)) (λcenv s₄=>
   codeAny (model X.prog X.w) X.A (.compStart (.ListComp elt [⟨.Name x px,iter,ifs,0⟩] scope pos) 0 (.ref it) acc { cenv with scope:=relabel scope X.env }) (RR acc cenv.locals) s₄) E s₃) E s2:=by
 have OT:CompOkT N M sc [x] scope:=⟨O.kind,O.cell,O.names,O.free,(by
  rw[<-O.hid]
  refine List.map_congr_left λy _=>?_
  unfold hideT hideN
  simp),O.others,O.void⟩
 refine mQ (g:=gName 0) hcalm hX hsc OT hts hel (λC s₀ H₀ fp=>aN (i:=0) O.nd rfl (.inl (lookup_relabel_local O.own)) (.inr (lookup_relabel_local O.own))) I2 T st2 f2 (λD hD=>?_) hRR
 obtain⟨W,w0,turn⟩:=q D hD
 refine⟨W,w0,λi m ys H3 w=>(turn i m ys H3 w).imp id λ⟨go,hz,step⟩=>⟨go,hz,λy H4 hy o ho=>?_⟩⟩
 obtain⟨z,rfl⟩:∃z,o=[z]:=by
  match o,ho with
  | [z],_=>exact⟨z,rfl⟩
 exact⟨⟨[some y],rfl,rfl⟩,step y H4 hy⟩
end
section
variable {X:Cx} {elt iter c:Expr} {ifs:List Expr} {x y:Str} {px py pos spos:Pos} {scope sc:Scope} {N M:List Str} {wi:TI} {tt:TT} {te:TE}
theorem zW (hcalm:X.calm=true)(hX:X.N=N)(hsc:X.env.scope=sc)(O:CompOk N M sc x scope)(hi:PI X (.Name x px) iter wi)
  (hts:∀(C:Addr) (s₀:Shared) (H₀:Hp) (fp:List Addr) (pins:List (Addr×Obj)) (s:Shared) (σ:St) (H:Hp) (Q:Bool->Hp->Prop),Inv (blk X x scope M C s₀ H₀ fp) pins σ H s->tt σ H Q->
   wpAny (model X.prog X.w) X.A (forIn ifs true λc r=>if r=true then do let ok <-isTrue c (blk X x scope M C s₀ H₀ fp).env (eval c (blk X x scope M C s₀ H₀ fp).env);pure (ForInStep.yield ok) else pure (ForInStep.yield r)) (TP (blk X x scope M C s₀ H₀ fp) pins σ Q) (λ_ _=>False) s)
  (hel:∀(C:Addr) (s₀:Shared) (H₀:Hp) (fp:List Addr),PE (blk X x scope M C s₀ H₀ fp) elt te) (hs:autoParam (∀x,foldedSetIterable iter X.env x=pure x) L2.dft4._auto_1) :
  PE X (.ListComp elt [⟨.Name x px,iter,ifs,0⟩] scope pos) (tComp wi tt te):=by
 intro pins s σ H Q I h
 rw[eval_ListComp]
 have hcl:closureFor scope X.env=pure (closOf X.env.cells scope.names []):=ka λz hz hf=>by
  have q:=O.free z hz hf
  rw[<-hsc] at q
  exact I.ok.has z.1 q
 refine wpAny_comprehension_free (use:=none) rfl hs hcl O.kind O.names (thn (hi pins s σ H _ I h) λv s1 h1=>thn h1 λitv s2 h2=>?_)
 obtain⟨it,fp,tn,J,H2,e,I2,T,st2,f2,q2⟩:=h2
 subst e
 refine nY (Qd:=λD H'=>Q (.ref D) H') (RR:=λacc C=>compPost (model X.prog X.w) X.A X.xe none (EP X pins σ Q) acc C) hcalm hX hsc O hts hel I2 T st2 f2 (λD hD=>q2 D hD) ?_
 intro D C H' s' I' hC hm q'
 obtain⟨m,hm⟩:=hm
 obtain⟨c0,c1,c2,c3,c4,c5⟩:=hC
 exact⟨m,hm,λh' hs'=>⟨.ref D,H',I'.turned (t':=s'.toks) (λb o hb e=>hs'.extBut b o hb e) c0 c1 c3 c4 c5,rfl,q'⟩⟩
theorem zX {i:Nat}(hcalm:X.calm=true)(hX:X.N=N)(hsc:X.env.scope=sc)(O:CompOk N M sc x scope)(hi:PI X (.Name x px) iter wi)
  (hts:∀(C:Addr) (s₀:Shared) (H₀:Hp) (fp:List Addr) (pins:List (Addr×Obj)) (s:Shared) (σ:St) (H:Hp) (Q:Bool->Hp->Prop),Inv (blk X x scope M C s₀ H₀ fp) pins σ H s->tt σ H Q->
   wpAny (model X.prog X.w) X.A (forIn ifs true λc r=>if r=true then do let ok <-isTrue c (blk X x scope M C s₀ H₀ fp).env (eval c (blk X x scope M C s₀ H₀ fp).env);pure (ForInStep.yield ok) else pure (ForInStep.yield r)) (TP (blk X x scope M C s₀ H₀ fp) pins σ Q) (λ_ _=>False) s)
  (hel:∀(C:Addr) (s₀:Shared) (H₀:Hp) (fp:List Addr),PE (blk X x scope M C s₀ H₀ fp) elt te)
  (hNd:X.N.Nodup) (hiy:X.N[i]?=some y) (hy:X.env.scope.names.lookup y=some .local)
  (hsw:swapsWith (.ListComp elt [⟨.Name x px,iter,ifs,0⟩] scope pos) (some (.Name y py)) spos.line X.env=pure true) (hs:autoParam (∀x,foldedSetIterable iter X.env x=pure x) L2.dft4._auto_1) :
  PS X (.Assign [.Name y py] (.ListComp elt [⟨.Name x px,iter,ifs,0⟩] scope pos) spos) (tAsg (tComp wi tt te) (gName i)):=by
 intro pins s σ H D I h
 have hcl:closureFor scope X.env=pure (closOf X.env.cells scope.names []):=ka λz hz hf=>by
  have q:=O.free z hz hf
  rw[<-hsc] at q
  exact I.ok.has z.1 q
 have key:wpAny (model X.prog X.w) X.A (comprehension (.ListComp elt [⟨.Name x px,iter,ifs,0⟩] scope pos) scope X.env (firstIterPos [⟨.Name x px,iter,ifs,0⟩] pos) (newList []) false (eval iter X.env) (some (assign (.Name y py) X.env)))
   (λ_ s'=>SP X pins D .next s') X.xe s:=by
  refine wpAny_comprehension_free (use:=some (assign (.Name y py) X.env)) (Q:=λ_ s'=>SP X pins D .next s') rfl hs hcl O.kind O.names (thn (hi pins s σ H _ I h) λv s1 h1=>thn h1 λitv s2 h2=>?_)
  obtain⟨it,fp,tn,J,H2,e,I2,T,st2,f2,q2⟩:=h2
  subst e
  refine nY (Qd:=λD0 H'=>D.nx (σ.set i (some (.ref D0))) H') (RR:=λacc C=>compPost (model X.prog X.w) X.A X.xe (some (assign (.Name y py) X.env)) (λ_ s'=>SP X pins D .next s') acc C) hcalm hX hsc O hts hel I2 T st2 f2 (λD0 hD=>q2 D0 hD) ?_
  intro D0 C H' s' I' hC hm q'
  obtain⟨m,hm⟩:=hm
  obtain⟨c0,c1,c2,c3,c4,c5⟩:=hC
  show wpAny _ _ (assign (.Name y py) X.env (.ref D0)) _ _ s'
  refine wpAny_assign_Name (pT (v:=.ref D0) I' hNd hiy (.inl hy) rfl (λs'' I'' ⟨a,sb,ha⟩=>?_) (.inr hy))
  have hCa:C≠a:=by
   rcases ha with ha | ha
   ·rw[ha];exact c1
   ·exact(c4 _ _ ha).symm
  exact⟨m,hm.sameBut sb hCa,λh' hs'=>⟨_,H',I''.turned (t':=s''.toks) (λb o hb e=>hs'.extBut b o hb e) c0 c1 c3 c4 c5,q'⟩⟩
 rw[exec_Assign_Name_used _ _ _ _ hsw]
 refine wpAny_bind (wpAny_standAt (wpAny_bind ?_))
 show wpAny _ _ (do let _ <-comprehension (.ListComp elt [⟨.Name x px,iter,ifs,0⟩] scope pos) scope X.env (firstIterPos [⟨.Name x px,iter,ifs,0⟩] pos) (newList []) false (eval iter X.env) (some (assign (.Name y py) X.env))) _ _ s
 exact wpAny_bind (wpAny_mono key (λ_ s' hq=>wpAny_pure (wpAny_pure hq)) λ_ _ e=>e)
theorem bL (N M:List Str)(sc:Scope)(O:CompOk N M sc x scope)(hi:PI X (.Name x px) iter wi)(hel:∀(C:Addr) (s₀:Shared) (H₀:Hp) (fp:List Addr),PE (blk X x scope M C s₀ H₀ fp) elt te)
  (hcalm:autoParam (X.calm=true) L2.dft3._auto_1) (hX:autoParam (X.N=N) L2.dft3._auto_1) (hsc:autoParam (X.env.scope=sc) L2.dft3._auto_1) (hs:autoParam (∀x,foldedSetIterable iter X.env x=pure x) L2.dft4._auto_1) :
  PE X (.ListComp elt [⟨.Name x px,iter,[],0⟩] scope pos) (tComp wi tYes te):=
 zW hcalm hX hsc O hi (λC s₀ H₀ fp pins s σ H Q I h=>wpAny_tests_nil ⟨H,I,h⟩) hel hs
theorem rf {i:Nat}(N M:List Str)(sc:Scope)(O:CompOk N M sc x scope)(hi:PI X (.Name x px) iter wi)(hel:∀(C:Addr) (s₀:Shared) (H₀:Hp) (fp:List Addr),PE (blk X x scope M C s₀ H₀ fp) elt te)
  (hNd:X.N.Nodup) (hiy:autoParam (X.N[i]?=some y) L2.dft3._auto_1) (hy:autoParam (X.env.scope.names.lookup y=some .local) L2.dft3._auto_1)
  (hsw:autoParam (swapsWith (.ListComp elt [⟨.Name x px,iter,[],0⟩] scope pos) (some (.Name y py)) spos.line X.env=pure true) L2.dft3._auto_1)
  (hcalm:autoParam (X.calm=true) L2.dft3._auto_1) (hX:autoParam (X.N=N) L2.dft3._auto_1) (hsc:autoParam (X.env.scope=sc) L2.dft3._auto_1) (hs:autoParam (∀x,foldedSetIterable iter X.env x=pure x) L2.dft4._auto_1) :
  PS X (.Assign [.Name y py] (.ListComp elt [⟨.Name x px,iter,[],0⟩] scope pos) spos) (tAsg (tComp wi tYes te) (gName i)):=
 zX hcalm hX hsc O hi (λC s₀ H₀ fp pins s σ H Q I h=>wpAny_tests_nil ⟨H,I,h⟩) hel hNd hiy hy hsw hs
end
noncomputable abbrev S (l:List Nat):Str:=⟨l.toArray⟩
theorem Bv (z:Str):z=S z.cps.toList:=by cases z;simp[S]
theorem nZ {a b:List Nat}(h:S a=S b):a=b:=by
 have h':a.toArray=b.toArray:=congrArg Str.cps h
 simpa using congrArg Array.toList h'
theorem bQ (l:List Nat):(S l).length=l.length:=by show l.toArray.size=l.length;simp
theorem zY (a b:List Nat):S a++S b=S (a++b):=by
 show(⟨a.toArray++b.toArray⟩:Str)=⟨(a++b).toArray⟩
 simp
noncomputable def cutL (l:List Nat)(lo hi:Option Int):List Nat:=(l.drop (HT.sIx l.length 0 lo)).take (HT.sIx l.length l.length hi - HT.sIx l.length 0 lo)
theorem Bw (l:List Nat)(lo hi:Option Int):(cutL l lo hi).length<=l.length:=by
 unfold cutL
 rw[List.length_take,List.length_drop]
 omega
noncomputable def clipI (d:Int)(n:Nat):Option Int->Int
 | none=>d
 | some i=>max 0 (min (if i < 0 then i+(n:Int) else i) (n:Int))
theorem sE (d n:Nat)(o:Option Int):clipI (d:Int) n o=((HT.sIx n d o:Nat):Int):=by
 cases o with
 | none=>rfl
 | some i=>
  simp only[HT.sIx,clipI]
  by_cases h:i < 0
  ·simp only[h,if_true]<;>omega
  ·simp only[h,if_false]<;>omega
theorem sF (lo hi:Option Int)(n:Nat):Builtin.Str.strSliceIndices lo hi 1 n=(List.range (HT.sIx n n hi - HT.sIx n 0 lo)).map (HT.sIx n 0 lo+·):=by
 have key:Builtin.Str.strSliceIndices lo hi 1 n=sliceRange (clipI ((0:Nat):Int) n lo) (clipI (n:Int) n hi) 1:=by
  unfold Builtin.Str.strSliceIndices
  cases lo<;>cases hi<;>simp[clipI]
 rw[key,sE,sE,sliceRange_one]
section
variable {X:Cx}
noncomputable def rSlS:V->Option Int->Option Int->Hp->VK->Prop:=λx lo hi H Q=>∃l,x=.str (S l)/\l.length<=sizeLine/\Q (.str (S (cutL l lo hi))) H
theorem part_of {v:Value}{o:Option Int}(p:IsPart v o):∃l:Option (Int×Tok),v=partValue l/\l.map (·.1)=o:=by
 cases p with
 | none=>exact⟨none,rfl,rfl⟩
 | int i t=>exact⟨some (i,t),rfl,rfl⟩
theorem Dy:SlR X rSlS:=by
 intro pins s σ H x v vl vu lo hi sl Q I rx hs pl pu h
 obtain⟨l,rfl,hz,q⟩:=h
 obtain⟨t,rfl⟩:=rx
 obtain⟨a,rfl,rfl⟩:=part_of pl
 obtain⟨b,rfl,rfl⟩:=part_of pu
 refine⟨"str",_,F.slot_str_getitem.lookup,typeIs_str _ _ _,?_⟩
 refine wpAny_getItem_str_slice (l:=a) (u:=b) (st:=none) hs rfl ?_
 have ep:slicePicked (S l) a b none=(List.range (HT.sIx l.length l.length (b.map (·.1)) - HT.sIx l.length 0 (a.map (·.1)))).map (HT.sIx l.length 0 (a.map (·.1))+·):=by
  have e:=sF (a.map (·.1)) (b.map (·.1)) (S l).length
  rw[bQ] at e
  unfold slicePicked
  rw[bQ]
  exact e
 have ec:(slicePicked (S l) a b none).filterMap ((S l).cps[·]?)=cutL l (a.map (·.1)) (b.map (·.1)):=by
  rw[ep,pick_run]
  simp only[cutL]
 unfold sliceMade
 split
 ·rename_i hc
  have hlen:(slicePicked (S l) a b none).length=l.length:=by
   rw[Bool.and_eq_true] at hc
   have:=hc.2
   rw[beq_iff_eq,bQ] at this
   exact this
  have e:cutL l (a.map (·.1)) (b.map (·.1))=l:=by
   rw[ep,List.length_map,List.length_range] at hlen
   have h1:=HT.zO l.length l.length (Nat.le_refl _) (b.map (·.1))
   unfold cutL
   have h2:HT.sIx l.length 0 (a.map (·.1))=0:=by
    by_cases hl:l.length=0
    ·have:=HT.zO l.length 0 (Nat.zero_le _) (a.map (·.1))
     omega
    ·omega
   rw[hlen,h2,List.drop_zero,List.take_length]
  rw[e] at q
  exact⟨.str (S l),H,I,⟨t,rfl⟩,q⟩
 ·refine⟨?_,.str (S ((slicePicked (S l) a b none).filterMap ((S l).cps[·]?))),H,I.tok _,⟨_,rfl⟩,?_⟩
  ·rw[ec]
   show(cutL l _ _).toArray.size<=sizeLine
   rw[List.size_toArray]
   exact Nat.le_trans (Bw _ _ _) hz
  ·rw[ec]
   exact q
end
noncomputable def Its (z:Str):It:=⟨λi _=>i < z.cps.size,λi H x H'=>H'=H/\∃c,z.cps[i]?=some c/\x=.str ⟨#[c]⟩,λi _=>z.cps.size<=i⟩
theorem xy {P:Program}{w:World}{A:Around}(hA:A.handled=none)(it:Addr)(z:Str)(t:Tok):Walks P w A it [it] [it] z.cps.size (SignAt z) (λi h=>h.IsStrIter it (strIterType z) z t i):=by
 unfold strIterType
 split
 ·exact Walks.strAscii hA it z t
 ·exact Walks.strWide hA it z t
theorem pK (z:Str):["enumerate","zip","dict_itemiterator","dict_reverseitemiterator","odict_iterator","itertools.zip_longest","itertools.pairwise"].contains (strIterType z)=false:=by
 unfold strIterType
 split<;>decide
theorem zZ {P:Program}{w:World}{K:W.Frag}{tg:Expr}(it:Addr)(z:Str)(t:Tok):Turn P w K tg (Its z) [it] it (λi h=>h.IsStrIter it (strIterType z) z t i) where
 mem:=by simp
 obj:=λi h st b hb=>by
  have e:b=it:=by simpa using hb
  subst e
  obtain⟨o,e,c,d⟩:=st
  exact⟨o,e,λv z=>by rw[d] at z;cases z⟩
 keep:=λi h h' st k=>let ⟨o,e,r⟩:=st;⟨o,k it (by simp) o e,r⟩
 item:=by
  intro X hP hw hK hc i pins s σ H E I hf st hg
  subst hP hw hK
  obtain⟨f0,f1,f2,f3,f4,f5⟩:=hf it (by simp)
  refine(xy (I.ok.hd hc) it z t).item i s _ _ hg st λv h' tk hv st' kk=>?_
  obtain⟨c,u,hcz,rfl⟩:=hv
  have I1:Inv X pins σ H { s with heap:=h',toks:=tk }:=I.turned (λb o hb e=>kk b o (by simpa using hb) e) f0 f1 f3 f4 f5
  obtain⟨o,e,ec,d⟩:=id st'
  exact⟨_,rfl,r8 (s:={ s with heap:=h',toks:=tk }) e ec d (pK z) ⟨.str ⟨#[c]⟩,H,I1,⟨u,rfl⟩,⟨rfl,c,hcz,rfl⟩,st',λb hb=>(hf b hb).1⟩⟩
 done:=by
  intro X hP hw hK hc i pins s σ H E I hf st hg
  subst hP hw hK
  obtain⟨f0,f1,f2,f3,f4,f5⟩:=hf it (by simp)
  have hg':z.cps.size<=i:=hg
  by_cases ha:z.cps.all (· < 128)=true
  ·have st':s.heap.IsStrIter it "str_ascii_iterator" z t i:=by
    have e:strIterType z="str_ascii_iterator":=by unfold strIterType;rw[if_pos ha]
    rw[<-e];exact st
   exact wpAny_pyNext_ascii_end (I.ok.hd hc) st' (by simpa using hg') λh' eb=>⟨rfl,I.turned (t':=s.toks) (λb o hb e=>eb b o hb e) f0 f1 f3 f4 f5⟩
  ·have st':s.heap.IsStrIter it "str_iterator" z t i:=by
    have e:strIterType z="str_iterator":=by unfold strIterType;rw[if_neg ha]
    rw[<-e];exact st
   exact wpAny_pyNext_wide_end (I.ok.hd hc) st' (by simpa using hg') λh' eb=>⟨rfl,I.turned (t':=s.toks) (λb o hb e=>eb b o hb e) f0 f1 f3 f4 f5⟩
 self:=λA i s Q E st h=>by
  by_cases ha:z.cps.all (· < 128)=true
  ·have e:strIterType z="str_ascii_iterator":=by unfold strIterType;rw[if_pos ha]
   exact wpAny_pyIter_striter_ascii (by rw[<-e];exact st) h
  ·have e:strIterType z="str_iterator":=by unfold strIterType;rw[if_neg ha]
   exact wpAny_pyIter_striter_wide (by rw[<-e];exact st) h
section
variable {X:Cx} {tg:Expr}
end
theorem Bx {z:Str}{g:TG}{tb:TS}{D:Ends}{σ:St}{H:Hp}(Pv:Nat->St->Hp->Prop)(h0:Pv 0 σ H)
  (hs:∀i c σ H,z.cps[i]?=some c->Pv i σ H->g (.str ⟨#[c]⟩) σ H λσ2 H2=>tb { D with nx:=Pv (i+1),ct:=Pv (i+1),bk:=D.nx } σ2 H2) (hd:∀σ H,Pv z.cps.size σ H->D.nx σ H) :
  ∃W:Nat->Nat->St->Hp->Prop,(∃m,W 0 m σ H)/\∀i m σ H,W i m σ H->
   ((Its z).stop i H/\D.nx σ H)\/((Its z).go i H/\∃N:St->Hp->Prop,(∀σ' H',N σ' H'->∃m',m' < m/\W (i+1) m' σ' H')/\∀x H',(Its z).yld i H x H'->g x σ H' λσ2 H2=>tb { D with nx:=N,ct:=N,bk:=D.nx } σ2 H2):=by
 refine⟨λi m σ H=>m=z.cps.size - i/\i<=z.cps.size/\Pv i σ H,⟨z.cps.size,rfl,Nat.zero_le _,h0⟩,?_⟩
 rintro i m σ H ⟨rfl,hi,p⟩
 by_cases hlt:i < z.cps.size
 ·refine .inr ⟨hlt,Pv (i+1),λσ' H' p'=>⟨z.cps.size - (i+1),by omega,rfl,hlt,p'⟩,λx H' y=>?_⟩
  obtain⟨e,c,hc,rfl⟩:=y
  subst e
  exact hs i c σ _ hc p
 ·have e:i=z.cps.size:=by omega
  subst e
  exact .inl ⟨Nat.le_refl _,hd σ H p⟩
theorem hU {k:Nat}{A:Around}(hr:Room k A):A.units+64 < cLine:=hr.units
theorem hU1 {k:Nat}{A:Around}(hr:Room k A):A.units+1 < cLine:=EK hr
noncomputable def GConst (mg:Str->Option Value)(x:Str)(v:V):Prop:=∃u,mg x=some u/\RelV v u
theorem bG {X:Cx}{x:Str}{v:V}{pos:Pos}(c:GConst X.mg x v)(hg:autoParam (Gl X x) L2.dft3._auto_1)(hd:autoParam ((x == ("__debug__":Str))=false) L2.dft1._auto_1):PE X (.Name x pos) (tC v):=by
 obtain⟨u,h1,h2⟩:=c
 exact qL hg h1 h2 hd
mutual
inductive Den (K:W.Frag) (H:Hp):V->PyData->Prop
 | non:Den K H .non .none
 | bl (b:Bool):Den K H (.bl b) (.bool b)
 | int (i:Int):Den K H (.int i) (.int i)
 | str (x:Str):Den K H (.str x) (.str x)
 | lst {a:Addr} {xs:List V} {ds:List PyData}:SqL K H a xs->DenAll K H xs ds->Den K H (.ref a) (.list ds)
 | tup {a:Addr} {xs:List V} {ds:List PyData}:SqT K H a xs->DenAll K H xs ds->Den K H (.ref a) (.tuple ds)
inductive DenAll (K:W.Frag) (H:Hp):List V->List PyData->Prop
 | nil:DenAll K H [] []
 | cons {v:V} {d:PyData} {vs:List V} {ds:List PyData}:Den K H v d->DenAll K H vs ds->DenAll K H (v::vs) (d::ds)
end
mutual
theorem Den.reads {X:Cx}{pins:List (Addr×Obj)}{σ:St}{H:Hp}{s:Shared}(I:Inv X pins σ H s):∀{v:V} {d:PyData} {u:Value},Den X.K H v d->RelV v u->∃as,Reads s.heap u d as
 | _,_,_,.non,r=>by cases (show _=Value.none from r);exact⟨_,.none⟩
 | _,_,_,.bl b,r=>by cases (show _=Value.bool b from r);exact⟨_,.bool b⟩
 | _,_,_,.int i,r=>by obtain⟨t,rfl⟩:=r;exact⟨_,.int i t⟩
 | _,_,_,.str x,r=>by obtain⟨t,rfl⟩:=r;exact⟨_,.str x t⟩
 | _,_,_,.lst h hd,r=>by
  cases (show _=Value.ref _ from r)
  obtain⟨its,rv,p,hz⟩:=I.list h
  obtain⟨o,ho,hc,n,hdt⟩:=p.isList
  obtain⟨as,ra⟩:=DenAll.reads I hd rv
  exact⟨_,.list ho hc hdt (by simpa using ra)⟩
 | _,_,_,.tup h hd,r=>by
  cases (show _=Value.ref _ from r)
  obtain⟨its,rv,p,hz⟩:=I.tuple h
  obtain⟨o,ho,hc,n,hdt⟩:=p
  obtain⟨as,ra⟩:=DenAll.reads I hd rv
  exact⟨_,.tuple ho hc hdt (by simpa using ra)⟩
theorem DenAll.reads {X:Cx}{pins:List (Addr×Obj)}{σ:St}{H:Hp}{s:Shared}(I:Inv X pins σ H s):∀{vs:List V} {ds:List PyData} {us:List Value},DenAll X.K H vs ds->Vals vs us->∃as,ReadsAll s.heap us ds as
 | _,_,_,.nil,.nil=>⟨_,.nil⟩
 | _,_,_,.cons h t,.cons r rr=>by
  obtain⟨a,ha⟩:=Den.reads I h r
  obtain⟨b,hb⟩:=DenAll.reads I t rr
  exact⟨_,.cons ha hb⟩
end
noncomputable def isRef:V->Bool
 | .ref _=>true
 | _=>false
noncomputable def rEqD (K:W.Frag)(neg:Bool):R2:=λx y H Q=>(isRef x || isRef y)=true/\∃d e,Den K H x d/\Den K H y e/\SeqAt.shaped d=true/\SeqAt.shaped e=true/\Q (.bl (if neg then !PyData.eqv d e else PyData.eqv d e)) H
section
variable {X:Cx}
theorem Dz (hu:X.A.units+64 < cLine):OpR X (compareOp .Eq) (rEqD X.K false):=by
 intro pins s σ H x y v u Q I rx ry h
 obtain⟨_,d,e,hd,he,sd,se,q⟩:=h
 obtain⟨as,ra⟩:=hd.reads I rx
 obtain⟨bs,rb⟩:=he.reads I ry
 exact eq_dataH ra rb sd se hu ⟨.bl (PyData.eqv d e),H,I,rfl,q⟩
theorem DA (hu:X.A.units+64 < cLine):OpR X (compareOp .NotEq) (rEqD X.K true):=by
 intro pins s σ H x y v u Q I rx ry h
 obtain⟨_,d,e,hd,he,sd,se,q⟩:=h
 obtain⟨as,ra⟩:=hd.reads I rx
 obtain⟨bs,rb⟩:=he.reads I ry
 exact ne_dataH ra rb sd se hu ⟨.bl (!PyData.eqv d e),H,I,rfl,q⟩
theorem DB (hu:X.A.units+64 < cLine):OpR X (compareOp .Eq) (λx y H Q=>rEq x y H Q\/rEqD X.K false x y H Q):=ED.or (Dz hu)
theorem DC (hu:X.A.units+64 < cLine):OpR X (compareOp .NotEq) (λx y H Q=>rNe x y H Q\/rEqD X.K true x y H Q):=EE.or (DA hu)
noncomputable def rStrs (p:List Nat->List Nat->Bool):R2:=λx y H Q=>∃i j,x=.str i/\y=.str j/\Q (.bl (p i.cps.toList j.cps.toList)) H
theorem DD:OpR X (compareOp .Lt) (rStrs λa b=>decide (a < b)):=by
 intro pins s σ H x y v u Q I rx ry h
 obtain⟨i,j,rfl,rfl,q⟩:=h
 obtain⟨t,rfl⟩:=rx
 obtain⟨t',rfl⟩:=ry
 exact PySem.P.lt_str ⟨.bl (decide (i.cps.toList < j.cps.toList)),H,I,rfl,q⟩
theorem DE:OpR X (compareOp .LtE) (rStrs λa b=>!decide (b < a)):=by
 intro pins s σ H x y v u Q I rx ry h
 obtain⟨i,j,rfl,rfl,q⟩:=h
 obtain⟨t,rfl⟩:=rx
 obtain⟨t',rfl⟩:=ry
 exact PySem.P.le_str ⟨.bl (!decide (j.cps.toList < i.cps.toList)),H,I,rfl,q⟩
theorem DF:OpR X (compareOp .Lt) (λx y H Q=>rI0 (λi j=>.bl (decide (i < j))) x y H Q\/rStrs (λa b=>decide (a < b)) x y H Q):=EF.or DD
theorem DG:OpR X (compareOp .LtE) (λx y H Q=>rI0 (λi j=>.bl (decide (i<=j))) x y H Q\/rStrs (λa b=>!decide (b < a)) x y H Q):=EG.or DE
theorem z9:OpR X (compareOp .Gt) (rI0 λi j=>.bl (decide (j < i))):=EH
theorem DH:OpR X (compareOp .GtE) (rI0 λi j=>.bl (decide (j<=i))):=EI
noncomputable def rCatS (K:W.Frag):R2:=λx y H Q=>∃l b xs zs,x=.ref l/\y=.ref b/\SqL K H l xs/\SqL K H b zs/\xs.length+zs.length<=sizeLine/\∀p,H p=none->Q (.ref p) (upd H p (.lst (xs++zs)))
theorem By:OpR X (binaryOp .Add) (rCatS X.K):=by
 intro pins s σ H x y v u Q I rx ry h
 obtain⟨l,b,xs,zs,rfl,rfl,hH,hB,hz,q⟩:=h
 cases rx
 cases ry
 obtain⟨its,r,p,z1⟩:=I.list hH
 obtain⟨its2,r2,p2,z2⟩:=I.list hB
 have h1:=r.length
 have h2:=r2.length
 obtain⟨⟨cl,dc,dt,sl⟩,ho,hc,n,hd⟩:=p.isList
 obtain⟨⟨cl2,dc2,dt2,sl2⟩,ho2,hc2,n2,hd2⟩:=p2.isList
 simp only at hc hd hc2 hd2
 subst hc hd hc2 hd2
 refine concat_meets ⟨_,ho,rfl⟩ ⟨_,ho2,rfl⟩ PySem.noFill_list_add PySem.seq_list_add F.slot_list_add F.entry_list_add (F.args_list_add_2 _ _) (list_addW l b its.toArray its2.toArray n n2 dc dc2 sl sl2 (by rw[List.size_toArray,List.size_toArray];omega)) ⟨ho,ho2,?_⟩
 have ea:its.toArray++its2.toArray=(its++its2).toArray:=by simp
 rw[ea]
 exact⟨.ref _,_,I.lnew (t':=s.toks) (r.append r2) (by rw[List.length_append];omega),rfl,q _ I.fresh⟩
noncomputable def rCatT2:R2:=λx y H Q=>∃i j,x=.str (S i)/\y=.str (S j)/\i.length+j.length<=sizeLine/\Q (.str (S (i++j))) H
theorem Aa:OpR X (binaryOp .Add) rCatT2:=by
 intro pins s σ H x y v u Q I rx ry h
 obtain⟨i,j,rfl,rfl,hz,q⟩:=h
 refine uE pins s σ H _ _ v u Q I rx ry ⟨S i,S j,rfl,rfl,?_,?_⟩
 ·rw[bQ,bQ];exact hz
 ·rw[zY];exact q
theorem Bz:OpR X (binaryOp .Add) (λx y H Q=>rI0 (λi j=>.int (i+j)) x y H Q\/(rCatT2 x y H Q\/rCatS X.K x y H Q)):=Dl.or (Aa.or By)
theorem sG:PIp X .Add (λx y H Q=>rI0 (λi j=>.int (i+j)) x y H Q):=λpins s σ H x y v u Q I rx ry h=>Bk pins s σ H x y v u Q I rx ry h
theorem xA:CallR X (.builtin "len") (λxs H Q=>∃l,xs=[.str (S l)]/\l.length<=sizeLine/\Q (.int l.length) H):=by
 intro pins s σ H xs us Q I r h
 obtain⟨l,rfl,hz,q⟩:=h
 refine qX pins s σ H _ us Q I r ⟨S l,rfl,?_,?_⟩
 ·rw[bQ];exact hz
 ·rw[bQ];exact q
theorem xB:CallR X (.builtin "len") (λxs H Q=>(∃p ys,xs=[.ref p]/\(SqL X.K H p ys\/SqT X.K H p ys)/\Q (.int ys.length) H)\/((∃l,xs=[.str (S l)]/\l.length<=sizeLine/\Q (.int l.length) H)\/(∃a kvs,xs=[V.ref a]/\H a=some (.dK kvs)/\Q (.int kvs.length) H))):=
 qW.or (xA.or xx)
noncomputable def rIsi (K:W.Frag):List V->Hp->VK->Prop:=λxs H Q=>(∃x t n b,xs=[x,.ty n]/\TyOf K H x t/\W.kitOne K t (.type n)=some b/\Q (.bl b) H)\/(∃x t C b,xs=[x,.ref C]/\TyOf K H x t/\W.kitOne K t (.ref C)=some b/\Q (.bl b) H)
theorem lQ:CallR X (.builtin "isinstance") (rIsi X.K):=by
 intro pins s σ H xs us Q I r h
 rcases h with⟨x,t,n,b,rfl,ty,e,q⟩ | ⟨x,t,n,b,rfl,ty,e,q⟩
 ·obtain⟨u,w,rfl,rx,rw'⟩:=vals2 r
  cases rw'
  exact pW I rx ty e λtk=>⟨.bl b,H,I.tok tk,rfl,q⟩
 ·obtain⟨u,w,rfl,rx,rw'⟩:=vals2 r
  cases rw'
  exact pW I rx ty e λtk=>⟨.bl b,H,I.tok tk,rfl,q⟩
theorem xC:CallR X (.builtin "ord") (λxs H Q=>∃c,xs=[.str (S [c])]/\Q (.int (c:Nat)) H):=by
 intro pins s σ H xs us Q I r h
 obtain⟨c,rfl,q⟩:=h
 exact zL pins s σ H _ us Q I r ⟨S [c],rfl,rfl,q⟩
theorem BA (hu:X.A.units+1 < cLine):IxR X (λx y H Q=>∃a v,x=.ref a/\DGet H a y (some v)/\Q v H):=by
 intro value slice pins s σ H x y v u Q I rx ry h hs
 obtain⟨a,z,rfl,g,q⟩:=h
 cases (show v=Value.ref a from rx)
 exact tail_any (sy I g) PySem.F.slot_dict_getitem.lookup (xu hu I g ry λw' s3 I3 rw'=>⟨z,H,I3,rw',q⟩) hs
noncomputable def rIxS2:R2:=λx y H Q=>∃l i c,x=.str (S l)/\y=.int i/\l.length<=sizeLine/\atI l i=some c/\Q (.str (S [c])) H
theorem BB:IxR X rIxS2:=by
 intro value slice pins s σ H x y v u Q I rx ry h hs
 obtain⟨l,i,c,rfl,rfl,hz,he,q⟩:=h
 exact Dt value slice pins s σ H _ _ v u Q I rx ry ⟨S l,i,c,rfl,rfl,(by rw[bQ];exact hz),(by simpa using he),q⟩ hs
noncomputable def rIxA (K:W.Frag):R2:=λx y H Q=>rIxL K x y H Q\/(rIxT K x y H Q\/(rIxS2 x y H Q\/(∃a v,x=.ref a/\DGet H a y (some v)/\Q v H)))
theorem DI (hu:X.A.units+1 < cLine):IxR X (rIxA X.K):=Bo.or (Ds.or (BB.or (BA hu)))
noncomputable def rSlA (K:W.Frag):V->Option Int->Option Int->Hp->VK->Prop:=λx lo hi H Q=>rSlL K x lo hi H Q\/rSlS x lo hi H Q
theorem DJ:SlR X (rSlA X.K):=Bp.or Dy
noncomputable def rSetA:V->V->V->Hp->(Hp->Prop)->Prop:=λo i v H Q=>rSetL o i v H Q\/∃a H',o=.ref a/\DPut H a i v H'/\Q H'
theorem dJ (hu:X.A.units+1 < cLine):PSet X rSetA:=by
 intro pins s σ H o i v ov iv u Q I ro ri rv h
 rcases h with h | ⟨a,H',rfl,g,q⟩
 ·exact set_list pins s σ H o i v ov iv u Q I ro ri rv h
 ·cases (show ov=Value.ref a from ro)
  exact xv hu I g ri rv λs4 I4=>⟨H',I4,q⟩
theorem DK (hu:X.A.units+1 < cLine):OpR X (compareOp .In) (λy x H Q=>∃a o,x=.ref a/\DGet H a y o/\Q (.bl o.isSome) H):=by
 intro pins s σ H y x v u Q I ry rx h
 obtain⟨a,o,rfl,g,q⟩:=h
 cases (show u=Value.ref a from rx)
 exact Fp hu I g ry λs3 I3=>⟨.bl o.isSome,H,I3,rfl,q⟩
theorem xD (hu:X.A.units+1 < cLine):OpR X (compareOp .NotIn) (λy x H Q=>∃a o,x=.ref a/\DGet H a y o/\Q (.bl (!o.isSome)) H):=by
 intro pins s σ H y x v u Q I ry rx h
 obtain⟨a,o,rfl,g,q⟩:=h
 cases (show u=Value.ref a from rx)
 exact Br hu I g ry λs3 I3=>⟨.bl (!o.isSome),H,I3,rfl,q⟩
noncomputable def occB (j i:Str):Bool:=!(Builtin.Str.occurrences j i 0 j.length 1).isEmpty
theorem DL (hu:X.A.units+1 < cLine):OpR X (compareOp .In) (λx y H Q=>rIn X.K false x y H Q\/((∃i j,x=.str i/\y=.str j/\Q (.bl (occB j i)) H)\/(∃a o,y=.ref a/\DGet H a x o/\Q (.bl o.isSome) H))):=
 xp.or (OpR.or (r:=λx y H Q=>∃i j,x=.str i/\y=.str j/\Q (.bl (occB j i)) H) xl (DK hu))
theorem xE (hu:X.A.units+1 < cLine):OpR X (compareOp .NotIn) (λx y H Q=>rIn X.K true x y H Q\/((∃i j,x=.str i/\y=.str j/\Q (.bl (!occB j i)) H)\/(∃a o,y=.ref a/\DGet H a x o/\Q (.bl (!o.isSome)) H))):=
 qU.or (OpR.or (r:=λx y H Q=>∃i j,x=.str i/\y=.str j/\Q (.bl (!occB j i)) H) qV (xD hu))
noncomputable def joinL (sep:List Nat):List (List Nat)->List Nat
 | []=>[]
 | [x]=>x
 | x::rest=>x++sep++joinL sep rest
theorem xF (ls:List (List Nat)):joinL [] ls=ls.flatten:=by
 induction ls with
 | nil=>rfl
 | cons a r ih=>
  cases r with
  | nil=>simp[joinL]
  | cons b t=>rw[joinL,ih];simp;intro h;cases h
theorem rg (sep:List Nat):∀ls:List (List Nat),Str.join (S sep) (ls.map S)=S (joinL sep ls)
 | []=>rfl
 | [x]=>rfl
 | x::y::r=>by
  have ih:=rg sep (y::r)
  show S x++S sep++Str.join (S sep) ((y::r).map S)=S (x++sep++joinL sep (y::r))
  rw[ih,zY,zY]
theorem uK {ls:List (List Nat)}:∀{us:List Value},Vals (ls.map λl=>V.str (S l)) us->StrsAre us (ls.map S):=by
 induction ls with
 | nil=>intro us r;cases r;exact .nil
 | cons a r ih=>
  intro us h
  cases h with
  | cons h1 h2=>
   obtain⟨t,rfl⟩:=h1
   exact .cons _ t (ih h2)
noncomputable def rJoin (K:W.Frag):V->List V->Hp->VK->Prop:=λx vs H Q=>∃sep p ls,x=.str (S sep)/\vs=[.ref p]/\SqL K H p (ls.map λl=>V.str (S l))/\(ls.map List.length).sum+ls.length * sep.length<=16777216/\Q (.str (S (joinL sep ls))) H
theorem BC:MtR X "str.join" (rJoin X.K):=by
 intro pins s σ H x vs v us Q I rx rv h
 obtain⟨sep,p,ls,rfl,rfl,hq,hz,q⟩:=h
 obtain⟨t,rfl⟩:=rx
 obtain⟨u,rfl,ru⟩:=vals1 rv
 cases ru
 obtain⟨its,r,pl,_⟩:=I.list hq
 refine join_list pl.isList (ys:=ls.map S) (by simpa using uK r) ?_ λt' k=>?_
 ·rw[List.map_map,List.length_map]
  have e:(Str.length∘S)=List.length:=by funext l;exact bQ l
  rw[e,bQ]
  exact hz
 ·have e:Txt.join (S sep) (ls.map S)=S (joinL sep ls):=(StrLaws.glued_eq_join _ _).trans (rg sep ls)
  rw[e]
  exact⟨.str (S (joinL sep ls)),H,I.tok k,⟨t',rfl⟩,q⟩
noncomputable def iAny (K:W.Frag)(tl:TE):TI:=λσ H R=>tl σ H λx H1=>(∃a,x=.ref a/\(∃xs,SqL K H1 a xs)/\R (Itl K a) H1)\/((∃a,x=.ref a/\(∃xs,SqT K H1 a xs)/\R (Itt K a) H1)\/(∃z,x=.str z/\R (Its z) H1))
theorem DM {tg l:Expr}{tl:TE}(hl:PE X l tl):PI X tg l (iAny X.K tl):=by
 intro pins s σ H R I h
 refine thnE (hl pins s σ H _ I h) λv s1 x H1 I1 r1 q1=>?_
 have aux:∀{e:Value} {t:TE} {R':It->Hp->Prop},True:=λ{_ _ _}=>trivial
 have fp:∀b,b∈[s1.heap.objs.size]->FpOk X pins H1 b:=λb hb=>by
  have e:b=s1.heap.objs.size:=by simpa using hb
  subst e
  exact I1.fpOk (Nat.le_refl _) (I1.hok.fresh (Nat.le_refl _))
 rcases q1 with⟨a,e,⟨xs,hq⟩,q⟩ | ⟨a,e,⟨xs,hq⟩,q⟩ | ⟨z,e,q⟩
 ·subst e
  cases r1
  obtain⟨its,rv,p,hz⟩:=I1.list hq
  refine wpAny_pyIter_list p.isList ?_
  exact⟨s1.heap.objs.size,[s1.heap.objs.size],_,_,H1,rfl,I1.kept (t':=s1.toks) λb o e=>Heap.get?_push_of_some _ e,xf a _,⟨_,Heap.get?_push_size _ rfl,rfl,rfl⟩,fp,q⟩
 ·subst e
  cases r1
  obtain⟨its,rv,p,hz⟩:=I1.tuple hq
  refine wpAny_pyIter_tuple (show s1.heap.IsTuple a its.toArray from p) ?_
  exact⟨s1.heap.objs.size,[s1.heap.objs.size],_,_,H1,rfl,I1.kept (t':=s1.toks) λb o e=>Heap.get?_push_of_some _ e,uA a _,⟨_,Heap.get?_push_size _ rfl,rfl,rfl⟩,fp,q⟩
 ·subst e
  obtain⟨t,rfl⟩:=r1
  refine wpAny_pyIter_strU ?_
  exact⟨s1.heap.objs.size,[s1.heap.objs.size],_,_,H1,rfl,I1.kept (t':=s1.toks) λb o e=>Heap.get?_push_of_some _ e,zZ _ z t,⟨_,Heap.get?_push_size _ rfl,rfl,rfl⟩,fp,q⟩
end
theorem jr {J:It}{tt:TT}{te:TE}{σ:St}{H:Hp}{D:Addr}{Q:Hp->Prop}(n:Nat)(hn:n<=sizeLine)(hD:H D=none)(item f:Nat->V)(p:Nat->Bool)
  (hstop:∀H',Same H H'->J.stop n H') (hgo:∀i H',Same H H'->i < n->J.go i H') (hy:∀i H' x H'',Same H H'->i < n->J.yld i H' x H''->H''=H'/\x=item i)
  (ht:∀i H',i < n->Same H H'->∀Qt:Bool->Hp->Prop,(∀H'',Same H' H''->Qt (p i) H'')->tt (some (item i)::σ) H' Qt)
  (he:∀i H',i < n->p i=true->Same H H'->∀Qe:VK,(∀H'',Same H' H''->Qe (f i) H'')->te (some (item i)::σ) H' Qe)
  (hd:∀H',Same H H'->H' D=some (.lst (((List.range n).filter p).map f))->Q H') :
  ∃W:Nat->Nat->List V->Hp->Prop,(∃m,W 0 m [] (upd H D (.lst [])))/\∀i m ys H2,W i m ys H2->
   (J.stop i H2/\H2 D=some (.lst ys)/\Q H2)\/(J.go i H2/\ys.length < sizeLine/\∀x H3,J.yld i H2 x H3->tt (some x::σ) H3 λb H4=>
    if b=true then te (some x::σ) H4 λy H5=>H5 D=some (.lst ys)/\∃m',m' < m/\W (i+1) m' (ys++[y]) (upd H5 D (.lst (ys++[y]))) else ∃m',m' < m/\W (i+1) m' ys H4):=by
 have same0:∀{H':Hp} {ys:List V},Same H H'->Same H (upd H' D (.lst ys)):=λ{H' ys} h b o e=>by
  rw[aj (az e hD)]
  exact h b o e
 refine⟨λi m ys H2=>m=n - i/\i<=n/\ys=((List.range i).filter p).map f/\H2 D=some (.lst ys)/\Same H H2,⟨n,rfl,Nat.zero_le _,rfl,af,same0 (Same.refl _)⟩,?_⟩
 rintro i m ys H2 ⟨rfl,hi,e,hH,hs⟩
 have hlen:ys.length<=i:=by
  rw[e,List.length_map]
  exact Nat.le_trans (List.length_filter_le _ _) (by rw[List.length_range];exact Nat.le_refl _)
 by_cases hlt:i < n
 ·refine .inr ⟨hgo i H2 hs hlt,by omega,λx H3 y=>?_⟩
  obtain⟨rfl,rfl⟩:=hy i H2 x H3 hs hlt y
  have grow:((List.range (i+1)).filter p).map f=if p i=true then ys++[f i] else ys:=by
   rw[List.range_succ,List.filter_append,List.map_append,<-e]
   by_cases hp:p i=true
   ·rw[if_pos hp];simp[hp]
   ·have hp':p i=false:=by simpa using hp
    rw[if_neg hp];simp[hp']
  refine ht i _ hlt hs _ λH4 s4=>?_
  by_cases hp:p i=true
  ·rw[hp,if_pos rfl]
   rw[if_pos hp] at grow
   refine he i H4 hlt hp (hs.trans s4) _ λH5 s5=>⟨s5 _ _ (s4 _ _ hH),n - (i+1),by omega,rfl,hlt,grow.symm,af,same0 ((hs.trans s4).trans s5)⟩
  ·have hp':p i=false:=by simpa using hp
   rw[hp',if_neg Bool.false_ne_true]
   rw[if_neg hp] at grow
   exact⟨n - (i+1),by omega,rfl,hlt,grow.symm,s4 _ _ hH,hs.trans s4⟩
 ·have ei:i=n:=by omega
  subst ei
  rw[e] at hH
  exact .inl ⟨hstop _ hs,by rw[e];exact hH,hd _ hs hH⟩
theorem cX {α:Type}(l:List α):l.filter (λ_=>true)=l:=by induction l<;>simp_all
theorem uL {te:TE}{σ:St}{H:Hp}{D:Addr}{Q:Hp->Prop}(lo:Int)(n:Nat)(hn:n<=sizeLine)(hD:H D=none)(f:Nat->V)
  (he:∀i H',i < n->Same H H'->∀Qe:VK,(∀H'',Same H' H''->Qe (f i) H'')->te (some (.int (lo+i))::σ) H' Qe)
  (hd:∀H',Same H H'->H' D=some (.lst ((List.range n).map f))->Q H') :
  ∃W:Nat->Nat->List V->Hp->Prop,(∃m,W 0 m [] (upd H D (.lst [])))/\∀i m ys H2,W i m ys H2->
   ((Itr lo n).stop i H2/\H2 D=some (.lst ys)/\Q H2)\/((Itr lo n).go i H2/\ys.length < sizeLine/\∀x H3,(Itr lo n).yld i H2 x H3->tYes (some x::σ) H3 λb H4=>
    if b=true then te (some x::σ) H4 λy H5=>H5 D=some (.lst ys)/\∃m',m' < m/\W (i+1) m' (ys++[y]) (upd H5 D (.lst (ys++[y]))) else ∃m',m' < m/\W (i+1) m' ys H4):=
 jr (J:=Itr lo n) n hn hD (λi=>.int (lo+i)) f (λ_=>true) (λ_ _=>Nat.le_refl _) (λi _ _ h=>h) (λi H' x H'' _ _ y=>y) (λi H' _ _ Qt q=>q H' (Same.refl _)) (λi H' h _ s Qe q=>he i H' h s Qe q)
  (λH' s h=>hd H' s (by rw[cX] at h;exact h))
theorem Same.upd {H:Hp}{D:Addr}{o:HO}(hD:H D=none):Same H (upd H D o):=λb u e=>by
 rw[aj (az e hD)]
 exact e
theorem bZ {α:Type}{xs:List α}{i:Int}{v:α}(h0:0<=i)(h:xs[i.toNat]?=some v):atI xs i=some v:=by
 have:=Bm (xs:=xs) (j:=i.toNat) h
 rwa [show((i.toNat:Nat):Int)=i by omega] at this
theorem Same.tup {K:W.Frag}{H H':Hp}{a:Addr}{xs:List V}(e:Same H H')(h:SqT K H a xs):SqT K H' a xs:=by
 rcases h with(h | ⟨o,h⟩) | h
 ·exact .inl (.inl (e _ _ h))
 ·exact .inl (.inr ⟨o,e _ _ h⟩)
 ·exact .inr h
mutual
theorem Den.same {K:W.Frag}{H H':Hp}(s:Same H H'):∀{v:V} {d:PyData},Den K H v d->Den K H' v d
 | _,_,.non=>.non
 | _,_,.bl b=>.bl b
 | _,_,.int i=>.int i
 | _,_,.str x=>.str x
 | _,_,.lst h t=>.lst (s.seq h) (DenAll.same s t)
 | _,_,.tup h t=>.tup (s.tup h) (DenAll.same s t)
theorem DenAll.same {K:W.Frag}{H H':Hp}(s:Same H H'):∀{v:List V} {d:List PyData},DenAll K H v d->DenAll K H' v d
 | _,_,.nil=>.nil
 | _,_,.cons h t=>.cons (Den.same s h) (DenAll.same s t)
end
theorem aE {K:W.Frag}{H:Hp}{Q:VK}{x:V}{n T:String}{b:Bool}(hT:∀t,TyOf K H x t↔t=.type T)(hk:W.kitOne K (.type T) (.type n)=some b):rIsi K [x,.ty n] H Q↔Q (.bl b) H:=by
 constructor
 ·rintro(⟨x',t,n',b',e,ty,k,q⟩ | ⟨x',t,C,b',e,ty,k,q⟩)
  ·simp only[List.cons.injEq,V.ty.injEq,and_true] at e
   obtain⟨rfl,rfl⟩:=e
   rw[(hT t).mp ty,hk] at k
   cases k
   exact q
  ·simp at e
 ·intro q
  exact .inl ⟨x,_,n,b,rfl,(hT _).mpr rfl,hk,q⟩
theorem gD {K:W.Frag}{H:Hp}(t:Value):TyOf K H .non t↔t=.type "NoneType":=⟨λh=>by cases h;rfl,λh=>h▸.non⟩
theorem jt {K:W.Frag}{H:Hp}(b:Bool)(t:Value):TyOf K H (.bl b) t↔t=.type "bool":=⟨λh=>by cases h;rfl,λh=>h▸.bl b⟩
theorem gE {K:W.Frag}{H:Hp}(b:Int)(t:Value):TyOf K H (.int b) t↔t=.type "int":=⟨λh=>by cases h;rfl,λh=>h▸.int b⟩
theorem gF {K:W.Frag}{H:Hp}(b:Str)(t:Value):TyOf K H (.str b) t↔t=.type "str":=⟨λh=>by cases h;rfl,λh=>h▸.str b⟩
theorem n0 {K:W.Frag}{H:Hp}{a:Addr}{xs:List V}(e:H a=some (.lst xs))(t:Value):TyOf K H (.ref a) t↔t=.type "list":=by
 constructor
 ·intro h
  cases h<;>first | rfl | (rename_i e';rw[e] at e';cases e') | (rename_i e' _ _ _ _ _;rw[e] at e';cases e')
 ·intro h
  exact h▸.lst e
theorem n4 {K:W.Frag}{H:Hp}{a:Addr}{xs:List V}(e:H a=some (.tup xs))(t:Value):TyOf K H (.ref a) t↔t=.type "tuple":=by
 constructor
 ·intro h
  cases h<;>first | rfl | (rename_i e';rw[e] at e';cases e') | (rename_i e' _ _ _ _ _;rw[e] at e';cases e')
 ·intro h
  exact h▸.tup e
theorem Cy {K:W.Frag}{H:Hp}{Q:VK}:rIsi K [.non,.ty "int"] H Q↔Q (.bl false) H:=aE (gD) (by rfl)
theorem BD {K:W.Frag}{H:Hp}{Q:VK}:rIsi K [.non,.ty "bool"] H Q↔Q (.bl false) H:=aE (gD) (by rfl)
theorem Cz {K:W.Frag}{H:Hp}{Q:VK}:rIsi K [.non,.ty "str"] H Q↔Q (.bl false) H:=aE (gD) (by rfl)
theorem BE {K:W.Frag}{H:Hp}{Q:VK}:rIsi K [.non,.ty "list"] H Q↔Q (.bl false) H:=aE (gD) (by rfl)
theorem A8 {K:W.Frag}{H:Hp}{Q:VK}:rIsi K [.non,.ty "tuple"] H Q↔Q (.bl false) H:=aE (gD) (by rfl)
theorem BF {K:W.Frag}{H:Hp}{Q:VK}:rIsi K [.non,.ty "dict"] H Q↔Q (.bl false) H:=aE (gD) (by rfl)
theorem DN {K:W.Frag}{H:Hp}{Q:VK}{b:Bool}:rIsi K [(.bl b),.ty "int"] H Q↔Q (.bl true) H:=aE (jt _) (by rfl)
theorem CC {K:W.Frag}{H:Hp}{Q:VK}{b:Bool}:rIsi K [(.bl b),.ty "bool"] H Q↔Q (.bl true) H:=aE (jt _) (by rfl)
theorem DO {K:W.Frag}{H:Hp}{Q:VK}{b:Bool}:rIsi K [(.bl b),.ty "str"] H Q↔Q (.bl false) H:=aE (jt _) (by rfl)
theorem CH {K:W.Frag}{H:Hp}{Q:VK}{b:Bool}:rIsi K [(.bl b),.ty "list"] H Q↔Q (.bl false) H:=aE (jt _) (by rfl)
theorem BG {K:W.Frag}{H:Hp}{Q:VK}{b:Bool}:rIsi K [(.bl b),.ty "tuple"] H Q↔Q (.bl false) H:=aE (jt _) (by rfl)
theorem CI {K:W.Frag}{H:Hp}{Q:VK}{b:Bool}:rIsi K [(.bl b),.ty "dict"] H Q↔Q (.bl false) H:=aE (jt _) (by rfl)
theorem CJ {K:W.Frag}{H:Hp}{Q:VK}{b:Int}:rIsi K [(.int b),.ty "int"] H Q↔Q (.bl true) H:=aE (gE _) (by rfl)
theorem BH {K:W.Frag}{H:Hp}{Q:VK}{b:Int}:rIsi K [(.int b),.ty "bool"] H Q↔Q (.bl false) H:=aE (gE _) (by rfl)
theorem CL {K:W.Frag}{H:Hp}{Q:VK}{b:Int}:rIsi K [(.int b),.ty "str"] H Q↔Q (.bl false) H:=aE (gE _) (by rfl)
theorem BI {K:W.Frag}{H:Hp}{Q:VK}{b:Int}:rIsi K [(.int b),.ty "list"] H Q↔Q (.bl false) H:=aE (gE _) (by rfl)
theorem A9 {K:W.Frag}{H:Hp}{Q:VK}{b:Int}:rIsi K [(.int b),.ty "tuple"] H Q↔Q (.bl false) H:=aE (gE _) (by rfl)
theorem BJ {K:W.Frag}{H:Hp}{Q:VK}{b:Int}:rIsi K [(.int b),.ty "dict"] H Q↔Q (.bl false) H:=aE (gE _) (by rfl)
theorem CO {K:W.Frag}{H:Hp}{Q:VK}{b:Str}:rIsi K [(.str b),.ty "int"] H Q↔Q (.bl false) H:=aE (gF _) (by rfl)
theorem BK {K:W.Frag}{H:Hp}{Q:VK}{b:Str}:rIsi K [(.str b),.ty "bool"] H Q↔Q (.bl false) H:=aE (gF _) (by rfl)
theorem CP {K:W.Frag}{H:Hp}{Q:VK}{b:Str}:rIsi K [(.str b),.ty "str"] H Q↔Q (.bl true) H:=aE (gF _) (by rfl)
theorem BL {K:W.Frag}{H:Hp}{Q:VK}{b:Str}:rIsi K [(.str b),.ty "list"] H Q↔Q (.bl false) H:=aE (gF _) (by rfl)
theorem Ba {K:W.Frag}{H:Hp}{Q:VK}{b:Str}:rIsi K [(.str b),.ty "tuple"] H Q↔Q (.bl false) H:=aE (gF _) (by rfl)
theorem BM {K:W.Frag}{H:Hp}{Q:VK}{b:Str}:rIsi K [(.str b),.ty "dict"] H Q↔Q (.bl false) H:=aE (gF _) (by rfl)
theorem sH {K:W.Frag}{H:Hp}{Q:VK}{a:Addr}{xs:List V}(e:H a=some (.lst xs)):rIsi K [.ref a,.ty "int"] H Q↔Q (.bl false) H:=aE (n0 e) (by rfl)
theorem mR {K:W.Frag}{H:Hp}{Q:VK}{a:Addr}{xs:List V}(e:H a=some (.lst xs)):rIsi K [.ref a,.ty "str"] H Q↔Q (.bl false) H:=aE (n0 e) (by rfl)
theorem kL {K:W.Frag}{H:Hp}{Q:VK}{a:Addr}{xs:List V}(e:H a=some (.lst xs)):rIsi K [.ref a,.ty "list"] H Q↔Q (.bl true) H:=aE (n0 e) (by rfl)
theorem sI {K:W.Frag}{H:Hp}{Q:VK}{a:Addr}{xs:List V}(e:H a=some (.tup xs)):rIsi K [.ref a,.ty "int"] H Q↔Q (.bl false) H:=aE (n4 e) (by rfl)
theorem sJ {K:W.Frag}{H:Hp}{Q:VK}{a:Addr}{xs:List V}(e:H a=some (.tup xs)):rIsi K [.ref a,.ty "str"] H Q↔Q (.bl false) H:=aE (n4 e) (by rfl)
theorem gj {K:W.Frag}{H:Hp}{Q:VK}{a:Addr}{xs:List V}(e:H a=some (.tup xs)):rIsi K [.ref a,.ty "tuple"] H Q↔Q (.bl true) H:=aE (n4 e) (by rfl)
noncomputable def forW (J:It)(g:TG)(tb:TS)(D:Ends)(σ:St)(H1:Hp):Prop:=∃W:Nat->Nat->St->Hp->Prop,(∃m,W 0 m σ H1)/\∀i m σ H,W i m σ H->
 (J.stop i H/\D.nx σ H)\/(J.go i H/\∃N:St->Hp->Prop,(∀σ' H',N σ' H'->∃m',m' < m/\W (i+1) m' σ' H')/\∀x H',J.yld i H x H'->g x σ H' λσ2 H2=>tb { D with nx:=N,ct:=N,bk:=D.nx } σ2 H2)
theorem Ff (wi:TI)(g:TG)(tb:TS)(D:Ends)(σ:St)(H:Hp):tFor wi g tb D σ H=wi σ H λJ H1=>forW J g tb D σ H1:=rfl
noncomputable def compW (J:It)(tt:TT)(te:TE)(σ:St)(H1:Hp)(Q:VK):Prop:=∀D,H1 D=none->∃W:Nat->Nat->List V->Hp->Prop,(∃m,W 0 m [] (upd H1 D (.lst [])))/\∀i m ys H2,W i m ys H2->
 (J.stop i H2/\H2 D=some (.lst ys)/\Q (.ref D) H2)\/(J.go i H2/\ys.length < sizeLine/\∀x H3,J.yld i H2 x H3->tt (some x::σ) H3 λb H4=>
  if b=true then te (some x::σ) H4 λy H5=>H5 D=some (.lst ys)/\∃m',m' < m/\W (i+1) m' (ys++[y]) (upd H5 D (.lst (ys++[y]))) else ∃m',m' < m/\W (i+1) m' ys H4)
theorem EN (wi:TI)(tt:TT)(te:TE)(σ:St)(H:Hp)(Q:VK):tComp wi tt te σ H Q=wi σ H λJ H1=>compW J tt te σ H1 Q:=rfl
theorem n5 {z:Str}{g:TG}{tb:TS}{D:Ends}{σ:St}{H:Hp}(Pv:Nat->St->Hp->Prop)(h0:Pv 0 σ H)
  (hs:∀i c σ H,z.cps[i]?=some c->Pv i σ H->g (.str (S [c])) σ H λσ2 H2=>tb { D with nx:=Pv (i+1),ct:=Pv (i+1),bk:=D.nx } σ2 H2) (hd:∀σ H,Pv z.cps.size σ H->D.nx σ H):forW (Its z) g tb D σ H:=
 Bx Pv h0 hs hd
theorem dA {K:W.Frag}{a:Addr}{xs:List V}{g:TG}{tb:TS}{D:Ends}{σ:St}{H:Hp}(Pv:Nat->St->Hp->Prop)(h0:Pv 0 σ H)(hl:∀i σ H,i<=xs.length->Pv i σ H->SqL K H a xs)
  (hs:∀i x σ H,xs[i]?=some x->Pv i σ H->g x σ H λσ2 H2=>tb { D with nx:=Pv (i+1),ct:=Pv (i+1),bk:=D.nx } σ2 H2) (hd:∀σ H,Pv xs.length σ H->D.nx σ H):forW (Itl K a) g tb D σ H:=
 zE Pv h0 hl hs hd
theorem kc {lo:Int}{n:Nat}{g:TG}{tb:TS}{D:Ends}{σ:St}{H:Hp}(Pv:Nat->St->Hp->Prop)(h0:Pv 0 σ H)
  (hs:∀i σ H,i < n->Pv i σ H->g (.int (lo+i)) σ H λσ2 H2=>tb { D with nx:=Pv (i+1),ct:=Pv (i+1),bk:=D.nx } σ2 H2) (hd:∀σ H,Pv n σ H->D.nx σ H):forW (Itr lo n) g tb D σ H:=
 xj Pv h0 hs hd
theorem iR {te:TE}{σ:St}{H:Hp}{Q:VK}{lo:Int}{n:Nat}(hn:n<=sizeLine)(f:Nat->V)
  (he:∀i H',i < n->Same H H'->∀Qe:VK,(∀H'',Same H' H''->Qe (f i) H'')->te (some (.int (lo+i))::σ) H' Qe)
  (hd:∀D H',H D=none->Same H H'->H' D=some (.lst ((List.range n).map f))->Q (.ref D) H'):compW (Itr lo n) tYes te σ H Q:=
 λD hD=>uL lo n hn hD f he λH' s h=>hd D H' hD s h
theorem FH {CX:CXT}{P:Program}{w:World}{K:W.Frag}{mg:Str->Option Value}{base:Heap}{N:List Str}{qual:Str}{scope:Scope}{f:Addr}{cd:Value}{A:Around}{outer:List Env}{s:Shared}{H:Hp}{E:XK} :
  (cxOf CX P w K mg base N qual scope f cd A outer s H E).K=K:=rfl
theorem FF (a b:List Nat):(S a=S b)=(a=b):=propext ⟨nZ,λh=>by rw[h]⟩
noncomputable def rPlus (K:W.Frag):R2:=λx y H Q=>rI0 (λi j=>.int (i+j)) x y H Q\/(rCatT2 x y H Q\/rCatS K x y H Q)
noncomputable def rEqq (K:W.Frag):R2:=λx y H Q=>rEq x y H Q\/rEqD K false x y H Q
noncomputable def rNeq (K:W.Frag):R2:=λx y H Q=>rNe x y H Q\/rEqD K true x y H Q
noncomputable def rLt:R2:=λx y H Q=>rI0 (λi j=>.bl (decide (i < j))) x y H Q\/rStrs (λa b=>decide (a < b)) x y H Q
noncomputable def rLe:R2:=λx y H Q=>rI0 (λi j=>.bl (decide (i<=j))) x y H Q\/rStrs (λa b=>!decide (b < a)) x y H Q
noncomputable def rLen (K:W.Frag):List V->Hp->VK->Prop:=λxs H Q=>(∃p ys,xs=[.ref p]/\(SqL K H p ys\/SqT K H p ys)/\Q (.int ys.length) H)\/((∃l,xs=[.str (S l)]/\l.length<=sizeLine/\Q (.int l.length) H)\/(∃a kvs,xs=[V.ref a]/\H a=some (.dK kvs)/\Q (.int kvs.length) H))
noncomputable def rInn (K:W.Frag):R2:=λx y H Q=>rIn K false x y H Q\/((∃i j,x=.str i/\y=.str j/\Q (.bl (occB j i)) H)\/(∃a o,y=.ref a/\DGet H a x o/\Q (.bl o.isSome) H))
noncomputable def rNin (K:W.Frag):R2:=λx y H Q=>rIn K true x y H Q\/((∃i j,x=.str i/\y=.str j/\Q (.bl (!occB j i)) H)\/(∃a o,y=.ref a/\DGet H a x o/\Q (.bl (!o.isSome)) H))
noncomputable def rListOf (K:W.Frag):List V->Hp->VK->Prop:=λxs H Q=>∃p ys,xs=[.ref p]/\(SqL K H p ys\/SqT K H p ys)/\∀l,H l=none->Q (.ref l) (upd H l (.lst ys))
noncomputable def rOrd:List V->Hp->VK->Prop:=λxs H Q=>∃c,xs=[.str (S [c])]/\Q (.int (c:Nat)) H
noncomputable def rAny (K:W.Frag)(x:V)(H1:Hp)(R:It->Hp->Prop):Prop:=(∃a,x=.ref a/\(∃xs,SqL K H1 a xs)/\R (Itl K a) H1)\/((∃a,x=.ref a/\(∃xs,SqT K H1 a xs)/\R (Itt K a) H1)\/(∃z,x=.str z/\R (Its z) H1))
theorem Fg (K:W.Frag)(tl:TE)(σ:St)(H:Hp)(R:It->Hp->Prop):iAny K tl σ H R=tl σ H λx H1=>rAny K x H1 R:=rfl
noncomputable def tTru (K:W.Frag)(ta:TE):TT:=λσ H Q=>ta σ H λx H'=>∃k,TruV K x H' k/\Q k H'
section
variable {K:W.Frag} {H:Hp} {Q:VK} {R:It->Hp->Prop} {x y:V} {a b p:Addr} {xs zs ys:List V}
theorem sL (i j:Int):rPlus K (.int i) (.int j) H Q=Q (.int (i+j)) H:=by simp[rPlus,rI0,rCatT2,rCatS]
theorem EO (i j:Str):rPlus K (.str i) (.str j) H Q=∃l m,i=S l/\j=S m/\l.length+m.length<=sizeLine/\Q (.str (S (l++m))) H:=by simp[rPlus,rI0,rCatT2,rCatS]
theorem wB (h1:SqL K H a xs)(h2:SqL K H b zs)(hz:xs.length+zs.length<=sizeLine)(q:∀p,H p=none->Q (.ref p) (upd H p (.lst (xs++zs)))):rPlus K (.ref a) (.ref b) H Q:=.inr (.inr ⟨a,b,xs,zs,rfl,rfl,h1,h2,hz,q⟩)
theorem Fh (i j:Int):rEqq K (.int i) (.int j) H Q=Q (.bl (decide (i=j))) H:=by simp[rEqq,rEq,rEqD,scal,isRef]
theorem BN (i j:Int):rNeq K (.int i) (.int j) H Q=Q (.bl (!(decide (i=j)))) H:=by simp[rNeq,rNe,rEqD,scal,isRef]
theorem Fi (i j:Str):rEqq K (.str i) (.str j) H Q=Q (.bl (decide (i=j))) H:=by simp[rEqq,rEq,rEqD,scal,isRef]
theorem DP {d e:PyData}(hr:(isRef x || isRef y)=true)(h1:Den K H x d)(h2:Den K H y e)(s1:SeqAt.shaped d=true)(s2:SeqAt.shaped e=true)(q:Q (.bl (PyData.eqv d e)) H):rEqq K x y H Q:=.inr ⟨hr,d,e,h1,h2,s1,s2,q⟩
theorem DQ {d e:PyData}(hr:(isRef x || isRef y)=true)(h1:Den K H x d)(h2:Den K H y e)(s1:SeqAt.shaped d=true)(s2:SeqAt.shaped e=true)(q:Q (.bl (!PyData.eqv d e)) H):rNeq K x y H Q:=.inr ⟨hr,d,e,h1,h2,s1,s2,q⟩
theorem DR (i j:Int):rLt (.int i) (.int j) H Q=Q (.bl (decide (i < j))) H:=by simp[rLt,rI0,rStrs]
theorem Fq (i j:Int):rLe (.int i) (.int j) H Q=Q (.bl (decide (i<=j))) H:=by simp[rLe,rI0,rStrs]
theorem Fs (i j:Str):rLe (.str i) (.str j) H Q=Q (.bl (!decide (j.cps.toList < i.cps.toList))) H:=by simp[rLe,rI0,rStrs]
theorem Ft (i:Str):rLen K [.str i] H Q=∃l,i=S l/\l.length<=sizeLine/\Q (.int l.length) H:=by simp[rLen]
theorem cm (h:SqL K H p ys)(q:Q (.int ys.length) H):rLen K [.ref p] H Q:=.inl ⟨p,ys,rfl,.inl h,q⟩
theorem Ab (h:SqT K H p ys)(q:Q (.int ys.length) H):rLen K [.ref p] H Q:=.inl ⟨p,ys,rfl,.inr h,q⟩
theorem Fu (i j:Str):rInn K (.str i) (.str j) H Q=Q (.bl (occB j i)) H:=by simp[rInn,rIn]
theorem Ac (h:SqL K H p xs\/SqT K H p xs)(f:flatV x=true)(g:xs.all flatV=true)(q:Q (.bl (inV x xs)) H):rInn K x (.ref p) H Q:=.inl ⟨p,xs,rfl,h,f,g,q⟩
theorem DS {o:Option V}(h:DGet H p x o)(q:Q (.bl (!o.isSome)) H):rNin K x (.ref p) H Q:=.inr (.inr ⟨p,o,rfl,h,q⟩)
theorem ju (h:SqL K H p ys\/SqT K H p ys)(q:∀l,H l=none->Q (.ref l) (upd H l (.lst ys))):rListOf K [.ref p] H Q:=⟨p,ys,rfl,h,q⟩
theorem Fv (i:Str):rIxA K (.str i) y H Q=rIxS2 (.str i) y H Q:=by simp[rIxA,rIxL,rIxT]
theorem bw {i:Int}{v:V}(h:SqL K H p xs)(e:atI xs i=some v)(q:Q v H):rIxA K (.ref p) (.int i) H Q:=.inl ⟨p,xs,i,v,rfl,rfl,h,e,q⟩
theorem aQ {i:Int}{v:V}(h:SqT K H p xs)(e:atI xs i=some v)(q:Q v H):rIxA K (.ref p) (.int i) H Q:=.inr (.inl ⟨p,xs,i,v,rfl,rfl,h,e,q⟩)
theorem cu {v:V}(h:DGet H p y (some v))(q:Q v H):rIxA K (.ref p) y H Q:=.inr (.inr (.inr ⟨p,v,rfl,h,q⟩))
theorem n6 {lo hi:Option Int}(h:SqL K H a xs)(q:∀p,H p=none->Q (.ref p) (upd H p (.lst (cutV xs lo hi)))):rSlA K (.ref a) lo hi H Q:=.inl ⟨a,xs,rfl,h,q⟩
theorem Fw (z:Str):rAny K (.str z) H R=R (Its z) H:=by simp[rAny]
theorem cv (h:SqL K H a xs)(q:R (Itl K a) H):rAny K (.ref a) H R:=.inl ⟨a,rfl,⟨xs,h⟩,q⟩
theorem DT (h:SqT K H a xs)(q:R (Itt K a) H):rAny K (.ref a) H R:=.inr (.inl ⟨a,rfl,⟨xs,h⟩,q⟩)
theorem rh {v:V}{k:Int}{j:Nat}{Qh:Hp->Prop}(h:H p=some (.lst xs))(e:ixN xs.length k=some j)(q:Qh (upd H p (.lst (xs.set j v)))):rSetA (.ref p) (.int k) v H Qh:=.inl ⟨p,xs,k,j,rfl,rfl,h,e,q⟩
theorem gZ {v:V}{H':Hp}{Qh:Hp->Prop}(h:DPut H p y v H')(q:Qh H'):rSetA (.ref p) y v H Qh:=.inr ⟨p,H',rfl,h,q⟩
theorem Fx (b k:Bool):TruV K (.bl b) H k=(k=b):=rfl
theorem Fy (k:Bool):TruV K .non H k=(k=false):=rfl
theorem Fz (i:Int)(k:Bool):TruV K (.int i) H k=(k=(i != 0)):=rfl
end
section
variable {X:Cx} {K:W.Frag} {a b c e o l tg:Expr} {es:List Expr} {ta tb to te tl:TE} {t:TA} {pos apos cpos p2:Pos} {f name:Str} {lo hi:Option Expr} {tlo thi:TO}
theorem ay (hK:autoParam (X.K=K) L2.dft3._auto_1):OpR X (binaryOp .Add) (rPlus K):=hK▸Bz
theorem gk (hu:X.A.units+64 < cLine)(hK:autoParam (X.K=K) L2.dft3._auto_1):OpR X (compareOp .Eq) (rEqq K):=hK▸DB hu
theorem dB (hu:X.A.units+64 < cLine)(hK:autoParam (X.K=K) L2.dft3._auto_1):OpR X (compareOp .NotEq) (rNeq K):=hK▸DC hu
theorem aO (hK:autoParam (X.K=K) L2.dft3._auto_1):CallR X (.builtin "len") (rLen K):=hK▸xB
theorem jv:CallR X (.builtin "ord") rOrd:=xC
theorem lR:OpR X (compareOp .Lt) rLt:=DF
theorem g9:OpR X (compareOp .LtE) rLe:=DG
theorem aJ (hK:autoParam (X.K=K) L2.dft3._auto_1):CallR X (.builtin "isinstance") (rIsi K):=hK▸lQ
theorem cR (hK:autoParam (X.K=K) L2.dft3._auto_1):CallR X (.type "list") (rListOf K):=hK▸qY
theorem aq (hu:X.A.units+1 < cLine)(hK:autoParam (X.K=K) L2.dft3._auto_1):IxR X (rIxA K):=hK▸DI hu
theorem kM (hK:autoParam (X.K=K) L2.dft3._auto_1):SlR X (rSlA K):=hK▸DJ
theorem uM (hu:X.A.units+1 < cLine)(hK:autoParam (X.K=K) L2.dft3._auto_1):OpR X (compareOp .In) (rInn K):=hK▸DL hu
theorem xG (hu:X.A.units+1 < cLine)(hK:autoParam (X.K=K) L2.dft3._auto_1):OpR X (compareOp .NotIn) (rNin K):=hK▸xE hu
theorem iS (hK:autoParam (X.K=K) L2.dft3._auto_1):MtR X "str.join" (rJoin K):=hK▸BC
theorem aW (hl:PE X l tl)(hK:autoParam (X.K=K) L2.dft3._auto_1):PI X tg l (iAny K tl):=hK▸DM hl
theorem au (he:PE X e ta)(hb:attributeBase e f X.env (eval e X.env)=eval e X.env)(hK:autoParam (X.K=K) L2.dft3._auto_1):PE X (.Attribute e f pos) (tFld K ta f):=hK▸Dr he hb
theorem aR (ha:PE X a ta)(he:∀whole,isTrue a X.env whole=(do let v <-whole;standAt a.pos;holding [v] (truthy v)))(hK:autoParam (X.K=K) L2.dft3._auto_1) :
  PT X a (tTru K ta):=hK▸zK ha he
theorem cn {T id:String}{r:V->List V->Hp->VK->Prop}(pa:PlainAttrs T)(slot:Slot T name id)(hty:typeOf (.builtin id)=pure (.type "method_descriptor"))(hm:MtR X id r)(ho:PE X o to)(ha:PA X (e::es) t)
  (hbase:autoParam (attributeBase o name X.env (eval o X.env)=eval o X.env) L2.dft3._auto_1)
  (hfew:autoParam (((backTo cpos (starEach (e::es) X.env)).all (λx=>!x.1) && (backToKw cpos (keywordEach [] X.env)).all (λx=>x.1.isSome)
   && decide ((e::es).length+([]:List Keyword).length+(if ([]:List Keyword).isEmpty then 0 else 1) < 30))=true) L2.dft3._auto_1)
  (hline:autoParam ((apos.endLine == cpos.line)=true) L2.dft3._auto_1) (hs:autoParam (starEach (e::es) X.env=(false,eval e X.env)::starEach es X.env) L2.dft3._auto_1) (hplain:autoParam ((backTo cpos (starEach es X.env)).any (·.1)=false) L2.dft3._auto_1) (hK:autoParam (X.K=K) L2.dft3._auto_1) :
  PE X (.Call (.Attribute o name apos) (e::es) [] cpos) (tBM K T r to t):=hK▸EJ pa slot hty hm ho ha hbase hfew hline hs hplain
theorem hG {es:List Expr}{k:Nat}{t:TGs}{n:Nat}(hc:X.calm=true)(h:PGs X es t)
  (hn:autoParam ((assignEach es X.env).length=n) L2.dft3._auto_1) (hst:autoParam ((assignEach es X.env).findIdx? (·.1)=none) L2.dft3._auto_1) (hK:autoParam (X.K=K) L2.dft3._auto_1):PG X (.Tuple es k pos) (gTup K n t):=hK▸Dk hc h hn hst
end
section
variable {X:Cx}
noncomputable def tInRng (neg:Bool)(ta:TE)(tr:TA):TE:=λσ H Q=>ta σ H λx H1=>tr σ H1 λvs H2=>∃i a b:Int,x=.int i/\vs=[.int a,.int b]/\Q (.bl (if neg then !(decide (a<=i) && decide (i < b)) else(decide (a<=i) && decide (i < b)))) H2
noncomputable def tInRng1 (neg:Bool)(ta:TE)(tr:TA):TE:=λσ H Q=>ta σ H λx H1=>tr σ H1 λvs H2=>∃i b:Int,x=.int i/\vs=[.int b]/\Q (.bl (if neg then !(decide (0<=i) && decide (i < b)) else(decide (0<=i) && decide (i < b)))) H2
theorem sM {bs:List Bool}:∀{us:List Value},Vals (bs.map V.bl) us->LSm.BoolsAre us bs:=by
 induction bs with
 | nil=>intro us r;cases r;exact .nil
 | cons a r ih=>
  intro us h
  cases h with
  | cons h1 h2=>
   cases (show _=Value.bool a from h1)
   exact .cons _ (ih h2)
noncomputable def rAll (K:W.Frag):List V->Hp->VK->Prop:=λxs H Q=>∃(p:Addr) (bs:List Bool),xs=[.ref p]/\SqL K H p (bs.map V.bl)/\Q (.bl (bs.all id)) H
theorem uN {h h':Heap}{o:Obj}(hk:∀b x,b∉[h.objs.size]->(h.push o).get? b=some x->h'.get? b=some x):∀b x,h.get? b=some x->h'.get? b=some x:=
 λb x e=>hk b x (λhm=>by rw[List.mem_singleton.mp hm] at e;exact Nat.lt_irrefl _ (Heap.lt_size e)) (Heap.get?_push_of_some _ e)
theorem xH (hc:X.calm=true):CallR X (.builtin "all") (rAll X.K):=by
 intro pins s σ H xs us Q I r h
 obtain⟨p,bs,rfl,hq,q⟩:=h
 obtain⟨u,rfl,ru⟩:=vals1 r
 cases ru
 obtain⟨its,rv,pl,hz⟩:=I.list hq
 have hb:=sM rv
 have hl:=pl.isList
 have hlt:p < s.heap.objs.size:=by obtain⟨_,e,_⟩:=hl;exact Heap.lt_size e
 refine call_all_walk (wpAny_pyIter_list hl ?_)
 refine⟨s.heap.objs.size,[s.heap.objs.size,p],[s.heap.objs.size],its.toArray.size,_,_,λi=>(bs[i]?).getD true,rfl,Walks.list (A:=X.A.in1) (I.ok.hd hc) _ p (Nat.ne_of_lt hlt) its.toArray,
  ⟨⟨_,Heap.get?_push_size _ rfl,rfl,rfl⟩,hl.push _⟩,λi v s' Q' E' hP hQ=>?_,λh' tk hk=>?_⟩
 ·obtain⟨b,e,rfl⟩:=hb.get i v (by simpa using hP)
  simp only[e,Option.getD_some] at hQ
  exact wpAny_truthy_bool hQ
 ·have e:((List.range its.toArray.size).all λi=>(bs[i]?).getD true)=bs.all id:=by
   rw[List.size_toArray,hb.length];exact LSm.range_all bs
  rw[e]
  exact⟨.bl _,H,I.kept (uN hk),rfl,q⟩
noncomputable def rSum (K:W.Frag):List V->Hp->VK->Prop:=λxs H Q=>∃(p:Addr) (ns:List Int),xs=[.ref p]/\SqL K H p (ns.map V.int)/\Q (.int ns.sum) H
theorem xI (hc:X.calm=true):CallR X (.builtin "sum") (rSum X.K):=by
 intro pins s σ H xs us Q I r h
 obtain⟨p,ns,rfl,hq,q⟩:=h
 obtain⟨u,rfl,ru⟩:=vals1 r
 cases ru
 obtain⟨its,rv,pl,hz⟩:=I.list hq
 have hi:=intsAre_of rv
 obtain⟨xs,hx⟩:=hi.allInts.items
 have hl':s.heap.IsList p (intItems xs):=hx▸pl.isList
 refine sum_intListG (I.ok.hd hc) hl' λh' tk t' hk=>?_
 have e1:ns=xs.toList.map (·.1):=by
  rw[<-nums_intItems,<-hx]
  exact(show numsOf its.toArray.toList=ns from hi.numsOf).symm
 have e2:preSum (numAt xs) xs.size=ns.sum:=by
  rw[preSum_eq,List.take_of_length_le (by simp),e1]
 rw[e2]
 exact⟨.int _,H,I.kept hk,⟨_,rfl⟩,q⟩
theorem eA {K:W.Frag}(hc:autoParam (X.calm=true) L2.dft3._auto_1)(hK:autoParam (X.K=K) L2.dft3._auto_1):CallR X (.builtin "all") (rAll K):=hK▸xH hc
theorem lS {K:W.Frag}(hc:autoParam (X.calm=true) L2.dft3._auto_1)(hK:autoParam (X.K=K) L2.dft3._auto_1):CallR X (.builtin "sum") (rSum K):=hK▸xI hc
theorem lT {K:W.Frag}{H:Hp}{Q:VK}{p:Addr}{bs:List Bool}(h:SqL K H p (bs.map V.bl))(q:Q (.bl (bs.all id)) H):rAll K [.ref p] H Q:=⟨p,bs,rfl,h,q⟩
theorem DU {K:W.Frag}{H:Hp}{Q:VK}{p:Addr}{ns:List Int}(h:SqL K H p (ns.map V.int))(q:Q (.int ns.sum) H):rSum K [.ref p] H Q:=⟨p,ns,rfl,h,q⟩
noncomputable def rMax:List V->Hp->VK->Prop:=λxs H Q=>∃i j,xs=[.int i,.int j]/\Q (.int (max i j)) H
noncomputable def rMin:List V->Hp->VK->Prop:=λxs H Q=>∃i j,xs=[.int i,.int j]/\Q (.int (min i j)) H
theorem xJ (hc:X.calm=true):CallR X (.builtin "max") rMax:=by
 intro pins s σ H xs us Q I r h
 obtain⟨i,j,rfl,q⟩:=h
 refine xm hc pins s σ H _ us Q I r ⟨i,j,rfl,?_⟩
 rw[show(if j > i then j else i)=max i j by split<;>omega]
 exact q
theorem xK (hc:X.calm=true):CallR X (.builtin "min") rMin:=by
 intro pins s σ H xs us Q I r h
 obtain⟨i,j,rfl,q⟩:=h
 refine xn hc pins s σ H _ us Q I r ⟨i,j,rfl,?_⟩
 rw[show(if j < i then j else i)=min i j by split<;>omega]
 exact q
noncomputable def strI (i:Int):List Nat:=(toString i:Str).cps.toList
noncomputable def rStrI:List V->Hp->VK->Prop:=λxs H Q=>∃i,xs=[.int i]/\i.natAbs.log2 < 1920/\Q (.str (S (strI i))) H
theorem gG {K:W.Frag}:CallR X (.type "str") rStrI:=by
 intro pins s σ H xs us Q I r h
 obtain⟨i,rfl,hz,q⟩:=h
 refine qN pins s σ H _ us Q I r ⟨i,rfl,hz,?_⟩
 have e:(toString i:Str)=S (strI i):=Bv _
 rw[e]
 exact q
end
structure FunD (K:W.Frag)(x qual:Str)(st:Stmt)(f:Addr)(fd:FuncData)(items:List Value):Prop where
 ex:∃(oc:Value) (od:Option Addr) (kV doc pm:Value) (an:Option Addr) (cdv ct:Value) (osl:Array (Option Value)) (tD:Addr) (o:Obj) (n:Nat),
  fd=W.fnOf x qual (defArgs st) (defBody st) (defScope st) (.ref tD) kV doc pm an cdv ct/\K.lookup f=some ⟨oc,od,.func fd,osl⟩/\W.codeIn K cdv qual=true/\K.lookup tD=some o/\o.data=.seq items.toArray n
 kp:W.keepIn K (.ref f)=true
section
variable {P:Program} {w:World} {K:W.Frag} {mg:Str->Option Value} {base:Heap}
theorem FunD.ok {x qual:Str}{st:Stmt}{f:Addr}{fd:FuncData}{items:List Value}{N ps:List Str}{k:Nat}{sp:Sp}(F:FunD K x qual st f fd items)(S:FnScope N ps (defScope st))(len:∀vs H Q E,sp vs H Q E->vs.length=ps.length)
  (hbody:∀(cdv:Value) (A:Around) (outer:List Env) (s:Shared) (H:Hp) (vs:List V) (Q:VK) (E:XK),Room k (A.deeper (envOfC qual (defScope st) s.heap.objs.size f cdv))->sp vs H Q E->
   ∃t,PSs (cxOf CX0 P w K mg base N qual (defScope st) f cdv A outer s H E).nox (defBody st) t/\t { nx:=λ_ H'=>Q .non H',rt:=Q } (start N vs) H):FnOk P w K mg base CX0 (k+1) f fd ps sp:=by
 obtain⟨oc,od,kV,doc,pm,an,cdv,ct,osl,tD,o,n,rfl,lk,hcd,_⟩:=F.ex
 refine wz lk hcd S len λA outer s H vs Q E hr hsp=>?_
 obtain⟨t,h,q⟩:=hbody cdv A outer s H vs Q E hr hsp
 exact⟨t,h.nox,q⟩
theorem FunD.binds {x qual:Str}{st:Stmt}{f:Addr}{fd:FuncData}{items:List Value}{ps:List Str}(ds:List Value)(m:Nat)(hm:m+ds.length=ps.length)(F:FunD K x qual st f fd items)
  (h:∀(tD:Addr) (kV doc pm:Value) (an:Option Addr) (cdv ct:Value) (us:List Value),us.length=m->
   ∃kk,bindArgs (W.fnOf x qual (defArgs st) (defBody st) (defScope st) (.ref tD) kV doc pm an cdv ct) ⟨us,[]⟩=seqItems? (.ref tD) >>= kk/\kk (some items.toArray)=pure (ps.zip (us++ds))):Binds K fd ps ds:=by
 obtain⟨oc,od,kV,doc,pm,an,cdv,ct,osl,tD,o,n,rfl,lk,hcd,ho,hs⟩:=F.ex
 intro s us X hl
 rw[List.length_append] at hl
 obtain⟨kk,h1,h2⟩:=h tD kV doc pm an cdv ct us (by omega)
 exact BindsTo.of_defaults rfl (X _ _ ho) hs h1 h2
theorem da {x qual:Str}{st:Stmt}{f:Addr}{oc:Value}{od an:Option Addr}{osl:Array (Option Value)}{kV doc pm cdv ct:Value}{tD:Addr}{tc:Value}{td:Option Addr}{tn:Nat}{tsl:Array (Option Value)}{items:List Value}
  (l:K.lookup f=some ⟨oc,od,.func (W.fnOf x qual (defArgs st) (defBody st) (defScope st) (.ref tD) kV doc pm an cdv ct),osl⟩)
  (c:W.codeIn K cdv qual=true) (k:W.keepIn K (.ref f)=true) (dl:K.lookup tD=some ⟨tc,td,.seq items.toArray tn,tsl⟩):FunD K x qual st f (W.fnOf x qual (defArgs st) (defBody st) (defScope st) (.ref tD) kV doc pm an cdv ct) items:=
 ⟨⟨oc,od,kV,doc,pm,an,cdv,ct,osl,tD,_,tn,rfl,l,c,dl,rfl⟩,k⟩
end
structure Chg (A:List Addr)(H H':Hp):Prop where
 keep:∀b o,H b=some o->b∉A->H' b=some o
 tup:∀b xs,H b=some (.tup xs)->H' b=some (.tup xs)
theorem Chg.refl {A:List Addr}(H:Hp):Chg A H H:=⟨λ_ _ h _=>h,λ_ _ h=>h⟩
theorem Chg.of_same {A:List Addr}{H H':Hp}(s:Same H H'):Chg A H H':=⟨λb o h _=>s b o h,λb xs h=>s b _ h⟩
theorem Chg.trans {A:List Addr}{H H1 H2:Hp}(x:Chg A H H1)(y:Chg A H1 H2):Chg A H H2:=⟨λb o h n=>y.keep b o (x.keep b o h n) n,λb xs h=>y.tup b xs (x.tup b xs h)⟩
theorem Chg.mono {A B:List Addr}{H H':Hp}(x:Chg A H H')(h:∀b,b∈A->b∈B):Chg B H H':=⟨λb o e n=>x.keep b o e λz=>n (h b z),x.tup⟩
theorem Chg.upd {A:List Addr}{H:Hp}{a:Addr}{o:HO}(ha:a∈A)(hm:∀xs,H a≠some (.tup xs)):Chg A H (L2.upd H a o):=by
 refine⟨λb u e n=>?_,λb xs e=>?_⟩
 ·have hb:b≠a:=λz=>by subst z;exact n ha
  rw[aj hb];exact e
 ·have hb:b≠a:=λz=>by subst z;exact hm xs e
  rw[aj hb];exact e
theorem Chg.new {A:List Addr}{H:Hp}{a:Addr}{o:HO}(ha:H a=none):Chg A H (L2.upd H a o):=.of_same (Same.upd ha)
theorem lV {H:Hp}{a:Addr}{kvs:List (Key×V)}(h:H a=some (.dK kvs)):∀xs,H a≠some (.tup xs):=λxs z=>by rw[h] at z;cases z
theorem jw {H:Hp}{a:Addr}{kvs:List V}(h:H a=some (.lst kvs)):∀xs,H a≠some (.tup xs):=λxs z=>by rw[h] at z;cases z
theorem bU {H:Hp}{a C dx:Addr}{fs:List (Str×V)}(h:H a=some (.ins C dx fs)):∀xs,H a≠some (.tup xs):=λxs z=>by rw[h] at z;cases z
theorem kN {K:W.Frag}{tt:TT}{te:TE}{σ:St}{H:Hp}{Q:VK}{a:Addr}{xs:List V}(hl:SqL K H a xs)(hn:xs.length<=sizeLine)(p:V->Bool)(f:V->V)
  (ht:∀x H',x∈xs->Same H H'->∀Qt:Bool->Hp->Prop,(∀H'',Same H' H''->Qt (p x) H'')->tt (some x::σ) H' Qt)
  (he:∀x H',x∈xs->p x=true->Same H H'->∀Qe:VK,(∀H'',Same H' H''->Qe (f x) H'')->te (some x::σ) H' Qe)
  (hd:∀D H',H D=none->Same H H'->H' D=some (.lst ((xs.filter p).map f))->Q (.ref D) H'):compW (Itl K a) tt te σ H Q:=λD hD=>
 jr (J:=Itl K a) xs.length hn hD (λi=>xs.getD i .non) (λi=>f (xs.getD i .non)) (λi=>p (xs.getD i .non)) (λH' s=>⟨xs,s.seq hl,Nat.le_refl _⟩)
  (λi H' s h=>⟨xs,xs[i],s.seq hl,by simp⟩)
  (λi H' x H'' s hi y=>by
   obtain⟨rfl,z⟩:=y
   have hz:=z xs (s.seq hl)
   refine⟨rfl,?_⟩
   rw[List.getD_eq_getElem?_getD,hz]
   rfl)
  (λi H' h s Qt q=>ht _ H' (by rw[List.getD_eq_getElem?_getD,List.getElem?_eq_getElem h];exact List.getElem_mem h) s Qt q)
  (λi H' h hp s Qe q=>he _ H' (by rw[List.getD_eq_getElem?_getD,List.getElem?_eq_getElem h];exact List.getElem_mem h) hp s Qe q)
  (λH' s h=>hd D H' hD s (by
   rw[h]
   congr 2
   have e:(List.range xs.length).map (λi=>xs.getD i .non)=xs:=by
    refine List.ext_getElem (by simp) λi h1 h2=>?_
    simp at h1 h2 ⊢
    rw[List.getElem?_eq_getElem h2]
    rfl
   conv=>rhs;rw[<-e]
   rw[List.filter_map,List.map_map]
   rfl))
theorem ke {K:W.Frag}{te:TE}{σ:St}{H:Hp}{Q:VK}{a:Addr}{xs:List V}(hl:SqL K H a xs)(hn:xs.length<=sizeLine)(f:V->V)
  (he:∀x H',x∈xs->Same H H'->∀Qe:VK,(∀H'',Same H' H''->Qe (f x) H'')->te (some x::σ) H' Qe)
  (hd:∀D H',H D=none->Same H H'->H' D=some (.lst (xs.map f))->Q (.ref D) H'):compW (Itl K a) tYes te σ H Q:=
 kN hl hn (λ_=>true) f (λx H' _ s Qt q=>q H' (Same.refl _)) (λx H' h _ s Qe q=>he x H' h s Qe q) (λD H' h s e=>hd D H' h s (by rw[cX] at e;exact e))
theorem ER {l:List Addr}(h:l.Nodup){i j:Nat}{a b:Addr}(ha:l[i]?=some a)(hb:l[j]?=some b)(hij:i≠j):a≠b:=by
 intro e
 subst e
 obtain⟨hi,ea⟩:=List.getElem?_eq_some_iff.mp ha
 obtain⟨hj,eb⟩:=List.getElem?_eq_some_iff.mp hb
 have hp:=List.pairwise_iff_getElem.mp h
 rcases Nat.lt_or_gt_of_ne hij with q | q
 ·exact hp i j hi hj q (ea.trans eb.symm)
 ·exact hp j i hj hi q (eb.trans ea.symm)
section
variable {X:Cx} {pins:List (Addr×Obj)} {σ:St} {H:Hp} {s:Shared} {h':Heap}
theorem Inv.turnedL {t':Nat}{l:List Addr}(I:Inv X pins σ H s)(k:∀b o,b∉l->s.heap.get? b=some o->h'.get? b=some o)(hf:∀b∈l,FpOk X pins H b):Inv X pins σ H { s with heap:=h',toks:=t' }:=by
 have nit:∀b u,H b=some u->b∉l:=λb u e z=>by rw[(hf b z).1] at e;cases e
 refine I.step (g':=s.gens) (d':=s.drawn) (ch:=l) (λb hb=>?_) (λb o _ _ hc e _=>k b o hc e) (λb o _ _ hc e _=>⟨o.slots,k b o hc e⟩) (λ_ _ _ _ n=>n)
  (λb o hc e=>⟨o,k b o hc e⟩) (λ_ _ e=>e) (λ_ _ _ e=>e) (λb ps e=>⟨#[],by rw[e];simp⟩) (λm hm=>?_) (λb u e=>?_) I.bare
 ·obtain⟨f0,f1,f2,f3,f4,f5⟩:=hf b hb
  exact⟨f3,f1,f4,f5⟩
 ·obtain⟨o,es,ep,ho,r⟩:=hm
  exact⟨o,es,ep,k _ o (λz=>(hf _ z).2.1 rfl) ho,r⟩
 ·refine(I.hok b u e).stay (λc v hc q=>k c v ?_ q) (λ_ q=>q) λ_ _ q=>q
  rcases hc with z | z
  ·rw[z];exact nit b u e
  ·exact nit c _ z
theorem Inv.track {t':Nat}{T:Addr}{o:HO}(I:Inv X pins σ H s)(f:FpOk X pins H T)(new:ObjOk X.prog X.w (upd H T o) s.heap T o)(ht:∀xs,o=.tup xs->True):Inv X pins σ (upd H T o) { s with toks:=t' }:=by
 obtain⟨f0,f1,f2,f3,f4,f5⟩:=f
 refine I.step (h':=s.heap) (g':=s.gens) (d':=s.drawn) (ch:=[T]) (λb hb=>?_) (λb ob _ _ hc e _=>e) (λb ob _ _ hc e _=>⟨ob.slots,e⟩) (λb ob hc e n=>?_)
  (λb ob hc e=>⟨ob,e⟩) (λb xs e=>?_) (λb ob u e=>?_) (λb ps e=>⟨#[],?_⟩) (λm hm=>hm) (λb u e=>?_) I.bare
 ·have e:b=T:=by simpa using hb
  subst e
  exact⟨f3,f1,f4,f5⟩
 ·rw[aj (λz=>hc (by simp[z]))];exact n
 ·rw[aj (az e f0)];exact e
 ·rw[aj (az e f0)];exact e
 ·rw[aj (az e f0),e];simp
 ·by_cases hb:b=T
  ·subst hb
   rw[af] at e
   cases e
   exact new
  ·rw[aj hb] at e
   refine(I.hok b u e).stay (λc v _ q=>q) (λc q=>?_) λc xs q=>?_
   ·rw[aj (az q f0)];exact q
   ·rw[aj (az q f0)];exact q
end
noncomputable def Itz (K:W.Frag)(a b:Addr):It:=
 ⟨λi H=>∃xs ys x y,SqL K H a xs/\SqL K H b ys/\xs[i]?=some x/\ys[i]?=some y,
  λi H v H'=>∃T x y,v=.ref T/\H T=none/\H'=upd H T (.tup [x,y])/\(∀xs,SqL K H a xs->xs[i]?=some x)/\∀ys,SqL K H b ys->ys[i]?=some y,
  λi H=>∃xs ys,SqL K H a xs/\SqL K H b ys/\(xs.length<=i\/ys.length<=i)⟩
theorem ES {P:Program}{w:World}{K:W.Frag}{elts:List Expr}{k0:Nat}{pos:Pos}(a b z TI TO i1 i2:Addr)(h12:i1≠i2)(hTT:TI≠TO) :
  Turn P w K (.Tuple elts k0 pos) (Itz K a b) [z,TI,TO,i1,i2] z (λi h=>IsZip h z TI TO .none/\IsPair h TI (.ref i1) (.ref i2)/\(∃x y,IsPair h TO x y)/\h.IsListIter i1 a i/\h.IsListIter i2 b i) where
 mem:=by simp
 obj:=λi h st c hc=>by
  obtain⟨hz,hTI,⟨x,y,hTO⟩,⟨o1,e1,c1,d1⟩,⟨o2,e2,c2,d2⟩⟩:=st
  simp only[List.mem_cons,List.not_mem_nil,or_false] at hc
  rcases hc with rfl | rfl | rfl | rfl | rfl
  ·exact⟨_,hz,λv q=>by cases q⟩
  ·exact⟨_,hTI,λv q=>by cases q⟩
  ·exact⟨_,hTO,λv q=>by cases q⟩
  ·exact⟨_,e1,λv q=>by rw[d1] at q;cases q⟩
  ·exact⟨_,e2,λv q=>by rw[d2] at q;cases q⟩
 keep:=λi h h' st k=>by
  obtain⟨hz,hTI,⟨x,y,hTO⟩,h1,h2⟩:=st
  exact⟨k _ (by simp) _ hz,k _ (by simp) _ hTI,⟨x,y,k _ (by simp) _ hTO⟩,h1.at λo e=>k _ (by simp) o e,h2.at λo e=>k _ (by simp) o e⟩
 item:=by
  intro X hP hw hK hc i pins s σ H E I hf st hg
  subst hP hw hK
  obtain⟨hz,hTI,⟨x0,y0,hTO⟩,h1,h2⟩:=st
  obtain⟨xs,ys,x,y,hx,hy,ex,ey⟩:=hg
  obtain⟨its,rv,p,_⟩:=I.list hx
  obtain⟨its',rv',p',_⟩:=I.list hy
  obtain⟨u,hu,ru⟩:=rv.get ex
  obtain⟨u',hu',ru'⟩:=rv'.get ey
  have D:ZipApart z TI TO i1 i2 a b:=by
   obtain⟨o1,e1,c1,d1⟩:=id h1
   obtain⟨o2,e2,c2,d2⟩:=id h2
   obtain⟨oa,ea,ca,_⟩:=id p.isList
   obtain⟨ob,eb,cb,_⟩:=id p'.isList
   have ne:∀{c d:Addr} {o o':Obj},s.heap.get? c=some o->s.heap.get? d=some o'->o.cls≠o'.cls->c≠d:=λ{c d o o'} h h' n q=>by
    subst q
    rw[h] at h'
    cases h'
    exact n rfl
   exact⟨ne hTI hz (by simp),ne hTO hz (by simp),ne e1 hz (by rw[c1];simp),ne e2 hz (by rw[c2];simp),hTT,ne hTI e1 (by rw[c1];simp),ne hTI e2 (by rw[c2];simp),ne hTO e1 (by rw[c1];simp),ne hTO e2 (by rw[c2];simp),h12,
    ne ea hz (by rw[ca];simp),ne ea hTO (by rw[ca];simp),ne ea e1 (by rw[ca,c1];simp),ne ea e2 (by rw[ca,c2];simp),ne eb hz (by rw[cb];simp),ne eb hTO (by rw[cb];simp),ne eb e1 (by rw[cb,c1];simp),ne eb e2 (by rw[cb,c2];simp)⟩
  refine wpAny_pyNext_zip_item D hz hTI hTO h1 h2 p.isList p'.isList (x:=u) (y:=u') (by simpa using hu) (by simpa using hu') λh' a1 a2 a3 a4 a5 a6 hk=>?_
  refine⟨_,rfl,wpAny_letOwnedTupleGo_zip a1 λh'' hz'' sb=>?_⟩
  have fT:FpOk X pins H s.heap.objs.size:=I.fpOk (Nat.le_refl _) I.fresh
  have I1:Inv X pins σ H { s with heap:=h'' }:=I.turnedL (t':=s.toks) (l:=[z,TI,TO,i1,i2]) (λc o hc e=>sb.extBut _ _ (λq=>hc (by simp[q])) (hk c o (λq=>hc (by simp[q])) (λq=>hc (by simp[q])) (λq=>hc (by simp[q])) (λq=>hc (by simp[q])) e)) hf
  have hTz:s.heap.objs.size≠z:=Nat.ne_of_gt (Heap.lt_size hz)
  have hT'':h''.get? s.heap.objs.size=some { cls:=.type "tuple",data:=.seq #[u,u'] }:=sb.extBut _ _ hTz a5
  have I2:Inv X pins σ (upd H s.heap.objs.size (.tup [x,y])) { s with heap:=h'' }:=I1.track (t':=s.toks) fT ⟨(by show 2<=sizeLine;decide),[u,u'],.cons ru (.cons ru' .nil),_,hT'',rfl,_,rfl⟩ (λ_ _=>trivial)
  refine⟨.ref s.heap.objs.size,_,I2,rfl,⟨_,x,y,rfl,I.fresh,rfl,λzs hq=>by rw[I.gB hq hx];exact ex,λzs hq=>by rw[I.gB hq hy];exact ey⟩,?_,λc hc=>?_⟩
  ·exact⟨hz'',sb.extBut _ _ D.TIz (hk _ _ D.TIz D.TITO D.TIi1 D.TIi2 hTI),⟨u,u',sb.extBut _ _ D.TOz a2⟩,a3.extBut sb.extBut D.i1z,a4.extBut sb.extBut D.i2z⟩
  ·have hcl:c < s.heap.objs.size:=by
    obtain⟨o1,e1,_⟩:=h1
    obtain⟨o2,e2,_⟩:=h2
    simp only[List.mem_cons,List.not_mem_nil,or_false] at hc
    rcases hc with rfl | rfl | rfl | rfl | rfl
    ·exact Heap.lt_size hz
    ·exact Heap.lt_size hTI
    ·exact Heap.lt_size hTO
    ·exact Heap.lt_size e1
    ·exact Heap.lt_size e2
   rw[aj (Nat.ne_of_lt hcl)]
   exact(hf c hc).1
 done:=by
  intro X hP hw hK hc i pins s σ H E I hf st hg
  subst hP hw hK
  obtain⟨hz,hTI,⟨x0,y0,hTO⟩,h1,h2⟩:=st
  obtain⟨xs,ys,hx,hy,hend⟩:=hg
  obtain⟨its,rv,p,_⟩:=I.list hx
  obtain⟨its',rv',p',_⟩:=I.list hy
  have D:ZipApart z TI TO i1 i2 a b:=by
   obtain⟨o1,e1,c1,d1⟩:=id h1
   obtain⟨o2,e2,c2,d2⟩:=id h2
   obtain⟨oa,ea,ca,_⟩:=id p.isList
   obtain⟨ob,eb,cb,_⟩:=id p'.isList
   have ne:∀{c d:Addr} {o o':Obj},s.heap.get? c=some o->s.heap.get? d=some o'->o.cls≠o'.cls->c≠d:=λ{c d o o'} h h' n q=>by
    subst q
    rw[h] at h'
    cases h'
    exact n rfl
   exact⟨ne hTI hz (by simp),ne hTO hz (by simp),ne e1 hz (by rw[c1];simp),ne e2 hz (by rw[c2];simp),hTT,ne hTI e1 (by rw[c1];simp),ne hTI e2 (by rw[c2];simp),ne hTO e1 (by rw[c1];simp),ne hTO e2 (by rw[c2];simp),h12,
    ne ea hz (by rw[ca];simp),ne ea hTO (by rw[ca];simp),ne ea e1 (by rw[ca,c1];simp),ne ea e2 (by rw[ca,c2];simp),ne eb hz (by rw[cb];simp),ne eb hTO (by rw[cb];simp),ne eb e1 (by rw[cb,c1];simp),ne eb e2 (by rw[cb,c2];simp)⟩
  have l1:=rv.length
  have l2:=rv'.length
  refine wpAny_pyNext_zip_end (I.ok.hd hc) D hz hTI hTO h1 h2 p.isList p'.isList ?_ λh' hk=>⟨rfl,?_⟩
  ·rcases hend with q | q
   ·exact .inl (by simp;omega)
   ·exact .inr (by simp;omega)
  ·exact I.turnedL (t':=s.toks) (l:=[z,TI,TO,i1,i2]) (λc o hc e=>hk c o (λq=>hc (by simp[q])) (λq=>hc (by simp[q])) (λq=>hc (by simp[q])) (λq=>hc (by simp[q])) e) hf
 self:=λ_ _ _ _ _ st h=>wpAny_pyIter_zip st.1 h
section
variable {X:Cx}
noncomputable def iZip (K:W.Frag)(ta:TA):TI:=λσ H R=>ta σ H λvs H1=>∃a b xs ys,vs=[.ref a,.ref b]/\SqL K H1 a xs/\SqL K H1 b ys/\R (Itz K a b) H1
end
noncomputable def Ite (K:W.Frag)(a:Addr):It:=
 ⟨λi H=>∃xs x,SqL K H a xs/\xs[i]?=some x,
  λi H v H'=>∃T x,v=.ref T/\H T=none/\H'=upd H T (.tup [.int (i:Nat),x])/\∀xs,SqL K H a xs->xs[i]?=some x,
  λi H=>∃xs,SqL K H a xs/\xs.length<=i⟩
theorem xM {P:Program}{w:World}{K:W.Frag}{elts:List Expr}{k0:Nat}{pos:Pos}(a e it:Addr)(hei:e≠it) :
  Turn P w K (.Tuple elts k0 pos) (Ite K a) [e,it] e (λi h=>(∃old,IsEnum h e it ((i:Nat):Int) old)/\h.IsListIter it a i) where
 mem:=by simp
 obj:=λi h st c hc=>by
  obtain⟨⟨old,he⟩,⟨o1,e1,c1,d1⟩⟩:=st
  simp only[List.mem_cons,List.not_mem_nil,or_false] at hc
  rcases hc with rfl | rfl
  ·exact⟨_,he,λv q=>by cases q⟩
  ·exact⟨_,e1,λv q=>by rw[d1] at q;cases q⟩
 keep:=λi h h' st k=>by
  obtain⟨⟨old,he⟩,h1⟩:=st
  exact⟨⟨old,k _ (by simp) _ he⟩,h1.at λo e=>k _ (by simp) o e⟩
 item:=by
  intro X hP hw hK hc i pins s σ H E I hf st hg
  subst hP hw hK
  obtain⟨⟨old,he⟩,h1⟩:=st
  obtain⟨xs,x,hx,ex⟩:=hg
  obtain⟨its,rv,p,_⟩:=I.list hx
  obtain⟨u,hu,ru⟩:=rv.get ex
  refine wpAny_pyNext_enum_item he h1 p.isList (x:=u) (by simpa using hu) hei λh' a1 a2 a3 a4 hk=>?_
  refine⟨_,rfl,wpAny_letOwnedTupleGo_enum a1 λh'' he'' sb=>?_⟩
  have fT:FpOk X pins H s.heap.objs.size:=I.fpOk (Nat.le_refl _) I.fresh
  have I1:Inv X pins σ H { s with heap:=h'',toks:=s.toks+1 }:=I.turnedL (t':=s.toks+1) (l:=[e,it]) (λc o hc q=>sb.extBut _ _ (λz=>hc (by simp[z])) (hk c o (λz=>hc (by simp[z])) (λz=>hc (by simp[z])) q)) hf
  have hTe:s.heap.objs.size≠e:=Nat.ne_of_gt (Heap.lt_size he)
  have hT'':h''.get? s.heap.objs.size=some { cls:=.type "tuple",data:=.seq #[.int i s.toks,u] }:=sb.extBut _ _ hTe a3
  have I2:Inv X pins σ (upd H s.heap.objs.size (.tup [.int (i:Nat),x])) { s with heap:=h'',toks:=s.toks+1 }:=I1.track (t':=s.toks+1) fT ⟨(by show 2<=sizeLine;decide),[.int i s.toks,u],.cons ⟨_,rfl⟩ (.cons ru .nil),_,hT'',rfl,_,rfl⟩ (λ_ _=>trivial)
  refine⟨.ref s.heap.objs.size,_,I2,rfl,⟨_,x,rfl,I.fresh,rfl,λzs hq=>by rw[I.gB hq hx];exact ex⟩,?_,λc hc=>?_⟩
  ·exact⟨⟨u,by rw[show(((i+1:Nat)):Int)=(i:Int)+1 by omega];exact he''⟩,a2.extBut sb.extBut (Ne.symm hei)⟩
  ·have hcl:c < s.heap.objs.size:=by
    obtain⟨o1,e1,_⟩:=h1
    simp only[List.mem_cons,List.not_mem_nil,or_false] at hc
    rcases hc with rfl | rfl
    ·exact Heap.lt_size he
    ·exact Heap.lt_size e1
   rw[aj (Nat.ne_of_lt hcl)]
   exact(hf c hc).1
 done:=by
  intro X hP hw hK hc i pins s σ H E I hf st hg
  subst hP hw hK
  obtain⟨⟨old,he⟩,h1⟩:=st
  obtain⟨xs,hx,hend⟩:=hg
  obtain⟨its,rv,p,_⟩:=I.list hx
  have l1:=rv.length
  refine wpAny_pyNext_enum_end (I.ok.hd hc) he h1 p.isList (by simp;omega) λh' hk=>⟨rfl,?_⟩
  exact I.turnedL (t':=s.toks) (l:=[e,it]) (λc o hc q=>hk c o (λz=>hc (by simp[z])) q) hf
 self:=λ_ _ _ _ _ st h=>by
  obtain⟨⟨old,he⟩,_⟩:=st
  exact wpAny_pyIter_enum he h
section
variable {X:Cx}
noncomputable def iEnum (K:W.Frag)(ta:TA):TI:=λσ H R=>ta σ H λvs H1=>∃a xs,vs=[.ref a]/\SqL K H1 a xs/\R (Ite K a) H1
theorem Ad {elts:List Expr}{k0:Nat}{tpos:Pos}{a:Expr}{ta:TA}{p pos:Pos}(hg:Gl X "enumerate")(hm:X.mg "enumerate"=none)(ha:PA X [a] ta)(hs:autoParam (starEach [a] X.env=[(false,eval a X.env)]) L2.dft3._auto_1) :
  PI X (.Tuple elts k0 tpos) (.Call (.Name "enumerate" p) [a] [] pos) (iEnum X.K ta):=by
 intro pins s σ H R I h
 refine Call_ (dw I hg hm boot_enumerate (PyProof.Rows.callWith_type1 (thnA (ha pos pins s σ H _ I h) λus s1 vs H1 I1 r1 q1=>?_) hs rfl))
 obtain⟨l1,xs,rfl,hx,q⟩:=q1
 obtain⟨u,rfl,ru⟩:=vals1 r1
 cases ru
 obtain⟨its,rx,px,_⟩:=I1.list hx
 refine call_enumerate_list px.isList λh' z1 z2 z3 hk=>?_
 have I2:Inv X pins σ H1 { s1 with heap:=h' }:=I1.kept (t':=s1.toks) hk
 refine wpAny_pyIter_enum z1 ⟨_,_,_,_,H1,rfl,I2,xM l1 _ _ (Nat.ne_of_gt (Nat.lt_succ_self _)),⟨⟨_,z1⟩,z2⟩,λc hc=>?_,q⟩
 have hcl:s1.heap.objs.size<=c:=by
  simp only[List.mem_cons,List.not_mem_nil,or_false] at hc
  rcases hc with rfl | rfl<;>omega
 exact I1.fpOk hcl (I1.hok.fresh hcl)
theorem hJ {K:W.Frag}{elts:List Expr}{k0:Nat}{tpos:Pos}{a:Expr}{ta:TA}{p pos:Pos}(hg:Gl X "enumerate")(hm:X.mg "enumerate"=none)(ha:PA X [a] ta)(hs:autoParam (starEach [a] X.env=[(false,eval a X.env)]) L2.dft3._auto_1)
  (hK:autoParam (X.K=K) L2.dft3._auto_1):PI X (.Tuple elts k0 tpos) (.Call (.Name "enumerate" p) [a] [] pos) (iEnum K ta):=hK▸Ad hg hm ha hs
end
theorem lW {K:W.Frag}{a:Addr}{xs:List V}{g:TG}{tb:TS}{D:Ends}{σ:St}{H:Hp}(Pv:Nat->St->Hp->Prop)(h0:Pv 0 σ H)(hl:∀i σ H,i<=xs.length->Pv i σ H->SqL K H a xs)
  (hs:∀i x T σ H,xs[i]?=some x->H T=none->Pv i σ H->g (.ref T) σ (upd H T (.tup [.int (i:Nat),x])) λσ2 H2=>tb { D with nx:=Pv (i+1),ct:=Pv (i+1),bk:=D.nx } σ2 H2)
  (hd:∀σ H,Pv xs.length σ H->D.nx σ H):forW (Ite K a) g tb D σ H:=by
 refine⟨λi m σ H=>m=xs.length - i/\i<=xs.length/\Pv i σ H,⟨_,rfl,Nat.zero_le _,h0⟩,?_⟩
 rintro i m σ H ⟨rfl,hi,p⟩
 have lx:=hl i σ H hi p
 by_cases hlt:i < xs.length
 ·refine .inr ⟨⟨xs,xs[i],lx,by simp⟩,Pv (i+1),λσ' H' p'=>⟨xs.length - (i+1),by omega,rfl,hlt,p'⟩,λv H' y=>?_⟩
  obtain⟨T,x,rfl,hT,rfl,h1⟩:=y
  exact hs i x T σ _ (h1 xs lx) hT p
 ·have e:i=xs.length:=by omega
  subst e
  exact .inl ⟨⟨xs,lx,by omega⟩,hd σ H p⟩
noncomputable def mixN (c k:Int):Int:=((c % 2147483647 * 48271+7919 * k+1) % 2147483647) * ((c % 2147483647 * 48271+7919 * k+1) % 2147483647) % 2147483647
noncomputable def Ae:Sp:=λvs H Q _=>∃c k,vs=[.int c,.int k]/\Q (.int (mixN c k)) H
noncomputable def uO (K:W.Frag):Sp:=λvs H Q _=>∃(p:Addr) (ns:List Int) (k:Int),vs=[.ref p,.int k]/\SqL K H p (ns.map V.int)/\0<=k/\Q (.int (ns.getD k.toNat 0)) H
noncomputable def T62:List Nat:=[48,49,50,51,52,53,54,55,56,57,97,98,99,100,101,102,103,104,105,106,107,108,109,110,111,112,113,114,115,116,117,118,119,120,121,122,65,66,67,68,69,70,71,72,73,74,75,76,77,78,79,80,81,82,83,84,85,86,87,88,89,90]
noncomputable def T34:List Nat:=[32,33,34,35,36,38,39,40,41,42,43,44,45,46,47,58,59,60,61,62,63,64,91,92,93,94,95,96,123,124,125,126,10,9]
noncomputable def T96:List Nat:=T62++T34
noncomputable def sgn (n m:Int):Nat:=T96.getD (n % m).toNat 0
noncomputable def BO:Sp:=λvs H Q _=>∃n m:Int,vs=[.int n,.int m]/\0 < m/\m<=96/\Q (.str (S [sgn n m])) H
theorem Af (n m:Int)(h0:0 < m)(h1:m<=96):T96[(n % m).toNat]?=some (sgn n m):=by
 have hl:(n % m).toNat < T96.length:=by
  have h2:=Int.emod_lt_of_pos n h0
  have h3:=Int.emod_nonneg n (show m≠0 by omega)
  have h4:T96.length=96:=by decide
  omega
 show T96[(n % m).toNat]?=some (T96.getD (n % m).toNat 0)
 rw[List.getD_eq_getElem?_getD,List.getElem?_eq_getElem hl]
 rfl
noncomputable def okSign (c:Nat):Bool:=decide (32<=c) && decide (c<=126) && decide (c≠37)
theorem uP (n:Int):okSign (sgn n 94)=true:=by
 have h:=Af n 94 (by decide) (by decide)
 have hlt:(n % 94).toNat < 94:=by omega
 have key:∀i:Nat,i < 94->∀c,T96[i]?=some c->okSign c=true:=by decide +kernel
 exact key _ hlt _ h
noncomputable def uQ (K:W.Frag):Sp:=λvs H Q _=>∃(p:Addr) (ns:List Int),vs=[.ref p]/\SqL K H p (ns.map V.int)/\ns.length<=63/\∀H',Q (.bl true) H'
theorem kf (z:List Nat):joinL [] (z.map λk=>[k])=z:=by
 rw[xF]
 induction z with
 | nil=>rfl
 | cons x r ih=>simp_all
theorem lX (z:List Nat):(List.map List.length (z.map λk=>[k])).sum=z.length:=by
 induction z with
 | nil=>rfl
 | cons x r ih=>simp_all;omega
theorem ltOne (a b:Nat):([a] < [b])↔a < b:=by
 rw[List.cons_lt_cons_iff]
 simp
theorem lY {te:TE}{σ:St}{H:Hp}{Q:VK}{l:List Nat}(hn:l.length<=sizeLine)(f:Nat->V)
  (he:∀c H',c∈l->Same H H'->∀Qe:VK,(∀H'',Same H' H''->Qe (f c) H'')->te (some (.str (S [c]))::σ) H' Qe)
  (hd:∀D H',H D=none->Same H H'->H' D=some (.lst (l.map f))->Q (.ref D) H'):compW (Its (S l)) tYes te σ H Q:=λD hD=>
 jr (J:=Its (S l)) l.length hn hD (λi=>.str (S [l.getD i 0])) (λi=>f (l.getD i 0)) (λ_=>true) (λ_ _=>by show(S l).cps.size<=l.length;simp) (λi _ _ h=>by show i < (S l).cps.size;simpa using h)
  (λi H' x H'' _ hi y=>by
   obtain⟨rfl,c,hc,rfl⟩:=y
   have hc':l[i]?=some c:=by simpa using hc
   refine⟨rfl,?_⟩
   rw[List.getD_eq_getElem?_getD,hc']
   rfl)
  (λi H' _ _ Qt q=>q H' (Same.refl _))
  (λi H' h _ s Qe q=>he _ H' (by rw[List.getD_eq_getElem?_getD,List.getElem?_eq_getElem h];exact List.getElem_mem h) s Qe q)
  (λH' s h=>hd D H' hD s (by
   rw[cX] at h
   rw[h]
   congr 2
   refine List.ext_getElem (by simp) λi h1 h2=>?_
   simp at h1 h2 ⊢
   rw[List.getElem?_eq_getElem h2]
   rfl))
theorem uR {n:Nat}{i:Int}(h0:0<=i)(h1:i.toNat < n):ixN n i=some i.toNat:=by
 unfold ixN
 rw[if_pos h0,if_pos (by omega)]
noncomputable def okS (l:List Nat):Prop:=∀c∈l,c < 1114112
theorem gH {i:Int}(h0:-(2 ^ 64) < i)(h1:i < 2 ^ 64):i.natAbs.log2 < 1920:=by
 by_cases hz:i.natAbs=0
 ·rw[hz];decide
 ·exact Nat.lt_of_lt_of_le ((Nat.log2_lt hz).mpr (show i.natAbs < 2 ^ 64 by omega)) (by decide)
noncomputable def wd (n:Nat)(d:PyData):Prop:=d.canLay0=true/\d.depth<=n
theorem DV (n:Nat):wd n .none:=⟨rfl,Nat.zero_le _⟩
theorem ET (n:Nat)(b:Bool):wd n (.bool b):=⟨rfl,Nat.zero_le _⟩
theorem DW (n:Nat)(i:Int):wd n (.int i):=⟨rfl,Nat.zero_le _⟩
theorem DX (n:Nat){l:List Nat}(h:okS l):wd n (.str (S l)):=by
 refine⟨?_,Nat.zero_le _⟩
 show(S l).cps.all (· < 0x110000)=true
 simp
 exact h
theorem uS {n:Nat}:∀{ds:List PyData},(∀d∈ds,wd n d)->PyData.canLayAll0 ds=true/\PyData.depthAll ds<=n
 | [],_=>⟨rfl,Nat.zero_le _⟩
 | d::r,h=>by
  obtain⟨h1,h2⟩:=h d List.mem_cons_self
  obtain⟨h3,h4⟩:=uS (n:=n) (ds:=r) λx hx=>h x (List.mem_cons_of_mem _ hx)
  refine⟨?_,?_⟩
  ·rw[PyData.canLayAll0,h1,h3];rfl
  ·rw[PyData.depthAll];exact Nat.max_le.mpr ⟨h2,h4⟩
theorem rj {n:Nat}{ds:List PyData}(h:∀d∈ds,wd n d):wd (n+1) (.list ds):=by
 obtain⟨h1,h2⟩:=uS h
 exact⟨by rw[PyData.canLay0];exact h1,by rw[PyData.depth];omega⟩
theorem sN {n:Nat}{ds:List PyData}(h:∀d∈ds,wd n d):wd (n+1) (.tuple ds):=by
 obtain⟨h1,h2⟩:=uS h
 exact⟨by rw[PyData.canLay0];exact h1,by rw[PyData.depth];omega⟩
theorem wd.shaped {n:Nat}{d:PyData}(h:wd n d)(hn:autoParam (n<=64) L2.dft1._auto_1):SeqAt.shaped d=true:=by
 unfold SeqAt.shaped
 rw[h.1,decide_eq_true (Nat.le_trans h.2 hn)]
 rfl
theorem lZ {K:W.Frag}{H:Hp}{Q:VK}{x y:V}{n:Nat}{d:PyData}(h1:Den K H x d)(h2:Den K H y d)(hw:wd n d)(hr:(isRef x || isRef y)=true)(q:Q (.bl false) H)(hn:autoParam (n<=64) L2.dft1._auto_1):rNeq K x y H Q:=
 DQ hr h1 h2 (hw.shaped hn) (hw.shaped hn) (by rw[SeqAt.eqv_refl d hw.1];exact q)
theorem xN {K:W.Frag}{H:Hp}{Q:VK}{x y:V}{n:Nat}{d:PyData}(h1:Den K H x d)(h2:Den K H y d)(hw:wd n d)(hr:(isRef x || isRef y)=true)(q:Q (.bl true) H)(hn:autoParam (n<=64) L2.dft1._auto_1):rEqq K x y H Q:=
 DP hr h1 h2 (hw.shaped hn) (hw.shaped hn) (by rw[SeqAt.eqv_refl d hw.1];exact q)
noncomputable def Scr (K:W.Frag)(H:Hp)(A:List Addr)(p:Addr)(xs:List V):Prop:=(SqL K H p xs/\p∉A)\/∀H',SqL K H' p xs
theorem Scr.sq {K:W.Frag}{H:Hp}{A:List Addr}{p:Addr}{xs:List V}(h:Scr K H A p xs):SqL K H p xs:=h.elim (·.1) (· H)
theorem Scr.chg {K:W.Frag}{H H':Hp}{A:List Addr}{p:Addr}{xs:List V}(h:Scr K H A p xs)(c:Chg A H H'):Scr K H' A p xs:=by
 rcases h with⟨h,hp⟩ | h
 ·refine .inl ⟨?_,hp⟩
  rcases h with(h | ⟨o,h⟩) | h
  ·exact .inl (.inl (c.keep _ _ h hp))
  ·exact .inl (.inr ⟨o,c.keep _ _ h hp⟩)
  ·exact .inr h
 ·exact .inr h
theorem Scr.of {K:W.Frag}{H:Hp}{A:List Addr}{p:Addr}{xs:List V}(h:SqL K H p xs)(f:∀b∈A,H b=none):Scr K H A p xs:=by
 rcases h with(h' | ⟨o,h'⟩) | h'
 ·exact .inl ⟨.inl (.inl h'),λz=>by rw[f p z] at h';cases h'⟩
 ·exact .inl ⟨.inl (.inr ⟨o,h'⟩),λz=>by rw[f p z] at h';cases h'⟩
 ·exact .inr λ_=>.inr h'
noncomputable def scalD:V->PyData
 | .bl b=>.bool b
 | .int i=>.int i
 | .str x=>.str x
 | _=>.none
theorem Ag {K:W.Frag}{H:Hp}{v:V}(f:flatV v=true):Den K H v (scalD v):=by
 cases v with
 | non=>exact .non
 | bl b=>exact .bl b
 | int i=>exact .int i
 | str x=>exact .str x
 | _=>exact absurd (show false=true from f) Bool.false_ne_true
theorem bR {K:W.Frag}{H:Hp}:∀{vs:List V},vs.all flatV=true->DenAll K H vs (vs.map scalD)
 | [],_=>.nil
 | v::r,h=>by
  rw[List.all_cons,Bool.and_eq_true] at h
  exact .cons (Ag h.1) (bR h.2)
noncomputable def okV:V->Prop
 | .str x=>okS x.cps.toList
 | _=>True
theorem nJ (n:Nat){v:V}(h:okV v):wd n (scalD v):=by
 cases v with
 | str x=>have:=DX n (l:=x.cps.toList) h;rwa [<-Bv] at this
 | bl b=>exact ET n b
 | int i=>exact DW n i
 | _=>exact DV n
noncomputable def TupsAt (H:Hp):List Addr->List (List V)->Prop:=Paired λt xs=>H t=some (.tup xs)
noncomputable def LTups (H:Hp)(D:Addr)(rows:List (List V)):Prop:=∃ts,H D=some (.lst (ts.map V.ref))/\TupsAt H ts rows
theorem TupsAt.chg {A:List Addr}{H H':Hp}{ts:List Addr}{rows:List (List V)}(h:TupsAt H ts rows)(c:Chg A H H'):TupsAt H' ts rows:=Paired.mapP h λ_ _ e=>c.tup _ _ e
theorem LTups.chg {A:List Addr}{H H':Hp}{D:Addr}{rows:List (List V)}(h:LTups H D rows)(c:Chg A H H')(hD:D∉A):LTups H' D rows:=by
 obtain⟨ts,e,t⟩:=h
 exact⟨ts,c.keep _ _ e hD,t.chg c⟩
theorem LTups.same {H H':Hp}{D:Addr}{rows:List (List V)}(h:LTups H D rows)(s:Same H H'):LTups H' D rows:=h.chg (A:=[]) (Chg.of_same s) (by simp)
theorem TupsAt.den {K:W.Frag}{H:Hp}{ts:List Addr}{rows:List (List V)}(h:TupsAt H ts rows):(∀r∈rows,r.all flatV=true)->DenAll K H (ts.map V.ref) (rows.map λr=>.tuple (r.map scalD)):=by
 intro f
 unfold TupsAt at h
 induction h with
 | nil=>exact .nil
 | @cons t xs ts rows e r ih=>
  exact .cons (.tup (.inl (.inl e)) (bR (f xs List.mem_cons_self))) (ih λz hz=>f z (List.mem_cons_of_mem _ hz))
theorem LTups.den {K:W.Frag}{H:Hp}{D:Addr}{rows:List (List V)}(h:LTups H D rows)(f:∀r∈rows,r.all flatV=true):Den K H (.ref D) (.list (rows.map λr=>.tuple (r.map scalD))):=by
 obtain⟨ts,e,t⟩:=h
 exact .lst (.inl (.inl e)) (t.den f)
theorem BP {rows:List (List V)}(h:∀r∈rows,∀v∈r,okV v):wd 2 (.list (rows.map λr=>.tuple (r.map scalD))):=rj λd hd=>by
 obtain⟨r,hr,rfl⟩:=List.mem_map.mp hd
 exact sN λe he=>by
  obtain⟨v,hv,rfl⟩:=List.mem_map.mp he
  exact nJ 0 (h r hr v hv)
theorem TupsAt.get {H:Hp}{ts:List Addr}{rows:List (List V)}(h:TupsAt H ts rows):∀{i:Nat} {t:Addr},ts[i]?=some t->∃xs,rows[i]?=some xs/\H t=some (.tup xs):=by
 unfold TupsAt at h
 induction h with
 | nil=>intro i t e;simp at e
 | @cons a b as bs e r ih=>
  intro i t q
  cases i with
  | zero=>simp at q;subst q;exact⟨b,rfl,e⟩
  | succ i=>simpa using ih (by simpa using q)
theorem TupsAt.length {H:Hp}{ts:List Addr}{rows:List (List V)}(h:TupsAt H ts rows):ts.length=rows.length:=Paired.length h
theorem TupsAt.snoc {H:Hp}{ts:List Addr}{rows:List (List V)}{t:Addr}{xs:List V}(h:TupsAt H ts rows)(e:H t=some (.tup xs)):TupsAt H (ts++[t]) (rows++[xs]):=by
 unfold TupsAt at h ⊢
 induction h with
 | nil=>exact .cons e .nil
 | cons e' r ih=>exact .cons e' ih
theorem TupsAt.take {H:Hp}{ts:List Addr}{rows:List (List V)}(h:TupsAt H ts rows)(n:Nat):TupsAt H (ts.take n) (rows.take n):=by
 unfold TupsAt at h ⊢
 induction h generalizing n with
 | nil=>simp;exact .nil
 | cons e r ih=>
  cases n with
  | zero=>exact .nil
  | succ n=>exact .cons e (ih n)
noncomputable abbrev Ltr:=List Nat×Option (List Nat)×Int
noncomputable def wV:Option (List Nat)->V
 | none=>.non
 | some l=>.str (S l)
noncomputable def letV (x:Ltr):List V:=[.str (S x.1),wV x.2.1,.int x.2.2]
structure RowM where
 first:Int
 last:Int
 drawn:Int
 L:Int->Option Ltr
noncomputable def row0:RowM:=⟨0,0,0,λ_=>none⟩
noncomputable def rowF (M:RowM)(d:Addr):List (Str×V):=[("first",.int M.first),("end",.int M.last),("drawn",.int M.drawn),("letters",.ref d)]
noncomputable def LetVal (H:Hp):Option Ltr->V->Prop
 | none,v=>v=.non
 | some x,v=>∃t,v=.ref t/\H t=some (.tup (letV x))
noncomputable def LetsAt (H:Hp)(kvs:List (Key×V))(L:Int->Option Ltr):Prop:=∀p:Int,LetVal H (L p) ((valV kvs (.inl p)).getD .non)/\((valV kvs (.inl p)).isSome=(L p).isSome)
theorem LetVal.chg {A:List Addr}{H H':Hp}{o:Option Ltr}{v:V}(c:Chg A H H')(h:LetVal H o v):LetVal H' o v:=by
 cases o with
 | none=>exact h
 | some x=>obtain⟨t,e,ht⟩:=h;exact⟨t,e,c.tup _ _ ht⟩
theorem LetsAt.chg {A:List Addr}{H H':Hp}{kvs:List (Key×V)}{L:Int->Option Ltr}(c:Chg A H H')(h:LetsAt H kvs L):LetsAt H' kvs L:=λp=>⟨(h p).1.chg c,(h p).2⟩
theorem LetsAt.put {H:Hp}{kvs:List (Key×V)}{L:Int->Option Ltr}(h:LetsAt H kvs L){p:Int}{x:Ltr}{t:Addr}(ht:H t=Option.some (.tup (letV x))):LetsAt H (putK kvs (.inl p) (.ref t)) (λq=>if q=p then Option.some x else L q):=by
 intro q
 rw[eE]
 by_cases e:q=p
 ·subst e
  rw[if_pos rfl]
  dsimp only
  rw[if_pos rfl]
  exact⟨⟨t,rfl,ht⟩,rfl⟩
 ·have e':¬(Sum.inl q:Key)=Sum.inl p:=λz=>e (Sum.inl.inj z)
  rw[if_neg e']
  dsimp only
  rw[if_neg e]
  exact h q
structure RowAt (C:Addr)(H:Hp)(r d:Addr)(M:RowM):Prop where
 obj:∃dx,H r=some (.ins C dx (rowF M d))
 dict:∃kvs,H d=some (.dK kvs)/\(kvs.length:Int)<=M.last/\LetsAt H kvs M.L
 f0:0<=M.first
 fl:M.first<=M.last
 dr:0<=M.drawn
 within:∀p,(M.L p).isSome=true->M.first<=p/\p < M.last
theorem RowAt.chg {A:List Addr}{C:Addr}{H H':Hp}{r d:Addr}{M:RowM}(h:RowAt C H r d M)(c:Chg A H H')(hr:r∉A)(hd:d∉A):RowAt C H' r d M:=by
 obtain⟨dx,e⟩:=h.obj
 obtain⟨kvs,e2,l,t⟩:=h.dict
 exact⟨⟨dx,c.keep _ _ e hr⟩,⟨kvs,c.keep _ _ e2 hd,l,t.chg c⟩,h.f0,h.fl,h.dr,h.within⟩
theorem RowAt.ne {C:Addr}{H:Hp}{r d:Addr}{M:RowM}(h:RowAt C H r d M):r≠d:=by
 obtain⟨dx,e⟩:=h.obj
 obtain⟨kvs,e2,_⟩:=h.dict
 exact iL e e2 (by intro z;cases z)
noncomputable def RowM.add (M:RowM)(x:Ltr):RowM:={ M with last:=M.last+1,L:=λq=>if q=M.last then some x else M.L q }
noncomputable def RowM.standing (M:RowM)(lo:Int)(n:Nat):List Int:=((List.range n).map λ(i:Nat)=>lo+(i:Int)).filter λq=>(M.L q).isSome
theorem gm (M:RowM)(lo:Int)(i:Nat):M.standing lo (i+1)=M.standing lo i++(if (M.L (lo+(i:Int))).isSome=true then[lo+(i:Int)] else[]):=by
 unfold RowM.standing
 rw[List.range_succ,List.map_append,List.filter_append]
 congr 1
 simp only[List.map_cons,List.map_nil,List.filter_cons,List.filter_nil]
theorem rm (M:RowM)(lo:Int){i n:Nat}(h:i<=n):∃more,M.standing lo n=M.standing lo i++more:=by
 obtain⟨k,rfl⟩:∃k,n=i+k:=⟨n - i,by omega⟩
 clear h
 induction k with
 | zero=>exact⟨[],by simp⟩
 | succ k ih=>
  obtain⟨m,hm⟩:=ih
  rw[<-Nat.add_assoc,gm,hm,List.append_assoc]
  exact⟨_,rfl⟩
theorem rn (M:RowM)(lo:Int)(n:Nat):(M.standing lo n).length<=n:=by
 unfold RowM.standing
 exact Nat.le_trans (List.length_filter_le _ _) (by simp)
noncomputable def RowM.rowV (M:RowM)(p:Int):List V:=match M.L p with
 | some x=>[.int p,.str (S x.1),wV x.2.1]
 | none=>[]
noncomputable def RowM.seenP (M:RowM)(start limit most:Int):List Int:=(M.standing (max start M.first) (min limit M.last - max start M.first).toNat).take most.toNat
noncomputable def sO (C:Addr):Sp:=λvs H Q _=>∃(r d:Addr) (M:RowM) (st li mo:Int),vs=[.ref r,.int st,.int li,.int mo]/\RowAt C H r d M/\M.last<=100000/\0<=st/\st<=10 ^ 12/\0<=li/\0<=mo/\
 ∀D H',H D=none->Same H H'->LTups H' D ((M.seenP st li mo).map M.rowV)->Q (.ref D) H'
noncomputable def sP (C:Addr):Sp:=λvs H Q _=>∃x dx,vs=[.ref x]/\H x=some (.ins C dx [])/\∀d H',H d=none->d≠x->Chg [x] H H'->RowAt C H' x d row0->Q .non H'
noncomputable def uT (C:Addr):Sp:=λvs H Q _=>∃(r d:Addr) (M:RowM) (x:Ltr),vs=[.ref r,.str (S x.1),wV x.2.1,.int x.2.2]/\RowAt C H r d M/\M.last<=100000/\∀H',Chg [r,d] H H'->RowAt C H' r d (M.add x)->Q (.int M.last) H'
noncomputable def xO (C:Addr):Sp:=λvs H Q _=>∃(r d:Addr) (M:RowM) (p:Int),vs=[.ref r,.int p]/\RowAt C H r d M/\∀v,LetVal H (M.L p) v->Q v H
theorem uU (M:RowM)(d:Addr):(rowF M d).lookup (Str.ofString "first")=some (.int M.first):=rfl
theorem sQ (M:RowM)(d:Addr):(rowF M d).lookup (Str.ofString "end")=some (.int M.last):=rfl
theorem kO (M:RowM)(d:Addr):(rowF M d).lookup (Str.ofString "letters")=some (.ref d):=rfl
theorem Ah (M:RowM)(d:Addr):(rowF M d).lookup (Str.ofString "add")=none:=rfl
theorem BQ (M:RowM)(d:Addr):(rowF M d).lookup (Str.ofString "at")=none:=rfl
section
variable {X:Cx}
noncomputable def rngV (lo:Int)(n:Nat):List V:=(List.range n).map λ(i:Nat)=>V.int (lo+(i:Int))
noncomputable def tLR1 (ta:TA):TE:=λσ H Q=>ta σ H λvs H1=>∃j:Int,vs=[.int j]/\-(2 ^ 62)<=j/\j<=sizeLine/\∀l,H1 l=none->Q (.ref l) (upd H1 l (.lst (rngV 0 j.toNat)))
noncomputable def tLR2 (ta:TA):TE:=λσ H Q=>ta σ H λvs H1=>∃i j:Int,vs=[.int i,.int j]/\(-(2 ^ 62)<=i/\i < 2 ^ 62/\-(2 ^ 62)<=j/\j < 2 ^ 62)/\j - i<=sizeLine/\∀l,H1 l=none->Q (.ref l) (upd H1 l (.lst (rngV i (j - i).toNat)))
theorem uV {lo:Int}{n:Nat}{acc:Array Value}(h:ItemsOf (λi v=>∃t,v=.int (lo+i * 1) t) acc n):Vals (rngV lo n) acc.toList:=by
 obtain⟨hs,hv⟩:=h
 have key:∀(k:Nat) (l:List Value),l.length=k->∀lo:Int,(∀(j:Nat) v,l[j]?=some v->∃t,v=Value.int (lo+(j:Int) * 1) t)->Vals (rngV lo k) l:=by
  intro k
  induction k with
  | zero=>intro l hl lo _;cases l with
   | nil=>exact .nil
   | cons=>cases hl
  | succ k ih=>
   intro l hl lo hv
   cases l with
   | nil=>cases hl
   | cons u us=>
    have e:rngV lo (k+1)=V.int lo::rngV (lo+1) k:=by
     unfold rngV
     rw[List.range_succ_eq_map,List.map_cons,List.map_map]
     congr 1
     ·simp
     ·refine List.map_congr_left λa _=>?_
      simp only[Function.comp]
      congr 1
      push_cast
      omega
    rw[e]
    obtain⟨t,ht⟩:=hv 0 u rfl
    refine .cons ⟨t,by rw[ht];simp⟩ (ih us (by simpa using hl) (lo+1) λj v hj=>?_)
    obtain⟨t',ht'⟩:=hv (j+1) v (by simpa using hj)
    exact⟨t',by rw[ht'];congr 1;push_cast;omega⟩
 exact key n acc.toList (by simpa using hs) lo λj v hj=>by simpa using hv j v (by simpa using hj)
theorem sR {pins:List (Addr×Obj)}{σ:St}{H:Hp}{s:Shared}{Q:VK}{E:Value->Shared->Prop}{lo hi:Int}{t u v:Tok}{tk:Nat}(hc:X.calm=true)(I:Inv X pins σ H s)(h1:-(2 ^ 62)<=lo)(h2:lo < 2 ^ 62)(h3:-(2 ^ 62)<=hi)(h4:hi < 2 ^ 62)
  (hn:hi - lo<=sizeLine) (q:∀l,H l=none->Q (.ref l) (upd H l (.lst (rngV lo (hi - lo).toNat)))) :
  wpAny (model X.prog X.w) X.A (call (.type "list") [.ref s.heap.objs.size]) (EP X pins σ Q) E { s with heap:=s.heap.push { cls:=.type "range",data:=.fields #[.int lo t,.int hi u,.int 1 v] },toks:=tk }:=by
 have I1:Inv X pins σ H { s with heap:=s.heap.push { cls:=.type "range",data:=.fields #[.int lo t,.int hi u,.int 1 v] },toks:=tk }:=I.kept λb o e=>Heap.get?_push_of_some _ e
 have e2:Builtin.Range.rangeSize lo hi 1=(((hi - lo).toNat:Nat):Int):=by rw[rangeSize_one];split<;>omega
 have hsl:sizeLine<=2 ^ 24:=by decide
 refine call_list_range (n:=(hi - lo).toNat) (I.ok.hd hc) (IsRange.new ..) (small_one h1 h2 h3 h4) e2 (by omega) λh' tk' acc' c' kp e hacc=>?_
 have hv:=uV hacc
 exact⟨.ref _,_,I1.laid (t':=tk') kp (Nat.le_refl _) (show ObjOk X.prog X.w _ h' _ (.lst _) from⟨by rw[rngV];simp;omega,acc'.toList,c',hv,e⟩),rfl,q _ (I1.hok.fresh (Nat.le_refl _))⟩
theorem pL {a b:Expr}{ta:TA}{p p' pos pos':Pos}(hc:X.calm=true)(hg':Gl X "list")(hm':X.mg "list"=none)(hg:Gl X "range")(hm:X.mg "range"=none)(ha:PA X [a,b] ta)
  (hs:autoParam (starEach [a,b] X.env=[(false,eval a X.env),(false,eval b X.env)]) L2.dft3._auto_1) (hs2:autoParam (starEach [b] X.env=[(false,eval b X.env)]) L2.dft3._auto_1)
  (he:autoParam (starEach [.Call (.Name "range" p) [a,b] [] pos] X.env=[(false,eval (.Call (.Name "range" p) [a,b] [] pos) X.env)]) L2.dft3._auto_1) :
  PE X (.Call (.Name "list" p') [.Call (.Name "range" p) [a,b] [] pos] [] pos') (tLR2 ta):=by
 intro pins s σ H Q I h
 refine wpAny_Call_Name_kw (dw I hg' hm' boot_list ?_ (by decide) (by decide))
 refine PyProof.Rows.callWith_type1 ?_ he rfl
 rw[he]
 show wpAny _ _ (spliced [(false,eval (.Call (.Name "range" p) [a,b] [] pos) X.env)]) _ _ s
 refine Calls.spliced_cons (Call_ (dw I hg hm boot_range (PyProof.Rows.callWith_type1 (thnA (ha pos pins s σ H _ I h) λus s1 vs H1 I1 r1 q1=>?_) (by rw[hs,hs2]) (by rw[hs2];rfl))))
 obtain⟨i,j,e,⟨q1,q2,q3,q4⟩,q5,q⟩:=q1
 subst e
 cases r1 with
 | cons r rr=>
  cases rr with
  | cons r' rr=>
   cases rr
   obtain⟨t,rfl⟩:=r
   obtain⟨t',rfl⟩:=r'
   exact call_range_2 (Calls.spliced_nil (sR hc I1 q1 q2 q3 q4 q5 q))
end
noncomputable def addS (l:List Str)(x:Str):List Str:=if l.any (· == x) then l else l++[x]
noncomputable def onceS (l:List Str):List Str:=l.foldl addS []
theorem eG (l:List Str)(x:Str):onceS (l++[x])=addS (onceS l) x:=by simp[onceS]
theorem xP:∀(n:Nat) (l:List Str),l.length=n->∀k,(onceS l).any (· == k)=l.any (· == k):=by
 intro n
 induction n with
 | zero=>intro l hl k;cases l with
  | nil=>rfl
  | cons=>cases hl
 | succ n ih=>
  intro l hl k
  obtain⟨m,x,rfl⟩:∃m x,l=m++[x]:=⟨l.dropLast,l.getLast (by intro z;rw[z] at hl;cases hl),(List.dropLast_concat_getLast _).symm⟩
  have hm:m.length=n:=by simpa using hl
  rw[eG,List.any_append]
  unfold addS
  split
  ·rename_i h
   rw[ih m hm] at h ⊢
   by_cases e:x=k
   ·subst e;rw[h];simp
   ·simp[e]
  ·rw[List.any_append,ih m hm]
theorem kP:∀(n:Nat) (l:List Str),l.length=n->(onceS l).length<=n:=by
 intro n
 induction n with
 | zero=>intro l hl;cases l with
  | nil=>exact Nat.le_refl _
  | cons=>cases hl
 | succ n ih=>
  intro l hl
  obtain⟨m,x,rfl⟩:∃m x,l=m++[x]:=⟨l.dropLast,l.getLast (by intro z;rw[z] at hl;cases hl),(List.dropLast_concat_getLast _).symm⟩
  have:=ih m (by simpa using hl)
  rw[eG]
  unfold addS
  split
  ·omega
  ·rw[List.length_append,List.length_singleton];omega
theorem sS:∀(n:Nat) (l:List Str),l.length=n->l.Nodup->(onceS l).length=n:=by
 intro n
 induction n with
 | zero=>intro l hl;cases l with
  | nil=>intro _;rfl
  | cons=>cases hl
 | succ n ih=>
  intro l hl hd
  obtain⟨m,x,rfl⟩:∃m x,l=m++[x]:=⟨l.dropLast,l.getLast (by intro z;rw[z] at hl;cases hl),(List.dropLast_concat_getLast _).symm⟩
  have hm:m.length=n:=by simpa using hl
  have hx:x∉m:=λz=>by
   have:=List.nodup_append.mp hd
   exact this.2.2 x z x (by simp) rfl
  rw[eG]
  unfold addS
  rw[if_neg,List.length_append,ih m hm (List.nodup_append.mp hd).1,List.length_singleton]
  rw[xP n m hm]
  intro z
  obtain⟨y,hy,e⟩:=List.any_eq_true.mp z
  exact hx (by rw[<-eq_of_beq e];exact hy)
section
variable {prog:Program} {w:World} {A:Around} {s:Shared}
theorem sU {K:Type}[DecidableEq K][BEq K][LawfulBEq K]{knd:KeyKind prog w K}{h:Heap}{a:Addr}{S S':K->Bool}{n n':Nat}(hS:h.SetOf knd a S n)(e:∀k,S k=S' k)(en:n=n'):h.SetOf knd a S' n':=by
 rw[<-funext e,<-en];exact hS
theorem xQ {R:Result->Shared->Prop}{I S:Addr}{fp wr:List Addr}{G:Array GenState->Array GenState->Prop}{ls:List Str}{P:Nat->Value->Prop}{St:Nat->Shared->Prop}(W:WalksS prog w A.in1 I fp wr G ls.length P St)(hSf:S∉fp)
  (hval:∀i v,P i v->∃x t,ls[i]?=some x/\v=.str x t) (hb:ls.length+1 < scanBound) :
  ∀(k i:Nat) (s:Shared),ls.length - i=k->i<=ls.length->St i s->
   s.heap.SetOf (strKind prog w) S (λx=>(onceS (ls.take i)).any (· == x)) (onceS (ls.take i)).length->
   (∀s',Moved (S::wr) G s s'->s'.heap.SetOf (strKind prog w) S (λx=>(onceS ls).any (· == x)) (onceS ls).length->R (.ok (.ret .none)) s')->
   codeAny (model prog w) A (.builtin "set.update.loop" ⟨[.ref S,.ref I],[]⟩) R s:=by
 have hSw:S∉wr:=λh=>hSf (W.sub _ h)
 have hsub:∀b∈wr,b∈S::wr:=λb hb=>List.mem_cons_of_mem _ hb
 have carry:∀{T:Str->Bool} {m:Nat} {s s':Shared},Moved wr G s s'->s.heap.SetOf (strKind prog w) S T m->s'.heap.SetOf (strKind prog w) S T m:=by
  rintro T m s s' hm ⟨o,es,ep,t,ho,rest⟩
  exact⟨o,es,ep,t,hm.heap S _ hSw ho,rest⟩
 intro k
 induction k with
 | zero=>
  intro i s hk hi hst hS hR
  have hin:i=ls.length:=by omega
  refine codeAny_builtin PyProof.Rows.F.entry_set_update_loop ?_
  rw[Around.under_plainId PyProof.Rows.F.plain_set_update_loop _]
  show wpAny _ A.in1 (pyNext (.ref I) >>= _) _ _ s
  rw[hin] at hst hS
  rw[List.take_length] at hS
  refine wpAny_bind (W.done s _ _ hst λs' hm=>?_)
  show wpAny _ A.in1 (ret Value.none) _ _ s'
  exact wpAny_pure (hR s' (hm.mono hsub) (carry hm hS))
 | succ k ih=>
  intro i s hk hi hst hS hR
  refine codeAny_builtin PyProof.Rows.F.entry_set_update_loop ?_
  rw[Around.under_plainId PyProof.Rows.F.plain_set_update_loop _]
  show wpAny _ A.in1 (pyNext (.ref I) >>= _) _ _ s
  refine wpAny_bind (W.item i s _ _ (by omega) hst λv s' hP hst' hm=>?_)
  obtain⟨x,t,hx,rfl⟩:=hval i v hP
  have hS':=carry hm hS
  show wpAny _ A.in1 (holding [Value.str x t] (setAdd S (.str x t)) >>= _) _ _ s'
  refine wpAny_bind (wpAny_holding ?_)
  unfold setAdd
  refine wpAny_holding ?_
  refine wpAny_bind ((strKind prog w).pyHash (k:=x) (strKind_is _ _ _ _) ?_)
  have hroom:(onceS (ls.take i)).length+1 < scanBound:=by
   have:=kP _ (ls.take i) rfl
   rw[List.length_take] at this
   omega
  refine wpAny_setAddHashed_of (knd:=strKind prog w) (s:={ s' with toks:=s'.toks+1 }) (strKind_is _ _ _ _) rfl hS' hroom λh' hsb hS2=>?_
  have et:ls.take (i+1)=ls.take i++[x]:=by rw[List.take_succ,hx];rfl
  have hSi:h'.SetOf (strKind prog w) S (λy=>(onceS (ls.take (i+1))).any (· == y)) (onceS (ls.take (i+1))).length:=by
   refine sU hS2 (λy=>?_) ?_
   ·rw[et,eG]
    unfold addS
    by_cases h:(onceS (ls.take i)).any (· == x)=true
    ·rw[if_pos h]
     by_cases e:y=x
     ·subst e;rw[h];rfl
     ·simp[e]
    ·rw[if_neg h,List.any_append]
     by_cases e:y=x
     ·subst e;simp
     ·have e':¬x=y:=λz=>e z.symm
      simp[e,e']
   ·rw[et,eG]
    unfold addS
    split<;>simp
  refine wpAny_pure ⟨plainId_quiet PyProof.Rows.F.plain_set_update_loop _,ih (i+1) _ (by omega) (by omega) (W.frame _ s' _ _ hst' (Nat.le_succ _) λb hb o e=>?_) hSi λs'' hm'' hS''=>?_⟩
  ·rw[hsb.2 b (λh:b=S=>hSf (by rw[<-h];exact hb))];exact e
  ·refine hR s'' (Moved.trans W.gtrans ((hm.mono hsub).then_heap (Nat.le_succ _) λb o hb e=>?_) hm'') hS''
   rw[hsb.2 b (λh:b=S=>hb (by rw[h];exact List.mem_cons_self))];exact e
end
section
variable {prog:Program} {w:World} {A:Around} {E:Value->Shared->Prop} {s:Shared}
noncomputable def emptySet (led:Bool):Obj:={ cls:=.type "set",dict:=none,data:=.set #[] 0 (.fresh 0 0 led) }
noncomputable def SetDone (prog:Program)(w:World)(s:Shared)(ls:List Str)(s₂:Shared):Prop:=∃h' tk,s₂={ s with heap:=h',toks:=tk }/\h'.SetOf (strKind prog w) s.heap.objs.size (λx=>(onceS ls).any (· == x)) (onceS ls).length/\
 ∀b o,s.heap.get? b=some o->h'.get? b=some o
theorem xR {l:Addr}{items:Array Value}{ls:List Str}{led:Bool}(hh:A.handled=none)(hl:s.heap.IsList l items)(hs:items.size=ls.length)(hi:∀(i:Nat) (v:Value),items[i]?=some v->∃x t,ls[i]?=some x/\v=.str x t)(hb:ls.length+1 < scanBound) :
  wpAny (model prog w) A.in1.in1 (Builtin.«set.__init__» ⟨[.ref s.heap.objs.size,.ref l],[]⟩)
   (λfin s'=>match fin with | .done f=>wants (λr s₂=>r=.none/\SetDone prog w s ls s₂) E (.ok f) s' | .again c'=>c'.quiet=true/\codeAny (model prog w) A.in1 c' (wants (λr s₂=>r=.none/\SetDone prog w s ls s₂) E) s')
   (λe s'=>wants (λr s₂=>r=.none/\SetDone prog w s ls s₂) E (.error e) s') { s with heap:=s.heap.push (emptySet led) }:=by
 obtain⟨⟨ocls,odict,odata,oslots⟩,hol,hcl,nl,hdl⟩:=id hl
 simp only at hcl hdl
 subst hcl;subst hdl
 have hlS:l < s.heap.objs.size:=Heap.lt_size hol
 have hol':(s.heap.push (emptySet led)).get? l=some { cls:=.type "list",dict:=odict,data:=.seq items nl,slots:=oslots }:=Heap.get?_push_of_some _ hol
 have hS:(s.heap.push (emptySet led)).get? s.heap.objs.size=some (emptySet led):=Heap.get?_push_size _ rfl
 have hl1:(s.heap.push (emptySet led)).IsList l items:=⟨_,hol',rfl,nl,rfl⟩
 have hsls:=PySem.F.sub_list_set
 have hslf:=PySem.F.sub_list_frozenset
 have hne:(Value.type "list" == Value.type "dict")=false:=by decide
 unfold Builtin.«set.__init__» noKeywords Builtin.Frozenset.updateFrom
 generalize hPI:pyIter=PI
 wp_walk
 subst hPI
 refine wpAny_pyIter_list hl1 ?_
 refine wpAny_bind (wpAny_runValue ?_)
 have hneI:l≠(s.heap.push (emptySet led)).objs.size:=by rw[Heap.size_push];exact Nat.ne_of_lt (Nat.lt_succ_of_lt hlS)
 have hSf:s.heap.objs.size∉[(s.heap.push (emptySet led)).objs.size,l]:=by
  rw[Heap.size_push]
  simp only[List.mem_cons,List.not_mem_nil,or_false,not_or]
  exact⟨Nat.ne_of_lt (Nat.lt_succ_self _),Nat.ne_of_gt hlS⟩
 have W:=(Walks.list (prog:=prog) (w:=w) (A:=A.in1.in1.in1) (by simp[hh]) _ l hneI items).toS
 rw[hs] at W
 refine xQ W hSf hi hb (ls.length - 0) 0 _ (by omega) (Nat.zero_le _) ⟨⟨_,Heap.get?_push_size _ rfl,rfl,rfl⟩,(hl1.push _)⟩ ?_ λs' hm hS'=>?_
 ·exact sU ((PyProof.Rows.setObjOf_fresh (knd:=strKind prog w) led).setOf (Heap.get?_push_of_some _ hS) (by unfold scanBound;omega)) (λ_=>rfl) rfl
 ·obtain⟨h',g',d',tk',os'⟩:=s'
  have eg:g'=s.gens:=hm.gens
  have ed:d'=s.drawn:=hm.drawn
  have eo:os'=s.os:=hm.os
  subst eg;subst ed;subst eo
  show wpAny _ _ _ _ _ _
  refine wpAny_pure ?_
  show wpAny _ _ (ret Value.none) _ _ _
  refine wpAny_pure ⟨rfl,h',tk',rfl,hS',λb o e=>?_⟩
  have hb':=Heap.lt_size e
  refine hm.heap b o ?_ (Heap.get?_push_of_some _ (Heap.get?_push_of_some _ e))
  rw[Heap.size_push]
  simp only[List.mem_cons,List.not_mem_nil,or_false,not_or]
  exact⟨Nat.ne_of_lt hb',Nat.ne_of_lt (Nat.lt_succ_of_lt hb')⟩
theorem xS {l:Addr}{items:Array Value}{ls:List Str}{Q:Value->Shared->Prop}(hh:A.handled=none)(hl:s.heap.IsList l items)(hs:items.size=ls.length)(hi:∀(i:Nat) (v:Value),items[i]?=some v->∃x t,ls[i]?=some x/\v=.str x t)(hb:ls.length+1 < scanBound)
  (h:∀s',SetDone prog w s ls s'->Q (.ref s.heap.objs.size) s'):wpAny (model prog w) A (call (.type "set") [.ref l]) Q E s:=by
 have ft:=PySem.F.called_set
 obtain⟨c,tl,hmro⟩:=ft.mro
 have hmade:=ft.made
 have hsub:=ft.sub
 refine wpAny_call (codeAny_of_tree ?_)
 show wpAny _ _ (callAny (.type "set") _) _ _ _
 refine wpAny_pure ⟨Code.quiet_builtin _ (s!"d"),codeAny_builtin PySem.F.entry_type_call ?_⟩
 rw[Around.under_plain (weight_type_call_type "set" [.ref l] []) rfl]
 have h1:=ft.notType
 have h2:=ft.canCreate
 have hct:=PySem.F.typeCall_set_1 (.ref l)
 repeat (any_goals (first | assumption | wp_step))
 refine codeAny_mono (code_set_new_1 (.ref l) (E:=E) (Q₁:=λobj s₁=>∃led:Bool,obj=.ref s.heap.objs.size/\s₁={ s with heap:=s.heap.push (emptySet led) }) λled=>⟨led,rfl,rfl⟩) λr s₁ hr=>?_
 cases r with
 | error e=>exact hr
 | ok fl=>
  cases fl with
  | ret obj=>
   obtain⟨led,rfl,rfl⟩:=hr
   have hS:(s.heap.push (emptySet led)).get? s.heap.objs.size=some (emptySet led):=Heap.get?_push_size _ rfl
   have hT:Shared.TypeIs { s with heap:=s.heap.push (emptySet led) } (.ref s.heap.objs.size) "set":=⟨_,hS,rfl⟩
   have hli:=ft.init.lookup
   have hbi:=ft.init.bind (.ref s.heap.objs.size)
   repeat (any_goals (first | assumption | wp_step))
   refine codeAny_mono (codeAny_call_builtin ft.init.plain PySem.F.entry_set_init (check_set_init_1 hT (xR (E:=E) hh hl hs hi hb))) λr₂ s₂ hr₂=>?_
   cases r₂ with
   | error e=>exact hr₂
   | ok fl₂=>
    cases fl₂ with
    | ret r=>
     obtain⟨rfl,hd⟩:=hr₂
     repeat (any_goals (first | assumption | wp_step))
     exact h _ hd
    | _=>exact hr₂.elim
  | _=>exact hr.elim
end
section
variable {X:Cx}
theorem wC:∀{ls:List Str} {us:List Value},Vals (ls.map V.str) us->∀(i:Nat) (v:Value),us[i]?=some v->∃x t,ls[i]?=some x/\v=.str x t
 | [],us,r,i,v,h=>by cases r;simp at h
 | x::ls,us,r,i,v,h=>by
  cases r with
  | cons r1 r2=>
   cases i with
   | zero=>obtain⟨t,rfl⟩:=r1;simp at h;exact⟨x,t,rfl,h.symm⟩
   | succ i=>simpa using wC r2 i v (by simpa using h)
noncomputable def tLenSet (K:W.Frag)(te:TE):TE:=λσ H Q=>te σ H λx H1=>∃(p:Addr) (ls:List Str),x=.ref p/\SqL K H1 p (ls.map V.str)/\ls.length<=4000/\Q (.int (onceS ls).length) H1
theorem xT {K:W.Frag}{e:Expr}{te:TE}{p p' pos pos':Pos}(hc:X.calm=true)(hg':Gl X "len")(hm':X.mg "len"=none)(hg:Gl X "set")(hm:X.mg "set"=none)(hE:PE X e te)(hK:autoParam (X.K=K) L2.dft3._auto_1)
  (hs:autoParam (starEach [e] X.env=[(false,eval e X.env)]) L2.dft3._auto_1)
  (he:autoParam (starEach [.Call (.Name "set" p) [e] [] pos] X.env=[(false,eval (.Call (.Name "set" p) [e] [] pos) X.env)]) L2.dft3._auto_1) :
  PE X (.Call (.Name "len" p') [.Call (.Name "set" p) [e] [] pos] [] pos') (tLenSet K te):=by
 subst hK
 intro pins s σ H Q I h
 refine wpAny_Call_Name_kw (dw I hg' hm' boot_len ?_ (by decide) (by decide))
 refine PyProof.Rows.callWith_builtin1 ?_ he rfl
 rw[he]
 show wpAny _ _ (spliced [(false,eval (.Call (.Name "set" p) [e] [] pos) X.env)]) _ _ s
 refine Calls.spliced_cons (Call_ (dw I hg hm boot_set (PyProof.Rows.callWith_type1 ?_ hs rfl)))
 rw[hs]
 show wpAny _ _ (spliced [(false,eval e X.env)]) _ _ s
 refine Calls.spliced_cons (thnE (hE pins s σ H _ I h) λu s1 v H1 I1 r1 q1=>?_)
 obtain⟨a,ls,rfl,hq,hl,q⟩:=q1
 cases r1
 obtain⟨its,rv,pl,hz⟩:=I1.list hq
 have hlen:its.length=ls.length:=by have:=rv.length;simpa using this.symm
 refine Calls.spliced_nil (xS (ls:=ls) (I1.ok.hd hc) pl.isList (by simpa using hlen) (λi v hi=>wC rv i v (by simpa using hi)) (by rw[show scanBound=4096 from rfl];omega) λs2 hd=>?_)
 obtain⟨h',tk,rfl,hS,kp⟩:=hd
 have I2:Inv X pins σ H1 { s1 with heap:=h',toks:=tk }:=I1.kept kp
 obtain⟨o,es,ep,t,ho,hex,hd,hel,hmem,hb,hf,hn⟩:=hS
 have hle:=kP _ ls rfl
 refine Calls.spliced_nil (call_len_set ho hex hd hf (by omega) ?_)
 rw[hn]
 exact⟨.int (onceS ls).length,H1,I2.tok _,⟨_,rfl⟩,q⟩
noncomputable def TConst (K:W.Frag)(mg:Str->Option Value)(x:Str)(xs:List V):Prop:=∃p,mg x=some (.ref p)/\∀H,SqT K H p xs
noncomputable def tCT (K:W.Frag)(xs:List V):TE:=λ_ H Q=>∀p,(∀H',SqT K H' p xs)->Q (.ref p) H
theorem qh {K:W.Frag}{x:Str}{xs:List V}{pos:Pos}(c:TConst K X.mg x xs)(hg:autoParam (Gl X x) L2.dft3._auto_1)(hd:autoParam ((x == ("__debug__":Str))=false) L2.dft1._auto_1):PE X (.Name x pos) (tCT K xs):=by
 intro pins s σ H Q I h
 obtain⟨p,hm,hq⟩:=c
 exact qL (v:=.ref p) hg hm rfl hd pins s σ H Q I (h p hq)
end
section
variable {X:Cx} {elt iter c tg:Expr} {ifs:List Expr} {xs:List Str} {y:Str} {py pos spos:Pos} {scope sc:Scope} {N M:List Str} {wi:TI} {tt:TT} {te:TE} {g:TG}
theorem xU (hcalm:X.calm=true)(hX:X.N=N)(hsc:X.env.scope=sc)(O:CompOkT N M sc xs scope)(hi:PI X tg iter wi)
  (hts:∀(C:Addr) (s₀:Shared) (H₀:Hp) (fp:List Addr) (pins:List (Addr×Obj)) (s:Shared) (σ:St) (H:Hp) (Q:Bool->Hp->Prop),Inv (blkT X xs scope M C s₀ H₀ fp) pins σ H s->tt σ H Q->
   wpAny (model X.prog X.w) X.A (forIn ifs true λc r=>if r=true then do let ok <-isTrue c (blkT X xs scope M C s₀ H₀ fp).env (eval c (blkT X xs scope M C s₀ H₀ fp).env);pure (ForInStep.yield ok) else pure (ForInStep.yield r)) (TP (blkT X xs scope M C s₀ H₀ fp) pins σ Q) (λ_ _=>False) s)
  (hel:∀(C:Addr) (s₀:Shared) (H₀:Hp) (fp:List Addr),PE (blkT X xs scope M C s₀ H₀ fp) elt te) (hg:∀(C:Addr) (s₀:Shared) (H₀:Hp) (fp:List Addr),PG (blkT X xs scope M C s₀ H₀ fp) tg g) (hs:autoParam (∀x,foldedSetIterable iter X.env x=pure x) L2.dft4._auto_1) :
  PE X (.ListComp elt [⟨tg,iter,ifs,0⟩] scope pos) (tCompT xs.length wi g tt te):=by
 intro pins s σ H Q I h
 rw[eval_ListComp]
 have hcl:closureFor scope X.env=pure (closOf X.env.cells scope.names []):=ka λz hz hf=>by
  have q:=O.free z hz hf
  rw[<-hsc] at q
  exact I.ok.has z.1 q
 refine wpAny_comprehension_free (use:=none) rfl hs hcl O.kind O.names (thn (hi pins s σ H _ I h) λv s1 h1=>thn h1 λitv s2 h2=>?_)
 obtain⟨it,fp,tn,J,H2,e,I2,T,st2,f2,q2⟩:=h2
 subst e
 refine mQ (Qd:=λD H'=>Q (.ref D) H') (RR:=λacc C=>compPost (model X.prog X.w) X.A X.xe none (EP X pins σ Q) acc C) hcalm hX hsc O hts hel hg I2 T st2 f2 (λD hD=>q2 D hD) ?_
 intro D C H' s' I' hC hm q'
 obtain⟨m,hm⟩:=hm
 obtain⟨c0,c1,c2,c3,c4,c5⟩:=hC
 exact⟨m,hm,λh' hs'=>⟨.ref D,H',I'.turned (t':=s'.toks) (λb o hb e=>hs'.extBut b o hb e) c0 c1 c3 c4 c5,rfl,q'⟩⟩
theorem Ai (N M:List Str)(sc:Scope)(xs:List Str)(O:CompOkT N M sc xs scope)(hi:PI X tg iter wi)(hg:∀(C:Addr) (s₀:Shared) (H₀:Hp) (fp:List Addr),PG (blkT X xs scope M C s₀ H₀ fp) tg g)(hel:∀(C:Addr) (s₀:Shared) (H₀:Hp) (fp:List Addr),PE (blkT X xs scope M C s₀ H₀ fp) elt te)
  (hcalm:autoParam (X.calm=true) L2.dft3._auto_1) (hX:autoParam (X.N=N) L2.dft3._auto_1) (hsc:autoParam (X.env.scope=sc) L2.dft3._auto_1) (hs:autoParam (∀x,foldedSetIterable iter X.env x=pure x) L2.dft4._auto_1) :
  PE X (.ListComp elt [⟨tg,iter,[],0⟩] scope pos) (tCompT xs.length wi g tYes te):=
 xU hcalm hX hsc O hi (λC s₀ H₀ fp pins s σ H Q I h=>wpAny_tests_nil ⟨H,I,h⟩) hel hg hs
end
section
variable {X:Cx} {pins:List (Addr×Obj)} {σ:St} {H:Hp} {s:Shared} {d:Addr} {kvs:List (Key×V)} {od:Obj}
end
noncomputable def Iti (d:Addr)(od:Obj)(kvs:List (Key×V)):It:=
 ⟨λi H=>H d=some (.frz od (.dK kvs))/\i < kvs.length,λi H v H'=>∃T k x,v=.ref T/\H T=none/\H'=upd H T (.tup [kV k,x])/\kvs[i]?=some (k,x)/\valV kvs k=some x,λi H=>H d=some (.frz od (.dK kvs))/\kvs.length<=i⟩
noncomputable def Itk (d:Addr)(od:Obj)(kvs:List (Key×V)):It:=
 ⟨λi H=>H d=some (.frz od (.dK kvs))/\i < kvs.length,λi H v H'=>H'=H/\∃k x,v=kV k/\kvs[i]?=some (k,x)/\valV kvs k=some x,λi H=>H d=some (.frz od (.dK kvs))/\kvs.length<=i⟩
noncomputable abbrev TIF:=St->Hp->(Addr->Obj->List (Key×V)->It->Hp->Prop)->Prop
noncomputable def iItems (td:TE):TIF:=λσ H R=>td σ H λx H1=>∃d kvs,x=.ref d/\H1 d=some (.dK kvs)/\∀od,R d od kvs (Iti d od kvs) (upd H1 d (.frz od (.dK kvs)))
noncomputable def iKeys (td:TE):TIF:=λσ H R=>td σ H λx H1=>∃d kvs,x=.ref d/\H1 d=some (.dK kvs)/\∀od,R d od kvs (Itk d od kvs) (upd H1 d (.frz od (.dK kvs)))
section
variable {X:Cx} {o:Expr} {apos cpos:Pos} {td:TE}
end
noncomputable def thawE (d:Addr)(od:Obj)(kvs:List (Key×V))(D:Ends):Ends:=
 { D with nx:=λσ H=>H d=some (.frz od (.dK kvs))/\D.nx σ (upd H d (.dK kvs)),rt:=λv H=>H d=some (.frz od (.dK kvs))/\D.rt v (upd H d (.dK kvs)) }
noncomputable def tForD (wi:TIF)(g:TG)(tb:TS):TS:=λD σ H=>wi σ H λd od kvs J H1=>forW J g tb (thawE d od kvs D) σ H1
section
variable {X:Cx} {tg:Expr}
end
theorem EU (wi:TIF)(g:TG)(tb:TS)(D:Ends)(σ:St)(H:Hp):tForD wi g tb D σ H=wi σ H λd od kvs J H1=>forW J g tb (thawE d od kvs D) σ H1:=rfl
section
variable {X:Cx} {elt iter c tg:Expr} {ifs:List Expr} {xs:List Str} {y:Str} {py pos spos:Pos} {scope sc:Scope} {N M:List Str} {wi:TIF} {tt:TT} {te:TE} {g:TG}
end
noncomputable def repL (n:Nat)(l:List Nat):List Nat:=(List.replicate n l).flatten
theorem l6 (xs:List (Array Nat)):∀a:Array Nat,(xs.foldl (·++·) a).toList=a.toList++(xs.map Array.toList).flatten:=by
 induction xs with
 | nil=>intro a;simp
 | cons x r ih=>intro a;rw[List.foldl_cons,ih];simp
theorem EV (l:List Nat)(n:Int):Txt.mul (S l) n=S (repL n.toNat l):=by
 unfold Txt.mul repL
 by_cases h1:n < 1
 ·rw[if_pos h1]
  have:n.toNat=0:=by omega
  rw[this]
  rfl
 ·rw[if_neg h1]
  by_cases h2:(n == 1 || (S l).length == 0)=true
  ·rw[if_pos h2]
   rw[Bool.or_eq_true] at h2
   rcases h2 with h2 | h2
   ·have:n=1:=by simpa using h2
    subst this
    simp
   ·have:l=[]:=by
     have:(S l).length=0:=by simpa using h2
     rw[bQ] at this
     exact List.length_eq_zero_iff.mp this
    subst this
    congr 1
    simp
  ·rw[if_neg h2]
   show(⟨_⟩:Str)=⟨_⟩
   congr 1
   apply Array.toList_inj.mp
   rw[l6]
   simp
noncomputable def rRepT:R2:=λx y H Q=>∃l n,x=.str (S l)/\y=.int n/\-(2 ^ 62)<=n/\n<=65536/\l.length<=200/\Q (.str (S (repL n.toNat l))) H
section
variable {X:Cx}
theorem BR:OpR X (binaryOp .Mult) rRepT:=by
 intro pins s σ H x y v u Q I rx ry h
 obtain⟨l,n,rfl,rfl,h0,h1,hl,q⟩:=h
 obtain⟨t,rfl⟩:=rx
 obtain⟨t',rfl⟩:=ry
 refine SB.mul ⟨?_,λh2 _=>?_,λh2 _=>?_⟩ λt'' k=>⟨.str (S (repL n.toNat l)),H,I.tok k,⟨t'',by rw[EV]⟩,q⟩
 ·rw[decide_eq_false (by omega),decide_eq_false (by omega)];rfl
 ·rw[bQ]
  intro h3
  have h4:(2 ^ 63 - 1:Int) / n≥(2 ^ 63 - 1) / 65536:=by
   refine Int.le_ediv_of_mul_le (by omega) ?_
   have:(2 ^ 63 - 1:Int) / 65536 * n<=(2 ^ 63 - 1:Int) / 65536 * 65536:=Int.mul_le_mul_of_nonneg_left h1 (by decide)
   have:(2 ^ 63 - 1:Int) / 65536 * 65536<=2 ^ 63 - 1:=by decide
   omega
  have h5:(2 ^ 63 - 1:Int) / 65536 > 200:=by decide
  omega
 ·rw[bQ]
  have h3:l.length * n.toNat<=200 * 65536:=Nat.mul_le_mul hl (by omega)
  have e:Builtin.Str.tooLong (l.length * n.toNat)=decide (l.length * n.toNat > sizeLine):=rfl
  rw[e,decide_eq_false]
  rw[sizeLine_eq]
  omega
noncomputable def rMulA:R2:=λx y H Q=>rI CMul (λi j=>.int (i * j)) x y H Q\/rRepT x y H Q
theorem hV:OpR X (binaryOp .Mult) rMulA:=Dn.or BR
theorem Fj {H:Hp}{Q:VK}(i j:Int):rMulA (.int i) (.int j) H Q=(CMul i j/\Q (.int (i * j)) H):=by
 simp[rMulA,rI,rRepT]
noncomputable def tDClear (td:TE):TE:=λσ H Q=>td σ H λx H1=>∃a kvs,x=.ref a/\H1 a=some (.dK kvs)/\Q .non (upd H1 a (.dK []))
end
noncomputable def Itv' (K:W.Frag)(a:Addr)(n:Nat):It:=
 ⟨λi H=>i < n/\∃xs,SqL K H a xs/\xs.length=n,λi H x H'=>H'=H/\∀xs,SqL K H a xs->xs[n - 1 - i]?=some x,λi H=>n<=i⟩
section
variable {X:Cx}
noncomputable def iRev (K:W.Frag)(ta:TA):TI:=λσ H R=>ta σ H λvs H1=>∃a xs,vs=[.ref a]/\SqL K H1 a xs/\R (Itv' K a xs.length) H1
end
theorem sV (l:List V)(k:Nat):cutV l none (some (k:Int))=l.take k:=by
 unfold cutV
 rw[HT.qQ,HT.sk,List.drop_zero,Nat.sub_zero]
 by_cases h:k<=l.length
 ·rw[Nat.min_eq_left h]
 ·rw[Nat.min_eq_right (by omega),List.take_of_length_le (Nat.le_refl _),List.take_of_length_le (by omega)]
theorem sW (l:List V)(k j:Nat):cutV l (some (k:Int)) (some ((k+j:Nat):Int))=(l.drop k).take j:=by
 unfold cutV
 rw[HT.qQ,HT.qQ]
 by_cases h:k<=l.length
 ·rw[Nat.min_eq_left h]
  by_cases h2:k+j<=l.length
  ·rw[Nat.min_eq_left h2];congr 1;omega
  ·rw[Nat.min_eq_right (by omega),List.take_of_length_le (by rw[List.length_drop];omega),List.take_of_length_le (by rw[List.length_drop];omega)]
 ·rw[show min k l.length=l.length by omega,List.drop_of_length_le (Nat.le_refl _),List.drop_of_length_le (show l.length<=k by omega),List.take_nil,List.take_nil]
noncomputable def tupV (H:Hp):V->List V
 | .ref t=>match H t with
  | some (.tup xs)=>xs
  | _=>[]
 | _=>[]
theorem TupsAt.comp {H:Hp}{ts:List Addr}{rows:List (List V)}(h:TupsAt H ts rows)(q:List V->Bool)(g:List V->V):((ts.map V.ref).filter λx=>q (tupV H x)).map (λx=>g (tupV H x))=(rows.filter q).map g:=by
 unfold TupsAt at h
 induction h with
 | nil=>rfl
 | @cons t xs ts' rows' e _ ih=>
  have et:tupV H (.ref t)=xs:=by simp only[tupV,e]
  simp only[List.map_cons,List.filter_cons,et]
  cases q xs with
  | true=>simp only[if_true,List.map_cons,et];rw[ih]
  | false=>simpa using ih
theorem TupsAt.mem {H:Hp}{ts:List Addr}{rows:List (List V)}(h:TupsAt H ts rows){x:V}(hx:x∈ts.map V.ref):∃t xs,x=.ref t/\xs∈rows/\H t=some (.tup xs):=by
 obtain⟨t,ht,rfl⟩:=List.mem_map.mp hx
 obtain⟨i,hi⟩:=List.getElem?_of_mem ht
 obtain⟨xs,h1,h2⟩:=h.get hi
 exact⟨t,xs,rfl,List.mem_of_getElem? h1,h2⟩
theorem rq {K:W.Frag}{tt:TT}{te:TE}{σ:St}{H:Hp}{Q:VK}{a:Addr}{rows:List (List V)}(hl:LTups H a rows)(hn:rows.length<=sizeLine)(q:List V->Bool)(g:List V->V)
  (ht:∀t xs H',xs∈rows->Same H H'->H' t=some (.tup xs)->∀Qt:Bool->Hp->Prop,(∀H'',Same H' H''->Qt (q xs) H'')->tt (some (.ref t)::σ) H' Qt)
  (he:∀t xs H',xs∈rows->Same H H'->H' t=some (.tup xs)->∀Qe:VK,(∀H'',Same H' H''->Qe (g xs) H'')->te (some (.ref t)::σ) H' Qe)
  (hd:∀D H',H D=none->Same H H'->H' D=some (.lst ((rows.filter q).map g))->Q (.ref D) H'):compW (Itl K a) tt te σ H Q:=by
 obtain⟨ts,e,hT⟩:=hl
 refine kN (xs:=ts.map V.ref) (.inl (.inl e)) (by rw[List.length_map,hT.length];exact hn) (λx=>q (tupV H x)) (λx=>g (tupV H x)) ?_ ?_ ?_
 ·intro x H' hx s Qt qt
  obtain⟨t,xs,rfl,hm,h1⟩:=hT.mem hx
  have et:tupV H (.ref t)=xs:=by simp only[tupV,h1]
  rw[et] at qt
  exact ht t xs H' hm s (s _ _ h1) Qt qt
 ·intro x H' hx _ s Qe qe
  obtain⟨t,xs,rfl,hm,h1⟩:=hT.mem hx
  have et:tupV H (.ref t)=xs:=by simp only[tupV,h1]
  rw[et] at qe
  exact he t xs H' hm s (s _ _ h1) Qe qe
 ·intro D H' hD s h
  refine hd D H' hD s ?_
  rw[h,hT.comp]
theorem kg {K:W.Frag}{te:TE}{σ:St}{H:Hp}{Q:VK}{a:Addr}{rows:List (List V)}(hl:LTups H a rows)(hn:rows.length<=sizeLine)(g:List V->V)
  (he:∀t xs H',xs∈rows->Same H H'->H' t=some (.tup xs)->∀Qe:VK,(∀H'',Same H' H''->Qe (g xs) H'')->te (some (.ref t)::σ) H' Qe)
  (hd:∀D H',H D=none->Same H H'->H' D=some (.lst (rows.map g))->Q (.ref D) H'):compW (Itl K a) tYes te σ H Q:=
 rq hl hn (λ_=>true) g (λt xs H' _ s _ Qt qt=>qt H' (Same.refl _)) he (λD H' h s e=>hd D H' h s (by rw[cX] at e;exact e))
inductive Thg (H:Hp):V->Prop
 | non:Thg H .non
 | bl (b:Bool):Thg H (.bl b)
 | int (i:Int):Thg H (.int i)
 | str (l:List Nat) (h:l.length<=1000):Thg H (.str (S l))
 | lst {p:Addr} {xs:List V} (h:H p=some (.lst xs)):Thg H (.ref p)
 | tup {p:Addr} {xs:List V} (h:H p=some (.tup xs)):Thg H (.ref p)
noncomputable def textV (x:V)(lo hi:Int):Bool:=match x with
 | .str z=>decide (lo<=z.length) && decide ((z.length:Int)<=hi)
 | _=>false
noncomputable def formV (x:V)(lo hi:Int)(p:Nat->Bool):Bool:=match x with
 | .str z=>decide (lo<=z.length) && (decide ((z.length:Int)<=hi) && z.cps.toList.all p)
 | _=>false
noncomputable def wholeV (x:V)(lo hi:Int):Bool:=match x with
 | .int i=>decide (lo<=i) && decide (i<=hi)
 | _=>false
noncomputable def T36:List Nat:=[97,98,99,100,101,102,103,104,105,106,107,108,109,110,111,112,113,114,115,116,117,118,119,120,121,122,48,49,50,51,52,53,54,55,56,57]
theorem Aj:(Str.ofString "abcdefghijklmnopqrstuvwxyz0123456789")=S T36:=by decide +kernel
noncomputable def inN (c:Nat):Bool:=decide (c∈T36)
theorem BS (l:List Nat)(c:Nat):occB (S l) (S [c])=decide (c∈l):=by
 have:=PySem.StrLaws.found_one (S l) c
 unfold occB
 exact this.trans (by simp)
noncomputable def uW:Sp:=λvs H Q _=>∃(x:V) (lo hi:Int),vs=[x,.int lo,.int hi]/\Thg H x/\Q (.bl (textV x lo hi)) H
noncomputable def uX:Sp:=λvs H Q _=>∃x:V,vs=[x]/\Thg H x/\∀H',Same H H'->Q (.bl (formV x 1 12 inN)) H'
noncomputable def sX:Sp:=λvs H Q _=>∃(x:V) (lo hi:Int),vs=[x,.int lo,.int hi]/\Thg H x/\Q (.bl (wholeV x lo hi)) H
theorem hW {l:List Nat}{p:Nat->Bool}:(l.map p).all id=l.all p:=by simp[List.all_map,Function.comp_def]
theorem jx {l:List Nat}{lo hi:Int}{p:Nat->Bool}(h:textV (.str (S l)) lo hi=true):formV (.str (S l)) lo hi p=l.all p:=by
 simp only[textV,formV,Bool.and_eq_true] at h ⊢
 rw[h.1,h.2]
 simp
theorem kQ {x:V}{lo hi:Int}{p:Nat->Bool}(h:¬textV x lo hi=true):formV x lo hi p=false:=by
 cases x with
 | str z=>
  simp only[textV,formV,Bool.and_eq_true] at h ⊢
  by_cases h1:decide (lo<=(z.length:Int))=true
  ·rw[h1,Bool.true_and]
   have h2:¬decide ((z.length:Int)<=hi)=true:=λe=>h ⟨h1,e⟩
   rw[Bool.eq_false_iff.mpr h2,Bool.false_and]
  ·rw[Bool.eq_false_iff.mpr h1,Bool.false_and]
 | _=>rfl
theorem nK {H:Hp}{x:V}{lo hi:Int}(t:Thg H x)(h:textV x lo hi=true):∃l:List Nat,x=.str (S l)/\l.length<=1000:=by
 cases t with
 | str l hl=>exact⟨l,rfl,hl⟩
 | _=>simp[textV] at h
noncomputable def foldK (l:List Nat):Int:=l.foldl (λ(h:Int) (c:Nat)=>Builtin.bitAnd (h * 37+(c:Int)) 65535) 1
noncomputable def sprN (l:List Nat):Int:=Builtin.bitXor (foldK l) (foldK l / 2 ^ (8:Int).toNat)
theorem uY {l:List Nat}{i c:Nat}(h:(S l).cps[i]?=some c):foldK (l.take (i+1))=Builtin.bitAnd (foldK (l.take i) * 37+(c:Int)) 65535:=by
 have h':l[i]?=some c:=by simpa using h
 rw[List.take_add_one,h']
 simp[foldK,List.foldl_append]
structure Shf where
 name:List Nat
 rows:Nat
 kind:Str
noncomputable def Shf.v (x:Shf):List V:=[.str (S x.name),.int x.rows,.str x.kind]
noncomputable def okShf (x:Shf):Prop:=(1<=x.name.length/\x.name.length<=12/\x.name.all inN=true)/\(1<=x.rows/\x.rows<=9)/\(x.kind=Str.ofString "table" \/ x.kind=Str.ofString "stream")
structure OkShfs (xs:List Shf):Prop where
 lo:1<=xs.length
 hi:xs.length<=6
 each:∀x∈xs,okShf x
 nd:(xs.map Shf.name).Nodup
structure ShAt (C:Addr)(H:Hp)(s l:Addr)(xs:List Shf):Prop where
 obj:∃dx,H s=some (.ins C dx [("shelves",.ref l)])
 lst:LTups H l (xs.map Shf.v)
theorem ShAt.chg {A:List Addr}{C:Addr}{H H':Hp}{s l:Addr}{xs:List Shf}(h:ShAt C H s l xs)(c:Chg A H H')(hs:s∉A)(hl:l∉A):ShAt C H' s l xs:=by
 obtain⟨dx,e⟩:=h.obj
 exact⟨⟨dx,c.keep _ _ e hs⟩,h.lst.chg c hl⟩
noncomputable def startOf (xs:List Shf)(k:Nat):Nat:=((xs.take k).map Shf.rows).sum
theorem bp {xs:List Shf}{k:Nat}{x:Shf}(h:xs[k]?=some x):startOf xs (k+1)=startOf xs k+x.rows:=by
 unfold startOf
 rw[List.take_add_one,h]
 simp
theorem ia {xs:List Shf}(h:∀x∈xs,x.rows<=9):∀k,startOf xs k<=9 * k:=by
 intro k
 induction k with
 | zero=>simp[startOf]
 | succ k ih=>
  cases e:xs[k]? with
  | none=>
   have:startOf xs (k+1)=startOf xs k:=by unfold startOf;rw[List.take_add_one,e];simp
   omega
  | some x=>
   have:=h x (List.mem_of_getElem? e)
   rw[bp e]
   omega
noncomputable def uZ (C:Addr):Sp:=λvs H Q _=>∃(s l:Addr) (xs:List Shf),vs=[.ref s]/\ShAt C H s l xs/\xs.length<=1000/\∀H',Same H H'->Q (.int (startOf xs xs.length)) H'
noncomputable def rowNo (xs:List Shf)(k:Nat)(x:Shf)(key:List Nat):Nat:=startOf xs k+(sprN key % (x.rows:Int)).toNat
noncomputable def xV:Sp:=λvs H Q _=>∃l:List Nat,vs=[.str (S l)]/\Q (.int (sprN l)) H
noncomputable def xW:Sp:=λvs H Q _=>∃(l:List Nat) (m:Int),vs=[.str (S l),.int m]/\0 < m/\Q (.int (sprN l % m)) H
noncomputable def it (i:Nat)(xs:List V):V:=xs.getD i .non
noncomputable def ltr36 (n:Int):Nat:=T36.getD (n % 36).toNat 0
theorem n8 (n:Int):T36[(n % 36).toNat]?=some (ltr36 n):=by
 have h:(n % 36).toNat < T36.length:=by
  show(n % 36).toNat < 36
  omega
 unfold ltr36
 rw[List.getD_eq_getElem?_getD,List.getElem?_eq_getElem h]
 rfl
theorem n9 (n:Int):inN (ltr36 n)=true:=by
 unfold inN
 exact decide_eq_true (List.mem_of_getElem? (n8 n))
theorem xX {n m:Int}(h:ltr36 n=ltr36 m):n % 36=m % 36:=by
 have hn:T36.Nodup:=by decide
 have h1:=n8 n
 have h2:=n8 m
 rw[h] at h1
 obtain⟨i1,e1⟩:=List.getElem?_eq_some_iff.mp h1
 obtain⟨i2,e2⟩:=List.getElem?_eq_some_iff.mp h2
 have hp:=List.pairwise_iff_getElem.mp hn
 rcases Nat.lt_trichotomy (n % 36).toNat (m % 36).toNat with z | z | z
 ·exact absurd (e1.trans e2.symm) (hp _ _ i1 i2 z)
 ·omega
 ·exact absurd (e2.trans e1.symm) (hp _ _ i2 i1 z)
noncomputable def Eo:Sp:=λvs H Q _=>∃x y:Int,vs=[.int x,.int y]/\Q (.bl (decide (x=y))) H
noncomputable def xY:Sp:=λvs H Q _=>∃n:Int,vs=[.int n]/\Q (.str (S [ltr36 n])) H
theorem kR {te:TE}{σ:St}{H:Hp}{Q:VK}{lo:Int}{n:Nat}(hn:n<=sizeLine)(Pv:Addr->Nat->List V->Hp->Prop)(h0:∀D,H D=none->Pv D 0 [] (upd H D (.lst [])))
  (hl:∀D i ys H',i<=n->Pv D i ys H'->H' D=some (.lst ys)/\ys.length<=i)
  (hs:∀D i ys H',H D=none->i < n->Pv D i ys H'->∀Qe:VK,(∀y H5,H5 D=some (.lst ys)->Pv D (i+1) (ys++[y]) (upd H5 D (.lst (ys++[y])))->Qe y H5)->te (some (.int (lo+i))::σ) H' Qe)
  (hd:∀D ys H',H D=none->Pv D n ys H'->Q (.ref D) H'):compW (Itr lo n) tYes te σ H Q:=by
 intro D hD
 refine⟨λi m ys H=>m=n - i/\i<=n/\Pv D i ys H,⟨n,rfl,Nat.zero_le _,h0 D hD⟩,?_⟩
 rintro i m ys H2 ⟨rfl,hi,p⟩
 obtain⟨h1,h2⟩:=hl D i ys H2 hi p
 by_cases hlt:i < n
 ·refine .inr ⟨hlt,by omega,λx H3 y=>?_⟩
  obtain⟨rfl,rfl⟩:H3=H2/\x=.int (lo+i):=y
  simp only[tYes,if_true]
  exact hs D i ys H3 hD hlt p _ λy H5 z1 z2=>⟨z1,n - (i+1),by omega,rfl,hlt,z2⟩
 ·have e:i=n:=by omega
  subst e
  exact .inl ⟨Nat.le_refl _,h1,hd D ys H2 hD p⟩
theorem iU {K:W.Frag}{te:TE}{σ:St}{H:Hp}{Q:VK}{a:Addr}{xs:List V}(hn:xs.length<=sizeLine)(Pv:Addr->Nat->List V->Hp->Prop)(h0:∀D,H D=none->Pv D 0 [] (upd H D (.lst [])))
  (hl:∀D i ys H',i<=xs.length->Pv D i ys H'->H' D=some (.lst ys)/\ys.length<=i/\SqL K H' a xs)
  (hs:∀D i ys H' x,H D=none->xs[i]?=some x->Pv D i ys H'->∀Qe:VK,(∀y H5,H5 D=some (.lst ys)->Pv D (i+1) (ys++[y]) (upd H5 D (.lst (ys++[y])))->Qe y H5)->te (some x::σ) H' Qe)
  (hd:∀D ys H',H D=none->Pv D xs.length ys H'->Q (.ref D) H'):compW (Itl K a) tYes te σ H Q:=by
 intro D hD
 refine⟨λi m ys H=>m=xs.length - i/\i<=xs.length/\Pv D i ys H,⟨xs.length,rfl,Nat.zero_le _,h0 D hD⟩,?_⟩
 rintro i m ys H2 ⟨rfl,hi,p⟩
 obtain⟨h1,h2,h3⟩:=hl D i ys H2 hi p
 by_cases hlt:i < xs.length
 ·refine .inr ⟨⟨xs,xs[i],h3,by simp⟩,by omega,λx H3 y=>?_⟩
  obtain⟨rfl,z⟩:=y
  simp only[tYes,if_true]
  exact hs D i ys _ x hD (z xs h3) p _ λy H5 z1 z2=>⟨z1,xs.length - (i+1),by omega,rfl,hlt,z2⟩
 ·have e:i=xs.length:=by omega
  subst e
  exact .inl ⟨⟨xs,h3,Nat.le_refl _⟩,h1,hd D ys H2 hD p⟩
theorem ib {xs:List Shf}{a b:Nat}{x:Shf}(hx:xs[a]?=some x)(h:a < b):startOf xs a+x.rows<=startOf xs b:=by
 rw[<-bp hx]
 have mono:∀m n:Nat,m<=n->startOf xs m<=startOf xs n:=by
  intro m n hmn
  induction n with
  | zero=>
   have:m=0:=by omega
   subst this;exact Nat.le_refl _
  | succ n ih=>
   by_cases e:m=n+1
   ·subst e;exact Nat.le_refl _
   ·refine Nat.le_trans (ih (by omega)) ?_
    cases e2:xs[n]? with
    | none=>unfold startOf;rw[List.take_add_one,e2];simp
    | some y=>rw[bp e2];omega
 exact mono _ _ h
theorem TupsAt.drop {H:Hp}{ts:List Addr}{rows:List (List V)}(h:TupsAt H ts rows)(n:Nat):TupsAt H (ts.drop n) (rows.drop n):=by
 unfold TupsAt at h ⊢
 induction h generalizing n with
 | nil=>simp;exact .nil
 | cons r t ih=>
  cases n with
  | zero=>exact .cons r t
  | succ n=>exact ih n
theorem aY {H H':Hp}{b:Addr}(s:Same H H')(h:H' b=none):H b=none:=by
 cases e:H b with
 | none=>rfl
 | some o=>rw[s _ _ e] at h;cases h
theorem Same.wr {H H':Hp}{b:Addr}{o:HO}(s:Same H H')(h:H b=none):Same H (L2.upd H' b o):=λc u hc=>(aj (az hc h)).trans (s c u hc)
noncomputable def rNotB:R2:=λx y H Q=>∃b c,x=.bl b/\y=.bl c/\Q (.bl (!decide (b=c))) H
section
variable {X:Cx}
theorem wD:OpR X (compareOp .IsNot) rNotB:=by
 intro pins s σ H x y v u Q I rx ry h
 obtain⟨b,c,rfl,rfl,q⟩:=h
 cases (show v=Value.bool b from rx)
 cases (show u=Value.bool c from ry)
 refine wpAny_isNot_plain (by cases b<;>cases c<;>rfl) ⟨.bl (!decide (b=c)),H,I,?_,q⟩
 show Value.bool _=Value.bool _
 cases b<;>cases c<;>rfl
theorem EW {H:Hp}{Q:VK}(b c:Bool):rNotB (.bl b) (.bl c) H Q=Q (.bl (!decide (b=c))) H:=by simp[rNotB]
end
section
variable {prog:Program} {w:World} {A:Around} {R:Result->Shared->Prop} {I:Addr} {fp wr:List Addr} {n:Nat} {P:Nat->Value->Prop} {St:Nat->Heap->Prop} {kw:List (Str×Value)}
end
section
variable {prog:Program} {w:World} {A:Around} {E:Value->Shared->Prop} {s:Shared}
end
section
variable {X:Cx}
end
theorem RowAt.same {C:Addr}{H H':Hp}{r d:Addr}{M:RowM}(h:RowAt C H r d M)(s:Same H H'):RowAt C H' r d M:=h.chg (A:=[]) (Chg.of_same s) (by simp) (by simp)
section
variable {X:Cx}
end
end L2
namespace L2
open PySem
noncomputable def TrD (h B:Heap)(e:Addr)(cls:Value)(dc:Option Addr)(a0 fl:Value):Prop:=
 ∃oe vs T oT ts,h.get? e=some oe/\oe.cls=cls/\oe.dict=dc/\oe.data=.fields vs/\vs[2]?=some a0/\vs[1]?=some (.ref T)/\B.get? T=none/\T≠e/\h.get? T=some oT/\oT.data=.fields ts/\ts[3]?=some fl
structure Fly (B:Heap)(l:List Env)(e:Addr)(cls:Value)(dc:Option Addr)(a0 fl:Value)(h:Heap):Prop where
 stay:B.StaysIn h
 new:B.get? e=none
 fun':h.FunFrames B l
 tale:TrD h B e cls dc a0 fl
section
variable {M:Model} {A:Around} {E:Value->Shared->Prop} {s:Shared}
theorem xZ (g:Array Value->Array Value)(o:Obj):(o.mapFields g).dict=o.dict:=by
 obtain⟨c,d,t,sl⟩:=o
 cases t<;>rfl
theorem qi {B:Heap}{env:Env}{out:List Env}{L e:Addr}{oe:Obj}{vs:Array Value}{top a0:Value}{nx:Bool}{Q:Unit->Shared->Prop}
  (fr:A.frames=some (env::out)) (ff:s.heap.FunFrames B (env::out)) (ef:env.frame=some L) (ge:s.heap.get? e=some oe) (kb:B.StaysIn s.heap) (nb:B.get? e=none) (dt:oe.data=.fields vs) (sz:1 < vs.size) (z0:vs[2]?=some a0)
  (k:∀h',Fly B (env::out) e oe.cls oe.dict a0 (rawInt L) h'->s.heap.UpToSlots h'->Q () { s with heap:=h' }) :
  wpAny M A (do
   let fo <-frameOf env
   let pl <-entryPlaceOf L nx
   let en <-EntryCells.newEntry top fo .none (rawInt L) .none pl
   setField (.ref e) 1 en) Q E s:=by
 have apart:e∉(env::out).filterMap (·.frame):=by
  intro m
  obtain⟨_,o,g,nf⟩:=ff.mem m
  rw[ge] at g
  cases g
  exact nf vs dt
 refine wpAny_bind (wpAny_frameOf_fun fr ff ef λg1 so=>wpAny_bind (wpAny_entryPlaceOf λpl ip=>?_))
 unfold EntryCells.newEntry newFields
 refine wpAny_bind (wpAny_newObj_type ?_ (ip.sizeOk5 _ _ _ _ _))
 generalize hen:([top,Value.ref L,Value.none,rawInt L,Value.none]++(if pl.isEmpty then List.replicate 6 Value.none else pl)).toArray=ts
 have e3:ts[3]?=some (rawInt L):=by rw[<-hen];simp
 generalize ho:({ cls:=.type "traceback",dict:=none,data:=.fields ts }:Obj)=on
 have ge1:g1.get? e=some oe:=(so.2.1 e apart).trans ge
 have kb1:B.StaysIn g1:=λb o q=>by
  refine(so.2.1 b λm=>?_).trans (kb b o q)
  rw[(ff.mem m).1] at q
  cases q
 have ge2:(g1.push on).get? e=some oe:=Heap.get?_push_of_some _ ge1
 have norec:∀b o,s.heap.get? b=some o->(∀ws,o.data≠.fields ws)->b≠e:=λb o q nf z=>by
  subst z
  rw[ge] at q
  cases q
  exact nf vs dt
 refine wpAny_setField ge2 dt sz (k _ ?_ ?_)
 all_goals have nTe:g1.objs.size≠e:=Nat.ne_of_gt (Heap.lt_size ge1)
 all_goals have dt3:=Obj.data_mapFields dt (·.setIfInBounds 1 (Value.ref g1.objs.size))
 all_goals have ge3:=Heap.get?_update_self (Obj.mapFields (·.setIfInBounds 1 (Value.ref g1.objs.size))) ge2 (Obj.isFreed_of_fields dt3)
 all_goals have gT:((g1.push on).update e (Obj.mapFields (·.setIfInBounds 1 (Value.ref g1.objs.size)))).get? g1.objs.size=some on:=(Heap.get?_update_other _ _ (Ne.symm nTe)).trans (Heap.get?_push_size g1 (by rw[<-ho];rfl))
 all_goals have keep:∀b o,b≠e->g1.get? b=some o->((g1.push on).update e (Obj.mapFields (·.setIfInBounds 1 (Value.ref g1.objs.size)))).get? b=some o:=λb o nbe q=>(Heap.get?_update_other _ _ (Ne.symm nbe)).trans (Heap.get?_push_of_some _ q)
 ·refine⟨λb o q=>keep b o (λz=>by rw[z,nb] at q;cases q) (kb1 b o q),nb,ff.of_keeps λb o q nf=>?_,?_⟩
  ·obtain⟨sl,q'⟩:=so.2.2 b o q
   exact⟨_,keep b _ (norec b o q nf) q',rfl⟩
  ·refine⟨_,_,g1.objs.size,on,ts,ge3,Obj.cls_mapFields _ _,xZ _ _,dt3,?_,by simp[sz],kb1.fresh,nTe,gT,by rw[<-ho],e3⟩
   rw[Array.getElem?_setIfInBounds_ne (by decide)]
   exact z0
 ·intro b o q nf
  obtain⟨sl,q'⟩:=so.2.2 b o q
  exact⟨sl,keep b _ (norec b o q nf) q'⟩
theorem u3 {B:Heap}{env:Env}{out:List Env}{L e:Addr}{oe:Obj}{vs:Array Value}{a0:Value}{Q:Unit->Shared->Prop}
  (fr:A.frames=some (env::out)) (ff:s.heap.FunFrames B (env::out)) (ef:env.frame=some L) (ge:s.heap.get? e=some oe) (kb:B.StaysIn s.heap) (nb:B.get? e=none) (dt:oe.data=.fields vs) (z1:vs[1]?=some .none) (z0:vs[2]?=some a0)
  (k:∀h',Fly B (env::out) e oe.cls oe.dict a0 (rawInt L) h'->s.heap.UpToSlots h'->Q () { s with heap:=h' }):wpAny M A (noteFrame (.ref e) env) Q E s:=by
 unfold noteFrame
 simp only[ef]
 refine wpAny_bind (wpAny_field ge dt z1 ?_)
 rw[if_neg (by decide)]
 exact qi fr ff ef ge kb nb dt (Array.getElem?_eq_some_iff.mp z1).1 z0 k
theorem qj {B:Heap}{env:Env}{out:List Env}{L e:Addr}{cls:Value}{dc:Option Addr}{a0:Value}{Q:Unit->Shared->Prop}
  (fr:A.frames=some (env::out)) (ef:env.frame=some L) (fl:Fly B (env::out) e cls dc a0 .none s.heap)
  (k:∀h',Fly B (env::out) e cls dc a0 (rawInt L) h'->s.heap.UpToSlots h'->Q () { s with heap:=h' }):wpAny M A (noteFrame (.ref e) env) Q E s:=by
 obtain⟨kb,nb,ff,oe,vs,T,oT,ts,ge,hc,hdc,dt,z0,z1,nT,nTe,gT,dT,z3⟩:=fl
 subst hc hdc
 unfold noteFrame
 simp only[ef]
 refine wpAny_bind (wpAny_field ge dt z1 ?_)
 rw[if_pos (by simp)]
 refine wpAny_bind (wpAny_field gT dT z3 ?_)
 rw[if_neg (by simp[rawInt])]
 refine wpAny_bind (wpAny_setField gT dT (Array.getElem?_eq_some_iff.mp z3).1 ?_)
 have oth:∀b,b≠T->(s.heap.update T (Obj.mapFields (·.setIfInBounds 3 Value.none))).get? b=s.heap.get? b:=λb q=>Heap.get?_update_other _ _ (Ne.symm q)
 have norec:∀b o,s.heap.get? b=some o->(∀ws,o.data≠.fields ws)->b≠T:=λb o q nf z=>by
  subst z
  rw[gT] at q
  cases q
  exact nf ts dT
 refine qi fr (ff.of_keeps λb o q nf=>⟨o,(oth b (norec b o q nf)).trans q,rfl⟩) ef ((oth e (Ne.symm nTe)).trans ge) (λb o q=>(oth b λz=>by rw[z,nT] at q;cases q).trans (kb b o q)) nb dt (Array.getElem?_eq_some_iff.mp z1).1 z0 λh' f' u'=>k h' f' λb o q nf=>u' b o ((oth b (norec b o q nf)).trans q) nf
theorem fw {B:Heap}{l:List Env}{e:Addr}{cls:Value}{dc:Option Addr}{a0 fl:Value}{Q:Unit->Shared->Prop}(f:Fly B l e cls dc a0 fl s.heap)
  (k:∀h',Fly B l e cls dc a0 .none h'->s.heap.UpToSlots h'->Q () { s with heap:=h' }):wpAny M A (setFlight (.ref e) none) Q E s:=by
 obtain⟨kb,nb,ff,oe,vs,T,oT,ts,ge,hc,hdc,dt,z0,z1,nT,nTe,gT,dT,z3⟩:=f
 have z3':3 < ts.size:=(Array.getElem?_eq_some_iff.mp z3).1
 have oth:∀b,b≠T->(s.heap.update T (Obj.mapFields (·.setIfInBounds 3 ((none:Option Addr).elim Value.none λf=>rawInt f)))).get? b=s.heap.get? b:=λb q=>Heap.get?_update_other _ _ (Ne.symm q)
 have norec:∀b o,s.heap.get? b=some o->(∀ws,o.data≠.fields ws)->b≠T:=λb o q nf z=>by
  subst z
  rw[gT] at q
  cases q
  exact nf ts dT
 unfold setFlight
 refine wpAny_bind (wpAny_field ge dt z1 ?_)
 rw[if_pos (by simp)]
 refine wpAny_setField gT dT z3' (k _ ⟨λb o q=>(oth b λz=>by rw[z,nT] at q;cases q).trans (kb b o q),nb,ff.of_keeps λb o q nf=>⟨o,(oth b (norec b o q nf)).trans q,rfl⟩,?_⟩ λb o q nf=>⟨o.slots,(oth b (norec b o q nf)).trans q⟩)
 exact⟨oe,vs,T,_,_,(oth e (Ne.symm nTe)).trans ge,hc,hdc,dt,z0,z1,nT,nTe,Heap.get?_update_self _ gT (Obj.isFreed_of_fields (Obj.data_mapFields dT _)),Obj.data_mapFields dT _,by simp[z3']⟩
theorem Fly.pop {B:Heap}{env:Env}{out:List Env}{e:Addr}{cls:Value}{dc:Option Addr}{a0 fl:Value}{h:Heap}(f:Fly B (env::out) e cls dc a0 fl h):Fly B out e cls dc a0 fl h:=
 ⟨f.stay,f.new,let ⟨_,_,z⟩:=f.fun';z,f.tale⟩
theorem sY {B:Heap}{env:Env}{out:List Env}{L e:Addr}{oe:Obj}{vs:Array Value}{a0:Value}{Q:Unit->Shared->Prop}
  (fr:A.frames=some (env::out)) (ff:s.heap.FunFrames B (env::out)) (ef:env.frame=some L) (ge:s.heap.get? e=some oe) (kb:B.StaysIn s.heap) (nb:B.get? e=none) (dt:oe.data=.fields vs) (z1:vs[1]?=some .none) (z0:vs[2]?=some a0)
  (k:∀h',Fly B out e oe.cls oe.dict a0 .none h'->s.heap.UpToSlots h'->Q () { s with heap:=h' }):wpAny M A (leaving env (.ref e)) Q E s:=by
 unfold leaving
 exact wpAny_bind (u3 fr ff ef ge kb nb dt z1 z0 λh1 f1 u1=>fw f1 λh2 f2 u2=>k h2 f2.pop (u1.trans u2))
theorem u4 {B:Heap}{env:Env}{out:List Env}{L e:Addr}{cls:Value}{dc:Option Addr}{a0:Value}{Q:Unit->Shared->Prop}
  (fr:A.frames=some (env::out)) (ef:env.frame=some L) (fl:Fly B (env::out) e cls dc a0 .none s.heap)
  (k:∀h',Fly B out e cls dc a0 .none h'->s.heap.UpToSlots h'->Q () { s with heap:=h' }):wpAny M A (leaving env (.ref e)) Q E s:=by
 unfold leaving
 exact wpAny_bind (qj fr ef fl λh1 f1 u1=>fw f1 λh2 f2 u2=>k h2 f2.pop (u1.trans u2))
end
end L2
namespace L2
open PySem PySem.Spec PyProof.Rows
structure Bas (l:List Env)(H H':Hp)(h B:Heap):Prop where
 keep:∀b o,h.get? b=some o->H b=none->b∉frs l->B.get? b=some o
 free:∀b o,h.get? b=some o->H b=none->H' b=none
 there:∀b o,h.get? b=some o->b∉frs l->∃o',B.get? b=some o'
 tups:∀b xs,H b=some (.tup xs)->H' b=some (.tup xs)
 frzs:∀b o u,H b=some (.frz o u)->H' b=some (.frz o u)
 tbls:∀b ps,H b=some (.tbl ps)->∃more,H' b=some (.tbl (ps++more))
noncomputable def Slo (l:List Env)(h h':Heap):Prop:=∀b o,b∈frs l->h.get? b=some o->∃sl,h'.get? b=some { o with slots:=sl }
structure Thr (P:Program)(w:World)(l:List Env)(H:Hp)(s:Shared)(ea C:Addr)(dx:Option Addr)(fl:Value)(B:Heap)(H':Hp)(s':Shared):Prop where
 os:s'.os=s.os
 bare:AllBare s'.gens
 fly:∃a0,Fly B l ea (.ref C) dx a0 fl s'.heap
 hok:HOk P w H' B
 bas:Bas l H H' s.heap B
 slo:Slo l s.heap s'.heap
noncomputable def CXv (P:Program)(w:World):CXT:=λl H s E e s'=>∃ea C dx B H',e=.ref ea/\Thr P w l H s ea C dx .none B H' s'/\E (.ref C) dx H'
section
variable {P:Program} {w:World} {l:List Env} {H H':Hp} {s s':Shared} {ea C:Addr} {dx:Option Addr} {fl:Value} {B:Heap}
theorem Thr.stay (t:Thr P w l H s ea C dx fl B H' s'):B.StaysIn s'.heap:=let ⟨_,f⟩:=t.fly;f.stay
theorem Thr.held (t:Thr P w l H s ea C dx fl B H' s'):HOk P w H' s'.heap:=t.hok.kept t.stay
theorem Thr.un (t:Thr P w l H s ea C dx fl B H' s'):Un (frs l) [] H H' s.heap s'.heap where
 keep:=λb o e n hb _=>t.stay b o (t.bas.keep b o e n hb)
 slot:=λb o e _ hb _=>t.slo b o hb e
 free:=λb o e n _=>t.bas.free b o e n
 there:=λb o e _=>by
  by_cases hb:b∈frs l
  ·obtain⟨sl,q⟩:=t.slo b o hb e;exact⟨_,q⟩
  ·obtain⟨o',q⟩:=t.bas.there b o e hb;exact⟨o',t.stay b o' q⟩
 tups:=t.bas.tups
 frzs:=t.bas.frzs
 tbls:=t.bas.tbls
theorem passv0 {X:Cx}:Passes (CXv P w) X E0:=λ_ _ _ _ _ _ _ ⟨_,_,_,_,_,_,_,h⟩=>h.elim
end
section
variable {X:Cx} {pins:List (Addr×Obj)} {σ:St} {H H':Hp} {s s':Shared} {ea C:Addr} {dx:Option Addr} {fl:Value} {B:Heap}
theorem Inv.low (I:Inv X pins σ H s){b:Addr}{o:Obj}(e:X.s₀.heap.get? b=some o)(hb:b∉frs X.outer):b∉frs X.stack:=λz=>by
 rcases List.mem_cons.mp (I.stkSub b z) with r | r
 ·exact absurd (Heap.lt_size e) (by rw[r];exact Nat.not_lt.mpr I.ok.above)
 ·exact hb r
theorem Bas.out (I:Inv X pins σ H s)(hex:X.ex=[])(t:Bas X.stack H H' s.heap B):Bas X.outer X.H₀ H' X.s₀.heap B where
 keep:=λb o e n hb=>t.keep b o (I.base.keep b o e n hb (by rw[hex];simp)) (I.base.free b o e n (by rw[hex];simp)) (I.low e hb)
 free:=λb o e n=>by
  obtain⟨o',q⟩:=I.base.there b o e (by rw[hex];simp)
  exact t.free b o' q (I.base.free b o e n (by rw[hex];simp))
 there:=λb o e hb=>by
  obtain⟨o',q⟩:=I.base.there b o e (by rw[hex];simp)
  exact t.there b o' q (I.low e hb)
 tups:=λb xs q=>t.tups b xs (I.base.tups b xs q)
 frzs:=λb o u q=>t.frzs b o u (I.base.frzs b o u q)
 tbls:=λb ps q=>by
  obtain⟨m1,e1⟩:=I.base.tbls b ps q
  obtain⟨m2,e2⟩:=t.tbls b _ e1
  exact⟨m1++m2,by rw[e2,Array.append_assoc]⟩
theorem Inv.inner (I:Inv X pins σ H s){b:Addr}(hb:b∈frs X.outer):b∈frs X.stack:=by
 rcases I.ok.stk with e | ⟨e,hf⟩
 ·rw[e];exact hb
 ·rw[e]
  unfold frs
  rw[List.filterMap_cons,hf]
  exact List.mem_cons_of_mem _ hb
theorem Slo.out {h':Heap}(I:Inv X pins σ H s)(hex:X.ex=[])(t:Slo X.stack s.heap s'.heap)(u:s'.heap.UpToSlots h'):Slo X.outer X.s₀.heap h':=λb o hb e=>by
 obtain⟨_,o1,ho1,nf⟩:=I.ok.funs.mem hb
 rw[e] at ho1
 cases ho1
 obtain⟨sl,e1⟩:=I.base.slot b o e (I.ok.frf b hb) hb (by rw[hex];simp)
 obtain⟨sl2,e2⟩:=t b _ (I.inner hb) e1
 obtain⟨sl3,e3⟩:=u b _ e2 nf
 exact⟨sl3,e3⟩
end
section
variable {P:Program} {w:World} {K:W.Frag} {mg:Str->Option Value} {base:Heap} {N:List Str} {qual:Str} {scope:Scope} {f:Addr} {cd:Value} {A:Around} {outer:List Env} {s:Shared} {H:Hp} {E:XK}
theorem passX:Passes (CXv P w) (cxOf (CXv P w) P w K mg base N qual scope f cd A outer s H E) E:=by
 rintro pins σ H1 s1 e s' I ⟨ea,C,dx,B,H',rfl,T,q⟩
 obtain⟨a0,fl⟩:=T.fly
 show wpAny _ _ (leaving _ _) _ _ _
 refine u4 I.ok.frames rfl fl λh2 f2 u2=>⟨ea,C,dx,B,H',rfl,⟨T.os.trans I.os,T.bare,⟨a0,f2⟩,T.hok,T.bas.out I rfl,T.slo.out I rfl u2⟩,q⟩
end
noncomputable abbrev XObj (C t:Addr)(dx:Option Addr):Obj:={ cls:=.ref C,dict:=dx,data:=.fields #[.ref t,.none,.none,.none,.bool false,.none] }
noncomputable def xo (ea C t:Addr)(dx:Option Addr):HO:=.ext λh=>h.get? ea=some (XObj C t dx)
theorem CQ {P:Program}{w:World}{H:Hp}{h:Heap}{ea C t:Addr}{dx:Option Addr}(e:h.get? ea=some (XObj C t dx)):ObjOk P w H h ea (xo ea C t dx):=
 ⟨e,⟨_,e⟩,λ_ _ q k=>k _ q⟩
theorem rA {P:Program}{w:World}{H:Hp}{h:Heap}{ea C t:Addr}{dx:Option Addr}(x:HOk P w H h)(e:H ea=some (xo ea C t dx)):h.get? ea=some (XObj C t dx):=
 (show ObjOk P w H h ea (xo ea C t dx) from x _ _ e).1
noncomputable def del (H:Hp)(a:Addr):Hp:=λb=>if b=a then none else H b
theorem ic {H:Hp}{a b:Addr}(h:b≠a):del H a b=H b:=by unfold del;rw[if_neg h]
theorem Ak {H:Hp}{a:Addr}:del H a a=none:=by unfold del;rw[if_pos rfl]
noncomputable def RaiseTo (X:Cx)(E:XK):Prop:=∀(pins:List (Addr×Obj)) (σ:St) (H:Hp) (s:Shared) (ea C t:Addr) (dx:Option Addr),Inv X pins σ H s->H ea=some (xo ea C t dx)->X.s₀.heap.objs.size<=ea->E (.ref C) dx (del H ea)->X.xe (.ref ea) s
section
variable {X:Cx} {pins:List (Addr×Obj)} {σ:St} {H:Hp} {s:Shared} {ea C t:Addr} {dx:Option Addr}
noncomputable def atThrow (X:Cx)(s:Shared)(ea:Addr):Heap:=W.hideAll s.heap (ea::frs X.stack)
theorem DY (I:Inv X pins σ H s)(he:H ea=some (xo ea C t dx)):HOk X.prog X.w (del H ea) (atThrow X s ea):=λb u q=>by
 have nb:b≠ea:=λz=>by rw[z,Ak] at q;cases q
 rw[ic nb] at q
 have nown:∀c y,H c=some (.own y)->c≠ea:=λc y r z=>by rw[z,he] at r;cases r
 have ntup:∀c xs,H c=some (.tup xs)->c≠ea:=λc xs r z=>by rw[z,he] at r;cases r
 have nfr:∀c u,H c=some u->c∉frs X.stack:=λc u r z=>by rw[I.stkFree c z] at r;cases r
 refine(I.hok b u q).stay (λc v hc r=>W.hideAll_get _ r λm=>?_) (λc r=>by rw[ic (nown c b r)];exact r) λc xs r=>by rw[ic (ntup c xs r)];exact r
 rcases List.mem_cons.mp m with z | z
 ·rcases hc with r' | r'
  ·exact nb (r'.symm.trans z)
  ·exact nown c b r' z
 ·rcases hc with r' | r'
  ·rw[r'] at z;exact nfr b u q z
  ·exact nfr c _ r' z
theorem DZ (I:Inv X pins σ H s)(hex:X.ex=[])(he:H ea=some (xo ea C t dx))(hn:X.s₀.heap.objs.size<=ea):Bas X.outer X.H₀ (del H ea) X.s₀.heap (atThrow X s ea) where
 keep:=λb o e n hb=>W.hideAll_get _ (I.base.keep b o e n hb (by rw[hex];simp)) λm=>by
  rcases List.mem_cons.mp m with z | z
  ·exact absurd (Heap.lt_size e) (by rw[z];exact Nat.not_lt.mpr hn)
  ·exact I.low e hb z
 free:=λb o e n=>by
  rw[ic λz=>absurd (Heap.lt_size e) (by rw[z];exact Nat.not_lt.mpr hn)]
  exact I.base.free b o e n (by rw[hex];simp)
 there:=λb o e hb=>by
  obtain⟨o',q⟩:=I.base.there b o e (by rw[hex];simp)
  refine⟨o',W.hideAll_get _ q λm=>?_⟩
  rcases List.mem_cons.mp m with z | z
  ·exact absurd (Heap.lt_size e) (by rw[z];exact Nat.not_lt.mpr hn)
  ·exact I.low e hb z
 tups:=λb xs q=>by
  have r:=I.base.tups b xs q
  rw[ic λz=>by rw[z,he] at r;cases r]
  exact r
 frzs:=λb o u q=>by
  have r:=I.base.frzs b o u q
  rw[ic λz=>by rw[z,he] at r;cases r]
  exact r
 tbls:=λb ps q=>by
  obtain⟨m,r⟩:=I.base.tbls b ps q
  exact⟨m,by rw[ic λz=>by rw[z,he] at r;cases r];exact r⟩
theorem BU (I:Inv X pins σ H s):s.heap.FunFrames (atThrow X s ea) X.stack:=by
 refine W.funFrames_hide I.stack λenv hm a e=>List.mem_cons_of_mem _ ?_
 exact List.mem_filterMap.mpr ⟨env,hm,e⟩
end
section
variable {P:Program} {w:World} {K:W.Frag} {mg:Str->Option Value} {base:Heap} {N:List Str} {qual:Str} {scope:Scope} {f:Addr} {cd:Value} {A:Around} {outer:List Env} {s:Shared} {H:Hp} {E:XK}
theorem raiseX:RaiseTo (cxOf (CXv P w) P w K mg base N qual scope f cd A outer s H E) E:=by
 intro pins σ H1 s1 ea C t dx I he hn q
 have ge:=rA I.hok he
 show wpAny _ _ (leaving _ _) _ _ _
 refine sY (B:=atThrow _ s1 ea) I.ok.frames (BU I) rfl ge (λb o z=>W.of_hideAll _ z) (W.hideAll_none _ List.mem_cons_self) rfl rfl rfl λh2 f2 u2=>?_
 exact⟨ea,C,dx,_,_,rfl,⟨I.os,I.bare,⟨_,f2⟩,DY I he,DZ I rfl he hn,Slo.out I rfl (λb o _ e=>⟨o.slots,e⟩) u2⟩,q⟩
end
section
variable {P:Program} {w:World} {K:W.Frag} {mg:Str->Option Value} {base:Heap}
theorem Fun.okX {x qual:Str}{st:Stmt}{f:Addr}{fd:FuncData}{N ps:List Str}{k:Nat}{sp:Sp}(F:Fun K x qual st f fd)(S:FnScope N ps (defScope st))(len:∀vs H Q E,sp vs H Q E->vs.length=ps.length)
  (hbody:∀(cdv:Value) (A:Around) (outer:List Env) (s:Shared) (H:Hp) (vs:List V) (Q:VK) (E:XK),Room k (A.deeper (envOfC qual (defScope st) s.heap.objs.size f cdv))->sp vs H Q E->
   ∃t,PSs (cxOf (CXv P w) P w K mg base N qual (defScope st) f cdv A outer s H E) (defBody st) t/\t { nx:=λ_ H'=>Q .non H',rt:=Q } (start N vs) H):FnOk P w K mg base (CXv P w) (k+1) f fd ps sp:=by
 obtain⟨oc,od,kV,doc,pm,an,cdv,ct,osl,rfl,lk,hcd⟩:=F.ex
 exact wz lk hcd S len λA outer s H vs Q E hr hsp=>hbody cdv A outer s H vs Q E hr hsp
end
end L2
namespace L2
open PySem PySem.Spec PyProof.Rows Builtin Builtin.ObjectAttr
noncomputable def valTail:List Value:=[.type "ValueError",.type "Exception",.type "BaseException",.type "object"]
noncomputable def xOver:List Value->Bool
 | .ref _::r=>xOver r
 | l=>l == valTail
theorem iV:∀{l:List Value},xOver l=true->∃rs:List Addr,l=rs.map Value.ref++valTail
 | [],h=>by cases h
 | v::r,h=>by
  cases v with
  | ref a=>
   obtain⟨rs,e⟩:=iV (l:=r) h
   exact⟨a::rs,by rw[e];rfl⟩
  | _=>exact⟨[],beq_iff_eq.mp h⟩
theorem sZ {X:String}{b:Bool}(e:valTail.contains (.type X)=b):∀rs:List Addr,(rs.map Value.ref++valTail).contains (.type X)=b
 | []=>e
 | a::r=>by
  rw[List.map_cons,List.cons_append,List.contains_cons,sZ e r]
  rfl
theorem dC {l:List Value}(h:xOver l=true){X:String}{b:Bool}(e:valTail.contains (.type X)=b):l.contains (.type X)=b:=by
 obtain⟨rs,rfl⟩:=iV h
 exact sZ e rs
theorem u5 (self:Value){l:List Value}(h:xOver l=true):refuseLoop self "__setattr__" l=pure ():=by
 obtain⟨rs,rfl⟩:=iV h
 clear h
 induction rs with
 | nil=>exact PySem.F.store_ValueError.passes self
 | cons a r ih=>rw[List.map_cons,List.cons_append,refuseLoop_ref];exact ih
noncomputable def xIn (K:W.Frag)(C:Addr):Bool:=match K.lookup C with
 | some ⟨.type "type",_,.cls cd,sl⟩=>(match cd.mro,sl.toList with
  | .ref C'::bm,[_,_,_,_,some (.builtin n),_]=>C' == C && (!cd.hasDel && (cd.hasDict && (xOver bm && n == "ValueError.__new__")))
  | _,_=>false)
 | _=>false
theorem kS {K:W.Frag}{C:Addr}(q:xIn K C=true):∃nm qn N bs bm sn sub ab col dd k0 k1 k2 k3 k5,
  K.lookup C=some (excClassObj nm qn C N bs bm true sn sub ab col dd k0 k1 k2 k3 k5 "ValueError.__new__")/\xOver bm=true:=by
 unfold xIn at q
 split at q
 ·rename_i dd cd sl ho
  split at q
  ·rename_i C' bm k0 k1 k2 k3 n k5 hm hs
   simp only[Bool.and_eq_true,beq_iff_eq,Bool.not_eq_true'] at q
   obtain⟨rfl,q1,q2,q3,rfl⟩:=q
   obtain⟨nm,bs,mro,ns,qn,hd,sn,sub,ab,col,de⟩:=cd
   dsimp only at hm q1 q2
   subst hm q1 q2
   obtain⟨sl⟩:=sl
   dsimp only at hs
   subst hs
   exact⟨nm,qn,ns,bs,bm,sn,sub,ab,col,dd,k0,k1,k2,k3,k5,ho,q3⟩
  ·cases q
 ·cases q
structure XCls (K:W.Frag)(C:Addr):Prop where
 x:xIn K C=true
 kp:W.keepIn K (.ref C)=true
 sa:W.findIn K (.ref C) "__setattr__"=some (some (.builtin "object.__setattr__"))
 ga:W.findIn K (.ref C) "__getattribute__"=some (some (.builtin "BaseException.__getattribute__"))
 gn:W.findIn K (.ref C) "__getattr__"=some none
 hd:W.hasDictIn K C=true
section
variable {M:Model} {A:Around} {E:Value->Shared->Prop} {h:Heap} {g:Array GenState} {d:Drawn} {t:Nat} {os:OsState}
variable {nm qn:Str} {C N:Addr} {bs bm:List Value} {hdct:Bool} {sn:List Str} {sub:List Value} {ab:Bool} {col:Option Bool} {dd:Option Addr} {k0 k1 k2 k3 k5:Option Value}
theorem BV {us:List Value}{Q:Unit->Shared->Prop}(hC:h.get? C=some (excClassObj nm qn C N bs bm hdct sn sub ab col dd k0 k1 k2 k3 k5 "ValueError.__new__"))(ho:xOver bm=true)
  (q:Q () ⟨h,g,d,t,os⟩):wpAny M A (checkBuiltinCall "ValueError.__new__" ⟨.ref C::us,[]⟩) Q E ⟨h,g,d,t,os⟩:=by
 have F:=PySem.F.excBase_ValueError
 have c1:(Value.ref C::bm).contains (.type "ValueError")=true:=by rw[List.contains_cons,dC ho (b:=true) (by decide),Bool.or_true]
 have st:=F.noStar
 simp only[checkBuiltinCall,F.newKind,F.newSplit,F.newRow]
 repeat (first | (refine wpAny_loadPart_at hC ?_) | (refine wpAny_isSubtype_exc hC ?_;rw[c1]) | (refine wpAny_staticBase_exc hC ?_) | (refine wpAny_madeBy_exc hC ?_) | (simp only[bne_self_eq_false,Bool.false_eq_true,if_false]) | wp_step)
 exact q
end
section
variable {prog:Program} {w:World} {A:Around} {R:Result->Shared->Prop} {h:Heap} {g:Array GenState} {d:Drawn} {t:Nat} {os:OsState}
variable {nm qn:Str} {C N:Addr} {bs bm:List Value} {hdct:Bool} {sn:List Str} {sub:List Value} {ab:Bool} {col:Option Bool} {dd:Option Addr} {k0 k1 k2 k3 k5:Option Value}
noncomputable abbrev xTup (us:List Value):Obj:={ cls:=.type "tuple",data:=.seq us.toArray }
theorem EX {us:List Value}(hC:h.get? C=some (excClassObj nm qn C N bs bm hdct sn sub ab col dd k0 k1 k2 k3 k5 "ValueError.__new__"))(ho:xOver bm=true)
  (q:R (.ok (.ret (.ref (h.objs.size+1)))) ⟨(h.push (xTup us)).push (XObj C h.objs.size none),g,d,t,os⟩) (hl:us.length<=sizeLine) :
  codeAny (model prog w) A (.builtin "ValueError.__new__" ⟨.ref C::us,[]⟩) R ⟨h,g,d,t,os⟩:=by
 have F:=PySem.F.excBase_ValueError
 have en:=F.ends
 have c1:(Value.ref C::bm).contains (.type "ValueError")=true:=by rw[List.contains_cons,dC ho (b:=true) (by decide),Bool.or_true]
 have c2:(Value.ref C::bm).contains (.type "AttributeError")=false:=by rw[List.contains_cons,dC ho (b:=false) (by decide)];rfl
 have c3:(Value.ref C::bm).contains (.type "NameError")=false:=by rw[List.contains_cons,dC ho (b:=false) (by decide)];rfl
 refine codeAny_builtinAt F.entry ?_
 unfold Builtin.«BaseException.__new__»
 refine PySem.wpAt_bind ?_
 show PySem.wpAt _ _ _ (stack >>= _) _ _ _
 refine PySem.wpAt_bind (PySem.wpAt_stack λ_ _=>PySem.wpAt_of_wpAny ?_)
 wp_walk
 refine PySem.wpAt_of_wpAny ?_
 rw[F.owner]
 repeat (first | (with_reducible refine wpAny_madeHere_exc F.canon hC ?_) | (with_reducible refine wpAny_loadPart_at hC ?_) | (with_reducible refine wpAny_isSubtype_exc hC ?_;first | rw[c1] | rw[c2] | rw[c3]) | wp_step)
 show R _ _
 rw[Heap.size_push]
 exact q
theorem BW {K:W.Frag}{f:Addr}{hh:Heap}{us:List Value}{Q:Fin->Shared->Prop}{E:Value->Shared->Prop}(X:K.In hh)(c:XCls K C)(hi:W.findIn K (.ref C) "__init__"=some (some (.ref f)))(hf:W.isFn K (.ref f)=true)(hl:us.length<=sizeLine)
  (hq:wpAny (model prog w) A (call (.ref f) (.ref (hh.objs.size+1)::us)) (λr s'=>r=.none/\Q (.done (.ret (.ref (hh.objs.size+1)))) s') E ⟨(hh.push (xTup us)).push (XObj C hh.objs.size none),g,d,t,os⟩) :
  wpAny (model prog w) A (Builtin.«type.__call__» ⟨.ref C::us,[]⟩) Q E ⟨hh,g,d,t,os⟩:=by
 obtain⟨nm,qn,N,bs,bm,sn,sub,ab,col,dd,k0,k1,k2,k3,k5,hK,ho⟩:=kS c.x
 have hC:=X _ _ hK
 have F:=PySem.F.excBase_ValueError
 have k:∀b o,hh.get? b=some o->((hh.push (xTup us)).push (XObj C hh.objs.size none)).get? b=some o:=λb o e=>Heap.get?_push_of_some _ (Heap.get?_push_of_some _ e)
 repeat (first | (with_reducible refine wpAny_loadPart_at hC ?_) | (with_reducible refine wpAny_madeBy_exc hC ?_) | wp_step)
 refine codeAny_call_builtin_code (Code.quiet_builtin _ F.quiet) (BV hC ho ?_)
 refine EX hC ho ?_ hl
 show wpAny _ _ _ _ _ _
 have hC1:=k _ _ hC
 have hx:((hh.push (xTup us)).push (XObj C hh.objs.size none)).get? (hh.objs.size+1)=some ({ cls:=.ref C,dict:=none,data:=.fields #[.ref hh.objs.size,.none,.none,.none,.bool false,.none] }:Obj):=by heap_get
 have c4:(Value.ref C::bm).contains (.ref C)=true:=by simp
 unfold isInstance
 repeat (first | (with_reducible refine wpAny_loadPart_at hx ?_) | (with_reducible refine wpAny_isSubtype_exc hC1 ?_;rw[c4]) | wp_step)
 show wpAny _ _ (typeLookup (.ref C) _) _ _ _
 refine((W.looks_findIn X hi).keeps k).at ?_
 refine wpAny_holding (wpAny_bind (((W.bind_fn X (.ref (hh.objs.size+1)) (beq_iff_eq.mp hf)).keeps k).at ?_))
 refine wpAny_bind (wpAny_mono hq (λr s' z=>?_) λ_ _ z=>z)
 obtain⟨rfl,z⟩:=z
 wp_walk
 exact z
theorem x_call {K:W.Frag}{f:Addr}{s:Shared}{us:List Value}{Q:Value->Shared->Prop}{E:Value->Shared->Prop}(X:K.In s.heap)(c:XCls K C)(hi:W.findIn K (.ref C) "__init__"=some (some (.ref f)))(hf:W.isFn K (.ref f)=true)(hl:us.length<=sizeLine)
  (hq:wpAny (model prog w) (A.under (.builtin "type.__call__" ⟨.ref C::us,[]⟩)) (call (.ref f) (.ref (s.heap.objs.size+1)::us)) (λr s'=>r=.none/\Q (.ref (s.heap.objs.size+1)) s') E
   { s with heap:=(s.heap.push (xTup us)).push (XObj C s.heap.objs.size none) }):wpAny (model prog w) A (call (.ref C) us) Q E s:=by
 obtain⟨hh,g,d,t,os⟩:=s
 obtain⟨nm,qn,N,bs,bm,sn,sub,ab,col,dd,k0,k1,k2,k3,k5,hK,ho⟩:=kS c.x
 have hC:=X _ _ hK
 dsimp only at hC
 have f1:=tc_lookup
 have f2:=tc_bind (.ref C)
 have hT:(⟨hh,g,d,t,os⟩:Shared).TypeIs (.ref C) "type":=⟨_,hC,rfl⟩
 refine wpAny_call (codeAny_of_tree ?_)
 show wpAny _ _ (callAny (.ref C) _) _ _ _
 repeat (any_goals (first | assumption | (with_reducible refine wpAny_loadPart_at hC ?_) | wp_step))
 refine⟨rfl,?_⟩
 exact codeAny_call_builtin_at (Code.quiet_builtin _ (s!"d")) entry_typeCall (wpAny_check_type_call_sub hC (BW X c hi hf hl hq))
end
section
variable {prog:Program} {w:World} {A:Around} {E:Value->Shared->Prop} {s:Shared} {K:W.Frag} {x C:Addr} {name:Str} {v:Value}
theorem EY {ox:Obj}{od:Option Obj}{expr:Bool}{Q:Value->Shared->Prop}(X:K.In s.heap)(I:W.InstAt s.heap x ox C od)(c:xIn K C=true)(hga:W.findIn K (.ref C) "__getattribute__"=some (some (.builtin "BaseException.__getattribute__")))(hgn:W.findIn K (.ref C) "__getattr__"=some none)
  (hf:W.findObj K C od name=some (.value v)) (hh:W.handedIn v=true) (h:Q v { s with toks:=s.toks+1 }):wpAny (model prog w) A (getAttr (.ref x) name expr) Q E s:=by
 obtain⟨h0,g,d,t,os⟩:=s
 obtain⟨nm,qn,N,bs,bm,sn,sub,ab,col,dd,k0,k1,k2,k3,k5,hK,ho⟩:=kS c
 have L0:=I.type (M:=model prog w)
 have L1:=W.looks_findIn (M:=model prog w) X hga
 have L2:=W.looks_findIn (M:=model prog w) X hgn
 have L3:=W.looks_find (M:=model prog w) X I hf
 unfold getAttr getAttrBy
 refine wpAny_bind (wpAny_mkText (wpAny_holding (wpAny_bind (L0.at (wpAny_bind (L1.at ?_))))))
 show wpAny _ _ (getAttrByItsOwn _ _ _ _ _ _) _ _ _
 unfold getAttrByItsOwn
 have G:=PySem.F.excAttr_ValueError.ga
 have e1:callGetattribute (.ref x) (.str name t) (.builtin "BaseException.__getattribute__") expr=boundAndCalled (.builtin "BaseException.__getattribute__") (.ref x) (.str name t):=by
  unfold callGetattribute
  cases expr<;>rfl
 have LB:W.Looks (model prog w) h0 (isInstance (.ref x) (.type "BaseException")) true:=L0.andThen (W.looks_mroIn X (by
  obtain⟨cd,hc,hcm⟩:∃cd,W.clsIn K C=some cd/\cd.mro=.ref C::bm:=⟨_,by unfold W.clsIn;rw[hK],rfl⟩
  unfold W.mroIn
  rw[hc,Option.bind_some,hcm,if_neg (by simp),List.contains_cons,dC ho (b:=true) (by decide),Bool.or_true]))
 refine wpAny_bind (show wpAny _ _ (typeLookup (.ref C) "__getattr__") _ _ _ from L2.at ?_)
 refine wpAny_bind (wpAny_attempt (wpAny_holding ?_))
 rw[e1]
 unfold boundAndCalled
 rw[G.bind]
 refine wpAny_bind (wpAny_pure (wpAny_call (codeAny_call_builtin G.plain PySem.F.entry_bexc_ga (@W.check_slot (model prog w) _ _ ⟨h0,g,d,t+1,os⟩ "BaseException.__getattribute__" "BaseException" "__getattribute__" (.ref x) [.str name t] [] _ (s!"d") (s!"d") LB (PySem.F.args_bexc_ga _ _) ?_))))
 refine wpAny_bind (wpAny_pure (wpAny_bind (wpAny_pure (wpAny_bind (L0.at (wpAny_bind (L3.at ?_)))))))
 refine wpAny_pure ?_
 show wpAny _ _ (handedOut v) _ _ _
 rw[W.handedOut_of hh]
 exact wpAny_pure h
end
end L2
namespace L2
open PySem PySem.Spec PyProof.Rows Builtin Builtin.ObjectAttr
noncomputable def xdo (d:Addr)(fs:List (Str×V)):HO:=.ext λh=>∃mA,h.Ns1 d mA/\∀f,RelO (fs.lookup f) (mA f)
theorem Al {P:Program}{w:World}{H:Hp}{h:Heap}{d:Addr}{fs:List (Str×V)}{mA:Str->Option Value}(e:h.Ns1 d mA)(r:∀f,RelO (fs.lookup f) (mA f)):ObjOk P w H h d (xdo d fs):=by
 refine⟨⟨mA,e,r⟩,?_,λh1 h2 ⟨m,e1,r1⟩ k=>⟨m,?_,r1⟩⟩
 ·obtain⟨o,_,_,e1,_⟩:=e
  exact⟨o,e1⟩
 ·exact e1.at k
theorem wF {P:Program}{w:World}{H:Hp}{h:Heap}{d:Addr}{fs:List (Str×V)}(x:HOk P w H h)(e:H d=some (xdo d fs)):∃mA,h.Ns1 d mA/\∀f,RelO (fs.lookup f) (mA f):=
 (show ObjOk P w H h d (xdo d fs) from x _ _ e).1
theorem x2 {fs:List (Str×V)}{mA:Str->Option Value}(r:∀f,RelO (fs.lookup f) (mA f)):PySem.Within mA (fs.map (·.1)):=λy hy=>by
 cases e:fs.lookup y with
 | none=>
  have:=r y
  rw[e] at this
  exact absurd (RelO.none_of this) hy
 | some v=>exact List.mem_map.mpr ⟨(y,v),PySem.mem_of_lookup e,rfl⟩
section
variable {prog:Program} {w:World} {A:Around} {E:Value->Shared->Prop} {s:Shared} {K:W.Frag} {x C t dx:Addr} {name:Str} {v:Value}
theorem CS {ox:Obj}{od:Option Obj}{tk:Tok}{R:Result->Shared->Prop}(X:K.In s.heap)(I:W.InstAt s.heap x ox C od)(c:XCls K C)(ht:W.takerIn K C name=some none)
  (h:∀b,wpAny (model prog w) A.in1 (storeInOwnDict (.ref x) (.ref C) (.str name tk) name v b)
   (λfin s'=>match fin with | .done f=>R (.ok f) s' | .again c'=>c'.quiet=true/\codeAny (model prog w) A c' R s') (λe s'=>R (.error e) s') s) :
  codeAny (model prog w) A (.call (.builtin "object.__setattr__") ⟨[.ref x,.str name tk,v],[]⟩) R s:=by
 have SF:=PySem.F.store_object
 obtain⟨nm,qn,N,bs,bm,sn,sub,ab,col,dd,k0,k1,k2,k3,k5,hK,ho⟩:=kS c.x
 obtain⟨cd,hc,hcm⟩:∃cd,W.clsIn K C=some cd/\cd.mro=.ref C::bm:=⟨_,by unfold W.clsIn;rw[hK],rfl⟩
 have hsub:W.Looks (model prog w) s.heap (isInstance (.ref x) (.type "object")) true:=I.type.andThen (W.looks_mroIn X (by
  unfold W.mroIn
  rw[hc,Option.bind_some,hcm,if_neg (by simp)]
  rw[List.contains_cons,dC ho (b:=true) (by decide),Bool.or_true]))
 refine codeAny_call_builtin SF.slot.plain SF.entry (@W.check_slot (model prog w) _ _ s "object.__setattr__" "object" "__setattr__" (.ref x) [.str name tk,v] [] _ SF.kind SF.split hsub (SF.args (.ref x) (.str name tk) v) ?_)
 obtain⟨attr,ha,hr⟩:=Option.bind_eq_some_iff.mp ht
 have hm:W.Looks (model prog w) s.heap (mroOf (.ref C)) (.ref C::bm):=hcm▸(W.looks_clsIn X hc).andThen .now
 have L3:W.Looks (model prog w) s.heap (storeTaker? attr) none:=by
  cases attr with
  | none=>cases hr;exact .now
  | some a=>
   obtain⟨b,hb,e⟩:=Option.map_eq_some_iff.mp hr
   cases b with
   | true=>cases e
   | false=>exact(W.looks_takesIn X hb).andThen .now
 rw[W.osa_eq,refuse_eq]
 refine wpAny_bind (wpAny_bind (I.type.here (wpAny_bind (hm.here ?_))))
 rw[refuseLoop_ref,u5 _ ho]
 refine wpAny_pure (wpAny_bind (I.type.here (wpAny_bind ((W.looks_findIn X ha).here (wpAny_bind (L3.here ?_))))))
 exact h _
theorem D4 {Q:Unit->Shared->Prop}(X:K.In s.heap)(hx:s.heap.get? x=some (XObj C t none))(c:XCls K C)(ht:W.takerIn K C name=some none)
  (h:∀h' tk,h'.Ns1 s.heap.objs.size (λy=>if y=name then some v else none)->h'.get? x=some (XObj C t (some s.heap.objs.size))->(∀b o,b≠x->s.heap.get? b=some o->h'.get? b=some o)->Q () { s with heap:=h',toks:=tk }) :
  wpAny (model prog w) A (setAttr (.ref x) name v) Q E s:=by
 have J:W.InstAt s.heap x (XObj C t none) C none:=⟨hx,rfl,rfl,trivial⟩
 refine W.set_plain X J c.sa (CS (s:={ s with toks:=s.toks+1 }) X J c ht λb=>?_)
 obtain⟨cd,hc,hd⟩:=W.any_some c.hd
 obtain⟨hh,g,dr,tk,os⟩:=s
 dsimp only at hx X h ⊢
 refine wpAny_bind (wpAny_pure (wpAny_bind (wpAny_bind (wpAny_loadPart hx (wpAny_bind (W.Looks.here (s:=⟨hh,g,dr,tk+1,os⟩) (W.looks_clsIn X hc) ?_))))))
 rw[hd]
 have hx1:(hh.push W.emptyDict).get? x=some (XObj C t none):=Heap.get?_push_of_some _ hx
 have nx:x≠hh.objs.size:=Nat.ne_of_lt (Heap.lt_size hx)
 refine wpAny_bind (wpAny_alloc' (wpAny_bind (wpAny_update' hx1 (wpAny_pure (wpAny_bind (wpAny_pure (wpAny_bind ?_)))))))
 have gd:((hh.push W.emptyDict).update x λo=>{ o with dict:=some hh.objs.size }).get? hh.objs.size=some W.emptyDict:=
  (Heap.get?_update_ne _ _ _ _ (Ne.symm nx)).trans (Heap.get?_push_at rfl rfl)
 have nd:((hh.push W.emptyDict).update x λo=>{ o with dict:=some hh.objs.size }).Ns hh.objs.size (λ_=>none):=⟨_,#[],_,gd,rfl,λe he=>absurd he (by simp),λ_=>rfl⟩
 refine wpAny_nsSet1 (Heap.Ns1.of_empty nd) λh' n' sb=>?_
 obtain⟨oD,esD,epD,hoD,hdD,hcD⟩:=n'.count (Within.cons name v Within.nil)
 refine wpAny_bind (wpAny_lookBehind hoD (by rw[hdD];exact pastItsLine_dict (Nat.le_trans hcD (by rw[List.length_cons,List.length_nil,sizeLine_eq];omega))) ?_)
 refine wpAny_pure (h h' _ n' ?_ λb o hb e=>?_)
 ·refine(sb.2 x nx).trans ?_
  exact Heap.get?_update_self _ hx1 rfl
 ·exact(sb.2 b (Nat.ne_of_lt (Heap.lt_size e))).trans ((Heap.get?_update_ne _ _ _ _ hb).trans (Heap.get?_push_of_some _ e))
theorem D5 {mA:Str->Option Value}{ns:List Str}{Q:Unit->Shared->Prop}(X:K.In s.heap)(hx:s.heap.get? x=some (XObj C t (some dx)))(hn:s.heap.Ns1 dx mA)(ne:dx≠x)(c:XCls K C)(ht:W.takerIn K C name=some none)
  (hw:PySem.Within mA ns) (hz:ns.length<=1000) (h:∀h' tk,h'.Ns1 dx (λy=>if y=name then some v else mA y)->Heap.SameBut dx s.heap h'->Q () { s with heap:=h',toks:=tk }) :
  wpAny (model prog w) A (setAttr (.ref x) name v) Q E s:=by
 obtain⟨od,ho,_⟩:=lN hn
 have J:W.InstAt s.heap x (XObj C t (some dx)) C (some od):=⟨hx,rfl,rfl,ho⟩
 refine W.set_plain X J c.sa (CS (s:={ s with toks:=s.toks+1 }) X J c ht λb=>?_)
 obtain⟨cd,hc,hd⟩:=W.any_some c.hd
 refine wpAny_bind (wpAny_pure (wpAny_bind (wpAny_bind (wpAny_loadPart hx (wpAny_bind (W.Looks.here (s:={ s with toks:=s.toks+1 }) (W.looks_clsIn X hc) ?_))))))
 rw[hd]
 refine wpAny_pure (a:=some dx) (wpAny_bind (wpAny_pure (wpAny_bind ?_)))
 refine wpAny_nsSet1 (s:={ s with toks:=s.toks+1 }) hn λh' n' sb=>?_
 obtain⟨oD,esD,epD,hoD,hdD,hcD⟩:=n'.count (Within.cons name v hw)
 refine wpAny_bind (wpAny_lookBehind hoD (by rw[hdD];exact pastItsLine_dict (Nat.le_trans hcD (by rw[List.length_cons,sizeLine_eq];omega))) ?_)
 exact wpAny_pure (h h' _ n' sb)
end
noncomputable def sXs (K:W.Frag)(ta tv:TE)(f:Str):TS:=λD σ H=>tv σ H λy H1=>ta σ H1 λx H2=>∃ea C t,x=.ref ea/\XCls K C/\NoAttr K C f/\
 ((H2 ea=some (xo ea C t none)/\∀d,H2 d=none->d≠ea->D.nx σ (upd (upd H2 d (xdo d [(f,y)])) ea (xo ea C t (some d))))\/
  ∃d fs,d≠ea/\H2 ea=some (xo ea C t (some d))/\H2 d=some (xdo d fs)/\fs.length<=100/\D.nx σ (upd H2 d (xdo d (putF f y fs))))
section
variable {X:Cx} {o value:Expr} {f:Str} {pos pos':Pos} {ta tv:TE}
theorem BX (ha:PE X o ta)(hv:PE X value tv)(hs:swapsWith value (some (.Attribute o f pos')) pos.line X.env=pure false):PS X (.Assign [.Attribute o f pos'] value pos) (sXs X.K ta tv f):=by
 intro pins s σ H D I h
 refine plainObj_wpAny_Assign_Attribute (thnE (hv pins s σ H _ I h) λu s1 y H1 I1 ry q=>thn (ha pins s1 σ H1 _ I1 q) λov s2 ⟨x,H2,I2,rx,ea,C,t,ex,c,n,q2⟩=>?_) hs
 subst ex
 obtain rfl:ov=Value.ref ea:=rx
 rcases q2 with⟨he,q3⟩ | ⟨d,fs,nd,he,hd,hl,q3⟩
 ·have ge:=rA I2.hok he
  refine D4 I2.kIn ge c n.taker λh' tk n' gx k=>?_
  have hfr:H2 s2.heap.objs.size=none:=I2.hok.fresh (Nat.le_refl _)
  have nde:s2.heap.objs.size≠ea:=Nat.ne_of_gt (Heap.lt_size ge)
  refine⟨σ,_,I2.un (t':=tk) (h':=h') ?_ ?_,q3 _ hfr nde⟩
  ·have ne1:∀b,H2 b=none->b≠ea:=λb e z=>by rw[z,he] at e;cases e
   have kp:∀b o,s2.heap.get? b=some o->H2 b=none->h'.get? b=some o:=λb o e n=>k b o (ne1 b n) e
   refine⟨λb o e n _ _=>kp b o e n,λb o e n _ _=>⟨o.slots,kp b o e n⟩,λb o e n _=>?_,λb o e _=>?_,λb xs e=>?_,λb o u e=>?_,λb ps e=>⟨#[],?_⟩⟩
   ·rw[aj (ne1 b n),aj (Nat.ne_of_lt (Heap.lt_size e))];exact n
   ·by_cases hb:b=ea
    ·rw[hb];exact⟨_,gx⟩
    ·exact⟨o,k b o hb e⟩
   ·rw[aj (iL e he (by unfold xo;intro z;cases z)),aj (az e hfr)];exact e
   ·rw[aj (iL e he (by unfold xo;intro z;cases z)),aj (az e hfr)];exact e
   ·rw[aj (iL e he (by unfold xo;intro z;cases z)),aj (az e hfr),e];simp
  ·intro b u e
   by_cases hb:b=ea
   ·subst hb;rw[af] at e;cases e;exact CQ gx
   ·rw[aj hb] at e
    by_cases hb2:b=s2.heap.objs.size
    ·subst hb2;rw[af] at e;cases e
     refine Al n' λg=>?_
     show RelO (List.lookup g [(f,y)]) (if g=f then some u else none)
     by_cases z:g=f
     ·subst z;rw[if_pos rfl];simp only[List.lookup,beq_self_eq_true];exact ry
     ·have zb:(g == f)=false:=beq_eq_false_iff_ne.mpr z
      rw[if_neg z];simp only[List.lookup,zb];trivial
    ·rw[aj hb2] at e
     have nc:∀c z,H2 c=some z->(∀φ,z≠.ext φ)->c≠ea/\c≠s2.heap.objs.size:=λc z r hz=>⟨λw'=>by rw[w',he] at r;exact hz _ (Option.some.inj r).symm,az r hfr⟩
     refine(I2.hok b u e).stay (λc v hc r=>k c v ?_ r) (λc r=>?_) λc xs r=>?_
     ·rcases hc with z | z
      ·rw[z];exact hb
      ·exact(nc c _ z (λφ w'=>by cases w')).1
     ·rw[aj (nc c _ r (λφ w'=>by cases w')).1,aj (nc c _ r (λφ w'=>by cases w')).2];exact r
     ·rw[aj (nc c _ r (λφ w'=>by cases w')).1,aj (nc c _ r (λφ w'=>by cases w')).2];exact r
 ·have ge:=rA I2.hok he
  obtain⟨mA,hn,hr⟩:=wF I2.hok hd
  refine D5 I2.kIn ge hn nd c n.taker (x2 hr) (by rw[List.length_map];omega) λh' tk n' sb=>?_
  refine⟨σ,_,I2.write (x:=d) (e:=d) (t':=tk) (h':=h') (by rw[hd];exact True.intro) (.inl rfl) (λb o hb e=>(sb.2 b hb).trans e) ?_ (Al n' λg=>?_),q3⟩
  ·obtain⟨o,_,_,e,_⟩:=n';exact⟨o,e⟩
  ·show RelO ((putF f y fs).lookup g) (if g=f then some u else mA g)
   rw[iN]
   by_cases z:g=f
   ·rw[if_pos z,if_pos z];exact ry
   ·rw[if_neg z,if_neg z];exact hr g
end
noncomputable def Am (C:Addr)(names:List Str):Sp:=λvs H Q _=>∃(ea t:Addr) (ys:List V),vs=.ref ea::ys/\ys.length=names.length/\H ea=some (xo ea C t none)/\
 ∀d H',H d=none->d≠ea->(∀b,b≠d->b≠ea->H' b=H b)->H' ea=some (xo ea C t (some d))->H' d=some (xdo d (names.zip ys))->Q .non H'
noncomputable def tRaise (C:Addr)(names:List Str)(E:XK)(t:TA):TS:=λ_ σ H=>t σ H λys H1=>ys.length=names.length/\∀d H',H1 d=none->Same H1 H'->H' d=some (xdo d (names.zip ys))->E (.ref C) (some d) H'
section
variable {X:Cx} {k:Nat} {f C:Addr} {fd:FuncData} {ps names:List Str} {E:XK} {x:Str} {np cpos pos:Pos} {e:Expr} {es:List Expr} {t:TA}
theorem og (c:XCls X.K C)(hi:W.findIn X.K (.ref C) "__init__"=some (some (.ref f)))(hf:W.isFn X.K (.ref f)=true)(F:FnOk X.prog X.w X.K X.mg X.base CX0 k f fd ps (Am C names))(hr:Room (k+1) X.A)
  (hg:Gl X x) (hm:X.mg x=some (.ref C)) (hb:Binds X.K fd ps []) (hnl:names.length<=100) (hx:RaiseTo X E) (ha:PA X (e::es) t) (hdb:autoParam ((x == ("__debug__":Str))=false) L2.dft1._auto_1)
  (hst:autoParam (starEach (e::es) X.env=(false,eval e X.env)::starEach es X.env) L2.dft3._auto_1) (hpl:autoParam ((backTo cpos (starEach es X.env)).any (·.1)=false) L2.dft3._auto_1) :
  PS X (.Raise (some (.Call (.Name x np) (e::es) [] cpos)) none pos) (tRaise C names E t):=by
 intro pins s σ H D I h
 rw[arm_exec_Raise]
 show wpAny _ _ (do standAt pos;raiseStmt X.env (some (do let v <-eval (.Call (.Name x np) (e::es) [] cpos) X.env;standAt pos;pure v)) none) _ _ s
 refine wpAny_bind (wpAny_standAt ?_)
 unfold raiseStmt
 refine wpAny_bind (wpAny_bind (thn (Q:=λu s1=>∃ea tt dx H2,u=Value.ref ea/\X.s₀.heap.objs.size<=ea/\Inv X pins σ H2 s1/\H2 ea=some (xo ea C tt dx)/\E (.ref C) dx (del H2 ea)) ?_ ?_))
 ·refine wpAny_Call_Name_kw (jo I hg hm ?_ hdb)
  refine W.callWith_K (h₀:=X.base) I.ok.mod.kin c.kp (thn (ha cpos pins s σ H _ I h) λus s1 ⟨ys,H1,I1,r,hlen,q⟩=>⟨I1.kIn,?_⟩) hst hpl
  have hul:us.length<=100:=by rw[<-r.length,hlen];exact hnl
  refine x_call I1.kIn c hi hf (Nat.le_trans hul (by decide)) (wpAny_call ?_)
  have e2:((s1.heap.push (xTup us)).push (XObj C s1.heap.objs.size none)).get? (s1.heap.objs.size+1)=some (XObj C s1.heap.objs.size none):=by
   have:=Heap.get?_push_size (s1.heap.push (xTup us)) (o:=XObj C s1.heap.objs.size none) rfl
   rwa [Heap.size_push] at this
  have I2:=(I1.kept (h':=s1.heap.push (xTup us)) (t':=s1.toks) (λb u q=>Heap.get?_push_of_some _ q)).laid (a:=s1.heap.objs.size+1) (o:=xo (s1.heap.objs.size+1) C s1.heap.objs.size none) (h':=(s1.heap.push (xTup us)).push (XObj C s1.heap.objs.size none)) (t':=s1.toks) (λb u q=>Heap.get?_push_of_some _ q) (Nat.le_of_eq (Heap.size_push _ _)) (CQ e2)
  have hfr:H1 (s1.heap.objs.size+1)=none:=I1.hok.fresh (Nat.le_succ _)
  have r2:Vals (V.ref (s1.heap.objs.size+1)::ys) (Value.ref (s1.heap.objs.size+1)::us):=.cons rfl r
  have hsp:Am C names (V.ref (s1.heap.objs.size+1)::ys) (upd H1 (s1.heap.objs.size+1) (xo (s1.heap.objs.size+1) C s1.heap.objs.size none))
    (λv H2=>v=.non/\∃tt dx,H2 (s1.heap.objs.size+1)=some (xo (s1.heap.objs.size+1) C tt dx)/\E (.ref C) dx (del H2 (s1.heap.objs.size+1))) E0:=by
   refine⟨_,_,ys,rfl,hlen,af,λd H' hd nd ho hea hdd=>⟨rfl,_,_,hea,q d _ ?_ (λb o hb=>?_) ?_⟩⟩
   ·rw[aj nd] at hd;exact hd
   ·have n1:b≠s1.heap.objs.size+1:=az hb hfr
    have n2:b≠d:=λz=>by rw[z,<-aj (H:=H1) nd,hd] at hb;cases hb
    rw[ic n1,ho b n2 n1,aj n1];exact hb
   ·rw[ic nd];exact hdd
  have hl:(Value.ref (s1.heap.objs.size+1)::us++[]).length=ps.length:=by
   have e:=r2.length
   rw[F.len _ _ _ _ hsp] at e
   rw[List.append_nil]
   exact e.symm
  have hbd:=hb _ (Value.ref (s1.heap.objs.size+1)::us) I2.kIn hl
  rw[List.append_nil] at hbd
  refine codeAny_mono (F.run _ X.stack _ _ ⟨Value.ref (s1.heap.objs.size+1)::us,[]⟩ _ _ _ E0 (hr.make C us []) (I2.env0.make C us []) hbd r2 hsp) λr s' hq'=>?_
  cases r with
  | error e=>exact False.elim hq'
  | ok fl=>
   cases fl with
   | ret u=>
    obtain⟨v,H',I3,rv,ev,tt,dx,g1,g2⟩:=I2.after hq'
    subst ev
    exact⟨rv,_,tt,dx,H',rfl,Nat.le_trans I1.sz (Nat.le_succ _),I3,g1,g2⟩
   | next=>exact False.elim hq'
   | brk=>exact False.elim hq'
   | cont=>exact False.elim hq'
 ·rintro u s1 ⟨ea,tt,dx,H2,rfl,hn,I2,he2,q2⟩
  refine wpAny_bind (wpAny_standAt (wpAny_pure ?_))
  have ge:=rA I2.hok he2
  have hE:X.xe (.ref ea) s1:=hx pins σ H2 s1 ea C tt dx I2 he2 hn q2
  obtain⟨nm,qn,N,bs,bm,sn,sub,ab,col,dd,k0,k1,k2,k3,k5,hK,ho⟩:=kS c.x
  have hC:=I2.kIn _ _ hK
  have cB:(Value.ref C::bm).contains (.type "BaseException")=true:=by rw[List.contains_cons,dC ho (b:=true) (by decide),Bool.or_true]
  obtain⟨hp,g,d,tk,os⟩:=s1
  dsimp only at ge hC
  repeat (first | (with_reducible refine wpAny_loadPart_at ge ?_) | (with_reducible refine wpAny_loadPart_at hC ?_) | (with_reducible refine wpAny_isSubtype_exc hC ?_;rw[cB]) | wp_step)
  exact wpAny_raiseNew_none hr.hd hE
end
end L2
namespace L2
open PySem PySem.Spec PyProof.Rows
theorem ObjOk.here {P:Program}{w:World}{H:Hp}{h:Heap}{a:Addr}{o:HO}(x:ObjOk P w H h a o):∃u,h.get? a=some u:=by
 cases o with
 | lst xs=>obtain⟨_,_,_,_,e⟩:=x;exact⟨_,e⟩
 | tup xs=>obtain⟨_,_,_,ob,e,_⟩:=x;exact⟨_,e⟩
 | dK kvs=>obtain⟨_,_,_,_,o,_,_,e,_⟩:=x;exact⟨_,e⟩
 | dT kvs=>obtain⟨_,_,_,_,o,_,_,e,_⟩:=x;exact⟨_,e⟩
 | set S n=>obtain⟨o,_,_,_,e,_⟩:=x;exact⟨_,e⟩
 | ins C dx fs=>obtain⟨_,_,_,e,_⟩:=x;exact⟨_,e⟩
 | own y=>exact x
 | xd fs=>obtain⟨_,⟨_,_,_,e,_⟩,_⟩:=x;exact⟨_,e⟩
 | rng lo hi=>obtain⟨_,_,_,e⟩:=x;exact⟨_,e⟩
 | frz ob u=>obtain⟨e,_⟩:=x;exact⟨_,e⟩
 | tbl ps=>exact⟨_,(show h.get? a=some _ from x)⟩
 | met f y=>exact⟨_,(show h.get? a=some _ from x)⟩
 | ext φ=>obtain⟨_,e,_⟩:=x;exact e
noncomputable def Lands (X:Cx)(pins:List (Addr×Obj))(σ:St)(E:XK)(e:Value)(s':Shared):Prop:=
 ∃(s:Shared) (H:Hp) (ea C:Addr) (dx:Option Addr) (B:Heap) (H':Hp),e=.ref ea/\Inv X pins σ H s/\Thr X.prog X.w X.stack H s ea C dx .none B H' s'/\E (.ref C) dx H'
noncomputable abbrev TX:=XK->St->Hp->Prop
noncomputable def PEx (X:Cx)(e:Expr)(t:TX):Prop:=∀(pins:List (Addr×Obj)) (s:Shared) (σ:St) (H:Hp) (E:XK),Inv X pins σ H s->t E σ H->wpAny (model X.prog X.w) X.A (eval e X.env) (λ_ _=>False) (Lands X pins σ E) s
noncomputable def PSx (X:Cx)(st:Stmt)(t:TX):Prop:=∀(pins:List (Addr×Obj)) (s:Shared) (σ:St) (H:Hp) (E:XK),Inv X pins σ H s->t E σ H->wpAny (model X.prog X.w) X.A (exec st X.env) (λ_ _=>False) (Lands X pins σ E) s
noncomputable def PSsx (X:Cx)(st:List Stmt)(t:TX):Prop:=∀(pins:List (Addr×Obj)) (s:Shared) (σ:St) (H:Hp) (E:XK),Inv X pins σ H s->t E σ H->wpAny (model X.prog X.w) X.A (execs st X.env) (λ_ _=>False) (Lands X pins σ E) s
noncomputable def xCall (sp:Sp)(dvs:List V)(t:TA):TX:=λE σ H=>t σ H λvs H1=>sp (vs++dvs) H1 (λ_ _=>False) E
noncomputable def xMeth (C:Addr)(m:Str)(sp:Sp)(dvs:List V)(ta:TE)(t:TA):TX:=λE σ H=>ta σ H λx H1=>∃a dx fs,x=.ref a/\H1 a=some (.ins C dx fs)/\fs.lookup m=none/\t σ H1 λvs H2=>sp (x::(vs++dvs)) H2 (λ_ _=>False) E
noncomputable def xMake (C:Addr)(sp:Sp)(dvs:List V)(t:TA):TX:=λE σ H=>t σ H λvs H1=>∀x dx,H1 x=none->H1 dx=none->dx≠x->sp (.ref x::(vs++dvs)) (upd (upd H1 dx (.own x)) x (.ins C dx [])) (λ_ _=>False) E
noncomputable def xNo:TX:=λ_ _ _=>False
section
variable {X:Cx} {k:Nat} {f C:Addr} {fd:FuncData} {ps:List Str} {sp:Sp} {dvs:List V} {ds:List Value} {E:XK} {x m:Str} {p pos apos:Pos} {e o:Expr} {es:List Expr} {ta:TE} {t:TA} {pins:List (Addr×Obj)} {σ:St} {H:Hp} {s:Shared}
theorem thx {α:Type}{t:Sem α}{Q Q':α->Shared->Prop}{M:Model}{A:Around}{E:Value->Shared->Prop}{s:Shared}(h:wpAny M A t Q (λ_ _=>False) s)(hQ:∀a s,Q a s->Q' a s):wpAny M A t Q' E s:=wpAny_mono h hQ λ_ _ z=>z.elim
theorem EZ {us:List Value}{vs:List V}(F:FnOk X.prog X.w X.K X.mg X.base (CXv X.prog X.w) k f fd ps sp)(hr:Room k X.A)(hb:Binds X.K fd ps ds)(hd:Vals dvs ds)
  (I:Inv X pins σ H s) (r:Vals vs us) (h:sp (vs++dvs) H (λ_ _=>False) E):wpAny (model X.prog X.w) X.A (call (.ref f) us) (λ_ _=>False) (Lands X pins σ E) s:=by
 have r2:Vals (vs++dvs) (us++ds):=r.append hd
 have hl:(us++ds).length=ps.length:=by rw[<-r2.length];exact F.len _ _ _ _ h
 refine wpAny_call (codeAny_mono (F.run X.A X.stack s H ⟨us,[]⟩ (us++ds) (vs++dvs) _ E hr I.env0 (hb s us I.kIn hl) r2 h) λr s' hq=>?_)
 cases r with
 | error e=>
  obtain⟨ea,C,dx,B,H',rfl,T,q⟩:=hq
  exact⟨s,H,ea,C,dx,B,H',rfl,I,T,q⟩
 | ok fl=>
  cases fl with
  | ret u=>obtain⟨_,_,_,_,_,_,_,q⟩:=hq;exact q
  | next=>exact False.elim hq
  | brk=>exact False.elim hq
  | cont=>exact False.elim hq
theorem wG {pl:Sem Bool}(he:PE X.nox o ta)(c:Cls X.K C)(hm:Meth X.K C m f)(F:FnOk X.prog X.w X.K X.mg X.base (CXv X.prog X.w) k f fd ps sp)(hr:Room k X.A)(hb:Binds X.K fd ps ds)(hd:Vals dvs ds)(ha:PA X.nox (e::es) t)
  (hst:autoParam (starEach (e::es) X.env=(false,eval e X.env)::starEach es X.env) L2.dft3._auto_1) (hpl:autoParam ((backTo pos (starEach es X.env)).any (·.1)=false) L2.dft3._auto_1)
  (ht:autoParam (eval (.Call (.Attribute o m apos) (e::es) [] pos) X.env=(do
   let ov <-eval o X.env
   standAt apos.atName
   let (f,first) <-holding [ov] (getMethod ov m pl)
   callWith pos f first (backTo pos (starEach (e::es) X.env)) (backToKw pos (keywordEach [] X.env)))) L2.dft3._auto_1) :
  PEx X (.Call (.Attribute o m apos) (e::es) [] pos) (xMeth C m sp dvs ta t):=by
 intro pins s σ H E I h
 refine W.methodCall_KW (pl:=pl) (thx (he pins s σ H _ (I.wish _) h) λu s1 ⟨x,H1,I1,rx,a,dx,fs,ex,ea,l,q⟩=>?_) ht
 subst ex
 obtain rfl:u=Value.ref a:=rx
 refine gW I1.unwish ea c hm l ?_
 refine W.callWith_K (first:=[.ref a]) (h₀:=X.base) I.ok.mod.kin hm.kp (thx (ha pos pins s1 σ H1 _ I1 q) λus s2 ⟨vs,H2,I2,r,q2⟩=>⟨I2.kIn,?_⟩) hst hpl
 exact EZ (us:=.ref a::us) (vs:=.ref a::vs) F hr hb hd I2.unwish (.cons rfl r) q2
theorem wH {tx:TX}(he:PEx X e tx)(hs:autoParam (swapsWith e none pos.line X.env=pure false) L2.dft3._auto_1):PSx X (.Expr e pos) tx:=by
 intro pins s σ H E I h
 exact wpAny_Expr_any (thn (he pins s σ H E I h) λ_ _ z=>z.elim) I.quiet hs
theorem wI {st:Stmt}{rest:List Stmt}{t:TX}(h1:PSx X st t):PSsx X (st::rest) t:=by
 intro pins s σ H E I h
 exact wpAny_execs_cons (thn (h1 pins s σ H E I h) λ_ _ z=>z.elim)
end
noncomputable def xh (ea C:Addr)(dx:Option Addr):HO:=.ext λh=>∃o vs,h.get? ea=some o/\o.cls=.ref C/\o.dict=dx/\o.data=.fields vs
theorem E1 {P:Program}{w:World}{H:Hp}{h:Heap}{ea C:Addr}{dx:Option Addr}{o:Obj}{vs:Array Value}(e:h.get? ea=some o)(e1:o.cls=.ref C)(e2:o.dict=dx)(e3:o.data=.fields vs):ObjOk P w H h ea (xh ea C dx):=
 ⟨⟨o,vs,e,e1,e2,e3⟩,⟨_,e⟩,λ_ _ ⟨o,vs,q,r⟩ k=>⟨o,vs,k _ q,r⟩⟩
theorem D6 {P:Program}{w:World}{H:Hp}{h:Heap}{ea C:Addr}{dx:Option Addr}(x:HOk P w H h)(e:H ea=some (xh ea C dx)):∃o vs,h.get? ea=some o/\o.cls=.ref C/\o.dict=dx/\o.data=.fields vs:=
 (show ObjOk P w H h ea (xh ea C dx) from x _ _ e).1
noncomputable def tXFld (K:W.Frag)(ta:TE)(f:Str):TE:=λσ H Q=>ta σ H λx H1=>∃ea C d fs v,x=.ref ea/\H1 ea=some (xh ea C (some d))/\H1 d=some (xdo d fs)/\XCls K C/\NoAttr K C f/\fs.lookup f=some v/\Q v H1
section
variable {X:Cx} {e:Expr} {f:Str} {pos:Pos} {ta:TE}
theorem BY (he:PE X e ta)(hb:attributeBase e f X.env (eval e X.env)=eval e X.env):PE X (.Attribute e f pos) (tXFld X.K ta f):=by
 intro pins s σ H Q I h
 refine wy hb (thn (he pins s σ H _ I h) λu s1 ⟨x,H1,I1,rx,ea,C,d,fs,v,ex,hea,hd,c,n,l,q⟩=>?_)
 subst ex
 obtain rfl:u=Value.ref ea:=rx
 obtain⟨o,vs,ge,gc,gd,gf⟩:=D6 I1.hok hea
 obtain⟨mA,hn,hr⟩:=wF I1.hok hd
 obtain⟨od,ho,hl⟩:=lN hn
 obtain⟨u,hu,ru⟩:=RelO.some_of (v:=v) (o:=mA f) (by rw[<-l];exact hr f)
 have J:W.InstAt s1.heap ea o C (some od):=by
  obtain⟨oc,odd,oda,osl⟩:=o
  dsimp only at gc gd gf
  subst gc gd gf
  exact⟨ge,rfl,rfl,ho⟩
 exact EY I1.kIn J c.x c.ga c.gn (W.findObj_own c.hd n rfl (by rw[hl,hu])) (pV ru) ⟨v,H1,I1.tok _,ru,q⟩
end
theorem tf {X:Cx}{K:W.Frag}{e:Expr}{f:Str}{pos:Pos}{ta:TE}(he:PE X e ta)(hb:attributeBase e f X.env (eval e X.env)=eval e X.env)(hK:autoParam (X.K=K) L2.dft3._auto_1):PE X (.Attribute e f pos) (tXFld K ta f):=hK▸BY he hb
noncomputable abbrev Cx.han (X:Cx)(ea:Addr):Cx:={ X with A:=X.A.mark (some (.ref ea)),calm:=false }
theorem Inv.han {X:Cx}{pins:List (Addr×Obj)}{σ:St}{H:Hp}{s:Shared}(I:Inv X pins σ H s)(ea:Addr):Inv (X.han ea) pins σ H s:=
 ⟨⟨I.ok.mod,I.ok.kind,I.ok.glob,I.ok.blt,I.ok.above,I.ok.inj,I.ok.has,I.ok.cab,(λz=>nomatch z),I.ok.frames,I.ok.stk,I.ok.exf,I.ok.bs,I.ok.bsz,I.ok.noex,I.ok.exfs,I.ok.funs,I.ok.frf⟩,I.os,I.bare,I.base,I.loc,I.cell,I.free,I.freeC,I.pin,I.hok,I.len⟩
theorem Inv.unhan {X:Cx}{pins:List (Addr×Obj)}{σ:St}{H:Hp}{s:Shared}{ea:Addr}(ok:X.Ok)(I:Inv (X.han ea) pins σ H s):Inv X pins σ H s:=
 ⟨ok,I.os,I.bare,I.base,I.loc,I.cell,I.free,I.freeC,I.pin,I.hok,I.len⟩
section
variable {X:Cx} {pins:List (Addr×Obj)} {σ:St} {H H':Hp} {s s':Shared} {ea C:Addr} {dx:Option Addr} {B:Heap} {fl:Value}
theorem Thr.new (T:Thr X.prog X.w X.stack H s ea C dx fl B H' s')(I:Inv X pins σ H s){b:Addr}{o:Obj}(e:s.heap.get? b=some o):b≠ea:=by
 rintro rfl
 obtain⟨a0,f⟩:=T.fly
 by_cases hb:b∈frs X.stack
 ·obtain⟨sl,e1⟩:=T.slo b o hb e
  obtain⟨oe,vs,_,_,_,ge,_,_,dt,_⟩:=f.tale
  obtain⟨_,o1,ho1,nf⟩:=f.fun'.mem hb
  rw[ge] at ho1
  cases ho1
  exact nf _ dt
 ·obtain⟨o',e1⟩:=T.bas.there b o e hb
  rw[f.new] at e1
  cases e1
theorem Thr.none (T:Thr X.prog X.w X.stack H s ea C dx fl B H' s'):H' ea=none:=by
 obtain⟨a0,f⟩:=T.fly
 cases q:H' ea with
 | none=>rfl
 | some u=>
  obtain⟨o,e⟩:=(T.hok ea u q).here
  rw[f.new] at e
  cases e
theorem Thr.inv (T:Thr X.prog X.w X.stack H s ea C dx fl B H' s')(I:Inv X pins σ H s):Inv X pins σ H' s':=I.call' (ch:=[]) T.os T.un T.held T.bare (λb z=>nomatch z)
theorem Thr.seen (T:Thr X.prog X.w X.stack H s ea C dx fl B H' s')(I:Inv X pins σ H s):Inv X pins σ (upd H' ea (xh ea C dx)) s':=by
 have hn:=T.none
 obtain⟨a0,f⟩:=T.fly
 obtain⟨oe,vs,_,_,_,ge,gc,gd,dt,_⟩:=f.tale
 have un:=T.un
 refine I.call' (ch:=[]) T.os ⟨un.keep,un.slot,λb o e n hx=>?_,un.there,λb xs e=>?_,λb o u e=>?_,λb ps e=>?_⟩ (λb u e=>?_) T.bare (λb z=>nomatch z)
 ·rw[aj (T.new I e)];exact un.free b o e n hx
 ·have:=un.tups b xs e;rw[aj (az this hn)];exact this
 ·have:=un.frzs b o u e;rw[aj (az this hn)];exact this
 ·obtain⟨m,this⟩:=un.tbls b ps e;exact⟨m,by rw[aj (az this hn)];exact this⟩
 ·by_cases hb:b=ea
  ·subst hb;rw[af] at e;cases e;exact E1 ge gc gd dt
  ·rw[aj hb] at e
   exact(T.held b u e).stay (λc v _ r=>r) (λc r=>by rw[aj (az r hn)];exact r) λc xs r=>by rw[aj (az r hn)];exact r
theorem Thr.on {fl':Value}{h2:Heap}{a0:Value}(T:Thr X.prog X.w X.stack H s ea C dx fl B H' s')(f2:Fly B X.stack ea (.ref C) dx a0 fl' h2)(u:s'.heap.UpToSlots h2)(I:Inv X pins σ H s):Thr X.prog X.w X.stack H s ea C dx fl' B H' { s' with heap:=h2 }:=
 ⟨T.os,T.bare,⟨a0,f2⟩,T.hok,T.bas,λb o hb e=>by
  obtain⟨sl,e1⟩:=T.slo b o hb e
  obtain⟨_,o1,ho1,nf⟩:=I.stack.mem hb
  rw[e] at ho1
  cases ho1
  obtain⟨sl2,e2⟩:=u b _ e1 nf
  exact⟨sl2,e2⟩⟩
end
section
variable {X:Cx} {pins:List (Addr×Obj)} {σ:St} {H:Hp} {s:Shared} {M:Model} {A:Around} {E:Value->Shared->Prop}
theorem nL {n:Str}{i:Nat}{pos:Pos}{Q:Unit->Shared->Prop}(I:Inv X pins σ H s)(hN:X.N.Nodup)(hi:X.N[i]?=some n)(hk:X.env.kindOf n=some .local)(h:∀s',Inv X pins (σ.set i none) H s'->Q () s') :
  wpAny M A (do bindName X.env n .none;unbindBehindTheSuite X.env n pos) Q E s:=by
 obtain⟨m,hn,hl⟩:=id I.loc
 have hcls:(X.env.scope.kind == .class || (X.env.scope.kind == .module && X.env.locals != X.env.globals))=false:=by rw[I.ok.kind];rfl
 refine wpAny_nameGoes_keeps hk hn hcls λh' v hn' hs=>h _ ?_
 have low:∀b o,X.s₀.heap.get? b=some o->b≠X.env.locals:=λb o e=>Nat.ne_of_lt (Nat.lt_of_lt_of_le (Heap.lt_size e) I.ok.above)
 refine⟨I.ok,I.os,I.bare,⟨λb o e n hb hx=>(hs.2 b (low b o e)).trans (I.base.keep b o e n hb hx),λb o e n hb hx=>?_,I.base.free,λb o e hx=>?_,I.base.tups,I.base.frzs,I.base.tbls⟩,⟨_,hn',λj y v' e1 e2 e3=>?_⟩,λy c e=>?_,I.free,I.freeC,λp hp=>?_,λb ob e=>?_,by simpa using I.len⟩
 ·obtain⟨sl,e1⟩:=I.base.slot b o e n hb hx
  exact⟨sl,(hs.2 b (low b o e)).trans e1⟩
 ·obtain⟨o',e1⟩:=I.base.there b o e hx
  exact⟨o',(hs.2 b (low b o e)).trans e1⟩
 ·by_cases hj:j=i
  ·subst hj
   rw[List.getElem?_set] at e2
   simp only[if_true] at e2
   split at e2<;>cases e2
  ·rw[List.getElem?_set_ne (Ne.symm hj)] at e2
   obtain⟨u',r',q⟩:=hl j y v' e1 e2 e3
   refine⟨u',r',?_⟩
   rcases q with⟨k,e⟩ | ⟨k,c,e,z⟩
   ·refine .inl ⟨k,?_⟩
    have:y≠n:=λe=>hj (nN hN e1 (e▸hi))
    simp[this,e]
   ·exact .inr ⟨k,c,e,z.sameBut hs (I.cne y c e)⟩
 ·obtain⟨v,z⟩:=I.cell y c e
  exact⟨v,z.sameBut hs (I.cne y c e)⟩
 ·obtain⟨e,n1,ne,nf,d⟩:=I.pin p hp
  exact⟨(hs.2 _ ne).trans e,n1,ne,nf,d⟩
 ·refine(I.hok b ob e).stay (λc w' hc q=>(hs.2 c ?_).trans q) (λ_ q=>q) λ_ _ q=>q
  rintro rfl
  rcases hc with rfl | hc
  ·rw[I.free] at e;cases e
  ·rw[I.free] at hc;cases hc
end
noncomputable abbrev THs:=Addr->Addr->Option Addr->TS
noncomputable def PH (X:Cx)(hs:List ExceptHandler)(th:THs):Prop:=
 ∀(pins:List (Addr×Obj)) (σ:St) (H H':Hp) (D:Ends) (s s':Shared) (ea C:Addr) (dx:Option Addr) (B:Heap),Inv X pins σ H s->Thr X.prog X.w X.stack H s ea C dx .none B H' s'->th C ea dx D σ H'->
  wpAny (model X.prog X.w) X.A (handleBy (.ref ea) X.env hs) (SP X pins D) X.xe s'
noncomputable def Ends.less (D:Ends)(i:Nat):Ends:={ nx:=λσ H=>D.nx (σ.set i none) H,rt:=D.rt,bk:=λσ H=>D.bk (σ.set i none) H,ct:=λσ H=>D.ct (σ.set i none) H }
noncomputable def tAs (K:W.Frag)(Ck:Addr)(i:Nat)(ts:TS)(rest:THs):THs:=λC ea dx D σ H=>
 (W.exmOne K (.ref C) (.ref Ck)=some true/\ts (D.less i) (σ.set i (some (.ref ea))) (upd H ea (xh ea C dx)))\/(W.exmOne K (.ref C) (.ref Ck)=some false/\rest C ea dx D σ H)
noncomputable def tBare (K:W.Frag)(Ck:Addr)(ts:TS)(rest:THs):THs:=λC ea dx D σ H=>
 (W.exmOne K (.ref C) (.ref Ck)=some true/\ts D σ (upd H ea (xh ea C dx)))\/(W.exmOne K (.ref C) (.ref Ck)=some false/\rest C ea dx D σ H)
noncomputable def tNoH:THs:=λ_ _ _ _ _ _=>False
noncomputable def tTry (tb:TS)(tx:TX)(th:THs):TS:=λD σ H=>tb D σ H\/∃E,tx E σ H/\∀C dx H' ea,E (.ref C) dx H'->H' ea=none->th C ea dx D σ H'
section
variable {X:Cx} {x n:Str} {np hpos pos:Pos} {b₀:Stmt} {suite body:List Stmt} {h₀:ExceptHandler} {rest:List ExceptHandler} {Ck:Addr} {i:Nat} {ts tb:TS} {tx:TX} {tr:THs}
theorem An:PH X [] tNoH:=λ_ _ _ _ _ _ _ _ _ _ _ _ _ h=>h.elim
theorem Thr.looks {M:Model}{P:Program}{w:World}{l:List Env}{H H':Hp}{s s':Shared}{ea C:Addr}{dx:Option Addr}{fl:Value}{B:Heap}(T:Thr P w l H s ea C dx fl B H' s'):W.Looks M s'.heap (typeOf (.ref ea)) (.ref C):=by
 obtain⟨a0,f⟩:=T.fly
 obtain⟨oe,vs,_,_,_,ge,gc,_⟩:=f.tale
 exact gc▸(W.Looks.ld ge).andThen .now
theorem CU (hg:Gl X x)(hm:X.mg x=some (.ref Ck))(hN:X.N.Nodup)(hi:X.N[i]?=some n)(hk:X.env.kindOf n=some .local)(hs:∀ea,PSs (X.han ea).nox (b₀::suite) ts)(hr:PH X rest tr)(hdb:autoParam ((x == ("__debug__":Str))=false) L2.dft1._auto_1) :
  PH X (.ExceptHandler (some (.Name x np)) (some n) (b₀::suite) hpos::rest) (tAs X.K Ck i ts tr):=by
 intro pins σ H H' D s s' ea C dx B I T h
 have I1:=T.inv I
 refine wpAny_handleBy_cons (codeAny_handlers_test (jo (X:=X.han ea) (I1.han ea) hg hm ?_ hdb)) (by intro q;cases q)
 rcases h with⟨hx,h⟩ | ⟨hx,h⟩
 ·refine W.Looks.here (W.exm_one I1.kIn T.looks hx) ?_
  refine codeAny_handlers_suite_as ?_
  obtain⟨a0,f⟩:=T.fly
  refine fw f λh2 f2 u2=>?_
  have I2:=((T.on f2 u2 I).seen I).han ea
  refine kG (X:=X.han ea) (i:=i) (v:=.ref ea) I2 hN hi (.inl hk) rfl (λs3 I3=>?_) (.inr hk)
  refine wpAny_mono (hs ea pins s3 _ _ _ (I3.wish _) h) (λfl s4 q=>?_) (λ_ _ z=>z.elim)
  cases fl with
  | next=>obtain⟨σ4,H4,I4,q⟩:=q;exact nL (X:=X) (I4.unwish.unhan I.ok) hN hi hk λs5 I5=>⟨_,_,I5,q⟩
  | brk=>obtain⟨σ4,H4,I4,q⟩:=q;exact nL (X:=X) (I4.unwish.unhan I.ok) hN hi hk λs5 I5=>⟨_,_,I5,q⟩
  | cont=>obtain⟨σ4,H4,I4,q⟩:=q;exact nL (X:=X) (I4.unwish.unhan I.ok) hN hi hk λs5 I5=>⟨_,_,I5,q⟩
  | ret u=>obtain⟨v,σ4,H4,I4,r,q⟩:=q;exact nL (X:=X) (I4.unwish.unhan I.ok) hN hi hk λs5 I5=>⟨v,_,_,I5,r,q⟩
 ·refine W.Looks.here (W.exm_one I1.kIn T.looks hx) ?_
  exact hr pins σ H H' D s s' ea C dx B I T h
theorem Ao (hb:PSs X.nox body tb)(hx:PSsx X body tx)(hh:PH X (h₀::rest) tr)(hk:autoParam (X.stack=X.env::X.outer) L2.dft3._auto_1)(hf:autoParam (X.env.frame=some X.env.locals) L2.dft3._auto_1):PS X (.Try body (h₀::rest) [] [] pos) (tTry tb tx tr):=by
 intro pins s σ H D I h
 refine wpAny_Try_except ?_
 rcases h with h | ⟨E,h,q⟩
 ·refine wpAny_mono (hb pins s σ H D (I.wish _) h) (λf s1 z=>?_) (λ_ _ z=>z.elim)
  cases f with
  | next=>exact wpAny_execs_nil z.unwish
  | brk=>exact z.unwish
  | cont=>exact z.unwish
  | ret u=>exact z.unwish
 ·refine wpAny_mono (hx pins s σ H E I h) (λ_ _ z=>z.elim) ?_
  rintro e s1 ⟨s0,H0,ea,C,dx,B,H',rfl,I0,T,qE⟩
  obtain⟨a0,f⟩:=T.fly
  rw[hk] at f
  refine qj (by rw[I0.ok.frames,hk]) hf f λh1 f1 u1=>?_
  rw[<-hk] at f1
  have T1:=T.on f1 u1 I0
  refine fw f1 λh2 f2 u2=>?_
  have T2:=T1.on f2 u2 I0
  exact hh pins σ H0 H' D s0 _ ea C dx B I0 T2 (q C dx H' ea qE T2.none)
end
theorem PS.nox {X:Cx}{st:Stmt}{t:TS}(h:PS X.nox st t):PS X st t:=λpins s σ H D I hw=>
 wpAny_mono (h pins s σ H D (I.wish _) hw) (λ_ _ q=>q.unwish) λ_ _ z=>False.elim z
noncomputable def Bears (E:XK)(H:Hp)(C:Addr)(fs:List (Str×V)):Prop:=∀d H',H d=none->Same H H'->H' d=some (xdo d fs)->E (.ref C) (some d) H'
end L2
namespace L2
open PySem PySem.Spec PyProof.Rows Builtin Builtin.ObjectAttr
section
variable {prog:Program} {w:World} {A:Around} {E:Value->Shared->Prop} {s:Shared} {K:W.Frag} {x C:Addr} {v:Value}
end
end L2
namespace L2
open PySem PySem.Spec PyProof.Rows PySem.Calls
section
variable {M:Model} {A:Around} {E:Value->Shared->Prop} {h:Heap} {g:Array GenState} {d:Drawn} {t:Nat} {os:OsState}
variable {nm qn:Str} {C N:Addr} {bs bm:List Value} {hdct:Bool} {sn:List Str} {sub:List Value} {ab:Bool} {col:Option Bool} {dd:Option Addr} {k0 k1 k2 k3 k5:Option Value}
end
section
variable {prog:Program} {w:World} {A:Around} {h:Heap} {g:Array GenState} {d:Drawn} {t:Nat} {os:OsState} {C:Addr}
end
noncomputable def tRaise0 (C:Addr)(E:XK):TS:=λ_ _ H=>E (.ref C) none H
section
variable {X:Cx} {k:Nat} {C:Addr} {E:XK} {x:Str} {np cpos pos:Pos}
end
end L2
namespace L2
open PySem PySem.Spec PyProof.Rows Builtin Builtin.ObjectAttr
section
variable {prog:Program} {w:World} {A:Around} {E:Value->Shared->Prop} {s:Shared} {K:W.Frag} {x C:Addr} {v:Value}
end
noncomputable def XD (H:Hp)(dx:Option Addr)(fs:List (Str×V)):Prop:=(dx=none/\fs=[])\/∃d,dx=some d/\H d=some (xdo d fs)
noncomputable def XB (E:XK)(H:Hp)(C:Addr)(fs:List (Str×V)):Prop:=∀dx H',Same H H'->XD H' dx fs->(∀d,dx=some d->H d=none)->E (.ref C) dx H'
noncomputable def XG (H:Hp)(C:Addr)(fs:List (Str×V)):XK:=λc dx H'=>c=.ref C/\Same H H'/\XD H' dx fs/\∀d,dx=some d->H d=none
theorem Ap {H:Hp}{C:Addr}{fs:List (Str×V)}:XB (XG H C fs) H C fs:=λ_ _ s d n=>⟨rfl,s,d,n⟩
theorem XB.bears {E:XK}{H:Hp}{C:Addr}{fs:List (Str×V)}(h:XB E H C fs):Bears E H C fs:=λd H' hd s e=>h (some d) H' s (.inr ⟨d,rfl,e⟩) λd' z=>by cases z;exact hd
theorem XB.back {E:XK}{H H1:Hp}{C:Addr}{fs:List (Str×V)}(h:XB E H C fs)(s:Same H H1):XB E H1 C fs:=λdx H' s' d n=>h dx H' (s.trans s') d λd' z=>aY s (n d' z)
section
variable {X:Cx} {e:Expr} {pos:Pos} {rest:List Stmt} {st:Stmt}
end
section
variable {P:Program} {w:World} {K:W.Frag} {mg:Str->Option Value} {base:Heap}
end
section
variable {X:Cx} {ea:Addr} {k:Nat} {f:Addr} {fd:FuncData} {ps:List Str} {sp:Sp} {ds:List Value} {dvs:List V} {x:Str} {p pos:Pos} {e:Expr} {es:List Expr} {t:TA}
end
end L2
namespace L2
theorem df (a b:Nat):a ^^^ b=2 * ((a / 2) ^^^ (b / 2))+(if a % 2≠b % 2 then 1 else 0):=by
 have h1:(a ^^^ b) / 2=(a / 2) ^^^ (b / 2):=Nat.xor_div_two
 have h2:(a ^^^ b) % 2=(if a % 2≠b % 2 then 1 else 0):=by
  have:=@Nat.xor_mod_two_eq_one a b
  by_cases h:a % 2≠b % 2
  ·rw[if_pos h];rw[this];omega
  ·rw[if_neg h]
   have h3:¬((a ^^^ b) % 2=1):=by rw[this];omega
   omega
 omega
theorem tj (a b:Nat):a &&& b=2 * ((a / 2) &&& (b / 2))+(if a % 2=1/\b % 2=1 then 1 else 0):=by
 have h1:(a &&& b) / 2=(a / 2) &&& (b / 2):=Nat.and_div_two
 have h2:(a &&& b) % 2=(if a % 2=1/\b % 2=1 then 1 else 0):=by
  have:=@Nat.and_mod_two_eq_one a b
  by_cases h:a % 2=1/\b % 2=1
  ·rw[if_pos h];exact this.mpr h
  ·rw[if_neg h]
   have h3:¬((a &&& b) % 2=1):=λz=>h (this.mp z)
   omega
 omega
theorem BZ {X Y A B p q e f:Nat}(h:X+2 * Y=A+B)(h2:e+2 * f=p+q):2 * X+e+2 * (2 * Y+f)=2 * A+p+(2 * B+q):=by omega
theorem B0 (a:Nat):∀b:Nat,(a ^^^ b)+2 * (a &&& b)=a+b:=by
 induction a using Nat.strongRecOn with
 | ind a ih=>
  intro b
  by_cases h:a=0
  ·subst h;simp
  ·rw[df a b,tj a b]
   refine(BZ (p:=a % 2) (q:=b % 2) (ih (a / 2) (Nat.div_lt_self (Nat.pos_of_ne_zero h) (by decide)) (b / 2)) ?_).trans (by rw[Nat.div_add_mod,Nat.div_add_mod])
   rcases Nat.mod_two_eq_zero_or_one a with h1 | h1<;>rcases Nat.mod_two_eq_zero_or_one b with h2 | h2<;>rw[h1,h2]<;>rfl
theorem oh (a b:Nat):PySem.Builtin.bitAnd (a:Int) (b:Int)=((a &&& b:Nat):Int):=by
 unfold PySem.Builtin.bitAnd
 have h1:decide (0<=(a:Int))=true:=by simp
 have h2:decide (0<=(b:Int))=true:=by simp
 rw[h1,h2]
 rfl
theorem oi (a b:Nat):PySem.Builtin.bitXor (a:Int) (b:Int)=((a ^^^ b:Nat):Int):=by
 have q:=B0 a b
 rw[PyProof.Rows.bitXor_and,oh]
 omega
noncomputable def rot (n:Nat):Nat:=2 * (n % 32768)+n / 32768
theorem D7 {n:Nat}(h:n < 65536):rot n < 65536:=by unfold rot;omega
theorem Aq {a b:Nat}(ha:a < 65536)(hb:b < 65536):a ^^^ b < 65536:=Nat.xor_lt_two_pow (n:=16) ha hb
noncomputable def sumF (h:Nat)(cs:List Nat):Nat:=cs.foldl (λh c=>rot h ^^^ c) h
theorem wJ {cs:List Nat}(hc:∀c∈cs,c < 65536):∀{h:Nat},h < 65536->sumF h cs < 65536:=by
 induction cs with
 | nil=>intro h hh;exact hh
 | cons c r ih=>intro h hh;exact ih (λx hx=>hc x (List.mem_cons_of_mem _ hx)) (Aq (D7 hh) (hc c List.mem_cons_self))
theorem Ar {n c:Nat}(hn:n < 65536):PySem.Builtin.bitXor (PySem.Builtin.bitOr (PySem.Builtin.bitAnd ((n:Int) * 2) 65535) ((n:Int) / 32768)) (c:Int)=((rot n ^^^ c:Nat):Int):=by
 have e1:(n:Int) * 2 % 65536=((2 * (n % 32768):Nat):Int):=by omega
 have e2:(n:Int) / 32768=((n / 32768:Nat):Int):=by omega
 rw[PyProof.Rows.bitAnd_m16,e1,e2,PyProof.Rows.bitOr_and,oh,tj]
 have h1:n / 32768 / 2=0:=by omega
 rw[h1,Nat.and_zero,if_neg (by omega)]
 rw[<-oi]
 unfold rot
 congr 1
theorem x3 {l:List Nat}{i c:Nat}(h:l[i]?=some c):sumF 0 (l.take (i+1))=rot (sumF 0 (l.take i)) ^^^ c:=by
 rw[List.take_add_one,h]
 simp[sumF,List.foldl_append]
end L2
namespace K02
noncomputable def laid (a b:Int):Int:=([1,2,4,8,16,32,64,128]:List Int).foldl (λf w=>if a / w % 2≠b / w % 2 then f+w else f) 0
theorem dm2 (a w:Nat):(a:Int) / (w:Int) % 2=((a / w % 2:Nat):Int):=by
 rw[Int.natCast_emod,Int.natCast_ediv];rfl
theorem dmn (a b w:Nat):((a:Int) / (w:Int) % 2≠(b:Int) / (w:Int) % 2)↔(a / w % 2≠b / w % 2):=by
 rw[dm2,dm2]
 exact not_congr Int.ofNat_inj
theorem div8 (a:Nat)(h:a < 256):a / 2 / 2 / 2 / 2 / 2 / 2 / 2 / 2=0:=by
 simp only[Nat.div_div_eq_div_mul]
 exact Nat.div_eq_of_lt h
theorem As (a b:Nat)(ha:a < 256)(hb:b < 256):laid a b=((a ^^^ b:Nat):Int):=by
 rw[L2.df a b,L2.df (a / 2) (b / 2),L2.df (a / 2 / 2) (b / 2 / 2),L2.df (a / 2 / 2 / 2) (b / 2 / 2 / 2),L2.df (a / 2 / 2 / 2 / 2) (b / 2 / 2 / 2 / 2),L2.df (a / 2 / 2 / 2 / 2 / 2) (b / 2 / 2 / 2 / 2 / 2),
  L2.df (a / 2 / 2 / 2 / 2 / 2 / 2) (b / 2 / 2 / 2 / 2 / 2 / 2),L2.df (a / 2 / 2 / 2 / 2 / 2 / 2 / 2) (b / 2 / 2 / 2 / 2 / 2 / 2 / 2)]
 rw[div8 a ha,div8 b hb,Nat.xor_zero]
 simp only[laid,List.foldl]
 simp only[Nat.div_div_eq_div_mul]
 have c1:((a:Int) / 1 % 2≠(b:Int) / 1 % 2)↔(a % 2≠b % 2):=by have h:=dmn a b 1;rwa [Nat.div_one,Nat.div_one] at h
 have c2:((a:Int) / 2 % 2≠(b:Int) / 2 % 2)↔(a / 2 % 2≠b / 2 % 2):=dmn a b 2
 have c3:((a:Int) / 4 % 2≠(b:Int) / 4 % 2)↔(a / (2 * 2) % 2≠b / (2 * 2) % 2):=dmn a b 4
 have c4:((a:Int) / 8 % 2≠(b:Int) / 8 % 2)↔(a / (2 * 2 * 2) % 2≠b / (2 * 2 * 2) % 2):=dmn a b 8
 have c5:((a:Int) / 16 % 2≠(b:Int) / 16 % 2)↔(a / (2 * 2 * 2 * 2) % 2≠b / (2 * 2 * 2 * 2) % 2):=dmn a b 16
 have c6:((a:Int) / 32 % 2≠(b:Int) / 32 % 2)↔(a / (2 * 2 * 2 * 2 * 2) % 2≠b / (2 * 2 * 2 * 2 * 2) % 2):=dmn a b 32
 have c7:((a:Int) / 64 % 2≠(b:Int) / 64 % 2)↔(a / (2 * 2 * 2 * 2 * 2 * 2) % 2≠b / (2 * 2 * 2 * 2 * 2 * 2) % 2):=dmn a b 64
 have c8:((a:Int) / 128 % 2≠(b:Int) / 128 % 2)↔(a / (2 * 2 * 2 * 2 * 2 * 2 * 2) % 2≠b / (2 * 2 * 2 * 2 * 2 * 2 * 2) % 2):=dmn a b 128
 have st:∀(c:Prop) [Decidable c] (f w:Int),(if c then f+w else f)=f+w * ((if c then 1 else 0:Nat):Int):=λc _ f w=>by split<;>simp
 simp only[c1,c2,c3,c4,c5,c6,c7,c8,st]
 generalize (if a % 2≠b % 2 then 1 else 0:Nat)=t1
 generalize (if a / 2 % 2≠b / 2 % 2 then 1 else 0:Nat)=t2
 generalize (if a / (2 * 2) % 2≠b / (2 * 2) % 2 then 1 else 0:Nat)=t3
 generalize (if a / (2 * 2 * 2) % 2≠b / (2 * 2 * 2) % 2 then 1 else 0:Nat)=t4
 generalize (if a / (2 * 2 * 2 * 2) % 2≠b / (2 * 2 * 2 * 2) % 2 then 1 else 0:Nat)=t5
 generalize (if a / (2 * 2 * 2 * 2 * 2) % 2≠b / (2 * 2 * 2 * 2 * 2) % 2 then 1 else 0:Nat)=t6
 generalize (if a / (2 * 2 * 2 * 2 * 2 * 2) % 2≠b / (2 * 2 * 2 * 2 * 2 * 2) % 2 then 1 else 0:Nat)=t7
 generalize (if a / (2 * 2 * 2 * 2 * 2 * 2 * 2) % 2≠b / (2 * 2 * 2 * 2 * 2 * 2 * 2) % 2 then 1 else 0:Nat)=t8
 omega
theorem x4 (n:Nat)(h:n < 65536):n ^^^ (n / 256)=256 * (n / 256)+((n % 256) ^^^ (n / 256)):=by
 have h1:n / 256 < 256:=by omega
 have h2:(n % 256) ^^^ (n / 256) < 256:=Nat.xor_lt_two_pow (n:=8) (by omega) (by omega)
 apply Nat.eq_of_testBit_eq
 intro i
 rw[Nat.testBit_xor]
 have e:256 * (n / 256)+((n % 256) ^^^ (n / 256))=2 ^ 8 * (n / 256)+((n % 256) ^^^ (n / 256)):=rfl
 rw[e,Nat.testBit_two_pow_mul_add (n / 256) (by simpa using h2) i]
 by_cases hi:i < 8
 ·rw[if_pos hi,Nat.testBit_xor]
  have e2:n % 256=n % 2 ^ 8:=rfl
  rw[e2,Nat.testBit_mod_two_pow]
  simp[hi]
 ·rw[if_neg hi]
  have e3:(n / 256).testBit i=false:=Nat.testBit_lt_two_pow (Nat.lt_of_lt_of_le h1 ((show 256<=2 ^ i from Nat.pow_le_pow_right (n:=2) (i:=8) (j:=i) (by omega) (by omega))))
  rw[e3,Bool.xor_false]
  have e4:n / 256=n >>> 8:=by rw[Nat.shiftRight_eq_div_pow]
  rw[e4,Nat.testBit_shiftRight]
  congr 1
  omega
noncomputable def foldH (cs:List Nat):Int:=cs.foldl (λ(h:Int) (c:Nat)=>PySem.Builtin.bitAnd (h * 37+(c:Int)) 65535) 1
noncomputable def spreadN (cs:List Nat):Int:=PySem.Builtin.bitXor (foldH cs) (foldH cs / 2 ^ (8:Int).toNat)
noncomputable def foldN (cs:List Nat):Int:=cs.foldl (λ(h:Int) (c:Nat)=>(37 * h+(c:Int)) % 65536) 1
noncomputable def lspreadN (cs:List Nat):Int:=256 * (foldN cs / 256)+laid (foldN cs % 256) (foldN cs / 256)
theorem Au (cs:List Nat):foldH cs=foldN cs:=by
 have e:(λ(h:Int) (c:Nat)=>PySem.Builtin.bitAnd (h * 37+(c:Int)) 65535)=λ(h:Int) (c:Nat)=>(37 * h+(c:Int)) % 65536:=by
  funext h c
  rw[PyProof.Rows.bitAnd_m16,Int.mul_comm]
 unfold foldH foldN
 rw[e]
theorem Av (cs:List Nat):0<=foldN cs/\foldN cs < 65536:=by
 have key:∀(cs:List Nat) (z:Int),0<=z->z < 65536->0<=cs.foldl (λ(h:Int) (c:Nat)=>(37 * h+(c:Int)) % 65536) z/\cs.foldl (λ(h:Int) (c:Nat)=>(37 * h+(c:Int)) % 65536) z < 65536:=by
  intro cs
  induction cs with
  | nil=>intro z h1 h2;exact⟨h1,h2⟩
  | cons x r ih=>intro z h1 h2;exact ih _ (by dsimp only;omega) (by dsimp only;omega)
 exact key cs 1 (by omega) (by omega)
theorem x5 (cs:List Nat):spreadN cs=lspreadN cs:=by
 unfold spreadN lspreadN
 rw[Au]
 obtain⟨h1,h2⟩:=Av cs
 generalize foldN cs=z at h1 h2
 obtain⟨n,rfl⟩:∃n:Nat,z=(n:Int):=⟨z.toNat,by omega⟩
 have hn:n < 65536:=by omega
 have e1:(n:Int) / 2 ^ (8:Int).toNat=((n / 256:Nat):Int):=by
  show(n:Int) / 256=_
  omega
 have e2:(n:Int) % 256=((n % 256:Nat):Int):=by omega
 have e3:(n:Int) / 256=((n / 256:Nat):Int):=by omega
 rw[e1,L2.oi,x4 n hn,e2,e3,As _ _ (by omega) (by omega)]
 omega
end K02
namespace L2
open PySem PySem.Spec PyProof.Rows
theorem cut1 {t1 tR:TS}{D:Ends}{σ:L2.St}{H:Hp}(h:∀R,R=tR->tSeq t1 R D σ H):tSeq t1 tR D σ H:=h _ rfl
theorem cut2 {t1 t2 tR:TS}{D:Ends}{σ:L2.St}{H:Hp}(h:∀R,R=tR->tSeq t1 (tSeq t2 R) D σ H):tSeq t1 (tSeq t2 tR) D σ H:=h _ rfl
theorem cut3 {t1 t2 t3 tR:TS}{D:Ends}{σ:L2.St}{H:Hp}(h:∀R,R=tR->tSeq t1 (tSeq t2 (tSeq t3 R)) D σ H):tSeq t1 (tSeq t2 (tSeq t3 tR)) D σ H:=h _ rfl
theorem el1 {α:Type}{p:List α->Prop}(h:∀a,p [a]):∀us:List α,us.length=1->p us
 | [a],_=>h a
theorem el2 {α:Type}{p:List α->Prop}(h:∀a b,p [a,b]):∀us:List α,us.length=2->p us
 | [a,b],_=>h a b
theorem el3 {α:Type}{p:List α->Prop}(h:∀a b c,p [a,b,c]):∀us:List α,us.length=3->p us
 | [a,b,c],_=>h a b c
theorem el4 {α:Type}{p:List α->Prop}(h:∀a b c d,p [a,b,c,d]):∀us:List α,us.length=4->p us
 | [a,b,c,d],_=>h a b c d
theorem el5 {α:Type}{p:List α->Prop}(h:∀a b c d e,p [a,b,c,d,e]):∀us:List α,us.length=5->p us
 | [a,b,c,d,e],_=>h a b c d e
theorem el6 {α:Type}{p:List α->Prop}(h:∀a b c d e f,p [a,b,c,d,e,f]):∀us:List α,us.length=6->p us
 | [a,b,c,d,e,f],_=>h a b c d e f
theorem el7 {α:Type}{p:List α->Prop}(h:∀a b c d e f g,p [a,b,c,d,e,f,g]):∀us:List α,us.length=7->p us
 | [a,b,c,d,e,f,g],_=>h a b c d e f g
noncomputable def Aw:Sp:=λvs H Q _=>∃(A B p:Addr),vs=[.ref A,.ref B,.ref p]/\H p=some (.lst [])/\Q .non H
noncomputable def tm (K:W.Frag):Sp:=λvs H Q _=>∃(q B p:Addr) (e0:List Int),vs=[.ref q,.ref B,.ref p]/\SqL K H q (e0.map V.int)/\H B=some (.lst [])/\H p=some (.lst [])/\∀A H',H A=none->Same H H'->H' A=some (.lst (e0.map V.int))->Q (.ref A) H'
noncomputable def u6 (K:W.Frag):Sp:=λvs H Q _=>∃(q p:Addr) (e0:List Int),vs=[.ref q,.ref p]/\SqL K H q (e0.map V.int)/\H p=some (.lst [])/\∀A H',H A=none->Same H H'->H' A=some (.lst (e0.map V.int))->Q (.ref A) H'
theorem n1 {x y:Addr}(h:x≠y):x∉[y]:=λm=>h (List.mem_singleton.mp m)
theorem n2 {x y z:Addr}(h:x≠y/\x≠z):x∉[y,z]:=λm=>(List.mem_cons.mp m).elim h.1 λm=>h.2 (List.mem_singleton.mp m)
noncomputable def rTupOf (K:W.Frag):List V->Hp->VK->Prop:=λxs H Q=>∃p ys,xs=[.ref p]/\((SqL K H p ys/\∀l,H l=none->Q (.ref l) (upd H l (.tup ys)))\/(SqT K H p ys/\Q (.ref p) H))
noncomputable abbrev kTab:Str:=Str.ofString "table"
noncomputable abbrev kStr:Str:=Str.ofString "stream"
noncomputable def kindV:V->Bool
 | .str z=>decide (z=kTab) || decide (z=kStr)
 | _=>false
inductive KThg (H:Hp):V->Prop
 | non:KThg H .non
 | bl (b:Bool):KThg H (.bl b)
 | int (i:Int):KThg H (.int i)
 | str (z:Str):KThg H (.str z)
 | lst {p:Addr} {xs:List V} (h:H p=some (.lst xs)):KThg H (.ref p)
inductive IsShB (H:Hp):V->Bool->Prop
 | good {t:Addr} {x:Shf}:H t=some (.tup x.v)->okShf x->IsShB H (.ref t) true
theorem Thg.same {H H':Hp}{v:V}(h:Thg H v)(s:Same H H'):Thg H' v:=by
 cases h with
 | non=>exact .non
 | bl b=>exact .bl b
 | int i=>exact .int i
 | str l h=>exact .str l h
 | lst h=>exact .lst (s _ _ h)
 | tup h=>exact .tup (s _ _ h)
theorem KThg.same {H H':Hp}{v:V}(h:KThg H v)(s:Same H H'):KThg H' v:=by
 cases h with
 | non=>exact .non
 | bl b=>exact .bl b
 | int i=>exact .int i
 | str z=>exact .str z
 | lst h=>exact .lst (s _ _ h)
inductive AreB (H:Hp):V->Bool->Prop
 | good {p:Addr} {xs:List Shf}:LTups H p (xs.map Shf.v)->OkShfs xs->AreB H (.ref p) true
noncomputable def tq:Sp:=λvs H Q _=>∃v,vs=[v]/\KThg H v/\Q (.bl (kindV v)) H
noncomputable def kT:Sp:=λvs H Q _=>∃v b,vs=[v]/\IsShB H v b/\∀H',Same H H'->Q (.bl b) H'
noncomputable def ng:Sp:=λvs H Q _=>∃v b,vs=[v]/\AreB H v b/\∀H',Same H H'->Q (.bl b) H'
noncomputable def tu (C CB:Addr):Sp:=λvs H Q E=>∃(x dx:Addr) (v:V),vs=[.ref x,v]/\H x=some (.ins C dx [])/\
 ((∃(p:Addr) (xs:List Shf),v=.ref p/\LTups H p (xs.map Shf.v)/\OkShfs xs/\∀l H',H l=none->Chg [x] H H'->ShAt C H' x l xs->Q .non H')\/(AreB H v false/\XB E H CB []))
noncomputable def u7 (C:Addr):Sp:=λvs H Q _=>∃(s l:Addr) (xs:List Shf),vs=[.ref s]/\ShAt C H s l xs/\∀D H',H D=none->Same H H'->LTups H' D (xs.map Shf.v)->Q (.ref D) H'
noncomputable def oj (C CN:Addr):Sp:=λvs H Q E=>∃(s l:Addr) (xs:List Shf) (nm:List Nat),vs=[.ref s,.str (S nm)]/\ShAt C H s l xs/\OkShfs xs/\
 ((∃k x,xs[k]?=some x/\x.name=nm/\∀D H',H D=none->Same H H'->H' D=some (.lst (rngV (startOf xs k) x.rows))->Q (.ref D) H')\/((∀x∈xs,x.name≠nm)/\XB E H CN [("name",.str (S nm))]))
noncomputable def om (C CN:Addr):Sp:=λvs H Q E=>∃(s l:Addr) (xs:List Shf) (nm key:List Nat),vs=[.ref s,.str (S nm),.str (S key)]/\ShAt C H s l xs/\OkShfs xs/\
 ((∃k x,xs[k]?=some x/\x.name=nm/\∀H',Same H H'->Q (.int (rowNo xs k x key)) H')\/((∀x∈xs,x.name≠nm)/\XB E H CN [("name",.str (S nm))]))
noncomputable def u9 (C CN:Addr):Sp:=λvs H Q E=>∃(s l:Addr) (xs:List Shf) (r:Int),vs=[.ref s,.int r]/\ShAt C H s l xs/\OkShfs xs/\
 ((∃k x,xs[k]?=some x/\(startOf xs k:Int)<=r/\r < startOf xs (k+1)/\∀t,H t=some (.tup x.v)->Q (.ref t) H)\/((r < 0\/(startOf xs xs.length:Int)<=r)/\XB E H CN [("name",.int r)]))
noncomputable def Ax (i:Nat)(C CN:Addr):Sp:=λvs H Q E=>∃(s l:Addr) (xs:List Shf) (r:Int),vs=[.ref s,.int r]/\ShAt C H s l xs/\OkShfs xs/\
 ((∃k x,xs[k]?=some x/\(startOf xs k:Int)<=r/\r < startOf xs (k+1)/\Q (it i x.v) H)\/((r < 0\/(startOf xs xs.length:Int)<=r)/\XB E H CN [("name",.int r)]))
noncomputable def sz5 (c:Int):Nat:=(1+mixN c 61 % 12).toNat
noncomputable def at5 (c:Int):Nat:=(mixN c 62 % (1+mixN c 61 % 12)).toNat
noncomputable def nb5 (c:Int):List Nat:=(List.range (sz5 c)).map λ(k:Nat)=>ltr36 (mixN c (70+(0+(k:Int))))
noncomputable def nm5 (c:Int)(k:Nat):List Nat:=(nb5 c).set (at5 c) (ltr36 (mixN c 63 % 36+(0+(k:Int))))
noncomputable def names5 (c:Int)(m:Nat):List (List Nat):=(List.range m).map (nm5 c)
theorem D8 (c:Int):at5 c < sz5 c:=by
 unfold at5 sz5
 have h1:=Int.emod_nonneg (mixN c 62) (show 1+mixN c 61 % 12≠0 by omega)
 have h2:=Int.emod_lt_of_pos (mixN c 62) (show 0 < 1+mixN c 61 % 12 by omega)
 omega
theorem Ay (c:Int)(k:Nat):1<=(nm5 c k).length/\(nm5 c k).length<=12/\(nm5 c k).all inN=true:=by
 have hl:(nm5 c k).length=sz5 c:=by unfold nm5 nb5;rw[List.length_set,List.length_map,List.length_range]
 have hs:1<=sz5 c/\sz5 c<=12:=by unfold sz5;omega
 refine⟨by omega,by omega,List.all_eq_true.mpr λx hx=>?_⟩
 rcases List.mem_or_eq_of_mem_set hx with hx | rfl
 ·obtain⟨k,_,rfl⟩:=List.mem_map.mp hx
  exact n9 _
 ·exact n9 _
theorem jy {c:Int}{k j:Nat}(hk:k < 36)(hj:j < 36)(h:nm5 c k=nm5 c j):k=j:=by
 have e:=congrArg (λl=>l[at5 c]?) h
 have hl:(nb5 c).length=sz5 c:=by unfold nb5;rw[List.length_map,List.length_range]
 have:=D8 c
 unfold nm5 at e
 simp only[List.getElem?_set,if_true,hl,this] at e
 have:=xX (Option.some.inj e)
 omega
theorem x8 (c:Int){m:Nat}(h:m<=36):(names5 c m).Nodup:=by
 unfold names5
 rw[List.Nodup,List.pairwise_map]
 refine List.pairwise_iff_getElem.mpr λi j hi hj hij z=>?_
 rw[List.getElem_range,List.getElem_range] at z
 rw[List.length_range] at hi hj
 have:=jy (by omega) (by omega) z
 omega
noncomputable def x9:Sp:=λvs H Q _=>∃(c:Int) (m:Nat),vs=[.int c,.int m]/\1<=m/\m<=36/\∀D H',H D=none->Same H H'->H' D=some (.lst ((names5 c m).map λl=>.str (S l)))->Q (.ref D) H'
noncomputable def laidOn (x y:Int)(ws:List Int):Int:=ws.foldl (λf w=>if x / w % 2≠y / w % 2 then f+w else f) 0
theorem tw (x y:Int){ws:List Int}{i:Nat}{u:Int}(h:ws[i]?=some u):laidOn x y (ws.take (i+1))=if x / u % 2≠y / u % 2 then laidOn x y (ws.take i)+u else laidOn x y (ws.take i):=by
 rw[List.take_add_one,h]
 simp[laidOn,List.foldl_append]
noncomputable def B1:Sp:=λvs H Q _=>∃x y:Int,vs=[.int x,.int y]/\∀H',Same H H'->Q (.int (K02.laid x y)) H'
theorem va {l:List Nat}{i c:Nat}(h:(S l).cps[i]?=some c):K02.foldN (l.take (i+1))=(37 * K02.foldN (l.take i)+(c:Int)) % 65536:=by
 have h':l[i]?=some c:=by simpa using h
 rw[List.take_add_one,h']
 simp[K02.foldN,List.foldl_append]
noncomputable def vc:Sp:=λvs H Q _=>∃l:List Nat,vs=[.str (S l)]/\∀H',Same H H'->Q (.int (K02.lspreadN l)) H'
theorem D9 (l:List Nat):sprN l=K02.lspreadN l:=K02.x5 l
theorem qk {H3 H4:Hp}{p t:Addr}{ts:List Addr}{rows:List (List V)}{r:List V}(c:Chg [p] H3 H4)(hp:H4 p=some (.lst (ts.map V.ref)))(ht:TupsAt H4 ts rows)(hn:H4 t=none) :
  upd H4 t (.tup r) p=some (.lst (ts.map V.ref))/\Chg [p] H3 (upd (upd H4 t (.tup r)) p (.lst (ts.map V.ref++[V.ref t])))/\∃ts',upd (upd H4 t (.tup r)) p (.lst (ts.map V.ref++[V.ref t])) p=some (.lst (ts'.map V.ref))/\TupsAt (upd (upd H4 t (.tup r)) p (.lst (ts.map V.ref++[V.ref t]))) ts' (rows++[r]):=by
 have s1:Same H4 (upd H4 t (.tup r)):=Same.upd hn
 have p1:=s1 _ _ hp
 have c1:Chg [p] (upd H4 t (.tup r)) (upd (upd H4 t (.tup r)) p (.lst (ts.map V.ref++[V.ref t]))):=Chg.upd (by simp) (jw p1)
 refine⟨p1,c.trans ((Chg.of_same s1).trans c1),ts++[t],?_,((ht.chg (Chg.of_same (A:=[]) s1)).chg c1).snoc (c1.tup _ _ af)⟩
 rw[List.map_append]
 exact af
theorem vd (c:Int)(m i:Nat)(h:i < m):(names5 c m)[i]?=some (nm5 c i):=by
 unfold names5
 rw[List.getElem?_map,List.getElem?_range h]
 rfl
noncomputable def splitL (c:Nat):List Nat->List (List Nat)
 | []=>[[]]
 | x::r=>if x=c then[]::splitL c r else match splitL c r with
  | []=>[[x]]
  | p::ps=>(x::p)::ps
theorem mS {c:Nat}:∀{p:List Nat},c∉p->splitL c p=[p]
 | [],_=>rfl
 | x::r,h=>by
  rw[List.mem_cons,not_or] at h
  rw[splitL,if_neg (Ne.symm h.1),mS h.2]
theorem oo {c:Nat}{r:List Nat}:∀{p:List Nat},c∉p->splitL c (p++c::r)=p::splitL c r
 | [],_=>by rw[List.nil_append,splitL,if_pos rfl]
 | x::p,h=>by
  rw[List.mem_cons,not_or] at h
  rw[List.cons_append,splitL,if_neg (Ne.symm h.1),oo h.2]
theorem mT {c:Nat}:∀{ps:List (List Nat)},ps≠[]->(∀p∈ps,c∉p)->splitL c (joinL [c] ps)=ps
 | [],h,_=>absurd rfl h
 | [p],_,h=>by rw[joinL];exact mS (h p (by simp))
 | p::q::r,_,h=>by
  show splitL c (p++[c]++joinL [c] (q::r))=_
  rw[List.append_assoc]
  show splitL c (p++c::joinL [c] (q::r))=_
  rw[oo (h p (by simp)),mT (by simp) λz hz=>h z (List.mem_cons_of_mem _ hz)]
theorem B5 (c:Nat)(a:List Nat):Txt.split (S a) (S [c])=(splitL c a).map S:=by
 have e1:=StrLaws.join_split (S a) (S [c])
 have e2:=StrLaws.split_free (S a) c
 have ne:Txt.split (S a) (S [c])≠[]:=by
  intro z
  rw[z] at e1
  have:a=[]:=by
   have:=congrArg (λz:Str=>z.cps.toList) e1
   exact this.symm
  subst this
  have:Txt.split (S []) (S [c])=[S []]:=by
   unfold Txt.split
   rw[if_pos (by rfl)]
  rw[this] at z
  cases z
 have e3:Txt.split (S a) (S [c])=((Txt.split (S a) (S [c])).map λz=>z.cps.toList).map S:=by
  rw[List.map_map]
  conv=>lhs;rw[<-List.map_id (Txt.split (S a) (S [c]))]
  refine List.map_congr_left λz _=>?_
  cases z
  simp[S]
 generalize hps:(Txt.split (S a) (S [c])).map (λz=>z.cps.toList)=ps at e3
 rw[e3,rg] at e1
 have e4:joinL [c] ps=a:=nZ e1
 have e5:=mT (c:=c) (ps:=ps) (by intro z;rw[z] at hps;exact ne (List.map_eq_nil_iff.mp hps)) λp hp=>by
  rw[<-hps] at hp
  obtain⟨z,hz,rfl⟩:=List.mem_map.mp hp
  exact e2 z hz
 rw[e3,<-e5,e4]
theorem ya (c:Nat)(a z:List Nat):Txt.replace (S a) (S [c]) (S z)=S (joinL z (splitL c a)):=by
 have:=StrLaws.replace_one (S a) (S z) c
 rw[show(⟨#[c]⟩:Str)=S [c] from rfl,B5,rg] at this
 exact this
section
variable {X:Cx}
noncomputable def rSw:V->List V->Hp->VK->Prop:=λx vs H Q=>∃a b,x=.str a/\vs=[.str b]/\Q (.bl (Txt.startswith a b)) H
noncomputable def rSplit:V->List V->Hp->VK->Prop:=λx vs H Q=>∃a c,x=.str (S a)/\vs=[.str (S [c])]/\a.length<=1000000/\∀l,H l=none->Q (.ref l) (upd H l (.lst ((splitL c a).map λp=>V.str (S p))))
end
theorem l8 {M:Model}{Γ:PySem.Ctx}{p:Pos}{t:Sem PySem.Fin}{fs:List Frame}{s s':Shared}{e:End}(h:Runs M Γ p t fs s e s'):s.toks<=s'.toks:=by
 induction h<;>first
  | exact Nat.le_refl _
  | assumption
  | (rename_i ih;exact ih)
  | (rename_i ih1 ih2;exact Nat.le_trans ih1 ih2)
  | (rename_i ih;exact Nat.le_trans (Nat.le_succ _) ih)
theorem ve {M:Model}{Γ:PySem.Ctx}{p:Pos}{g:Nat}{r:Resume}{s s':Shared}{res:GenResult}(h:Wakes M Γ p g r s res s'):s.toks<=s'.toks:=by
 unfold Wakes at h
 split at h
 ·exact h.elim
 ·split at h
  ·obtain⟨e,s1,hr,_,_,rfl⟩:=h
   have:=l8 hr
   exact this
  ·rw[h.2];exact Nat.le_refl _
  ·rw[h.2];exact Nat.le_refl _
 ·obtain⟨e,s1,hr,_,_,rfl⟩:=h
  have:=l8 hr
  exact this
 ·rw[h.2];exact Nat.le_refl _
 ·rw[h.2];exact Nat.le_refl _
theorem wp_toks {α:Type}{M:Model}{Γ:PySem.Ctx}(t:Sem α):∀(Q:α->Pos->Shared->Prop) (E:Value->Pos->Shared->Prop) (p:Pos) (s:Shared) (n:Nat),n<=s.toks->Sem.wp M Γ t Q E p s->
  Sem.wp M Γ t (λa p' s'=>Q a p' s'/\n<=s'.toks) (λe p' s'=>E e p' s'/\n<=s'.toks) p s:=by
 induction t with
 | pure a=>intro Q E p s n hn h;rw[Sem.wp] at h ⊢;exact⟨h,hn⟩
 | raise a=>intro Q E p s n hn h;rw[Sem.wp] at h ⊢;exact⟨h,hn⟩
 | load a pt k ih=>intro Q E p s n hn h;rw[Sem.wp] at h ⊢;obtain⟨o,h1,h2⟩:=h;exact⟨o,h1,ih _ _ _ _ _ _ hn h2⟩
 | update a pt f k ih=>intro Q E p s n hn h;rw[Sem.wp] at h ⊢;exact⟨h.1,ih _ _ _ _ _ _ hn h.2⟩
 | fresh k ih=>intro Q E p s n hn h;rw[Sem.wp] at h ⊢;exact ih _ _ _ _ _ _ (Nat.le_trans hn (Nat.le_succ _)) h
 | choose src m k ih=>intro Q E p s n hn h;rw[Sem.wp] at h ⊢;exact⟨h.1,ih _ _ _ _ _ _ hn h.2⟩
 | call c hd g l k ih=>
  intro Q E p s n hn h
  rw[Sem.wp] at h ⊢
  obtain⟨r,s',hr,h2⟩:=h
  exact⟨r,s',hr,ih _ _ _ _ _ _ (Nat.le_trans hn (l8 hr)) h2⟩
 | genState g k ih=>intro Q E p s n hn h;rw[Sem.wp] at h ⊢;obtain⟨o,h1,h2⟩:=h;exact⟨o,h1,ih _ _ _ _ _ _ hn h2⟩
 | resume g r l k ih=>
  intro Q E p s n hn h
  rw[Sem.wp] at h ⊢
  obtain⟨r,s',hr,h2⟩:=h
  exact⟨r,s',hr,ih _ _ _ _ _ _ (Nat.le_trans hn (ve hr)) h2⟩
 | _=>
  intro Q E p s n hn h
  rw[Sem.wp] at h
  first
  | exact h.elim
  | (rw[Sem.wp];rename_i ih;exact ih _ _ _ _ _ _ hn h)
theorem tE {α:Type}{M:Model}{A:Around}{t:Sem α}{Q:α->Shared->Prop}{E:Value->Shared->Prop}{s:Shared}(h:wpAny M A t Q E s) :
  wpAny M A t (λa s'=>Q a s'/\s.toks<=s'.toks) E s:=λΓ p hΓ=>
 Sem.wp_mono M Γ t (λ_ _ _ x=>x) (λ_ _ _ x=>x.1) p s (wp_toks t _ _ p s s.toks (Nat.le_refl _) (h Γ p hΓ))
noncomputable def PE1 (X:Cx)(e:Expr)(t:TE):Prop:=
 ∀(pins:List (Addr×Obj)) (s:Shared) (σ:St) (H:Hp) (Q:VK),0 < s.toks->Inv X pins σ H s->t σ H Q->wpAny (model X.prog X.w) X.A (eval e X.env) (λu s'=>EP X pins σ Q u s'/\0 < s'.toks) X.xe s
noncomputable def PSs1 (X:Cx)(st:List Stmt)(t:TS):Prop:=
 ∀(pins:List (Addr×Obj)) (s:Shared) (σ:St) (H:Hp) (D:Ends),0 < s.toks->Inv X pins σ H s->t D σ H->wpAny (model X.prog X.w) X.A (execs st X.env) (SP X pins D) X.xe s
section
variable {X:Cx} {e:Expr} {te:TE} {pos:Pos}
theorem PE.one (h:PE X e te):PE1 X e te:=λpins s σ H Q h0 I q=>thn (tE (h pins s σ H Q I q)) λ_ _ x=>⟨x.1,Nat.lt_of_lt_of_le h0 x.2⟩
theorem Az (he:PE1 X e te):PSs1 X [.Return (some e) pos] (tRet te):=by
 intro pins s σ H D h0 I h
 refine wpAny_execs_cons (thn (wpAny_Return_some (Q:=SP X pins D) (thn (he pins s σ H _ h0 I h) λv s1 ⟨⟨x,H1,I1,r1,q1⟩,_⟩=>⟨x,σ,H1,I1,r1,q1⟩)) λf s1 q=>?_)
 cases f with
 | next=>exact wpAny_execs_nil q
 | ret v=>exact q
 | brk=>exact q
 | cont=>exact q
noncomputable def tRepl (K:W.Frag)(c:Nat)(z:List Nat)(to:TE):TE:=λσ H Q=>to σ H λx H1=>∃a,x=.str (S a)/\a.length+(a.length+1) * z.length<=16777216/\Q (.str (S (joinL z (splitL c a)))) H1
theorem tF {o:Expr}{to:TE}{K:W.Frag}{c:Nat}{z:List Nat}{xc xz:Str}{jc jz:Nat}{pc pz apos cpos:Pos}(ec:xc=S [c])(ez:xz=S z)(hcz:(S [c] == S z)=false)(ho:PE1 X o to)
  (hbase:autoParam (attributeBase o "replace" X.env (eval o X.env)=eval o X.env) L2.dft3._auto_1)
  (hfew:autoParam (((backTo cpos (starEach [.Constant (.str xc) jc pc,.Constant (.str xz) jz pz] X.env)).all (λx=>!x.1) && (backToKw cpos (keywordEach [] X.env)).all (λx=>x.1.isSome)
   && decide (([.Constant (.str xc) jc pc,.Constant (.str xz) jz pz]:List Expr).length+([]:List Keyword).length+(if ([]:List Keyword).isEmpty then 0 else 1) < 30))=true) L2.dft3._auto_1)
  (hline:autoParam ((apos.endLine == cpos.line)=true) L2.dft3._auto_1) :
  PE1 X (.Call (.Attribute o "replace" apos) [.Constant (.str xc) jc pc,.Constant (.str xz) jz pz] [] cpos) (tRepl K c z to):=by
 intro pins s σ H Q h0 I h
 have ec:=ec
 have ez:=ez
 subst ec ez
 refine wpAny_Call_method_late hbase hfew hline rfl (thn (ho pins s σ H _ h0 I h) λv s1 ⟨⟨x,H1,I1,r1,a,ex,hz,q⟩,h1⟩=>?_)
 subst ex
 obtain⟨t,rfl⟩:=r1
 refine⟨"str","str.replace",PySem.F.plainAttrs_str,PySem.F.slot_str_replace,PySem.F.type_str_replace,typeIs_str _ _ _,(λ_ e=>nomatch e),?_⟩
 refine Calls.callWith_builtin rfl (Calls.evalArgs_plain ?_)
 refine Calls.spliced_cons (Calls.Constant_str (k:=jc) (pos:=pc) ?_)
 refine Calls.spliced_cons (Calls.Constant_str (k:=jz) (pos:=pz) ?_)
 refine Calls.spliced_nil ?_
 refine thn (tE (SC.replace (by show s1.toks≠0;omega) (by show s1.toks+1≠0;omega) (by show s1.toks≠s1.toks+1;omega) hcz (by rw[bQ,bQ];exact hz) λt' k=>?_)) λu s2 x=>⟨x.1,Nat.lt_of_lt_of_le (by show 0 < s1.toks+1+1;omega) x.2⟩
 rw[ya]
 exact⟨.str _,H1,I1.tok k,⟨t',rfl⟩,q⟩
end
theorem yb {kd:Str->Option NameKind}{x:Str}{u:Value}(h:kd x=some .local):bindL kd [(x,u)] (λ_=>none)=λy=>([(x,u)]:List (Str×Value)).reverse.lookup y:=by
 funext y
 unfold bindL bindL
 rw[if_pos h]
 show(if y=x then some u else none)=List.lookup y [(x,u)]
 rw[List.lookup_cons]
 by_cases e:y=x
 ·subst e;simp
 ·rw[if_neg e,beq_eq_false_iff_ne.mpr e];rfl
section
variable {P:Program} {w:World} {K:W.Frag} {mg:Str->Option Value} {base:Heap}
theorem Fun.ok1 {x qual:Str}{st:Stmt}{f:Addr}{fd:FuncData}{N:List Str}{p1:Str}{k:Nat}{sp:Sp}(F:Fun K x qual st f fd)(S:FnScope N [p1] (defScope st))(hnc:∀x∈(defScope st).names,x.2≠.cell)
  (len:∀vs H Q E,sp vs H Q E->vs.length=1)
  (hbody:∀(cdv:Value) (A:Around) (outer:List Env) (s:Shared) (H:Hp) (vs:List V) (Q:VK) (E:XK),Room k (A.deeper (envOfC qual (defScope st) s.heap.objs.size f cdv))->sp vs H Q E->
   ∃t,PSs1 (cxOf CX0 P w K mg base N qual (defScope st) f cdv A outer s H E) (defBody st) t/\t { nx:=λ_ H'=>Q .non H',rt:=Q } (start N vs) H):FnOk P w K mg base CX0 (k+1) f fd [p1] sp:=by
 obtain⟨oc,od,kV,doc,pm,an,cdv,ct,osl,rfl,lk,hcd⟩:=F.ex
 refine⟨len,λA outer s H args us vs Q E hr e0 hb r hsp=>?_⟩
 have hl:=len _ _ _ _ hsp
 have KX:K.In s.heap:=e0.mod.kin.keeps λb o e=>(e0.bs b o e).1
 have lim:s.heap.NoLimit:=e0.mod.nolimit.keeps λb o e=>(e0.bs b o e).1
 have hloc:(defScope st).names.lookup p1=some .local:=by
  rcases S.par p1 (by simp) with q | q
  ·exact q
  ·exact absurd rfl (hnc _ (PySem.mem_of_lookup q))
 have hus:us.length=1:=by rw[<-r.length];exact hl
 obtain⟨u,rfl⟩:∃u,us=[u]:=by
  match us,hus with
  | [u],_=>exact⟨u,rfl⟩
 have nocells:∀(l:List (Str×NameKind)) (n:Nat),(∀x∈l,x.2≠.cell)->cellsFrom n l []=[]:=by
  intro l
  induction l with
  | nil=>intro n _;rfl
  | cons a l ih=>
   intro n h
   obtain⟨y,kd⟩:=a
   unfold cellsFrom
   rw[if_neg (λz=>h (y,kd) (by simp) (by simpa using z))]
   exact ih n λx hx=>h x (List.mem_cons_of_mem _ hx)
 refine codeAny_call_def (binds:=[p1].zip [u]) hr.depth (KX _ _ lk) rfl lim (W.codeRec_of KX hcd) rfl hb hnc (λy hy=>by simp at hy;rw[hy];exact hloc) (λh1 hns hk=>?_) S.co S.gen S.kind
 have ee:callEnv (W.fnOf x qual (defArgs st) (defBody st) (defScope st) .none kV doc pm an cdv ct) s.heap.objs.size f=envOfC qual (defScope st) s.heap.objs.size f cdv:=by
  unfold envOfC
  rw[nocells _ _ hnc]
  rfl
 rw[ee]
 have I:Inv (cxOf CX0 P w K mg base N qual (defScope st) f cdv A outer s H E) [] (start N vs) H { s with heap:=h1,toks:=s.toks+1 }:=by
  refine qb S hr.hd e0 (by rw[hl];rfl) r ⟨⟨⟨h1,_,rfl⟩,?_,hk,Nat.le_refl _⟩,?_,?_,?_⟩
  ·show h1.Ns _ _
   rw[show([p1].zip [u]:List (Str×Value))=[(p1,u)] from rfl,yb hloc]
   exact hns
  ·rw[nocells _ _ hnc];intro n c z;cases z
  ·rw[nocells _ _ hnc];exact .nil
  ·rw[nocells _ _ hnc];intro n c z;cases z
 obtain⟨t,ht,hq⟩:=hbody cdv A outer s H vs Q E (hr.deeper _) hsp
 refine wpAny_mono (ht [] _ (start N vs) H _ (Nat.succ_pos _) I hq) (λfl s' hs=>?_) λe s' hs=>hs
 have fin:∀{σ':St} {H':Hp} {v:V} {u:Value},Inv (cxOf CX0 P w K mg base N qual (defScope st) f cdv A outer s H E) [] σ' H' s'->RelV v u->Q v H'->CE outer P w H s Q u s':=
  λ{σ' H' v u} J rv q=>⟨v,H',J.os,J.bare,J.base,J.hok,rv,q⟩
 cases fl with
 | ret u=>
  obtain⟨v,σ',H',J,rv,q⟩:=hs
  exact fin J rv q
 | next=>
  obtain⟨σ',H',J,q⟩:=hs
  exact fin (v:=V.non) (u:=Value.none) J rfl q
 | brk=>
  obtain⟨_,_,_,q⟩:=hs
  exact False.elim q
 | cont=>
  obtain⟨_,_,_,q⟩:=hs
  exact False.elim q
end
theorem yc (c:Nat):∀a:List Nat,splitL c a≠[]
 | []=>by simp[splitL]
 | x::r=>by
  rw[splitL]
  by_cases e:x=c
  ·rw[if_pos e];simp
  ·rw[if_neg e]
   cases h:splitL c r<;>simp
theorem fz (c:Nat)(z:List Nat):∀a:List Nat,joinL z (splitL c a)=a.flatMap λx=>if x=c then z else[x]
 | []=>rfl
 | x::r=>by
  have ih:=fz c z r
  have ne:=yc c r
  rw[splitL,List.flatMap_cons]
  cases h:splitL c r with
  | nil=>exact absurd h ne
  | cons p ps=>
   rw[h] at ih
   by_cases e:x=c
   ·rw[if_pos e,if_pos e,<-ih]
    show[]++z++joinL z (p::ps)=_
    rw[List.nil_append]
   ·rw[if_neg e,if_neg e,<-ih]
    cases ps with
    | nil=>rfl
    | cons q qs=>
     show(x::p)++z++joinL z (q::qs)=[x]++(p++z++joinL z (q::qs))
     simp
noncomputable def gd1 (c:Nat):List Nat:=if c=126 then[126,119] else if c=59 then[126,115] else[c]
noncomputable def gd (a:List Nat):List Nat:=a.flatMap gd1
theorem E2 (a:List Nat):joinL [126,115] (splitL 59 (joinL [126,119] (splitL 126 a)))=gd a:=by
 rw[fz,fz,List.flatMap_assoc,gd]
 congr 1
 funext x
 unfold gd1
 by_cases h:x=126
 ·subst h;rfl
 ·rw[if_neg h,if_neg h]
  by_cases h':x=59
  ·subst h';rfl
  ·simp[h']
theorem B6 (x:Nat)(a:List Nat):gd (x::a)=gd1 x++gd a:=List.flatMap_cons
theorem B8 (c:Nat):(gd1 c).length<=2:=by
 unfold gd1
 by_cases h:c=126
 ·rw[if_pos h];decide
 ·rw[if_neg h]
  by_cases h':c=59
  ·rw[if_pos h'];decide
  ·rw[if_neg h'];simp
theorem rB:∀a:List Nat,(gd a).length<=2 * a.length
 | []=>Nat.le_refl _
 | x::a=>by
  have:=rB a
  have:=B8 x
  rw[B6,List.length_append,List.length_cons];omega
theorem oq:∀{l:List Nat} {x:Nat},x∈l->x<=l.sum
 | y::l,x,h=>by
  rcases List.mem_cons.mp h with rfl | h
  ·rw[List.sum_cons];omega
  ·have:=oq h;rw[List.sum_cons];omega
theorem ot {α:Type}{l:List α}{i:Nat}{x:α}(h:l[i]?=some x):l.take (i+1)=l.take i++[x]:=by
 obtain⟨hi,rfl⟩:=List.getElem?_eq_some_iff.mp h
 exact(List.take_append_getElem hi).symm
noncomputable def vf:Sp:=λvs H Q _=>∃a,vs=[.str (S a)]/\a.length<=1000000/\Q (.str (S (gd a))) H
noncomputable def tx (l:List (List Nat)):List V:=l.map λa=>V.str (S a)
noncomputable def yd (K:W.Frag):Sp:=λvs H Q _=>∃p l,vs=[.ref p]/\SqL K H p (tx l)/\(l.map List.length).sum+l.length<=1000000/\∀H',Same H H'->Q (.str (S (joinL [59] (l.map gd)))) H'
theorem ou (m:Nat):strI (m:Int)=(Nat.toDigits 10 m).map Char.toNat:=W.KIN.signs_num m
theorem rC {m k:Nat}(hk:1<=k)(h:m < 10 ^ k):(strI (m:Int)).length<=k:=by
 rw[ou,List.length_map]
 exact digits10_le hk h
theorem ql:∀d:Nat,d < 10->(Nat.digitChar d).toNat=48+d:=by decide
theorem ow (m:Nat):∀c∈strI (m:Int),48<=c/\c<=57:=by
 rw[ou]
 induction m using Nat.strongRecOn with
 | _ m ih=>
  by_cases h:m < 10
  ·rw[Nat.toDigits_of_lt_base h]
   intro c hc
   simp at hc
   rw[hc,ql m h];omega
  ·have hm:m % 10 < 10:=Nat.mod_lt m (by decide)
   have t:Nat.toDigits 10 (m / 10)++Nat.toDigits 10 (m % 10)=Nat.toDigits 10 (10 * (m / 10)+m % 10):=Nat.toDigits_append_toDigits (by decide) (by omega) hm
   rw[Nat.div_add_mod] at t
   rw[<-t,List.map_append,Nat.toDigits_of_lt_base hm]
   intro c hc
   rcases List.mem_append.mp hc with hc | hc
   ·exact ih (m / 10) (by omega) c hc
   ·simp at hc
    rw[hc,ql _ hm];omega
theorem AA (m:Nat):1<=(strI (m:Int)).length:=by
 rw[ou,List.length_map];exact tDigits_len_ge 10 m
noncomputable def zf (w m:Nat):List Nat:=List.replicate (w - (strI (m:Int)).length) 48++strI (m:Int)
theorem ma {w m:Nat}(hw:1<=w)(h:m < 10 ^ w):(zf w m).length=w:=by
 have:=rC hw h
 unfold zf
 rw[List.length_append,List.length_replicate];omega
theorem B9 (m w:Nat):Txt.zfill (S (strI (m:Int))) (w:Int)=S (zf w m):=by
 unfold Txt.zfill zf
 rw[bQ]
 by_cases h:(w:Int)<=((strI (m:Int)).length:Int)
 ·rw[if_pos h,show w - (strI (m:Int)).length=0 by omega];rfl
 ·rw[if_neg h,show((w:Int).toNat - (strI (m:Int)).length)=w - (strI (m:Int)).length by omega]
  have h0:=AA m
  have hd:=ow m
  have hc:PySem.zfilled (S (strI (m:Int))) (w - (strI (m:Int)).length)=Builtin.Str.padded (S (strI (m:Int))) (w - (strI (m:Int)).length) 0 48:=by
   cases hl:strI (m:Int) with
   | nil=>rw[hl] at h0;simp at h0
   | cons c r=>
    have hc:=hd c (by rw[hl];simp)
    unfold PySem.zfilled
    split
    ·rename_i e;have e':c=43:=by simpa using e
     omega
    ·rename_i e;have e':c=45:=by simpa using e
     omega
    ·rfl
  rw[hc]
  unfold Builtin.Str.padded
  simp[S]
noncomputable def rZf:V->List V->Hp->VK->Prop:=λx vs H Q=>∃m w:Nat,x=.str (S (strI (m:Int)))/\vs=[.int (w:Int)]/\w<=1000/\Q (.str (S (zf w m))) H
section
variable {X:Cx}
open Builtin Builtin.Str in
theorem oy:MtR X "str.zfill" rZf:=by
 intro pins s σ H x vs v us Q I rx rv h
 obtain⟨m,w,rfl,rfl,hw,q⟩:=h
 obtain⟨t,rfl⟩:=rx
 obtain⟨u,rfl,t',rfl⟩:=vals1 rv
 refine SC.zfill ?_ λt' k=>?_
 ·unfold PadOk fitsSsize tooLong sizeLine
  rw[Bool.and_eq_true,Bool.not_eq_true',Bool.not_eq_true']
  refine⟨?_,decide_eq_false (by omega)⟩
  rw[Bool.or_eq_false_iff]
  exact⟨decide_eq_false (by omega),decide_eq_false (by omega)⟩
 ·rw[B9]
  exact⟨.str _,H,I.tok k,⟨t',rfl⟩,q⟩
end
noncomputable def pfL (n:Nat)(b:List Nat):List Nat:=zf 6 n++[32]++zf 5 (sumF 0 b)++[32]
noncomputable def hdL (n:Nat)(b:List Nat):List Nat:=pfL n b++(zf 4 b.length++[32])
noncomputable def lineL (n:Nat)(b:List Nat):List Nat:=hdL n b++b
structure GoodB (n:Nat)(b:List Nat):Prop where
 n:n < 1000000
 c:∀c∈b,c < 128
 l:b.length < 10000
theorem GoodB.sum {n:Nat}{b:List Nat}(g:GoodB n b):sumF 0 b < 65536:=wJ (λc hc=>Nat.lt_trans (g.c c hc) (by decide)) (by decide)
theorem GoodB.pf {n:Nat}{b:List Nat}(g:GoodB n b):(pfL n b).length=13:=by
 have:=g.sum
 unfold pfL
 simp only[List.length_append,List.length_cons,List.length_nil]
 rw[ma (by decide) g.n,ma (by decide) (Nat.lt_trans this (by decide))]
theorem GoodB.hd {n:Nat}{b:List Nat}(g:GoodB n b):(hdL n b).length=18:=by
 unfold hdL
 rw[List.length_append,g.pf,List.length_append,ma (by decide) g.l];rfl
section
variable {n:Nat} {b:List Nat} {i c:Nat}
end
noncomputable def Ea:Sp:=λvs H Q _=>∃l:List Nat,vs=[.str (S l)]/\(∀c∈l,c < 128)/\Q (.int (sumF 0 l:Nat)) H
noncomputable def ye:Sp:=λvs H Q _=>∃x y:Int,vs=[.int x,.int y]/\Q (.bl (decide (x=y))) H
noncomputable def yf:Sp:=λvs H Q _=>∃(n:Nat) (b:List Nat),vs=[.int (n:Int),.str (S b)]/\GoodB n b/\∀H',Same H H'->Q (.str (S (lineL n b))) H'
end L2
namespace L2
open PySem PySem.Spec PyProof.Rows Builtin Builtin.ObjectAttr
end L2
namespace L2
open PySem PySem.Spec PyProof.Rows
section
variable {X:Cx} {K:W.Frag} {o e:Expr} {to:TE} {tx:TX} {name:Str} {apos cpos:Pos} {T id:String}
end
noncomputable def sgA:List (List Nat)->List (List Nat)
 | []=>[]
 | [b]=>[46::b]
 | b::c::r=>(43::b)::sgA (c::r)
theorem fA:∀act:List (List Nat),(sgA act).length=act.length
 | []=>rfl
 | [_]=>rfl
 | b::c::r=>by rw[sgA,List.length_cons,fA (c::r)];rfl
theorem wK:∀(act:List (List Nat)) (k:Nat) (b:List Nat),act[k]?=some b->(sgA act)[k]?=some ((if k+1 < act.length then 43 else 46)::b)
 | [],k,b,h=>by simp at h
 | [c],k,b,h=>by
  cases k with
  | zero=>cases h;rfl
  | succ k=>simp at h
 | c::d::r,k,b,h=>by
  cases k with
  | zero=>cases h;rfl
  | succ k=>
   have:=wK (d::r) k b h
   rw[sgA,List.getElem?_cons_succ,this]
   simp only[List.length_cons,Nat.add_lt_add_iff_right]
noncomputable def lns:Nat->List (List Nat)->List (List Nat)
 | _,[]=>[]
 | n,b::r=>lineL n b::lns (n+1) r
theorem kU:∀(n:Nat) (bs:List (List Nat)),(lns n bs).length=bs.length
 | _,[]=>rfl
 | n,b::r=>by rw[lns,List.length_cons,kU (n+1) r];rfl
theorem wL:∀(n:Nat) (a b:List (List Nat)),lns n (a++b)=lns n a++lns (n+a.length) b
 | n,[],b=>rfl
 | n,x::a,b=>by
  rw[List.cons_append,lns,lns,wL (n+1) a b,List.length_cons,List.cons_append]
  congr 3
  omega
theorem tG (n:Nat)(a:List (List Nat))(b:List Nat):lns n (a++[b])=lns n a++[lineL (n+a.length) b]:=wL n a [b]
noncomputable def okB (b:List Nat):Prop:=(∀c∈b,c < 128)/\b.length<=4000
structure BookAt (C:Addr)(H:Hp)(r l:Addr)(ls:List (List Nat)):Prop where
 obj:∃dx,H r=some (.ins C dx [("lines",.ref l)])
 lst:H l=some (.lst (tx ls))
theorem BookAt.ne {C:Addr}{H:Hp}{r l:Addr}{ls:List (List Nat)}(R:BookAt C H r l ls):r≠l:=λz=>by
 obtain⟨dx,h⟩:=R.obj
 rw[z,R.lst] at h;cases h
theorem BookAt.same {C:Addr}{H H':Hp}{r l:Addr}{ls:List (List Nat)}(R:BookAt C H r l ls)(s:Same H H'):BookAt C H' r l ls:=⟨let ⟨dx,h⟩:=R.obj;⟨dx,s _ _ h⟩,s _ _ R.lst⟩
noncomputable def vg (C:Addr):Sp:=λvs H Q _=>∃x dx,vs=[.ref x]/\H x=some (.ins C dx [])/\∀l H',H l=none->l≠x->Chg [x] H H'->BookAt C H' x l []->Q .non H'
noncomputable def tH (C:Addr):Sp:=λvs H Q _=>∃(r p l:Addr) (ls act:List (List Nat)),vs=[.ref r,.ref p]/\BookAt C H r l ls/\H p=some (.lst (tx act))/\p≠l/\(∀b∈act,okB b)/\ls.length+act.length<=5000/\
 ∀H',Chg [l] H H'->BookAt C H' r l (ls++lns ls.length (sgA act))->Q (.int ((ls.length+act.length:Nat):Int)) H'
noncomputable abbrev Spot:=Int×Int
noncomputable def spotV (x:Spot):List V:=[.int x.1,.int x.2]
structure SendM where
 L:Str->Option Int
 T:Str->Int
 P:Str->List Spot
 sz:Nat
noncomputable def send0:SendM:=⟨λ_=>none,λ_=>0,λ_=>[],0⟩
noncomputable def sendF (l t p:Addr):List (Str×V):=[("lives",.ref l),("lasts",.ref t),("spots",.ref p)]
structure SendAt (C:Addr)(H:Hp)(r l t p:Addr)(Z:List Addr)(M:SendM):Prop where
 obj:∃dx,H r=some (.ins C dx (sendF l t p))
 liv:∃kvs,H l=some (.dK kvs)/\kvs.length<=M.sz/\∀z,valV kvs (.inr z)=(M.L z).map V.int
 las:∃kvs,H t=some (.dK kvs)/\kvs.length<=M.sz/\∀z,valV kvs (.inr z)=(M.L z).map λ_=>V.int (M.T z)
 spo:∃kvs,H p=some (.dK kvs)/\kvs.length<=M.sz/\∀z,(M.L z).isSome=true->∃q,valV kvs (.inr z)=some (.ref q)/\LTups H q ((M.P z).map spotV)/\q∉Z
 len:∀z,(M.P z).length<=8
 rl:r≠l
 rt:r≠t
 rp:r≠p
 lt:l≠t
 lp:l≠p
 tp:t≠p
theorem SendAt.chg {A:List Addr}{C:Addr}{H H':Hp}{r l t p:Addr}{Z:List Addr}{M:SendM}(h:SendAt C H r l t p Z M)(c:Chg A H H')(hr:r∉A)(hl:l∉A)(ht:t∉A)(hp:p∉A)(hz:∀b∈A,b∈Z\/∀xs,H b≠some (.lst xs)):SendAt C H' r l t p Z M:=by
 obtain⟨dx,e⟩:=h.obj
 obtain⟨k1,e1,l1,v1⟩:=h.liv
 obtain⟨k2,e2,l2,v2⟩:=h.las
 obtain⟨k3,e3,l3,v3⟩:=h.spo
 refine⟨⟨dx,c.keep _ _ e hr⟩,⟨k1,c.keep _ _ e1 hl,l1,v1⟩,⟨k2,c.keep _ _ e2 ht,l2,v2⟩,⟨k3,c.keep _ _ e3 hp,l3,λz hzz=>?_⟩,h.len,h.rl,h.rt,h.rp,h.lt,h.lp,h.tp⟩
 obtain⟨q,a1,a2,a3⟩:=v3 z hzz
 refine⟨q,a1,a2.chg c λm=>?_,a3⟩
 rcases hz q m with y | y
 ·exact a3 y
 ·obtain⟨ts,b1,_⟩:=a2
  exact y _ b1
theorem SendAt.same {C:Addr}{H H':Hp}{r l t p:Addr}{Z:List Addr}{M:SendM}(h:SendAt C H r l t p Z M)(s:Same H H'):SendAt C H' r l t p Z M:=h.chg (A:=[]) (Chg.of_same s) (by simp) (by simp) (by simp) (by simp) (by simp)
theorem SendAt.less {C:Addr}{H:Hp}{r l t p:Addr}{Z Z':List Addr}{M:SendM}(h:SendAt C H r l t p Z M)(hz:∀b∈Z',b∈Z\/H b=none):SendAt C H r l t p Z' M:=by
 obtain⟨k3,e3,l3,v3⟩:=h.spo
 refine⟨h.obj,h.liv,h.las,⟨k3,e3,l3,λz hzz=>?_⟩,h.len,h.rl,h.rt,h.rp,h.lt,h.lp,h.tp⟩
 obtain⟨q,a1,a2,a3⟩:=v3 z hzz
 refine⟨q,a1,a2,λm=>?_⟩
 rcases hz q m with y | y
 ·exact a3 y
 ·obtain⟨ts,b1,_⟩:=a2
  rw[y] at b1
  cases b1
theorem kW (l t p:Addr):(sendF l t p).lookup (Str.ofString "lives")=some (.ref l):=rfl
theorem gI (l t p:Addr):(sendF l t p).lookup (Str.ofString "lasts")=some (.ref t):=rfl
theorem oz (l t p:Addr):(sendF l t p).lookup (Str.ofString "spots")=some (.ref p):=rfl
noncomputable def SendM.hail (M:SendM)(n:Str):SendM:={ M with
 L:=λz=>if z=n then some ((M.L n).getD 0+1) else M.L z
 T:=λz=>if z=n then(if (M.L n).getD 0=0 then 0 else M.T n) else M.T z
 P:=λz=>if z=n then(if (M.L n).getD 0=0 then[] else M.P n) else M.P z
 sz:=M.sz+1 }
noncomputable def SendM.note (M:SendM)(n:Str)(k:Int)(x:Spot):SendM:={ M with
 T:=λz=>if z=n then k else M.T z
 P:=λz=>if z=n then(M.P n++[x]).drop ((M.P n++[x]).length - 8) else M.P z
 sz:=M.sz+1 }
noncomputable def yg (C:Addr):Sp:=λvs H Q _=>∃(x dx:Addr),vs=[.ref x]/\H x=some (.ins C dx [])/\
 ∀l t p H',H l=none->H t=none->H p=none->Chg [x] H H'->SendAt C H' x l t p [] send0->Q .non H'
noncomputable def yh (C:Addr):Sp:=λvs H Q _=>∃(r l t p:Addr) (Z:List Addr) (M:SendM) (n:Str),vs=[.ref r,.str n]/\SendAt C H r l t p Z M/\M.sz<=100000/\M.L n=none/\(∀b∈Z,∃o,H b=some o)/\
 ∀u H',Chg [l,t,p] H H'->SendAt C H' r l t p Z (M.hail n)->H u=none->H' u=some (.tup [.int ((M.L n).getD 0+1),.int ((M.hail n).T n)])->Q (.ref u) H'
noncomputable def yi (C:Addr):Sp:=λvs H Q _=>∃(r l t p:Addr) (Z:List Addr) (M:SendM) (n:Str),vs=[.ref r,.str n]/\SendAt C H r l t p Z M/\Q (.int ((M.L n).getD 0)) H
noncomputable def yj (C:Addr):Sp:=λvs H Q _=>∃(r l t p:Addr) (Z:List Addr) (M:SendM) (n:Str),vs=[.ref r,.str n]/\SendAt C H r l t p Z M/\Q (.int (if (M.L n).isSome=true then M.T n else 0)) H
noncomputable def yk (C CN:Addr):Sp:=λvs H Q E=>∃(r l t p:Addr) (Z:List Addr) (M:SendM) (n:Str),vs=[.ref r,.str n]/\SendAt C H r l t p Z M/\
 (((M.L n).isSome=true/\Q .non H)\/(M.L n=none/\Bears E H CN [("name",.str n)]))
noncomputable def vh (C CN CF:Addr):Sp:=λvs H Q E=>∃(r l t p:Addr) (Z:List Addr) (M:SendM) (n:Str) (k:Int),vs=[.ref r,.str n,.int k]/\SendAt C H r l t p Z M/\
 ((M.L n=none/\Bears E H CN [("name",.str n)])\/(M.L n=some k/\Q .non H))
noncomputable def yl (C CN CG CT:Addr):Sp:=λvs H Q E=>∃(r l t p:Addr) (Z:List Addr) (M:SendM) (n:Str) (k:Int),vs=[.ref r,.str n,.int k]/\SendAt C H r l t p Z M/\(M.L n).isSome=true/\k=M.T n+1/\Q .non H
noncomputable def ym (C CN CG CT:Addr):Sp:=λvs H Q E=>∃(r l t p:Addr) (Z:List Addr) (M:SendM) (n:Str) (k a b:Int),vs=[.ref r,.str n,.int k,.int a,.int b]/\SendAt C H r l t p Z M/\(M.L n).isSome=true/\
 k=M.T n+1/\M.sz<=100000/\(∀b∈Z,∃o,H b=some o)/\∀H',Chg [t,p] H H'->SendAt C H' r l t p Z (M.note n k (a,b))->Q .non H'
theorem yn (l:List V):cutV l (some (-8)) none=l.drop (l.length - 8):=by
 unfold cutV
 rw[HT.sk]
 have e:HT.sIx l.length 0 (some (-8))=l.length - 8:=by
  show(if (-8:Int) < 0 then(-8+(l.length:Int)).toNat else min (-8:Int).toNat l.length)=_
  rw[if_pos (by decide)]
  omega
 rw[e,List.take_of_length_le (by rw[List.length_drop];omega)]
section
variable {X:Cx}
end
section
variable {X:Cx} {o:Expr} {apos cpos:Pos} {td:TE}
end
section
variable {X:Cx} {o:Expr} {apos cpos:Pos} {td:TE}
end
end L2
namespace L2
open PySem PySem.Spec
open AutoSeq1 (wpAny_loadPart')
section
variable {prog:Program} {w:World} {A:Around} {E:Value->Shared->Prop} {s:Shared}
theorem me {T newId initId:String}{Bn Bi:Builtin}{args:List Value}{kw:List (Str×Value)}{S:Spec}{Q Q₁:Value->Shared->Prop}(ft:TypeCalled T newId initId)
  (hct:checkTypeCall T ⟨args,kw⟩=pure ()) (hcn:checkBuiltinCall newId ⟨.type T::args,kw⟩=pure ())
  (entryN:entryFor table newId=some Bn) (entryI:entryFor table initId=some Bi) (g:Meets (Bn ⟨.type T::args,kw⟩) S)
  (h:S A.in1 (wants Q₁ E) s)
  (hnext:∀obj s₁,Q₁ obj s₁->s₁.TypeIs obj T/\argsOk initId ⟨obj::args,kw⟩/\∃Si,Meets (Bi ⟨obj::args,kw⟩) Si/\Si A.in1 (wants (λr s₂=>r=.none/\Q obj s₂) E) s₁) :
  wpAny (model prog w) A (call (.type T) args kw) Q E s:=by
 obtain⟨c,tl,hmro⟩:=ft.mro
 have hmade:=ft.made
 have hsub:=ft.sub
 refine wpAny_call (codeAny_of_tree ?_)
 show wpAny _ _ (callAny (.type T) _) _ _ _
 refine wpAny_pure ⟨Code.quiet_builtin _ (s!"d"),codeAny_builtin F.entry_type_call ?_⟩
 rw[Around.under_plain (weight_type_call_type T args kw) (units_type_call_type T args kw)]
 have h1:=ft.notType
 have h2:=ft.canCreate
 repeat (any_goals (first | assumption | wp_step))
 refine codeAny_mono (codeAny_call_builtin ft.plain entryN (wpAny_of_eq hcn (g prog w A.in1 _ s h))) λr s₁ hr=>?_
 cases r with
 | error e=>exact hr
 | ok fl=>
  cases fl with
  | ret obj=>
   obtain⟨hT,hok,Si,gi,hsi⟩:=hnext _ _ hr
   have hli:=ft.init.lookup
   have hbi:=ft.init.bind obj
   repeat (any_goals (first | assumption | wp_step))
   refine codeAny_mono (codeAny_call_builtin ft.init.plain entryI (ft.init.check _ _ _ _ _ _ _ _ hT hok (gi prog w A.in1 _ s₁ hsi))) λr₂ s₂ hr₂=>?_
   cases r₂ with
   | error e=>exact hr₂
   | ok fl₂=>
    cases fl₂ with
    | ret r=>
     obtain⟨rfl,hq⟩:=hr₂
     repeat (any_goals (first | assumption | wp_step))
    | _=>exact hr₂.elim
  | _=>exact hr.elim
end
theorem jM {T newId:String}{self:Value}{a:Value}{rest:List Value}{kw:List (Str×Value)}(hl:typeLookup (.type T) "__init__"=pure (some (.builtin "object.__init__")))
  (hm:Bind.madeBy (.type T)=pure (some newId)) (hne:(some newId != some "object.__new__")=true) :
  Meets (Builtin.«object.__init__» ⟨self::a::rest,kw⟩) (λ_ R s=>s.TypeIs self T/\R (.ok (.ret .none)) s):=by
 refine Meets.of_wp λprog w A R s hs=>?_
 obtain⟨hT,hq⟩:=hs
 repeat (any_goals (first | assumption | wp_step))
 exact⟨_,rfl,hq⟩
theorem iI (a b:Value):checkTypeCall "enumerate" ⟨[a],[("start",b)]⟩=pure ():=by kernel_rfl
theorem iW (a b:Value):checkBuiltinCall "enumerate.__new__" ⟨[.type "enumerate",a],[("start",b)]⟩=pure ():=by kernel_rfl
theorem jN (a b c:Value):argsOk "object.__init__" ⟨[a,b],[("start",c)]⟩:=by unfold argsOk;kernel_rfl
theorem iJ (l:Addr)(items:Array Value)(n:Nat)(dct:Option Addr)(sl:Array (Option Value))(t:Tok) :
  Meets (Builtin.«enumerate.__new__» ⟨[.type "enumerate",.ref l],[("start",.int 1 t)]⟩) (λ_ R s=>s.heap.get? l=some { cls:=.type "list",dict:=dct,data:=.seq items n,slots:=sl }/\
   R (.ok (.ret (.ref (s.heap.push { cls:=.type "list_iterator",data:=.fields #[.ref l,.int 0 0] }).objs.size)))
    { s with heap:=(s.heap.push { cls:=.type "list_iterator",data:=.fields #[.ref l,.int 0 0] }).push { cls:=.type "enumerate",data:=.fields #[.none,.bool false,.ref s.heap.objs.size,rawInt 1,.none,.none] } }):=
 .of_wp λprog w A R s h=>by
  obtain⟨hp,g,d,tk,os⟩:=s;obtain⟨hl,h⟩:=h
  have hsub:=sub_enumerate
  have hL:Heap.IsList (Shared.heap ⟨hp,g,d,tk,os⟩) l items:=⟨_,hl,rfl,n,rfl⟩
  wp_walk using wpAny_loadPart' hl
  refine wpAny_stack_any λst=>wpAny_pure ?_
  split
  ·rename_i c _ _ _ _ _
   cases (c == Value.type "enumerate")
   ·wp_walk using wpAny_loadPart' hl,wpAny_pyIter_list hL
    exact⟨_,rfl,h⟩
   ·wp_walk using wpAny_loadPart' hl,wpAny_pyIter_list hL
    exact⟨_,rfl,h⟩
  ·wp_walk using wpAny_loadPart' hl,wpAny_pyIter_list hL
   exact⟨_,rfl,h⟩
section
variable {prog:Program} {w:World} {A:Around} {E:Value->Shared->Prop} {s:Shared}
theorem iX {l:Addr}{items:Array Value}{t:Tok}{Q:Value->Shared->Prop}(hL:s.heap.IsList l items)
  (h:∀h',IsEnum h' (s.heap.objs.size+1) s.heap.objs.size 1 .none->h'.IsListIter s.heap.objs.size l 0->h'.objs.size=s.heap.objs.size+2->
   (∀b o,s.heap.get? b=some o->h'.get? b=some o)->Q (.ref (s.heap.objs.size+1)) { s with heap:=h' }) :
  wpAny (model prog w) A (call (.type "enumerate") [.ref l] [("start",.int 1 t)]) Q E s:=by
 obtain⟨⟨c,dct,dt,sl⟩,hl,hc,n,hd⟩:=hL
 replace hc:c=.type "list":=hc
 replace hd:dt=.seq items n:=hd
 subst hc hd
 refine me (Q₁:=λobj s₁=>s₁.TypeIs obj "enumerate" /\ Q obj s₁) F.called_enumerate (iI _ _) (iW _ _) F.entry_enumerate_new F.entry_object_init (iJ l items n dct sl t) ⟨hl,?_⟩
  (λobj _ hq=>⟨hq.1,jN _ _ _,_,jM F.called_enumerate.init.lookup F.called_enumerate.made (by decide),hq.1,rfl,hq.2⟩)
 have hz:(s.heap.push { cls:=.type "list_iterator",data:=.fields #[.ref l,.int 0 0] }).objs.size=s.heap.objs.size+1:=Heap.size_push ..
 show _/\_
 rw[hz]
 have he:IsEnum ((s.heap.push { cls:=.type "list_iterator",data:=.fields #[.ref l,.int 0 0] }).push
   { cls:=.type "enumerate",data:=.fields #[.none,.bool false,.ref s.heap.objs.size,rawInt 1,.none,.none] }) (s.heap.objs.size+1) s.heap.objs.size 1 .none:=by
  have:=Heap.get?_push_size (s.heap.push { cls:=.type "list_iterator",data:=.fields #[.ref l,.int 0 0] })
   (o:={ cls:=.type "enumerate",data:=.fields #[.none,.bool false,.ref s.heap.objs.size,rawInt 1,.none,.none] }) rfl
  rw[hz] at this;exact this
 refine⟨⟨_,he,rfl⟩,h _ he ⟨_,Heap.get?_push_of_some _ (Heap.get?_push_size _ rfl),rfl,rfl⟩ (by rw[Heap.size_push,hz]) λb o x=>Heap.get?_push_of_some _ (Heap.get?_push_of_some _ x)⟩
end
section
variable {M:Model} {A:Around} {E:Value->Shared->Prop} {s:Shared} {env:Env}
theorem kX {pos:Pos}{T:String}{first:List Value}{args:List (Bool×Sem Value)}{keywords:List (Option Str×Sem Value)}{Q:Value->Shared->Prop}
  (hplain:args.any (·.1)=false) (hkw:keywords.any (·.1.isNone)=false)
  (h:wpAny M A (evalArgs (.type T) true args keywords) (λa s₁=>wpAny M A (call (.type T) (first++a.pos) a.kw) Q E s₁) E s) :
  wpAny M A (callWith pos (.type T) first args keywords) Q E s:=by
 unfold callWith
 refine wpAny_bind (wpAny_holding (wpAny_mono h (λa s₁ h₁=>wpAny_bind (wpAny_standAt ?_)) λ_ _ x=>x))
 simp only[hplain,hkw,Bool.or_false]
 refine wpAny_bind (wpAny_pure ?_)
 exact wpAny_bind (wpAny_mono h₁ (λr s₂ hr=>wpAny_bind (wpAny_holding (wpAny_point (wpAny_pure hr)))) λ_ _ x=>x)
theorem mh {pos:Pos}{T:String}{e:Expr}{rest:List Expr}{kws:List Keyword}{Q:Value->Shared->Prop}
  (h:wpAny M A (spliced (backTo pos (starEach (e::rest) env))) (λvs s₁=>wpAny M A (evalAll ((backToKw pos (keywordEach kws env)).map (·.2)))
   (λkvs s₂=>wpAny M A (call (.type T) vs (((backToKw pos (keywordEach kws env)).filterMap (·.1)).zip kvs)) Q E s₂) E s₁) E s)
  (he:autoParam (backTo pos (starEach (e::rest) env)=(false,eval e env)::backTo pos (starEach rest env)) L2.dft3._auto_1)
  (hplain:autoParam ((backTo pos (starEach (e::rest) env)).any (·.1)=false) L2.dft3._auto_1)
  (hall:autoParam ((backToKw pos (keywordEach kws env)).all (·.1.isSome)=true) L2.dft3._auto_1)
  (hkw:autoParam ((backToKw pos (keywordEach kws env)).any (·.1.isNone)=false) L2.dft3._auto_1) :
  wpAny M A (callWith pos (.type T) [] (backTo pos (starEach (e::rest) env)) (backToKw pos (keywordEach kws env))) Q E s:=by
 refine kX hplain hkw ?_
 rw[he] at h ⊢
 exact PyProof.Rows.evalArgs_kwB hall h
end
end L2
namespace L2
open PySem PySem.Spec PyProof.Rows
section
variable {prog:Program} {w:World} {A:Around} {E:Value->Shared->Prop} {s:Shared}
theorem ie {e it l:Addr}{i:Nat}{j:Int}{items:Array Value}{old:Value}{Q:Option Value->Shared->Prop}(hh:A.handled=none)
  (he:IsEnum s.heap e it j old) (hit:s.heap.IsListIter it l i) (hl:s.heap.IsList l items) (hx:items[i]?=none)
  (hQ:∀h',Heap.ExtBut it s.heap h'->Q none { s with heap:=h' }):wpAny (model prog w) A (pyNext (.ref e)) Q E s:=by
 have hT:s.TypeIs (.ref e) "enumerate":=⟨_,he,rfl⟩
 unfold pyNext
 refine wpAny_bind (wpAny_attempt (wpAny_callSpecial?_slot (name:=Str.ofString "__next__") hT F.slot_enumerate_next
  (wpAny_call_entry F.slot_enumerate_next hT F.entry_enumerate_next ?_ (F.args_enumerate_next_1 _))))
 show wpAny _ _ (field (.ref e) 2 >>= _) _ _ _
 refine wpAny_bind (wpAny_field he rfl (x:=.ref it) rfl ?_)
 refine wpAny_bind (wpAny_nextOf_list_end hh hit hl hx λh' x he' hx'=>?_)
 obtain⟨o,ho,hc⟩:=hx'
 refine wpAny_bind (wpAny_isInstance (T:="StopIteration") (b:=true) ⟨o,ho,hc⟩ isSubtype_stop ?_)
 exact wpAny_pure (hQ _ he')
end
theorem tI {prog:Program}{w:World}{A:Around}{it:Addr}{fp:List Addr}{n:Nat}{P:Nat->Value->Prop}{St:Nat->Heap->Prop}(D:Draws prog w A it fp n P St) :
  Draws prog w A it fp (n+1) (λi=>P (i - 1)) (λi h=>1<=i/\St (i - 1) h) where
 live:=λi h st=>D.live _ _ st.2
 frame:=λi h h' st k=>⟨st.1,D.frame _ _ _ st.2 k⟩
 item:=λi s Q E hi st hQ=>D.item (i - 1) s Q E (by omega) st.2 λx h' tk hP hs sb=>hQ x h' tk hP ⟨by omega,by rw[show i+1 - 1=i - 1+1 by omega];exact hs⟩ sb
 done:=λs Q E st hE=>D.done s Q E st.2 hE
noncomputable def Ite1 (K:W.Frag)(a:Addr):It:=
 ⟨λi H=>∃xs x,SqL K H a xs/\xs[i]?=some x,
  λi H v H'=>∃T x,v=.ref T/\H T=none/\H'=upd H T (.tup [.int ((i:Nat)+1),x])/\∀xs,SqL K H a xs->xs[i]?=some x,
  λi H=>∃xs,SqL K H a xs/\xs.length<=i⟩
theorem vi {P:Program}{w:World}{K:W.Frag}{elts:List Expr}{k0:Nat}{pos:Pos}(a e it:Addr)(hei:e≠it) :
  Turn P w K (.Tuple elts k0 pos) (Ite1 K a) [e,it] e (λi h=>(∃old,IsEnum h e it (((i:Nat):Int)+1) old)/\h.IsListIter it a i) where
 mem:=by simp
 obj:=λi h st c hc=>by
  obtain⟨⟨old,he⟩,⟨o1,e1,c1,d1⟩⟩:=st
  simp only[List.mem_cons,List.not_mem_nil,or_false] at hc
  rcases hc with rfl | rfl
  ·exact⟨_,he,λv q=>by cases q⟩
  ·exact⟨_,e1,λv q=>by rw[d1] at q;cases q⟩
 keep:=λi h h' st k=>by
  obtain⟨⟨old,he⟩,h1⟩:=st
  exact⟨⟨old,k _ (by simp) _ he⟩,h1.at λo e=>k _ (by simp) o e⟩
 item:=by
  intro X hP hw hK hc i pins s σ H E I hf st hg
  subst hP hw hK
  obtain⟨⟨old,he⟩,h1⟩:=st
  obtain⟨xs,x,hx,ex⟩:=hg
  obtain⟨its,rv,p,_⟩:=I.list hx
  obtain⟨u,hu,ru⟩:=rv.get ex
  have nai:a≠it:=λz=>by
   subst z
   obtain⟨o,ho,hc',_⟩:=p.isList
   obtain⟨o2,ho2,hc2,_⟩:=h1
   rw[ho] at ho2;cases ho2;rw[hc'] at hc2;injection hc2 with z;exact absurd z (by decide)
  have nea:e≠a:=λz=>by
   subst z
   obtain⟨o,ho,hc',_⟩:=p.isList
   have he':=he
   unfold IsEnum at he'
   rw[ho] at he';cases he';injection hc' with z;exact absurd z (by decide)
  have D:=tI (Draws.list (prog:=X.prog) (w:=X.w) (A:=X.A.in1) (I.ok.hd hc) it a nai its.toArray)
  have hil:i < its.length:=(List.getElem?_eq_some_iff.mp hu).1
  refine wpAny_pyNext_enum_itemD D (i:=i+1) (by rw[show(((i+1:Nat)):Int)=(i:Int)+1 by omega];exact he) ⟨by omega,h1,p.isList⟩ (by simp;omega) hei (by simp;exact⟨hei,nea⟩) λx' h' tk hPx a1 a2' a3 a4 hk=>?_
  obtain rfl:x'=u:=by
   have hPx':its.toArray[i]?=some x':=hPx
   have hu':its.toArray[i]?=some u:=by simpa using hu
   exact Option.some.inj (hPx'.symm.trans hu')
  have a2:h'.IsListIter it a (i+1):=a2'.2.1
  rw[show(((i+1:Nat)):Int)=(i:Int)+1 by omega] at a1 a3
  refine⟨_,rfl,wpAny_letOwnedTupleGo_enum a1 λh'' he'' sb=>?_⟩
  have fT:FpOk X pins H s.heap.objs.size:=I.fpOk (Nat.le_refl _) I.fresh
  have I1:Inv X pins σ H { s with heap:=h'',toks:=tk+1 }:=I.turnedL (t':=tk+1) (l:=[e,it]) (λc o hc q=>sb.extBut _ _ (λz=>hc (by simp[z])) (hk c o (λz=>hc (by simp[z])) (λz=>hc (by simp[z])) q)) hf
  have hTe:s.heap.objs.size≠e:=Nat.ne_of_gt (Heap.lt_size he)
  have hT'':h''.get? s.heap.objs.size=some { cls:=.type "tuple",data:=.seq #[.int ((i:Int)+1) tk,x'] }:=sb.extBut _ _ hTe a3
  have I2:Inv X pins σ (upd H s.heap.objs.size (.tup [.int ((i:Nat)+1),x])) { s with heap:=h'',toks:=tk+1 }:=I1.track (t':=tk+1) fT ⟨(by show 2<=sizeLine;decide),[.int ((i:Int)+1) tk,x'],.cons ⟨_,rfl⟩ (.cons ru .nil),_,hT'',rfl,_,rfl⟩ (λ_ _=>trivial)
  refine⟨.ref s.heap.objs.size,_,I2,rfl,⟨_,x,rfl,I.fresh,rfl,λzs hq=>by rw[I.gB hq hx];exact ex⟩,?_,λc hc=>?_⟩
  ·exact⟨⟨x',by rw[show(((i+1:Nat)):Int)=(i:Int)+1 by omega];exact he''⟩,a2.extBut sb.extBut (Ne.symm hei)⟩
  ·have hcl:c < s.heap.objs.size:=by
    obtain⟨o1,e1,_⟩:=h1
    simp only[List.mem_cons,List.not_mem_nil,or_false] at hc
    rcases hc with rfl | rfl
    ·exact Heap.lt_size he
    ·exact Heap.lt_size e1
   rw[aj (Nat.ne_of_lt hcl)]
   exact(hf c hc).1
 done:=by
  intro X hP hw hK hc i pins s σ H E I hf st hg
  subst hP hw hK
  obtain⟨⟨old,he⟩,h1⟩:=st
  obtain⟨xs,hx,hend⟩:=hg
  obtain⟨its,rv,p,_⟩:=I.list hx
  have l1:=rv.length
  refine ie (I.ok.hd hc) he h1 p.isList (by simp;omega) λh' hk=>⟨rfl,?_⟩
  exact I.turnedL (t':=s.toks) (l:=[e,it]) (λc o hc q=>hk c o (λz=>hc (by simp[z])) q) hf
 self:=λ_ _ _ _ _ st h=>by
  obtain⟨⟨old,he⟩,_⟩:=st
  exact wpAny_pyIter_enum he h
section
variable {X:Cx}
noncomputable def iEnum1 (K:W.Frag)(te:TE):TI:=λσ H R=>te σ H λv H1=>∃a xs,v=.ref a/\SqL K H1 a xs/\R (Ite1 K a) H1
theorem AB {K:W.Frag}{elts:List Expr}{k0:Nat}{tpos:Pos}{e:Expr}{te:TE}{p pos kp ip:Pos}{cj}(hg:Gl X "enumerate")(hm:X.mg "enumerate"=none)(hE:PE X e te)(hK:autoParam (X.K=K) L2.dft3._auto_1)
  (he:autoParam (backTo pos (starEach [e] X.env)=[(false,eval e X.env)]) L2.dft3._auto_1) (h2:autoParam (((backTo pos (starEach [e] X.env)).any (·.1)=false)) L2.dft3._auto_1) :
  PI X (.Tuple elts k0 tpos) (.Call (.Name "enumerate" p) [e] [⟨some "start",.Constant (.int 1) cj ip,kp⟩] pos) (iEnum1 K te):=by
 subst hK
 intro pins s σ H R I h
 refine wpAny_Call_Name_kw (dw I hg hm boot_enumerate ?_ (by decide) (by decide))
 refine mh ?_ he h2
 rw[he]
 refine Calls.spliced_cons (thnE (hE pins s σ H _ I h) λu s1 v H1 I1 r1 q1=>?_)
 refine Calls.spliced_nil (kws_cons (thnE (ah pins s1 σ H1 (λy H2=>y=.int 1/\H2=H1) I1 ⟨rfl,rfl⟩) λu2 s2 v2 H2 I2 r2 q2=>kws_nil ?_))
 obtain⟨e2,e3⟩:=q2
 subst e2 e3
 obtain⟨t2,rfl⟩:=r2
 obtain⟨a,xs,rfl,hx,q⟩:=q1
 cases r1
 obtain⟨its,rx,px,_⟩:=I2.list hx
 refine iX px.isList λh' z1 z2 z3 hk=>?_
 have I3:Inv X pins σ H2 { s2 with heap:=h' }:=I2.kept (t':=s2.toks) hk
 refine wpAny_pyIter_enum z1 ⟨_,_,_,_,H2,rfl,I3,vi a _ _ (Nat.ne_of_gt (Nat.lt_succ_self _)),⟨⟨_,(show((0:Nat):Int)+1=1 from rfl)▸z1⟩,z2⟩,λc hc=>?_,q⟩
 have hcl:s2.heap.objs.size<=c:=by
  simp only[List.mem_cons,List.not_mem_nil,or_false] at hc
  rcases hc with rfl | rfl<;>omega
 exact I2.fpOk hcl (I2.hok.fresh hcl)
end
theorem vj {K:W.Frag}{a:Addr}{xs:List V}{g:TG}{tb:TS}{D:Ends}{σ:St}{H:Hp}(Pv:Nat->St->Hp->Prop)(h0:Pv 0 σ H)(hl:∀i σ H,i<=xs.length->Pv i σ H->SqL K H a xs)
  (hs:∀i x T σ H,xs[i]?=some x->H T=none->Pv i σ H->g (.ref T) σ (upd H T (.tup [.int ((i:Nat)+1),x])) λσ2 H2=>tb { D with nx:=Pv (i+1),ct:=Pv (i+1),bk:=D.nx } σ2 H2)
  (hd:∀σ H,Pv xs.length σ H->D.nx σ H):forW (Ite1 K a) g tb D σ H:=by
 refine⟨λi m σ H=>m=xs.length - i/\i<=xs.length/\Pv i σ H,⟨_,rfl,Nat.zero_le _,h0⟩,?_⟩
 rintro i m σ H ⟨rfl,hi,p⟩
 have lx:=hl i σ H hi p
 by_cases hlt:i < xs.length
 ·refine .inr ⟨⟨xs,xs[i],lx,by simp⟩,Pv (i+1),λσ' H' p'=>⟨xs.length - (i+1),by omega,rfl,hlt,p'⟩,λv H' y=>?_⟩
  obtain⟨T,x,rfl,hT,rfl,h1⟩:=y
  exact hs i x T σ _ (h1 xs lx) hT p
 ·have e:i=xs.length:=by omega
  subst e
  exact .inl ⟨⟨xs,lx,by omega⟩,hd σ H p⟩
noncomputable abbrev Dd:=Str×Int×Str
structure DeedsM where
 ds:List Dd
 B:Str->Option Int
 sz:Nat
noncomputable def deeds0:DeedsM:=⟨[],λ_=>none,0⟩
noncomputable def deedsF (dl bz:Addr):List (Str×V):=[("deeds",.ref dl),("busy",.ref bz)]
noncomputable def deedF (x:Dd)(sp pl:Addr):List (Str×V):=[("sender",.str x.1),("ends",.int x.2.1),("fate",.str x.2.2),("spots",.ref sp),("pledges",.ref pl)]
structure DeedsAt (C CD:Addr)(H:Hp)(r dl bz:Addr)(us:List Addr)(M:DeedsM):Prop where
 obj:∃dx,H r=some (.ins C dx (deedsF dl bz))
 lst:H dl=some (.lst (us.map V.ref))
 len:us.length=M.ds.length
 each:∀(i:Nat) u x,us[i]?=some u->M.ds[i]?=some x->∃dx sp pl,H u=some (.ins CD dx (deedF x sp pl))
 nd:us.Nodup
 bsy:∃kvs,H bz=some (.dK kvs)/\kvs.length<=M.sz/\∀z,valV kvs (.inr z)=(M.B z).map V.int
 ru:r∉us
theorem DeedsAt.chg {A:List Addr}{C CD:Addr}{H H':Hp}{r dl bz:Addr}{us:List Addr}{M:DeedsM}(h:DeedsAt C CD H r dl bz us M)(c:Chg A H H')(hr:r∉A)(hd:dl∉A)(hb:bz∉A)(hu:∀u∈us,u∉A):DeedsAt C CD H' r dl bz us M:=by
 obtain⟨dx,e⟩:=h.obj
 obtain⟨kvs,e2,l2,v2⟩:=h.bsy
 refine⟨⟨dx,c.keep _ _ e hr⟩,c.keep _ _ h.lst hd,h.len,λi u x h1 h2=>?_,h.nd,⟨kvs,c.keep _ _ e2 hb,l2,v2⟩,h.ru⟩
 obtain⟨dx,sp,pl,e3⟩:=h.each i u x h1 h2
 exact⟨dx,sp,pl,c.keep _ _ e3 (hu u (List.mem_of_getElem? h1))⟩
theorem Ca (dl bz:Addr):(deedsF dl bz).lookup (Str.ofString "busy")=some (.ref bz):=rfl
noncomputable def yo (C CD:Addr):Sp:=λvs H Q _=>∃(x dx:Addr),vs=[.ref x]/\H x=some (.ins C dx [])/\∀dl bz H',H dl=none->H bz=none->Chg [x] H H'->DeedsAt C CD H' x dl bz [] deeds0->Q .non H'
noncomputable def yp (C CD:Addr):Sp:=λvs H Q _=>∃(r dl bz:Addr) (us:List Addr) (M:DeedsM) (s:Str),vs=[.ref r,.str s]/\DeedsAt C CD H r dl bz us M/\Q (.int ((M.B s).getD 0)) H
noncomputable def compTW (J:It)(n:Nat)(g:TG)(tt:TT)(te:TE)(σ:St)(H1:Hp)(Q:VK):Prop:=∀D,H1 D=none->∃W:Nat->Nat->List V->Hp->Prop,(∃m,W 0 m [] (upd H1 D (.lst [])))/\∀i m ys H2,W i m ys H2->
 (J.stop i H2/\H2 D=some (.lst ys)/\Q (.ref D) H2)\/(J.go i H2/\ys.length < sizeLine/\∀x H3,J.yld i H2 x H3->∀o:St,o.length=n->g x (o++σ) H3 λσ' H3'=>(∃o':St,o'.length=n/\σ'=o'++σ)/\tt σ' H3' λb H4=>
  if b=true then te σ' H4 λy H5=>H5 D=some (.lst ys)/\∃m',m' < m/\W (i+1) m' (ys++[y]) (upd H5 D (.lst (ys++[y]))) else ∃m',m' < m/\W (i+1) m' ys H4)
theorem Ep (n:Nat)(wi:TI)(g:TG)(tt:TT)(te:TE)(σ:St)(H:Hp)(Q:VK):tCompT n wi g tt te σ H Q=wi σ H λJ H1=>compTW J n g tt te σ H1 Q:=rfl
theorem tJ {K:W.Frag}{n:Nat}{g:TG}{tt:TT}{te:TE}{σ:St}{H:Hp}{Q:VK}{a:Addr}{rows:List (List V)}(hl:LTups H a rows)(hn:rows.length<=1000)(hw:∀xs∈rows,xs.length=n)(q:List V->Bool)(f:List V->V)
  (hg:∀t xs H' (o:St) (R:St->Hp->Prop),xs∈rows->Same H H'->H' t=some (.tup xs)->o.length=n->R (xs.map some++σ) H'->g (.ref t) (o++σ) H' R)
  (ht:∀xs H',xs∈rows->Same H H'->∀Qt:Bool->Hp->Prop,(∀H'',Same H' H''->Qt (q xs) H'')->tt (xs.map some++σ) H' Qt)
  (he:∀xs H',xs∈rows->q xs=true->Same H H'->∀Qe:VK,(∀H'',Same H' H''->Qe (f xs) H'')->te (xs.map some++σ) H' Qe)
  (hd:∀D H',H D=none->Same H H'->H' D=some (.lst ((rows.filter q).map f))->Q (.ref D) H'):compTW (Itl K a) n g tt te σ H Q:=by
 obtain⟨ts,e,hT⟩:=hl
 have hlen:=hT.length
 intro D hD
 refine⟨λi m ys H2=>m=rows.length - i/\i<=rows.length/\ys=((rows.take i).filter q).map f/\Same H H2/\H2 D=some (.lst ys),⟨_,rfl,Nat.zero_le _,rfl,Same.upd hD,af⟩,?_⟩
 rintro i m ys H2 ⟨rfl,hi,rfl,sm,hD2⟩
 have sq:SqL K H2 a (ts.map V.ref):=.inl (.inl (sm _ _ e))
 by_cases hlt:i < rows.length
 ·have hsz:(((rows.take i).filter q).map f).length < sizeLine:=by
   rw[List.length_map]
   have h1:=List.length_filter_le q (rows.take i)
   rw[List.length_take] at h1
   exact Nat.lt_of_le_of_lt (show((rows.take i).filter q).length<=1000 by omega) (by decide)
  refine .inr ⟨⟨ts.map V.ref,V.ref (ts[i]'(by omega)),sq,by simp⟩,hsz,?_⟩
  rintro x H3 ⟨rfl,hx⟩ o ho
  have hx':=hx _ sq
  rw[List.getElem?_map] at hx'
  obtain⟨t,ht1,rfl⟩:=Option.map_eq_some_iff.mp hx'
  obtain⟨xs,hxs,hxt⟩:=hT.get ht1
  have hm:=List.mem_of_getElem? hxs
  have htk:rows.take (i+1)=rows.take i++[xs]:=by rw[List.take_add_one,hxs];rfl
  refine hg t xs H3 o _ hm sm (sm _ _ hxt) ho ⟨⟨xs.map some,by rw[List.length_map];exact hw xs hm,rfl⟩,ht xs H3 hm sm _ λH4 s4=>?_⟩
  by_cases c:q xs=true
  ·rw[if_pos c]
   refine he xs H4 hm c (sm.trans s4) _ λH5 s5=>⟨s5 _ _ (s4 _ _ hD2),rows.length - (i+1),by omega,rfl,hlt,?_,?_,af⟩
   ·rw[htk,List.filter_append,List.map_append,List.filter_cons_of_pos c,List.filter_nil];rfl
   ·intro b o' hb
    rw[aj (az hb hD)]
    exact s5 _ _ (s4 _ _ (sm _ _ hb))
  ·rw[if_neg c]
   refine⟨rows.length - (i+1),by omega,rfl,hlt,?_,sm.trans s4,s4 _ _ hD2⟩
   rw[htk,List.filter_append,List.filter_cons_of_neg c,List.filter_nil,List.append_nil]
 ·have:i=rows.length:=by omega
  subst this
  refine .inl ⟨⟨ts.map V.ref,sq,by rw[List.length_map];omega⟩,hD2,?_⟩
  rw[List.take_length] at hD2
  exact hd D H2 hD sm hD2
structure ReadM where
 R:Str->Option (Int×Int)
 sz:Nat
noncomputable def read0:ReadM:=⟨λ_=>none,0⟩
noncomputable def readF (a b:Addr):List (Str×V):=[("rows",.ref a),("places",.ref b)]
structure ReadAt (C:Addr)(H:Hp)(r a b:Addr)(M:ReadM):Prop where
 obj:∃dx,H r=some (.ins C dx (readF a b))
 row:∃kvs,H a=some (.dK kvs)/\kvs.length<=M.sz/\(∀z,valV kvs (.inr z)=(M.R z).map λx=>V.int x.1)/\∀p,valV kvs (.inl p)=none
 pla:∃kvs,H b=some (.dK kvs)/\kvs.length<=M.sz/\∀z,valV kvs (.inr z)=(M.R z).map λx=>V.int x.2
 ra:r≠a
 rb:r≠b
 ab:a≠b
theorem ReadAt.chg {A:List Addr}{C:Addr}{H H':Hp}{r a b:Addr}{M:ReadM}(h:ReadAt C H r a b M)(c:Chg A H H')(hr:r∉A)(ha:a∉A)(hb:b∉A):ReadAt C H' r a b M:=by
 obtain⟨dx,e⟩:=h.obj
 obtain⟨k1,e1,l1,v1⟩:=h.row
 obtain⟨k2,e2,l2,v2⟩:=h.pla
 exact⟨⟨dx,c.keep _ _ e hr⟩,⟨k1,c.keep _ _ e1 ha,l1,v1⟩,⟨k2,c.keep _ _ e2 hb,l2,v2⟩,h.ra,h.rb,h.ab⟩
noncomputable def yq (C:Addr):Sp:=λvs H Q _=>∃(x dx:Addr),vs=[.ref x]/\H x=some (.ins C dx [])/\
 ∀a b H',H a=none->H b=none->Chg [x] H H'->ReadAt C H' x a b read0->Q .non H'
inductive StrEnts (P:Params):List DictEntry->Prop
 | nil:StrEnts P []
 | cons {x:Str} {t:Tok} {u:Value} {r:List DictEntry}:StrEnts P r->StrEnts P (⟨PyData.keyHash P x,.str x t,u⟩::r)
theorem StrEnts.mem {P:Params}{l:List DictEntry}(h:StrEnts P l):∀e∈l,∃x t,e.key=.str x t/\e.hash=PyData.keyHash P x:=by
 induction h with
 | nil=>intro e he;cases he
 | cons _ ih=>
  intro e he
  rcases List.mem_cons.mp he with rfl | he
  ·exact⟨_,_,rfl,rfl⟩
  ·exact ih e he
noncomputable def findE (es:Array DictEntry)(x:Str):Option Value:=findBy keyIs es (.inr x)
noncomputable def DCon (w:World)(K:W.Frag)(mg:Str->Option Value)(x:Str)(F:List (Str×V)):Prop:=∃(p:Addr) (es:Array DictEntry) (ep:Nat),mg x=some (.ref p)/\K.lookup p=some { cls:=.type "dict",dict:=none,data:=.dict es ep,slots:=#[] }/\
 StrEnts w.params es.toList/\∀kv∈F,∃u,findE es kv.1=some u/\RelV kv.2 u
theorem tK {es:Array DictEntry}:∀kv∈([]:List (Str×V)),∃u,findE es kv.1=some u/\RelV kv.2 u:=λ_ h=>nomatch h
theorem jA {es:Array DictEntry}{k:Str}{v:V}{u:Value}{F:List (Str×V)}(h:findE es k=some u)(r:RelV v u)(t:∀kv∈F,∃u,findE es kv.1=some u/\RelV kv.2 u):∀kv∈(k,v)::F,∃u,findE es kv.1=some u/\RelV kv.2 u:=λkv hkv=>by
 rcases List.mem_cons.mp hkv with rfl | hkv
 ·exact⟨u,h,r⟩
 ·exact t kv hkv
noncomputable def tIxD (F:List (Str×V))(te:TE):TE:=λσ H Q=>te σ H λy H1=>∃kv∈F,y=.str kv.1/\Q kv.2 H1
section
variable {X:Cx}
theorem vk {w:World}{K:W.Frag}{x:Str}{F:List (Str×V)}{e:Expr}{te:TE}{p pos:Pos}(c:DCon w K X.mg x F)(he:PE X e te)(hs:PlainIx e)(hg:autoParam (Gl X x) L2.dft3._auto_1)(hw:autoParam (X.w=w) L2.dft3._auto_1)(hK:autoParam (X.K=K) L2.dft3._auto_1)(hd:autoParam ((x == ("__debug__":Str))=false) L2.dft1._auto_1) :
  PE X (.Subscript (.Name x p) e pos) (tIxD F te):=by
 subst hw;subst hK
 intro pins s σ H Q I h
 obtain⟨a,es,ep,hm,hl,hk,hf⟩:=c
 refine Subscript_ (binT (R:=λv y H2=>v=.ref a/\∃kv∈F,y=.str kv.1/\Q kv.2 H2) (qL (v:=.ref a) hg hm rfl hd) he I ?_ λv u s2 y z H2 I2 ry rz q=>?_)
 ·show te σ H _
  refine(show te σ H (λy H1=>V.ref a=V.ref a/\∃kv∈F,y=.str kv.1/\Q kv.2 H1) from ?_)
  have e:(λ(y:V) (H1:Hp)=>V.ref a=V.ref a/\∃kv∈F,y=.str kv.1/\Q kv.2 H1)=λy H1=>∃kv∈F,y=.str kv.1/\Q kv.2 H1:=by
   funext y H1
   simp
  rw[e]
  exact h
 ·obtain⟨rfl,kv,hkv,rfl,q⟩:=q
  cases (show v=Value.ref a from ry)
  obtain⟨w',hw,rw'⟩:=hf kv hkv
  have ho:=I2.kIn _ _ hl
  have hT:s2.TypeIs (.ref a) "dict":=⟨_,ho,rfl⟩
  have hM:s2.heap.MapOf (mixKind X.prog X.w) a (findBy keyIs es):=⟨_,es,ep,ho,⟨rfl,rfl,rfl⟩,rfl,λe he=>by
   obtain⟨x,t,e1,e2⟩:=hk.mem e (by simpa using he)
   exact⟨.inr x,by rw[e1];exact mL _ _ x t,e2⟩,λk=>rfl⟩
  refine tail_any hT PySem.F.slot_dict_getitem.lookup (wpAny_getItem_of (knd:=mixKind X.prog X.w) (k:=.inr kv.1) (kJ (k:=.inr kv.1) rz) hM hw ?_) (hs _ _)
  exact⟨kv.2,H2,I2.tok _,rw',q⟩
inductive Cals (X:Cx) (E:XK):List (Addr×Sp)->Prop
 | nil:Cals X E []
 | cons {CX:CXT} {k:Nat} {f:Addr} {fd:FuncData} {ps:List Str} {sp:Sp} {L:List (Addr×Sp)} (F:FnOk X.prog X.w X.K X.mg X.base CX k f fd ps sp) (hr:Room k X.A) (hk:W.keepIn X.K (.ref f)=true) (hb:Binds X.K fd ps []) (hx:Passes CX X E):Cals X E L->Cals X E ((f,sp)::L)
theorem Cals.get {E:XK}:∀{L:List (Addr×Sp)},Cals X E L->∀{f:Addr} {sp:Sp},(f,sp)∈L->∃(CX:CXT) (k:Nat) (fd:FuncData) (ps:List Str),FnOk X.prog X.w X.K X.mg X.base CX k f fd ps sp/\Room k X.A/\W.keepIn X.K (.ref f)=true/\Binds X.K fd ps []/\Passes CX X E
 | _,.nil,_,_,h=>nomatch h
 | _,.cons F hr hk hb hx r,f,sp,h=>by
  rcases List.mem_cons.mp h with e | h
  ·cases e
   exact⟨_,_,_,_,F,hr,hk,hb,hx⟩
  ·exact r.get h
noncomputable def tCallV (L:List (Addr×Sp))(E:XK)(te:TE)(t:TA):TE:=λσ H Q=>te σ H λx H1=>∃f sp,x=.ref f/\(f,sp)∈L/\t σ H1 λvs H2=>sp vs H2 Q E
theorem AD {x:Str}{e:Expr}{es:List Expr}{te:TE}{t:TA}{E:XK}{L:List (Addr×Sp)}{p pos:Pos}(c:Cals X E L)(hx:PE X (.Name x p) te)(ha:PA X (e::es) t)
  (he:autoParam (starEach (e::es) X.env=(false,eval e X.env)::starEach es X.env) L2.dft3._auto_1) (hpl:autoParam ((backTo pos (starEach es X.env)).any (·.1)=false) L2.dft3._auto_1) :
  PE X (.Call (.Name x p) (e::es) [] pos) (tCallV L E te t):=by
 intro pins s σ H Q I h
 refine wpAny_Call_Name_kw (thn (hx pins s σ H _ I h) λv s1 ⟨y,H1,I1,r1,f,sp,ey,hm,q1⟩=>?_)
 subst ey
 cases (show v=Value.ref f from r1)
 obtain⟨CX,k,fd,ps,F,hr,hk,hb,hp⟩:=c.get hm
 refine W.callWith_K (h₀:=X.base) I.ok.mod.kin hk (thnA (ha pos pins s1 σ H1 _ I1 q1) λus s2 vs H2 I2 r q=>⟨I2.kIn,?_⟩) he hpl
 exact qO (dvs:=[]) (ds:=[]) F hr hb .nil hp I2 r (by rw[List.append_nil];exact q)
end
noncomputable def vm:Sp:=λvs H Q _=>∃c:Nat,vs=[.str (S [c])]/\Q (.bl (okSign c)) H
noncomputable def yr:Sp:=λvs H Q _=>∃x:V,vs=[x]/\Thg H x/\∀H',Same H H'->Q (.bl (formV x 1 24 okSign)) H'
noncomputable def vn:Sp:=λvs H Q _=>∃x:V,vs=[x]/\Thg H x/\∀H',Same H H'->Q (.bl (decide (x=.non) || formV x 0 200 okSign)) H'
noncomputable def gJ:Sp:=λ_ _ _ _=>False
theorem FnOk.never {P:Program}{w:World}{K:W.Frag}{mg:Str->Option Value}{base:Heap}{CX:CXT}{k:Nat}{f:Addr}{fd:FuncData}{ps:List Str}:FnOk P w K mg base CX k f fd ps gJ:=
 ⟨λ_ _ _ _ h=>h.elim,λ_ _ _ _ _ _ _ _ _ _ _ _ _ h=>h.elim⟩
noncomputable def textsL:List Str:=["sender","key","group","shelf","taker","reader"]
noncomputable def wordT (o:Option (List Nat)):List Nat:=match o with
 | none=>[45]
 | some w=>61::w
noncomputable def PartV (p:Str)(v:V)(t:List Nat):Prop:=(p∈textsL/\v=.str (S t))\/(p="word" /\ ∃o,v=wV o/\t=wordT o)\/(p∉textsL/\p ≠ "word" /\ p ≠ "owner" /\ ∃n:Nat,v=.int (n:Int)/\n < 10 ^ 12/\t=strI (n:Int))
noncomputable def rD:Sp:=λvs H Q _=>∃o:Option (List Nat),vs=[wV o]/\(∀w,o=some w->w.length<=1000)/\Q (.str (S (wordT o))) H
noncomputable def vo:Sp:=λvs H Q _=>∃(p:Str) (v:V) (t:List Nat),vs=[.str p,v]/\PartV p v t/\t.length<=1000/\Q (.str (S t)) H
section
variable {prog:Program} {w:World} {A:Around} {E:Value->Shared->Prop} {s:Shared}
theorem vp {it t:Addr}{i:Nat}{items:Array Value}{x:Value}{Q:Value->Shared->Prop}(hit:s.heap.IsTupleIter it t i)(ht:s.heap.IsTuple t items)(hx:items[i]?=some x)
  (hQ:∀h',h'.IsTupleIter it t (i+1)->Heap.SameBut it s.heap h'->Q x { s with heap:=h' }):wpAny (model prog w) A (Builtin.SmallTypes.nextOf (.ref it)) Q E s:=by
 obtain⟨o,ho,hc,hd⟩:=id hit
 obtain⟨ol,hol,_,nl,hdl⟩:=ht
 unfold Builtin.SmallTypes.nextOf
 refine wpAny_bind (wpAny_callSpecial?_slot (name:=Str.ofString "__next__") hit.typeIs PySem.F.slot_tuple_iterator_next (wpAny_call_entry PySem.F.slot_tuple_iterator_next hit.typeIs PySem.F.entry_tuple_iterator_next ?_ (PySem.F.args_tuple_iterator_next_1 _)))
 show wpAny _ _ (field (.ref it) 0 >>= _) _ _ s
 refine wpAny_bind (wpAny_field ho hd (x:=.ref t) rfl ?_)
 show wpAny _ _ (if (Value.ref t == Value.none)=true then _ else _) _ _ s
 rw[if_neg (show ¬((Value.ref t == Value.none)=true) from Bool.false_ne_true)]
 show wpAny _ _ (field (.ref it) 1 >>= _) _ _ s
 refine wpAny_bind (wpAny_field ho hd (x:=.int i 0) rfl ?_)
 show wpAny _ _ (seqItems? (.ref t) >>= _) _ _ s
 refine wpAny_bind (wpAny_seqItems hol hdl ?_)
 simp only[Int.toNat_natCast,hx]
 refine wpAny_bind (wpAny_setField ho hd (by simp) (wpAny_pure ⟨x,rfl,?_⟩))
 have hi:(s.heap.update it (Obj.mapFields (·.setIfInBounds 1 (rawInt ((i:Int)+1))))).IsTupleIter it t (i+1):=
  ⟨_,Heap.get?_update_self _ ho (Obj.isFreed_of_fields (Obj.data_mapFields hd _)),(Obj.cls_mapFields ..).trans hc,by rw[Obj.data_mapFields hd];simp[rawInt]⟩
 first
  | exact wpAny_pure (hQ _ hi (Heap.SameBut.update ..))
  | exact hQ _ hi (Heap.SameBut.update ..)
theorem oA {it t:Addr}{i:Nat}{items:Array Value}{Q:Value->Shared->Prop}(hh:A.handled=none)(hit:s.heap.IsTupleIter it t i)(ht:s.heap.IsTuple t items)(hx:items[i]?=none)
  (hE:∀h' e,Heap.ExtBut it s.heap h'->(∃o,h'.get? e=some o/\o.cls=.type "StopIteration")->E (.ref e) { s with heap:=h' }):wpAny (model prog w) A (Builtin.SmallTypes.nextOf (.ref it)) Q E s:=by
 obtain⟨o,ho,hc,hd⟩:=id hit
 obtain⟨ol,hol,_,nl,hdl⟩:=ht
 unfold Builtin.SmallTypes.nextOf
 refine wpAny_bind (wpAny_callSpecial?_slot (name:=Str.ofString "__next__") hit.typeIs PySem.F.slot_tuple_iterator_next (wpAny_call_entry PySem.F.slot_tuple_iterator_next hit.typeIs PySem.F.entry_tuple_iterator_next ?_ (PySem.F.args_tuple_iterator_next_1 _)))
 show wpAny _ _ (field (.ref it) 0 >>= _) _ _ s
 refine wpAny_bind (wpAny_field ho hd (x:=.ref t) rfl ?_)
 show wpAny _ _ (if (Value.ref t == Value.none)=true then _ else _) _ _ s
 rw[if_neg (show ¬((Value.ref t == Value.none)=true) from Bool.false_ne_true)]
 show wpAny _ _ (field (.ref it) 1 >>= _) _ _ s
 refine wpAny_bind (wpAny_field ho hd (x:=.int i 0) rfl ?_)
 show wpAny _ _ (seqItems? (.ref t) >>= _) _ _ s
 refine wpAny_bind (wpAny_seqItems hol hdl ?_)
 simp only[Int.toNat_natCast,hx]
 refine wpAny_bind (wpAny_rule (wpAny_bind (wpAny_setField ho hd (by simp) ?_)))
 show wpAny _ _ (newExc (.type "StopIteration") [] >>= _) _ _ _
 refine wpAny_bind ?_
 simp only[newExc,newTuple]
 refine wpAny_bind (wpAny_newObj_type ?_ (by size_fits))
 refine wpAny_bind (m:=firstArgMember _ _) (wpAny_of_eq (a:=Value.none) (by first | rfl | (simp only[firstArgMember];rfl)) ?_)
 refine wpAny_newObj_type ?_ (by size_fits)
 simp only[raiseNew]
 refine wpAny_bind (wpAny_handled ?_)
 rw[show A.in1.handled=none from hh]
 refine wpAny_bind (wpAny_pure (wpAny_throw ?_))
 exact hE _ _ (((Heap.SameBut.update ..).extBut.push _).push _) ⟨_,Heap.get?_push_size _ rfl,rfl⟩
theorem yt {z TI TO i1 i2 l1 l2:Addr}{k1 k2:Nat}{xs ys:Array Value}{x y a b:Value}{Q:Value->Shared->Prop}(D:ZipApart z TI TO i1 i2 l1 l2)
  (hz:IsZip s.heap z TI TO .none) (hTI:IsPair s.heap TI (.ref i1) (.ref i2)) (hTO:IsPair s.heap TO a b)
  (h1:s.heap.IsTupleIter i1 l1 k1) (h2:s.heap.IsListIter i2 l2 k2) (hl1:s.heap.IsTuple l1 xs) (hl2:s.heap.IsList l2 ys) (hx:xs[k1]?=some x) (hy:ys[k2]?=some y)
  (hQ:∀h',IsZip h' z TI TO (rawInt s.heap.objs.size)->IsPair h' TO x y->h'.IsTupleIter i1 l1 (k1+1)->h'.IsListIter i2 l2 (k2+1)->IsPair h' s.heap.objs.size x y->h'.objs.size=s.heap.objs.size+1->
   (∀c o,c≠z->c≠TO->c≠i1->c≠i2->s.heap.get? c=some o->h'.get? c=some o)->Q (.ref s.heap.objs.size) { s with heap:=h' }) :
  wpAny (model prog w) A (Builtin.«zip.__next__» ⟨[.ref z],[]⟩) (λfin s'=>∃v,fin=.done (.ret v)/\Q v s') E s:=by
 show wpAny _ _ (field (.ref z) 2 >>= _) _ _ _
 refine wpAny_bind (wpAny_field hz rfl (x:=.bool false) rfl ?_)
 show wpAny _ _ (field (.ref z) 3 >>= _) _ _ _
 refine wpAny_bind (wpAny_field hz rfl (x:=.ref TI) rfl (wpAny_bind (wpAny_seqItems hTI rfl ?_)))
 show wpAny _ _ (Builtin.SmallTypes.ownedTupleIsFree (.ref z) >>= _) _ _ _
 refine wpAny_bind ?_
 unfold Builtin.SmallTypes.ownedTupleIsFree
 refine wpAny_bind (wpAny_field hz rfl (x:=.none) rfl (wpAny_pure ?_))
 simp only[if_true]
 refine wpAny_bind (wpAny_rule (wpAny_bind (wpAny_field hz rfl (x:=.ref TO) rfl (wpAny_bind (wpAny_setField_rec hz (by simp) λg1 z1 b1=>?_)))))
 replace z1:IsZip g1 z TI TO .ellipsis:=z1
 refine wpAny_bind ?_
 simp only[List.zipIdx_cons,List.zipIdx_nil,List.forIn_cons,List.forIn_nil]
 refine wpAny_bind (wpAny_bind (wpAny_onRaise ?_))
 show wpAny _ _ (Builtin.SmallTypes.nextOf (.ref i1) >>= _) _ _ _
 refine wpAny_bind (vp (h1.extBut b1.extBut D.i1z) (hl1.extBut b1.extBut D.l1z) hx λg2 t2 b2=>wpAny_pure ?_)
 have o2:IsPair g2 TO a b:=b2.extBut _ _ D.TOi1 (b1.extBut _ _ D.TOz hTO)
 refine wpAny_bind (wpAny_seqItems o2 rfl (wpAny_bind (wpAny_updateSeq_pair o2 λg3 o3 b3=>wpAny_bind (wpAny_letGo (wpAny_pure ?_)))))
 replace o3:IsPair g3 TO x b:=o3
 refine wpAny_bind (wpAny_bind (wpAny_onRaise ?_))
 show wpAny _ _ (Builtin.SmallTypes.nextOf (.ref i2) >>= _) _ _ _
 refine wpAny_bind (wpAny_nextOf_list_item (((h2.extBut b1.extBut D.i2z).extBut b2.extBut D.i12.symm).extBut b3.extBut D.TOi2.symm) (((hl2.extBut b1.extBut D.l2z).extBut b2.extBut D.l2i1).extBut b3.extBut D.l2TO) hy λg4 t4 b4=>wpAny_pure ?_)
 have o4:IsPair g4 TO x b:=b4.extBut _ _ D.TOi2 o3
 refine wpAny_bind (wpAny_seqItems o4 rfl (wpAny_bind (wpAny_updateSeq_pair o4 λg5 o5 b5=>wpAny_bind (wpAny_letGo (wpAny_pure (wpAny_pure ?_))))))
 replace o5:IsPair g5 TO x y:=o5
 refine wpAny_bind (wpAny_seqItems o5 rfl (wpAny_bind (wpAny_newTuple ?_)))
 have sz:g5.objs.size=s.heap.objs.size:=by rw[b5.1,b4.1,b3.1,b2.1,b1.1]
 have z5:IsZip g5 z TI TO .ellipsis:=b5.extBut _ _ D.TOz.symm (b4.extBut _ _ D.i2z.symm (b3.extBut _ _ D.TOz.symm (b2.extBut _ _ D.i1z.symm z1)))
 have k5:∀c o,c≠z->c≠TO->c≠i1->c≠i2->s.heap.get? c=some o->g5.get? c=some o:=λc o c1 c2 c3 c4 e=>b5.extBut _ _ c2 (b4.extBut _ _ c4 (b3.extBut _ _ c2 (b2.extBut _ _ c3 (b1.extBut _ _ c1 e))))
 have t5:g5.IsTupleIter i1 l1 (k1+1):=((t2.extBut b3.extBut D.TOi1.symm).extBut b4.extBut D.i12).extBut b5.extBut D.TOi1.symm
 have l5:g5.IsListIter i2 l2 (k2+1):=t4.extBut b5.extBut D.TOi2.symm
 have zlt:z < g5.objs.size:=Heap.lt_size z5
 show wpAny _ _ (Builtin.SmallTypes.ownedTupleHandOut (.ref z) (.ref g5.objs.size) >>= _) _ _ _
 refine wpAny_bind ?_
 unfold Builtin.SmallTypes.ownedTupleHandOut
 have z6:IsZip (g5.push { cls:=.type "tuple",data:=.seq #[x,y] }) z TI TO .ellipsis:=Heap.get?_push_of_some _ z5
 refine wpAny_bind (wpAny_setField_rec z6 (by simp) λg7 z7 b7=>?_)
 replace z7:IsZip g7 z TI TO (rawInt g5.objs.size):=z7
 refine wpAny_setField_rec z7 (by simp) λg8 z8 b8=>?_
 replace z8:IsZip g8 z TI TO (rawInt g5.objs.size):=z8
 have up:∀c o,c≠z->g5.get? c=some o->g8.get? c=some o:=λc o c1 e=>b8.extBut _ _ c1 (b7.extBut _ _ c1 (Heap.get?_push_of_some _ e))
 have p8:IsPair g8 g5.objs.size x y:=b8.extBut _ _ (Nat.ne_of_gt zlt) (b7.extBut _ _ (Nat.ne_of_gt zlt) (Heap.get?_push_size _ rfl))
 have s8:g8.objs.size=g5.objs.size+1:=by rw[b8.1,b7.1,Heap.size_push]
 rw[sz] at z8 p8 s8
 refine wpAny_pure ⟨_,rfl,?_⟩
 show Q (.ref g5.objs.size) _
 rw[sz]
 obtain⟨e1,q1,r1⟩:=t5
 obtain⟨e2,q2,r2⟩:=l5
 exact hQ g8 z8 (up _ _ D.TOz o5) ⟨e1,up _ _ D.i1z q1,r1⟩ ⟨e2,up _ _ D.i2z q2,r2⟩ p8 s8 λc o c1 c2 c3 c4 e=>up c o c1 (k5 c o c1 c2 c3 c4 e)
theorem yu {z TI TO i1 i2 l1 l2:Addr}{k1 k2:Nat}{xs ys:Array Value}{x y a b:Value}{Q:Option Value->Shared->Prop}(D:ZipApart z TI TO i1 i2 l1 l2)
  (hz:IsZip s.heap z TI TO .none) (hTI:IsPair s.heap TI (.ref i1) (.ref i2)) (hTO:IsPair s.heap TO a b)
  (h1:s.heap.IsTupleIter i1 l1 k1) (h2:s.heap.IsListIter i2 l2 k2) (hl1:s.heap.IsTuple l1 xs) (hl2:s.heap.IsList l2 ys) (hx:xs[k1]?=some x) (hy:ys[k2]?=some y)
  (hQ:∀h',IsZip h' z TI TO (rawInt s.heap.objs.size)->IsPair h' TO x y->h'.IsTupleIter i1 l1 (k1+1)->h'.IsListIter i2 l2 (k2+1)->IsPair h' s.heap.objs.size x y->h'.objs.size=s.heap.objs.size+1->
   (∀c o,c≠z->c≠TO->c≠i1->c≠i2->s.heap.get? c=some o->h'.get? c=some o)->Q (some (.ref s.heap.objs.size)) { s with heap:=h' }):wpAny (model prog w) A (pyNext (.ref z)) Q E s:=by
 have hT:s.TypeIs (.ref z) "zip":=⟨_,hz,rfl⟩
 unfold pyNext
 exact wpAny_bind (wpAny_attempt (wpAny_callSpecial?_slot (name:=Str.ofString "__next__") hT PySem.F.slot_zip_next (wpAny_call_entry PySem.F.slot_zip_next hT PySem.F.entry_zip_next
  (yt D hz hTI hTO h1 h2 hl1 hl2 hx hy λh' a1 a2 a3 a4 a5 a6 a7=>wpAny_pure (hQ h' a1 a2 a3 a4 a5 a6 a7)) (PySem.F.args_zip_next_1 _))))
theorem AE {z TI TO i1 i2 l1 l2:Addr}{k1 k2:Nat}{xs:Array Value}{a b:Value}{Q:Option Value->Shared->Prop}(hh:A.handled=none)(D:ZipApart z TI TO i1 i2 l1 l2)
  (hz:IsZip s.heap z TI TO .none) (hTI:IsPair s.heap TI (.ref i1) (.ref i2)) (hTO:IsPair s.heap TO a b) (h1:s.heap.IsTupleIter i1 l1 k1) (hl1:s.heap.IsTuple l1 xs) (hx:xs[k1]?=none)
  (hQ:∀h',(∀c o,c≠z->c≠TO->c≠i1->c≠i2->s.heap.get? c=some o->h'.get? c=some o)->Q none { s with heap:=h' }):wpAny (model prog w) A (pyNext (.ref z)) Q E s:=by
 have hT:s.TypeIs (.ref z) "zip":=⟨_,hz,rfl⟩
 unfold pyNext
 refine wpAny_bind (wpAny_attempt (wpAny_callSpecial?_slot (name:=Str.ofString "__next__") hT PySem.F.slot_zip_next (wpAny_call_entry PySem.F.slot_zip_next hT PySem.F.entry_zip_next ?_ (PySem.F.args_zip_next_1 _))))
 show wpAny _ _ (field (.ref z) 2 >>= _) _ _ _
 refine wpAny_bind (wpAny_field hz rfl (x:=.bool false) rfl ?_)
 show wpAny _ _ (field (.ref z) 3 >>= _) _ _ _
 refine wpAny_bind (wpAny_field hz rfl (x:=.ref TI) rfl (wpAny_bind (wpAny_seqItems hTI rfl ?_)))
 show wpAny _ _ (Builtin.SmallTypes.ownedTupleIsFree (.ref z) >>= _) _ _ _
 refine wpAny_bind ?_
 unfold Builtin.SmallTypes.ownedTupleIsFree
 refine wpAny_bind (wpAny_field hz rfl (x:=.none) rfl (wpAny_pure ?_))
 simp only[if_true]
 refine wpAny_bind (wpAny_rule (wpAny_bind (wpAny_field hz rfl (x:=.ref TO) rfl (wpAny_bind (wpAny_setField_rec hz (by simp) λg1 z1 b1=>?_)))))
 replace z1:IsZip g1 z TI TO .ellipsis:=z1
 refine wpAny_bind ?_
 simp only[List.zipIdx_cons,List.zipIdx_nil,List.forIn_cons,List.forIn_nil]
 refine wpAny_bind (wpAny_bind (wpAny_onRaise ?_))
 show wpAny _ _ (Builtin.SmallTypes.nextOf (.ref i1) >>= _) _ _ _
 refine wpAny_bind (oA hh (h1.extBut b1.extBut D.i1z) (hl1.extBut b1.extBut D.l1z) hx λg2 e b2 he=>?_)
 obtain⟨oe,hoe,hce⟩:=he
 have z2:IsZip g2 z TI TO .ellipsis:=b2 _ _ D.i1z.symm z1
 have ez:e≠z:=λx=>by subst x;rw[z2] at hoe;cases hoe;simp at hce
 refine wpAny_setField_rec z2 (by simp) λg3 _ b3=>?_
 refine wpAny_bind (wpAny_isInstance (T:="StopIteration") (b:=true) ⟨oe,b3.extBut _ _ ez hoe,hce⟩ isSubtype_stop ?_)
 exact wpAny_pure (hQ _ λc o c1 _ c3 _ x=>b3.extBut _ _ c1 (b2 _ _ c3 (b1.extBut _ _ c1 x)))
end
section
variable {prog:Program} {w:World} {A:Around} {E:Value->Shared->Prop} {s:Shared}
noncomputable def zt1 (h:Heap)(l1:Addr):Heap:=h.push { cls:=.type "tuple_iterator",data:=.fields #[.ref l1,.int 0 0] }
noncomputable def zt2 (h:Heap)(l1 l2:Addr):Heap:=(zt1 h l1).push { cls:=.type "list_iterator",data:=.fields #[.ref l2,.int 0 0] }
noncomputable def zt3 (h:Heap)(l1 l2:Addr):Heap:=(zt2 h l1 l2).push { cls:=.type "tuple",data:=.seq #[.ref h.objs.size,.ref (zt1 h l1).objs.size] }
noncomputable def zt4 (h:Heap)(l1 l2:Addr):Heap:=(zt3 h l1 l2).push { cls:=.type "tuple",data:=.seq #[.none,.none] }
noncomputable def zt5 (h:Heap)(l1 l2:Addr):Heap:=(zt4 h l1 l2).push { cls:=.type "zip",data:=.fields #[.none,.bool false,.bool false,.ref (zt2 h l1 l2).objs.size,.ref (zt3 h l1 l2).objs.size] }
theorem vq (l1 l2:Addr)(xs ys:Array Value) :
  Meets (Builtin.«zip.__new__» ⟨[.type "zip",.ref l1,.ref l2],[]⟩) (λ_ R s=>s.heap.IsTuple l1 xs/\s.heap.IsList l2 ys/\R (.ok (.ret (.ref (zt4 s.heap l1 l2).objs.size))) { s with heap:=zt5 s.heap l1 l2 }):=
 .of_wp λprog w A R s h=>by
  obtain⟨hp,g,d,tk,os⟩:=s;obtain⟨hl1,hl2,h⟩:=h
  have hsub:=sub_zip
  have hL1:Heap.IsTuple (Shared.heap ⟨hp,g,d,tk,os⟩) l1 xs:=hl1
  have hL2:Heap.IsList (Shared.heap ⟨hp.push { cls:=.type "tuple_iterator",data:=.fields #[.ref l1,.int 0 0] },g,d,tk,os⟩) l2 ys:=Heap.IsList.push hl2 _
  wp_walk using wpAny_pyIter_tuple hL1,wpAny_pyIter_list hL2
  exact⟨_,rfl,h⟩
theorem yv {l1 l2:Addr}{xs ys:Array Value}{Q:Value->Shared->Prop}(hl1:s.heap.IsTuple l1 xs)(hl2:s.heap.IsList l2 ys)
  (h:∀h',IsZip h' (s.heap.objs.size+4) (s.heap.objs.size+2) (s.heap.objs.size+3) .none->IsPair h' (s.heap.objs.size+2) (.ref s.heap.objs.size) (.ref (s.heap.objs.size+1))->
   IsPair h' (s.heap.objs.size+3) .none .none->h'.IsTupleIter s.heap.objs.size l1 0->h'.IsListIter (s.heap.objs.size+1) l2 0->
   (∀c o,s.heap.get? c=some o->h'.get? c=some o)->Q (.ref (s.heap.objs.size+4)) { s with heap:=h' }):wpAny (model prog w) A (call (.type "zip") [.ref l1,.ref l2]) Q E s:=by
 refine callType_new PySem.F.called_zip (by decide) (PySem.F.typeCall_zip_2 _ _) (PySem.F.newCall_zip_2 _ _) (λobj=>PySem.F.args_object_init_3 obj _ _) PySem.F.entry_zip_new (vq l1 l2 xs ys) ⟨hl1,hl2,?_⟩
 have z1:(zt1 s.heap l1).objs.size=s.heap.objs.size+1:=Heap.size_push ..
 have z2:(zt2 s.heap l1 l2).objs.size=s.heap.objs.size+2:=by unfold zt2;rw[Heap.size_push,z1]
 have z3:(zt3 s.heap l1 l2).objs.size=s.heap.objs.size+3:=by unfold zt3;rw[Heap.size_push,z2]
 have z4:(zt4 s.heap l1 l2).objs.size=s.heap.objs.size+4:=by unfold zt4;rw[Heap.size_push,z3]
 have g5:(zt5 s.heap l1 l2).get? (zt4 s.heap l1 l2).objs.size=some _:=Heap.get?_push_size _ rfl
 have g4:(zt5 s.heap l1 l2).get? (zt3 s.heap l1 l2).objs.size=some _:=Heap.get?_push_of_some _ (Heap.get?_push_size _ rfl)
 have g3:(zt5 s.heap l1 l2).get? (zt2 s.heap l1 l2).objs.size=some _:=Heap.get?_push_of_some _ (Heap.get?_push_of_some _ (Heap.get?_push_size _ rfl))
 have g2:(zt5 s.heap l1 l2).get? (zt1 s.heap l1).objs.size=some _:=Heap.get?_push_of_some _ (Heap.get?_push_of_some _ (Heap.get?_push_of_some _ (Heap.get?_push_size _ rfl)))
 have g1:(zt5 s.heap l1 l2).get? s.heap.objs.size=some _:=Heap.get?_push_of_some _ (Heap.get?_push_of_some _ (Heap.get?_push_of_some _ (Heap.get?_push_of_some _ (Heap.get?_push_size _ rfl))))
 show _/\_
 rw[z2,z3,z4] at g5
 rw[z1,z2] at g3
 rw[z3] at g4
 rw[z1] at g2
 rw[z4]
 exact⟨⟨_,g5,rfl⟩,h _ g5 g3 g4 ⟨_,g1,rfl,rfl⟩ ⟨_,g2,rfl,rfl⟩ λc o x=>Heap.get?_push_of_some _ (Heap.get?_push_of_some _ (Heap.get?_push_of_some _ (Heap.get?_push_of_some _ (Heap.get?_push_of_some _ x))))⟩
end
noncomputable def ItzT (K:W.Frag)(a b:Addr):It:=
 ⟨λi H=>∃xs ys x y,SqT K H a xs/\SqL K H b ys/\xs[i]?=some x/\ys[i]?=some y,
  λi H v H'=>∃T x y,v=.ref T/\H T=none/\H'=upd H T (.tup [x,y])/\(∀xs,SqT K H a xs->xs[i]?=some x)/\∀ys,SqL K H b ys->ys[i]?=some y,
  λi H=>∃xs ys,SqT K H a xs/\SqL K H b ys/\xs.length<=i⟩
theorem AF {X:Cx}{pins:List (Addr×Obj)}{σ:St}{H:Hp}{s:Shared}{a b:Addr}{xs:List V}(I:Inv X pins σ H s)(h:SqT X.K H a xs)(f:FpOk X pins H b):a≠b:=by
 intro z
 subst z
 rcases h with h | ⟨o,its,n,hk,_⟩
 ·rcases h with h | ⟨od,h⟩
  ·rw[f.1] at h;cases h
  ·rw[f.1] at h;cases h
 ·have e:=I.ok.mod.kin _ _ hk
  rcases f.2.2.2.1 with q | q
  ·exact I.ok.noex a o e q
  ·exact absurd (Nat.lt_of_lt_of_le (Heap.lt_size (I.ok.bs a o e).1) q) (Nat.lt_irrefl _)
theorem yw {P:Program}{w:World}{K:W.Frag}{elts:List Expr}{k0:Nat}{pos:Pos}(a b z TI TO i1 i2:Addr)(h12:i1≠i2)(hTT:TI≠TO) :
  Turn P w K (.Tuple elts k0 pos) (ItzT K a b) [z,TI,TO,i1,i2] z (λi h=>IsZip h z TI TO .none/\IsPair h TI (.ref i1) (.ref i2)/\(∃x y,IsPair h TO x y)/\h.IsTupleIter i1 a i/\h.IsListIter i2 b i) where
 mem:=by simp
 obj:=λi h st c hc=>by
  obtain⟨hz,hTI,⟨x,y,hTO⟩,⟨o1,e1,c1,d1⟩,⟨o2,e2,c2,d2⟩⟩:=st
  simp only[List.mem_cons,List.not_mem_nil,or_false] at hc
  rcases hc with rfl | rfl | rfl | rfl | rfl
  ·exact⟨_,hz,λv q=>by cases q⟩
  ·exact⟨_,hTI,λv q=>by cases q⟩
  ·exact⟨_,hTO,λv q=>by cases q⟩
  ·exact⟨_,e1,λv q=>by rw[d1] at q;cases q⟩
  ·exact⟨_,e2,λv q=>by rw[d2] at q;cases q⟩
 keep:=λi h h' st k=>by
  obtain⟨hz,hTI,⟨x,y,hTO⟩,⟨o1,e1,r1⟩,h2⟩:=st
  exact⟨k _ (by simp) _ hz,k _ (by simp) _ hTI,⟨x,y,k _ (by simp) _ hTO⟩,⟨o1,k _ (by simp) _ e1,r1⟩,h2.at λo e=>k _ (by simp) o e⟩
 item:=by
  intro X hP hw hK hc i pins s σ H E I hf st hg
  subst hP hw hK
  obtain⟨hz,hTI,⟨x0,y0,hTO⟩,h1,h2⟩:=st
  obtain⟨xs,ys,x,y,hx,hy,ex,ey⟩:=hg
  obtain⟨its,rv,p,_⟩:=I.tuple hx
  obtain⟨its',rv',p',_⟩:=I.list hy
  obtain⟨u,hu,ru⟩:=rv.get ex
  obtain⟨u',hu',ru'⟩:=rv'.get ey
  have hp:s.heap.IsTuple a its.toArray:=p
  have D:ZipApart z TI TO i1 i2 a b:=by
   obtain⟨o1,e1,c1,d1⟩:=id h1
   obtain⟨o2,e2,c2,d2⟩:=id h2
   obtain⟨oa,ea,ca,_⟩:=id hp
   obtain⟨ob,eb,cb,_⟩:=id p'.isList
   have ne:∀{c d:Addr} {o o':Obj},s.heap.get? c=some o->s.heap.get? d=some o'->o.cls≠o'.cls->c≠d:=λ{c d o o'} h h' n q=>by
    subst q
    rw[h] at h'
    cases h'
    exact n rfl
   exact⟨ne hTI hz (by simp),ne hTO hz (by simp),ne e1 hz (by rw[c1];simp),ne e2 hz (by rw[c2];simp),hTT,ne hTI e1 (by rw[c1];simp),ne hTI e2 (by rw[c2];simp),ne hTO e1 (by rw[c1];simp),ne hTO e2 (by rw[c2];simp),h12,
    ne ea hz (by rw[ca];simp),AF I hx (hf TO (by simp)),ne ea e1 (by rw[ca,c1];simp),ne ea e2 (by rw[ca,c2];simp),ne eb hz (by rw[cb];simp),ne eb hTO (by rw[cb];simp),ne eb e1 (by rw[cb,c1];simp),ne eb e2 (by rw[cb,c2];simp)⟩
  refine yu D hz hTI hTO h1 h2 hp p'.isList (x:=u) (y:=u') (by simpa using hu) (by simpa using hu') λh' a1 a2 a3 a4 a5 a6 hk=>?_
  refine⟨_,rfl,wpAny_letOwnedTupleGo_zip a1 λh'' hz'' sb=>?_⟩
  have fT:FpOk X pins H s.heap.objs.size:=I.fpOk (Nat.le_refl _) I.fresh
  have I1:Inv X pins σ H { s with heap:=h'' }:=I.turnedL (t':=s.toks) (l:=[z,TI,TO,i1,i2]) (λc o hc e=>sb.extBut _ _ (λq=>hc (by simp[q])) (hk c o (λq=>hc (by simp[q])) (λq=>hc (by simp[q])) (λq=>hc (by simp[q])) (λq=>hc (by simp[q])) e)) hf
  have hTz:s.heap.objs.size≠z:=Nat.ne_of_gt (Heap.lt_size hz)
  have hT'':h''.get? s.heap.objs.size=some { cls:=.type "tuple",data:=.seq #[u,u'] }:=sb.extBut _ _ hTz a5
  have I2:Inv X pins σ (upd H s.heap.objs.size (.tup [x,y])) { s with heap:=h'' }:=I1.track (t':=s.toks) fT ⟨(by show 2<=sizeLine;decide),[u,u'],.cons ru (.cons ru' .nil),_,hT'',rfl,_,rfl⟩ (λ_ _=>trivial)
  refine⟨.ref s.heap.objs.size,_,I2,rfl,⟨_,x,y,rfl,I.fresh,rfl,λzs hq=>by rw[I.pU hq hx];exact ex,λzs hq=>by rw[I.gB hq hy];exact ey⟩,?_,λc hc=>?_⟩
  ·exact⟨hz'',sb.extBut _ _ D.TIz (hk _ _ D.TIz D.TITO D.TIi1 D.TIi2 hTI),⟨u,u',sb.extBut _ _ D.TOz a2⟩,a3.extBut sb.extBut D.i1z,a4.extBut sb.extBut D.i2z⟩
  ·have hcl:c < s.heap.objs.size:=by
    obtain⟨o1,e1,_⟩:=h1
    obtain⟨o2,e2,_⟩:=h2
    simp only[List.mem_cons,List.not_mem_nil,or_false] at hc
    rcases hc with rfl | rfl | rfl | rfl | rfl
    ·exact Heap.lt_size hz
    ·exact Heap.lt_size hTI
    ·exact Heap.lt_size hTO
    ·exact Heap.lt_size e1
    ·exact Heap.lt_size e2
   rw[aj (Nat.ne_of_lt hcl)]
   exact(hf c hc).1
 done:=by
  intro X hP hw hK hc i pins s σ H E I hf st hg
  subst hP hw hK
  obtain⟨hz,hTI,⟨x0,y0,hTO⟩,h1,h2⟩:=st
  obtain⟨xs,ys,hx,hy,hend⟩:=hg
  obtain⟨its,rv,p,_⟩:=I.tuple hx
  obtain⟨its',rv',p',_⟩:=I.list hy
  have hp:s.heap.IsTuple a its.toArray:=p
  have D:ZipApart z TI TO i1 i2 a b:=by
   obtain⟨o1,e1,c1,d1⟩:=id h1
   obtain⟨o2,e2,c2,d2⟩:=id h2
   obtain⟨oa,ea,ca,_⟩:=id hp
   obtain⟨ob,eb,cb,_⟩:=id p'.isList
   have ne:∀{c d:Addr} {o o':Obj},s.heap.get? c=some o->s.heap.get? d=some o'->o.cls≠o'.cls->c≠d:=λ{c d o o'} h h' n q=>by
    subst q
    rw[h] at h'
    cases h'
    exact n rfl
   exact⟨ne hTI hz (by simp),ne hTO hz (by simp),ne e1 hz (by rw[c1];simp),ne e2 hz (by rw[c2];simp),hTT,ne hTI e1 (by rw[c1];simp),ne hTI e2 (by rw[c2];simp),ne hTO e1 (by rw[c1];simp),ne hTO e2 (by rw[c2];simp),h12,
    ne ea hz (by rw[ca];simp),AF I hx (hf TO (by simp)),ne ea e1 (by rw[ca,c1];simp),ne ea e2 (by rw[ca,c2];simp),ne eb hz (by rw[cb];simp),ne eb hTO (by rw[cb];simp),ne eb e1 (by rw[cb,c1];simp),ne eb e2 (by rw[cb,c2];simp)⟩
  have l1:=rv.length
  refine AE (k2:=0) (I.ok.hd hc) D hz hTI hTO h1 hp (by simp;omega) λh' hk=>⟨rfl,?_⟩
  exact I.turnedL (t':=s.toks) (l:=[z,TI,TO,i1,i2]) (λc o hc e=>hk c o (λq=>hc (by simp[q])) (λq=>hc (by simp[q])) (λq=>hc (by simp[q])) (λq=>hc (by simp[q])) e) hf
 self:=λ_ _ _ _ _ st h=>wpAny_pyIter_zip st.1 h
section
variable {X:Cx}
noncomputable def iZipT (K:W.Frag)(ta:TA):TI:=λσ H R=>ta σ H λvs H1=>∃a b xs ys,vs=[.ref a,.ref b]/\SqT K H1 a xs/\SqL K H1 b ys/\R (ItzT K a b) H1
theorem Cb {K:W.Frag}{elts:List Expr}{k0:Nat}{tpos:Pos}{a b:Expr}{ta:TA}{p pos:Pos}(hg:Gl X "zip")(hm:X.mg "zip"=none)(ha:PA X [a,b] ta)(hs:autoParam (starEach [a,b] X.env=[(false,eval a X.env),(false,eval b X.env)]) L2.dft3._auto_1)(hs2:autoParam (starEach [b] X.env=[(false,eval b X.env)]) L2.dft3._auto_1)
  (hK:autoParam (X.K=K) L2.dft3._auto_1):PI X (.Tuple elts k0 tpos) (.Call (.Name "zip" p) [a,b] [] pos) (iZipT K ta):=by
 subst hK
 intro pins s σ H R I h
 refine Call_ (dw I hg hm boot_zip (PyProof.Rows.callWith_type1 (thnA (ha pos pins s σ H _ I h) λus s1 vs H1 I1 r1 q1=>?_) (by rw[hs,hs2]) (by rw[hs2];rfl)))
 obtain⟨l1,l2,xs,ys,rfl,hx,hy,q⟩:=q1
 obtain⟨u,v,rfl,ru,rv⟩:=vals2 r1
 cases ru
 cases rv
 obtain⟨its,rx,px,_⟩:=I1.tuple hx
 obtain⟨its',ry,py,_⟩:=I1.list hy
 refine yv (xs:=its.toArray) px py.isList λh' z1 z2 z3 z4 z5 hk=>?_
 have I2:Inv X pins σ H1 { s1 with heap:=h' }:=I1.kept (t':=s1.toks) hk
 refine wpAny_pyIter_zip z1 ⟨_,_,_,_,H1,rfl,I2,yw l1 l2 _ _ _ _ _ (Nat.ne_of_lt (Nat.lt_succ_self _)) (Nat.ne_of_lt (Nat.lt_succ_self _)),⟨z1,z2,⟨_,_,z3⟩,z4,z5⟩,λc hc=>?_,q⟩
 have hcl:s1.heap.objs.size<=c:=by
  simp only[List.mem_cons,List.not_mem_nil,or_false] at hc
  rcases hc with rfl | rfl | rfl | rfl | rfl<;>omega
 exact I1.fpOk hcl (I1.hok.fresh hcl)
end
theorem yx {K:W.Frag}{a b:Addr}{xs ys:List V}{g:TG}{tb:TS}{D:Ends}{σ:St}{H:Hp}(Pv:Nat->St->Hp->Prop)(hxy:xs.length=ys.length)(h0:Pv 0 σ H)(hl:∀i σ H,i<=xs.length->Pv i σ H->SqT K H a xs/\SqL K H b ys)
  (hs:∀i x y T σ H,xs[i]?=some x->ys[i]?=some y->H T=none->Pv i σ H->g (.ref T) σ (upd H T (.tup [x,y])) λσ2 H2=>tb { D with nx:=Pv (i+1),ct:=Pv (i+1),bk:=D.nx } σ2 H2)
  (hd:∀σ H,Pv xs.length σ H->D.nx σ H):forW (ItzT K a b) g tb D σ H:=by
 refine⟨λi m σ H=>m=xs.length - i/\i<=xs.length/\Pv i σ H,⟨_,rfl,Nat.zero_le _,h0⟩,?_⟩
 rintro i m σ H ⟨rfl,hi,p⟩
 obtain⟨lx,ly⟩:=hl i σ H hi p
 by_cases hlt:i < xs.length
 ·refine .inr ⟨⟨xs,ys,xs[i],ys[i]'(by omega),lx,ly,by simp,by simp⟩,Pv (i+1),λσ' H' p'=>⟨xs.length - (i+1),by omega,rfl,hlt,p'⟩,λv H' y=>?_⟩
  obtain⟨T,x,y,rfl,hT,rfl,h1,h2⟩:=y
  exact hs i x y T σ _ (h1 xs lx) (h2 ys ly) hT p
 ·have e:i=xs.length:=by omega
  subst e
  exact .inl ⟨⟨xs,ys,lx,ly,Nat.le_refl _⟩,hd σ H p⟩
theorem AG (z:Str)(l:List Str):inV (.str z) (l.map V.str)=decide (z∈l):=by
 unfold inV
 induction l with
 | nil=>rfl
 | cons x r ih=>
  rw[List.map_cons,List.any_cons,ih]
  show((x == z) || decide (z∈r))=_
  by_cases e:z=x
  ·subst e;simp
  ·have e1:(x == z)=false:=by rw[beq_eq_false_iff_ne];exact Ne.symm e
   rw[e1];simp[e]
noncomputable abbrev Part:=Str×V×List Nat
noncomputable def evK (n:Str)(ps:List Part):List (Key×V):=(.inr "event",.str n)::ps.map λx=>(.inr x.1,x.2.1)
structure EvOk (n:Str)(ps:List Part):Prop where
 part:∀x∈ps,PartV x.1 x.2.1 x.2.2/\x.2.2.length<=201/\∀c∈x.2.2,c < 128
 nd:((Str.ofString "event")::ps.map (·.1)).Nodup
 len:ps.length<=7
noncomputable def hailP (n:List Nat)(k:Nat):List Part:=[("sender",.str (S n),n),("life",.int (k:Int),strI (k:Int))]
noncomputable def putP (n:List Nat)(k dd r pl:Nat)(key:List Nat)(wo:Option (List Nat)):List Part:=
 [("sender",.str (S n),n),("number",.int (k:Int),strI (k:Int)),("deed",.int (dd:Int),strI (dd:Int)),("row",.int (r:Int),strI (r:Int)),("place",.int (pl:Int),strI (pl:Int)),("key",.str (S key),key),("word",wV wo,wordT wo)]
inductive EvN (ph pp:Addr):Str->List Str->Addr->Prop
 | hail:EvN ph pp "hail" ["sender","life"] ph
 | put:EvN ph pp "put" ["sender","number","deed","row","place","key","word"] pp
noncomputable def tL (ph pp:Addr):Sp:=λvs H Q _=>∃(n:Str) (p pa:Addr) (ps:List Part),vs=[.str n,.ref p]/\H p=some (.lst (ps.map λx=>x.2.1))/\EvN ph pp n (ps.map (·.1)) pa/\EvOk n ps/\
 ∀D H',H D=none->Same H H'->H' D=some (.dK (evK n ps))->Q (.ref D) H'
noncomputable def tM (ph pp:Addr):Sp:=λvs H Q _=>∃(n:Str) (D pa:Addr) (ps:List Part),vs=[.ref D]/\H D=some (.dK (evK n ps))/\EvN ph pp n (ps.map (·.1)) pa/\EvOk n ps/\
 ∀b H',Same H H'->okB b->Q (.str (S b)) H'
theorem yy {kvs:List (Key×V)}{k:Key}{v:V}(h:k∉kvs.map (·.1)):putK kvs k v=kvs++[(k,v)]:=by
 unfold putK
 rw[if_neg]
 rw[List.any_eq_true]
 rintro⟨x,hx,e⟩
 exact h (List.mem_map.mpr ⟨x,hx,by simpa using e⟩)
theorem mj {z:List Nat}{c:Nat}:∀{ls:List (List Nat)},c∈joinL z ls->c∈z\/∃l∈ls,c∈l
 | [],h=>by simp[joinL] at h
 | [a],h=>.inr ⟨a,by simp,by simpa [joinL] using h⟩
 | a::b::r,h=>by
  have h':c∈a++(z++joinL z (b::r)):=by simpa [joinL] using h
  rcases List.mem_append.mp h' with h1 | h1
  ·exact .inr ⟨a,by simp,h1⟩
  ·rcases List.mem_append.mp h1 with h2 | h2
   ·exact .inl h2
   ·rcases mj h2 with q | ⟨l,hl,q⟩
    ·exact .inl q
    ·exact .inr ⟨l,List.mem_cons_of_mem _ hl,q⟩
theorem oB {z:List Nat}{m:Nat}:∀{ls:List (List Nat)},(∀l∈ls,l.length<=m)->(joinL z ls).length<=ls.length * (m+z.length)
 | [],_=>by simp[joinL]
 | [a],h=>by have:=h a (by simp);simp[joinL];omega
 | a::b::r,h=>by
  have h1:=h a (by simp)
  have h2:=oB (z:=z) (ls:=b::r) λl hl=>h l (List.mem_cons_of_mem _ hl)
  have e:joinL z (a::b::r)=a++(z++joinL z (b::r)):=by simp[joinL]
  rw[e]
  simp only[List.length_append,List.length_cons] at h2 ⊢
  rw[Nat.add_mul (r.length+1) 1]
  omega
theorem CV {a:List Nat}(h:∀c∈a,c < 128):∀c∈gd a,c < 128:=by
 intro c hc
 unfold gd at hc
 obtain⟨x,hx,hc⟩:=List.mem_flatMap.mp hc
 have:=h x hx
 unfold gd1 at hc
 split at hc
 ·simp at hc;omega
 ·split at hc
  ·simp at hc;omega
  ·simp at hc;omega
theorem bodyB {n:List Nat}{ps:List Part}{m:Str}(ok:EvOk m ps)(hn:n.length<=8)(hc:∀c∈n,c < 128):okB (joinL [59] ((n::ps.map λx=>x.2.2).map gd)):=by
 constructor
 ·intro c h
  rcases mj h with q | ⟨l,hl,q⟩
  ·simp at q;omega
  ·obtain⟨a,ha,rfl⟩:=List.mem_map.mp hl
   refine CV ?_ c q
   rcases List.mem_cons.mp ha with rfl | ha
   ·exact hc
   ·obtain⟨x,hx,rfl⟩:=List.mem_map.mp ha
    exact(ok.part x hx).2.2
 ·have h1:=oB (z:=[59]) (m:=402) (ls:=(n::ps.map λx=>x.2.2).map gd) (λl hl=>by
   obtain⟨a,ha,rfl⟩:=List.mem_map.mp hl
   have:=rB a
   rcases List.mem_cons.mp ha with rfl | ha
   ·omega
   ·obtain⟨x,hx,rfl⟩:=List.mem_map.mp ha
    have:=(ok.part x hx).2.1
    omega)
  have h2:=ok.len
  simp at h1 ⊢
  omega
theorem vt {K:W.Frag}{te:TE}{σ:St}{H:Hp}{Q:VK}{a:Addr}{xs:List V}(hl:∀H,SqT K H a xs)(hn:xs.length<=sizeLine)(f:V->V)
  (he:∀x H',x∈xs->Same H H'->∀Qe:VK,(∀H'',Same H' H''->Qe (f x) H'')->te (some x::σ) H' Qe)
  (hd:∀D H',H D=none->Same H H'->H' D=some (.lst (xs.map f))->Q (.ref D) H'):compW (Itt K a) tYes te σ H Q:=λD hD=>
 jr (J:=Itt K a) xs.length hn hD (λi=>xs.getD i .non) (λi=>f (xs.getD i .non)) (λ_=>true) (λH' s=>⟨xs,hl H',Nat.le_refl _⟩)
  (λi H' s h=>⟨xs,xs[i],hl H',by simp⟩)
  (λi H' x H'' s hi y=>by
   obtain⟨rfl,z⟩:=y
   have hz:=z xs (hl _)
   refine⟨rfl,?_⟩
   rw[List.getD_eq_getElem?_getD,hz]
   rfl)
  (λi H' h s Qt q=>q H' (Same.refl _))
  (λi H' h hp s Qe q=>he _ H' (by rw[List.getD_eq_getElem?_getD,List.getElem?_eq_getElem h];exact List.getElem_mem h) s Qe q)
  (λH' s h=>hd D H' hD s (by
   rw[h]
   congr 2
   rw[cX]
   refine List.ext_getElem (by simp) λi h1 h2=>?_
   simp at h1 h2 ⊢
   rw[List.getElem?_eq_getElem h2]
   rfl))
theorem oC:∀{ps:List Part} {x:Part},(ps.map (·.1)).Nodup->x∈ps->valV (ps.map λy=>((.inr y.1:Key),y.2.1)) (.inr x.1)=some x.2.1
 | y::r,x,nd,hx=>by
  rw[List.map_cons,List.nodup_cons] at nd
  rw[List.map_cons]
  rcases List.mem_cons.mp hx with rfl | hx
  ·exact bY rfl
  ·rw[bM (λq=>nd.1 (by rw[Sum.inr.inj q];exact List.mem_map.mpr ⟨x,hx,rfl⟩))]
   exact oC nd.2 hx
noncomputable def partF (ps:List Part):V->V:=λv=>match v with
 | .str p=>.str (S (((ps.find? λx=>decide (x.1=p)).map λx=>x.2.2).getD []))
 | v=>v
theorem oE:∀{ps:List Part} {x:Part},(ps.map (·.1)).Nodup->x∈ps->partF ps (.str x.1)=.str (S x.2.2)
 | y::r,x,nd,hx=>by
  rw[List.map_cons,List.nodup_cons] at nd
  rcases List.mem_cons.mp hx with rfl | hx
  ·simp[partF]
  ·have h1:y.1≠x.1:=λq=>nd.1 (by rw[q];exact List.mem_map.mpr ⟨x,hx,rfl⟩)
   have:=oE nd.2 hx
   simp only[partF,List.find?_cons,h1,decide_false] at this ⊢
   exact this
theorem yz {ps:List Part}(nd:(ps.map (·.1)).Nodup):((ps.map (·.1)).map V.str).map (partF ps)=tx (ps.map λx=>x.2.2):=by
 unfold tx
 rw[List.map_map,List.map_map,List.map_map]
 refine List.map_congr_left λx hx=>?_
 exact oE nd hx
noncomputable def nameOk (l:List Nat):Prop:=formV (.str (S l)) 1 12 inN=true
noncomputable def keyOk (l:List Nat):Prop:=formV (.str (S l)) 1 24 okSign=true
noncomputable def wordOk (o:Option (List Nat)):Prop:=(decide (wV o=.non) || formV (wV o) 0 200 okSign)=true
noncomputable def tN:Sp:=λvs H Q _=>∃(p:Addr) (ls:List (List Nat)),vs=[.ref p]/\H p=some (.lst (tx ls))/\ls.length<=9/\(∀l∈ls,nameOk l/\l.length<=1000)/\∀H',Same H H'->Q .non H'
noncomputable def w3V (x:Int×Int×Int):List V:=[.int x.1,.int x.2.1,.int x.2.2]
noncomputable def rE:Sp:=λvs H Q _=>∃(p:Addr) (xs:List (Int×Int×Int)),vs=[.ref p]/\LTups H p (xs.map w3V)/\xs.length<=9/\(∀x∈xs,x.2.1<=x.1/\x.1<=x.2.2)/\∀H',Same H H'->Q .non H'
noncomputable def rF:Sp:=λvs H Q _=>∃(k:List Nat) (o:Option (List Nat)),vs=[.str (S k),wV o]/\keyOk k/\k.length<=1000/\wordOk o/\(∀w,o=some w->w.length<=1000)/\∀H',Same H H'->Q .non H'
noncomputable def tO:Sp:=λvs H Q _=>∃b:Bool,vs=[.bl b]/\Q .non H
structure CK where
 C:Addr
 S:Addr
 B:Addr
 H:Addr
 R:Addr
 N:Addr
 D:Addr
 Rd:Addr
structure CA where
 c:Addr
 st:Addr
 bk:Addr
 bl:Addr
 sh:Addr
 shl:Addr
 rl:Addr
 sn:Addr
 l:Addr
 t:Addr
 p:Addr
 de:Addr
 dl:Addr
 bz:Addr
 gr:Addr
 rd:Addr
 ra:Addr
 rb:Addr
 rs:List Addr
 ds:List Addr
structure CM where
 xs:List Shf
 Ms:List RowM
 S:SendM
 ls:List (List Nat)
noncomputable def CA.fix (A:CA):List Addr:=[A.c,A.st,A.bk,A.bl,A.sh,A.shl,A.rl,A.sn,A.l,A.t,A.p,A.de,A.dl,A.bz,A.gr,A.rd,A.ra,A.rb]++(A.rs++A.ds)
noncomputable def stF (A:CA):List (Str×V):=[("shelves",.ref A.sh),("rows",.ref A.rl),("senders",.ref A.sn),("deeds",.ref A.de),("groups",.ref A.gr),("readers",.ref A.rd),("turn",.int 0)]
noncomputable def ceF (A:CA):List (Str×V):=[("state",.ref A.st),("book",.ref A.bk)]
structure StAt (k:CK)(H:Hp)(A:CA)(Z:List Addr)(M:CM):Prop where
 sta:∃dx,H A.st=some (.ins k.S dx (stF A))
 shv:ShAt k.H H A.sh A.shl M.xs
 okx:OkShfs M.xs
 rowl:H A.rl=some (.lst (A.rs.map V.ref))
 row:∀(i:Nat) r d m,A.rs[i]?=some r->A.ds[i]?=some d->M.Ms[i]?=some m->RowAt k.R H r d m
 len:A.rs.length=startOf M.xs M.xs.length
 lend:A.ds.length=A.rs.length
 lenm:M.Ms.length=A.rs.length
 snd:SendAt k.N H A.sn A.l A.t A.p Z M.S
 dee:DeedsAt k.D 0 H A.de A.dl A.bz [] deeds0
 rdr:ReadAt k.Rd H A.rd A.ra A.rb read0
 grp:H A.gr=some (.dK [])
 zin:A.bl∈Z/\A.rl∈Z/\A.shl∈Z/\A.dl∈Z
 zo:∀b∈Z,∃o,H b=some o
 nd:A.fix.Nodup
structure CeAt (k:CK)(H:Hp)(A:CA)(Z:List Addr)(M:CM):Prop where
 cel:∃dx,H A.c=some (.ins k.C dx (ceF A))
 book:BookAt k.B H A.bk A.bl M.ls
 st:StAt k H A Z M
theorem iY {B:List Addr}{H H':Hp}(c:Chg B H H')(hb:∀b∈B,∃o,H' b=some o):∀b,(∃o,H b=some o)->∃o,H' b=some o:=λb ⟨o,e⟩=>by
 by_cases m:b∈B
 ·exact hb b m
 ·exact⟨o,c.keep _ _ e m⟩
theorem mi {l:List Addr}{x:Addr}(i:Nat)(h:l[i]?=some x):x∈l:=List.mem_of_getElem? h
theorem StAt.chg {B:List Addr}{k:CK}{H H':Hp}{A:CA}{Z:List Addr}{M:CM}(h:StAt k H A Z M)(c:Chg B H H')(hB:∀b∈B,b∉A.fix)(hz:∀b∈B,b∈Z\/∀xs,H b≠some (.lst xs))(hs:∀b∈B,∃o,H' b=some o):StAt k H' A Z M:=by
 have n:∀{a:Addr},a∈A.fix->a∉B:=λha hb=>hB _ hb ha
 have f:∀{a:Addr},a∈[A.c,A.st,A.bk,A.bl,A.sh,A.shl,A.rl,A.sn,A.l,A.t,A.p,A.de,A.dl,A.bz,A.gr,A.rd,A.ra,A.rb]->a∉B:=λha=>n (List.mem_append_left _ ha)
 obtain⟨dx,e⟩:=h.sta
 exact⟨⟨dx,c.keep _ _ e (f (mi 1 rfl))⟩,h.shv.chg c (f (mi 4 rfl)) (f (mi 5 rfl)),h.okx,c.keep _ _ h.rowl (f (mi 6 rfl)),
  λi r d m h1 h2 h3=>(h.row i r d m h1 h2 h3).chg c (n (List.mem_append_right _ (List.mem_append_left _ (List.mem_of_getElem? h1)))) (n (List.mem_append_right _ (List.mem_append_right _ (List.mem_of_getElem? h2)))),h.len,h.lend,h.lenm,
  h.snd.chg c (f (mi 7 rfl)) (f (mi 8 rfl)) (f (mi 9 rfl)) (f (mi 10 rfl)) hz,h.dee.chg c (f (mi 11 rfl)) (f (mi 12 rfl)) (f (mi 13 rfl)) (λ_ hu=>nomatch hu),h.rdr.chg c (f (mi 15 rfl)) (f (mi 16 rfl)) (f (mi 17 rfl)),c.keep _ _ h.grp (f (mi 14 rfl)),h.zin,λb hb=>iY c hs b (h.zo b hb),h.nd⟩
theorem StAt.same {k:CK}{H H':Hp}{A:CA}{Z:List Addr}{M:CM}(h:StAt k H A Z M)(s:Same H H'):StAt k H' A Z M:=h.chg (B:=[]) (Chg.of_same s) (λ_ z=>nomatch z) (λ_ z=>nomatch z) (λ_ z=>nomatch z)
theorem CeAt.chg {B:List Addr}{k:CK}{H H':Hp}{A:CA}{Z:List Addr}{M:CM}(h:CeAt k H A Z M)(c:Chg B H H')(hB:∀b∈B,b∉A.fix)(hz:∀b∈B,b∈Z\/∀xs,H b≠some (.lst xs))(hs:∀b∈B,∃o,H' b=some o):CeAt k H' A Z M:=by
 have f:∀{a:Addr},a∈[A.c,A.st,A.bk,A.bl,A.sh,A.shl,A.rl,A.sn,A.l,A.t,A.p,A.de,A.dl,A.bz,A.gr,A.rd,A.ra,A.rb]->a∉B:=λha hb=>hB _ hb (List.mem_append_left _ ha)
 obtain⟨dx,e⟩:=h.cel
 obtain⟨dx2,e2⟩:=h.book.obj
 exact⟨⟨dx,c.keep _ _ e (f (by simp))⟩,⟨⟨dx2,c.keep _ _ e2 (f (by simp))⟩,c.keep _ _ h.book.lst (f (by simp))⟩,h.st.chg c hB hz hs⟩
theorem CeAt.same {k:CK}{H H':Hp}{A:CA}{Z:List Addr}{M:CM}(h:CeAt k H A Z M)(s:Same H H'):CeAt k H' A Z M:=h.chg (B:=[]) (Chg.of_same s) (λ_ z=>nomatch z) (λ_ z=>nomatch z) (λ_ z=>nomatch z)
theorem iZ (A:CA):(stF A).lookup (Str.ofString "shelves")=some (.ref A.sh):=rfl
theorem kY (A:CA):(stF A).lookup (Str.ofString "rows")=some (.ref A.rl):=rfl
theorem cx (A:CA):(stF A).lookup (Str.ofString "senders")=some (.ref A.sn):=rfl
theorem qm (A:CA):(stF A).lookup (Str.ofString "deeds")=some (.ref A.de):=rfl
theorem eB (A:CA):(ceF A).lookup (Str.ofString "state")=some (.ref A.st):=rfl
theorem AH (A:CA):(ceF A).lookup (Str.ofString "book")=some (.ref A.bk):=rfl
noncomputable def CM.hail (M:CM)(n:Str):CM:={ M with S:=M.S.hail n }
noncomputable def CM.put (M:CM)(i:Nat)(m:RowM)(x:Ltr)(n:Str)(k:Int):CM:={ M with Ms:=M.Ms.set i (m.add x),S:=M.S.note n k ((i:Int),m.last) }
theorem CA.rG {A:CA}(nd:A.fix.Nodup){a:Addr}(ha:a∈[A.c,A.st,A.bk,A.bl,A.sh,A.shl,A.rl,A.sn,A.l,A.t,A.p,A.de,A.dl,A.bz,A.gr,A.rd,A.ra,A.rb]):a∉A.rs/\a∉A.ds:=by
 unfold CA.fix at nd
 have:=(List.nodup_append.mp nd).2.2
 exact⟨λz=>this a ha a (List.mem_append_left _ z) rfl,λz=>this a ha a (List.mem_append_right _ z) rfl⟩
theorem CA.nd18 {A:CA}(nd:A.fix.Nodup):[A.c,A.st,A.bk,A.bl,A.sh,A.shl,A.rl,A.sn,A.l,A.t,A.p,A.de,A.dl,A.bz,A.gr,A.rd,A.ra,A.rb].Nodup:=(List.nodup_append.mp nd).1
theorem CA.ndR {A:CA}(nd:A.fix.Nodup):(A.rs++A.ds).Nodup:=(List.nodup_append.mp nd).2.1
theorem bb {l A:List Addr}{x:Addr}(h:l.Nodup)(i:Nat)(js:List Nat)(hx:l[i]?=some x)(hA:A.map some=js.map λj=>l[j]?)(hij:i∉js):x∉A:=λm=>by
 have m2:some x∈A.map some:=List.mem_map.mpr ⟨x,m,rfl⟩
 rw[hA] at m2
 obtain⟨j,hj,ej⟩:=List.mem_map.mp m2
 obtain⟨hi,ei⟩:=List.getElem?_eq_some_iff.mp hx
 obtain⟨hj',ej'⟩:=List.getElem?_eq_some_iff.mp ej
 have hne:i≠j:=λz=>hij (by rw[z];exact hj)
 have hp:=List.pairwise_iff_getElem.mp h
 rcases Nat.lt_or_gt_of_ne hne with z | z
 ·exact hp i j hi hj' z (ei.trans ej'.symm)
 ·exact hp j i hj' hi z (ej'.trans ei.symm)
theorem StAt.sends {k:CK}{H H':Hp}{A:CA}{Z:List Addr}{M:CM}{S':SendM}(h:StAt k H A Z M)(c:Chg [A.l,A.t,A.p] H H')(s':SendAt k.N H' A.sn A.l A.t A.p Z S'):StAt k H' A Z { M with S:=S' }:=by
 have n18:=CA.nd18 h.nd
 have nr:∀a∈[A.l,A.t,A.p],a∉A.rs/\a∉A.ds:=λa ha=>CA.rG h.nd (by
  simp only[List.mem_cons,List.not_mem_nil,or_false] at ha
  rcases ha with rfl | rfl | rfl
  ·exact mi 8 rfl
  ·exact mi 9 rfl
  ·exact mi 10 rfl)
 obtain⟨dx,e⟩:=h.sta
 have hs:∀b∈[A.l,A.t,A.p],∃o,H' b=some o:=λb hb=>by
  obtain⟨k1,e1,_⟩:=s'.liv
  obtain⟨k2,e2,_⟩:=s'.las
  obtain⟨k3,e3,_⟩:=s'.spo
  simp only[List.mem_cons,List.not_mem_nil,or_false] at hb
  rcases hb with rfl | rfl | rfl
  ·exact⟨_,e1⟩
  ·exact⟨_,e2⟩
  ·exact⟨_,e3⟩
 refine⟨⟨dx,c.keep _ _ e (bb n18 1 [8,9,10] rfl rfl (by decide))⟩,h.shv.chg c (bb n18 4 [8,9,10] rfl rfl (by decide)) (bb n18 5 [8,9,10] rfl rfl (by decide)),h.okx,c.keep _ _ h.rowl (bb n18 6 [8,9,10] rfl rfl (by decide)),λi r d m h1 h2 h3=>?_,h.len,h.lend,h.lenm,s',
  h.dee.chg c (bb n18 11 [8,9,10] rfl rfl (by decide)) (bb n18 12 [8,9,10] rfl rfl (by decide)) (bb n18 13 [8,9,10] rfl rfl (by decide)) (λ_ hu=>nomatch hu),h.rdr.chg c (bb n18 15 [8,9,10] rfl rfl (by decide)) (bb n18 16 [8,9,10] rfl rfl (by decide)) (bb n18 17 [8,9,10] rfl rfl (by decide)),c.keep _ _ h.grp (bb n18 14 [8,9,10] rfl rfl (by decide)),h.zin,λb hb=>iY c hs b (h.zo b hb),h.nd⟩
 have m1:=List.mem_of_getElem? h1
 have m2:=List.mem_of_getElem? h2
 exact(h.row i r d m h1 h2 h3).chg c (λz=>(nr r z).1 m1) (λz=>(nr d z).2 m2)
theorem mq {l:List Addr}(nd:l.Nodup){i j:Nat}{a:Addr}(h1:l[i]?=some a)(h2:l[j]?=some a):i=j:=by
 by_cases e:i=j
 ·exact e
 ·exact absurd rfl (ER nd h1 h2 e)
theorem StAt.rowd {k:CK}{H H':Hp}{A:CA}{Z:List Addr}{M:CM}{i:Nat}{r d:Addr}{m':RowM}(h:StAt k H A Z M)(hr:A.rs[i]?=some r)(hd:A.ds[i]?=some d)(c:Chg [r,d] H H')(R':RowAt k.R H' r d m'):StAt k H' A Z { M with Ms:=M.Ms.set i m' }:=by
 have mr:=List.mem_of_getElem? hr
 have md:=List.mem_of_getElem? hd
 have f:∀{a:Addr},a∈[A.c,A.st,A.bk,A.bl,A.sh,A.shl,A.rl,A.sn,A.l,A.t,A.p,A.de,A.dl,A.bz,A.gr,A.rd,A.ra,A.rb]->a∉[r,d]:=λha z=>by
  have:=CA.rG h.nd ha
  simp only[List.mem_cons,List.not_mem_nil,or_false] at z
  rcases z with rfl | rfl
  ·exact this.1 mr
  ·exact this.2 md
 have ndR:=CA.ndR h.nd
 have ndr:=(List.nodup_append.mp ndR).1
 have ndd:=(List.nodup_append.mp ndR).2.1
 have ndx:=(List.nodup_append.mp ndR).2.2
 obtain⟨dx,e⟩:=h.sta
 obtain⟨dxr,er⟩:=R'.obj
 obtain⟨kd,ed,_⟩:=R'.dict
 have hs:∀b∈[r,d],∃o,H' b=some o:=λb hb=>by
  simp only[List.mem_cons,List.not_mem_nil,or_false] at hb
  rcases hb with rfl | rfl
  ·exact⟨_,er⟩
  ·exact⟨_,ed⟩
 have hi:i < A.rs.length:=(List.getElem?_eq_some_iff.mp hr).1
 have hz:∀b∈[r,d],b∈Z\/∀xs,H b≠some (.lst xs):=λb hb=>.inr λxs z=>by
  have hm:M.Ms[i]?=some (M.Ms[i]'(by rw[h.lenm];exact hi)):=by simp
  obtain⟨dx0,e0⟩:=(h.row i r d _ hr hd hm).obj
  obtain⟨kv0,e1,_⟩:=(h.row i r d _ hr hd hm).dict
  simp only[List.mem_cons,List.not_mem_nil,or_false] at hb
  rcases hb with rfl | rfl
  ·rw[e0] at z;cases z
  ·rw[e1] at z;cases z
 refine⟨⟨dx,c.keep _ _ e (f (mi 1 rfl))⟩,h.shv.chg c (f (mi 4 rfl)) (f (mi 5 rfl)),h.okx,c.keep _ _ h.rowl (f (mi 6 rfl)),λj r1 d1 m1 h1 h2 h3=>?_,h.len,h.lend,by simp[h.lenm],
  h.snd.chg c (f (mi 7 rfl)) (f (mi 8 rfl)) (f (mi 9 rfl)) (f (mi 10 rfl)) hz,h.dee.chg c (f (mi 11 rfl)) (f (mi 12 rfl)) (f (mi 13 rfl)) (λ_ hu=>nomatch hu),h.rdr.chg c (f (mi 15 rfl)) (f (mi 16 rfl)) (f (mi 17 rfl)),c.keep _ _ h.grp (f (mi 14 rfl)),h.zin,λb hb=>iY c hs b (h.zo b hb),h.nd⟩
 by_cases ej:j=i
 ·subst ej
  rw[hr] at h1
  rw[hd] at h2
  cases h1
  cases h2
  have:M.Ms.set j m'=M.Ms.set j m':=rfl
  rw[List.getElem?_set_self (by rw[h.lenm];exact hi)] at h3
  cases h3
  exact R'
 ·rw[List.getElem?_set_ne (Ne.symm ej)] at h3
  have q1:=List.mem_of_getElem? h1
  have q2:=List.mem_of_getElem? h2
  refine(h.row j r1 d1 m1 h1 h2 h3).chg c ?_ ?_
  ·simp only[List.mem_cons,List.not_mem_nil,or_false,not_or]
   exact⟨λz=>ej (mq ndr h1 (z▸hr)),λz=>ndx r1 q1 d md z⟩
  ·simp only[List.mem_cons,List.not_mem_nil,or_false,not_or]
   exact⟨λz=>ndx r mr d1 q2 z.symm,λz=>ej (mq ndd h2 (z▸hd))⟩
noncomputable def mv (k:CK):Sp:=λvs H Q _=>∃(A:CA) (Z:List Addr) (M:CM) (D:Addr) (n:List Nat) (kk:Nat),vs=[.ref A.st,.ref D]/\StAt k H A Z M/\H D=some (.dK (evK "hail" (hailP n kk)))/\M.S.sz<=100000/\M.S.L (S n)=none/\
 ∀H',Chg [A.l,A.t,A.p] H H'->StAt k H' A Z (M.hail (S n))->Q .non H'
noncomputable def oF (k:CK):Sp:=λvs H Q _=>∃(A:CA) (Z:List Addr) (M:CM) (D:Addr) (n:List Nat) (kk i pl:Nat) (key:List Nat) (wo:Option (List Nat)) (r d:Addr) (m:RowM),vs=[.ref A.st,.ref D]/\StAt k H A Z M/\H D=some (.dK (evK "put" (putP n kk 0 i pl key wo)))/\D≠d/\D≠A.t/\D≠A.p/\
 A.rs[i]?=some r/\A.ds[i]?=some d/\M.Ms[i]?=some m/\m.last<=10000/\M.S.sz<=100000/\(M.S.L (S n)).isSome=true/\(kk:Int)=M.S.T (S n)+1/\
 ∀H',Chg [r,d,A.l,A.t,A.p] H H'->StAt k H' A Z (M.put i m (key,wo,0) (S n) kk)->Q .non H'
noncomputable def yA (k:CK):Sp:=λvs H Q E=>∃(st D:Addr),vs=[.ref st,.ref D]/\((mv k [.ref st,.ref D] H Q E/\∃ps,H D=some (.dK (evK "hail" ps)))\/(oF k [.ref st,.ref D] H Q E/\∃ps,H D=some (.dK (evK "put" ps))))
theorem yB (n:List Nat)(k:Nat):valV (evK "hail" (hailP n k)) (.inr (Str.ofString "sender"))=some (.str (S n)):=by rfl
section
variable (n:List Nat) (k dd r pl:Nat) (key:List Nat) (wo:Option (List Nat))
theorem yC:valV (evK "put" (putP n k dd r pl key wo)) (.inr (Str.ofString "sender"))=some (.str (S n)):=by rfl
theorem yD:valV (evK "put" (putP n k dd r pl key wo)) (.inr (Str.ofString "number"))=some (.int (k:Int)):=by rfl
theorem wM:valV (evK "put" (putP n k dd r pl key wo)) (.inr (Str.ofString "deed"))=some (.int (dd:Int)):=by rfl
theorem Eb:valV (evK "put" (putP n k dd r pl key wo)) (.inr (Str.ofString "row"))=some (.int (r:Int)):=by rfl
theorem Ec:valV (evK "put" (putP n k dd r pl key wo)) (.inr (Str.ofString "key"))=some (.str (S key)):=by rfl
theorem Cc:valV (evK "put" (putP n k dd r pl key wo)) (.inr (Str.ofString "word"))=some (wV wo):=by rfl
end
theorem dg {H:Hp}{D:Addr}{kvs:List (Key×V)}{x:Str}{v:V}(h:H D=some (.dK kvs))(e:valV kvs (.inr x)=some v):DGet H D (.str x) (some v):=by
 have g:=DGet.k (k:=.inr x) h
 rw[e] at g
 exact g
noncomputable def tP (k:CK):Sp:=λvs H Q _=>∃(A:CA) (Z:List Addr) (M:CM) (n:List Nat) (kk:Nat),vs=[.ref A.st,.str (S n)]/\StAt k H A Z M/\nameOk n/\(kk:Int)=(M.S.L (S n)).getD 0+1/\kk < 10 ^ 9/\
 ∀t ev u D H',Same H H'->H ev=none->H D=none->H' t=some (.tup [.ref ev,.ref u])->H' ev=some (.lst [.ref D])->H' D=some (.dK (evK "hail" (hailP n kk)))->H' u=some (.tup [.int (kk:Int),.int (if (M.S.L (S n)).isSome=true then M.S.T (S n) else 0)])->Q (.ref t) H'
theorem nameOk.len {n:List Nat}(h:nameOk n):1<=n.length/\n.length<=12/\∀c∈n,c < 128:=by
 unfold nameOk formV at h
 simp only[bQ,Bool.and_eq_true,decide_eq_true_eq] at h
 refine⟨by omega,by omega,λc hc=>?_⟩
 have:=List.all_eq_true.mp h.2.2 c (by simpa [S] using hc)
 have h2:c∈T36:=by simpa [inN] using this
 have key:∀c∈T36,c < 128:=by decide
 exact key c h2
theorem oG {p:Str}{l:List Nat}(hp:p∈textsL):PartV p (.str (S l)) l:=.inl ⟨hp,rfl⟩
theorem i4 {p:Str}{m:Nat}(h1:p∉textsL)(h2:p ≠ "word")(h3:p ≠ "owner")(hm:m < 10 ^ 12):PartV p (.int (m:Int)) (strI (m:Int))/\(strI (m:Int)).length<=201/\∀c∈strI (m:Int),c < 128:=
 ⟨.inr (.inr ⟨h1,h2,h3,m,rfl,hm,rfl⟩),Nat.le_trans (rC (k:=12) (by decide) hm) (by decide),λc hc=>by have:=ow m c hc;omega⟩
theorem qo {n:List Nat}{k:Nat}(hn:nameOk n)(hk:k < 10 ^ 9):EvOk "hail" (hailP n k):=by
 obtain⟨_,n1,n2⟩:=hn.len
 refine⟨λx hx=>?_,by show List.Nodup [Str.ofString "event",Str.ofString "sender",Str.ofString "life"];decide +kernel,by show 2<=7;decide⟩
 simp only[hailP,List.mem_cons,List.not_mem_nil,or_false] at hx
 rcases hx with rfl | rfl
 ·exact⟨oG (p:="sender") (s!"d"),by show n.length<=201;omega,n2⟩
 ·exact i4 (p:="life") (s!"d") (s!"d") (s!"d") (by omega)
theorem keyOk.len {n:List Nat}(h:keyOk n):n.length<=24/\∀c∈n,c < 128:=by
 unfold keyOk formV at h
 simp only[bQ,Bool.and_eq_true,decide_eq_true_eq] at h
 refine⟨by omega,λc hc=>?_⟩
 have:=List.all_eq_true.mp h.2.2 c (by simpa [S] using hc)
 unfold okSign at this
 simp only[Bool.and_eq_true,decide_eq_true_eq] at this
 omega
theorem tQ {wo:Option (List Nat)}(h:wordOk wo)(hl:∀w,wo=some w->w.length<=200):(wordT wo).length<=201/\∀c∈wordT wo,c < 128:=by
 cases wo with
 | none=>exact⟨by decide,by decide⟩
 | some w=>
  have h0:=hl w rfl
  have h1:formV (.str (S w)) 0 200 okSign=true:=by
   unfold wordOk at h
   simpa [wV] using h
  unfold formV at h1
  simp only[bQ,Bool.and_eq_true,decide_eq_true_eq] at h1
  refine⟨by show w.length+1<=201;omega,λc hc=>?_⟩
  rcases List.mem_cons.mp hc with rfl | hc
  ·decide
  ·have:=List.all_eq_true.mp h1.2.2 c (by simpa [S] using hc)
   unfold okSign at this
   simp only[Bool.and_eq_true,decide_eq_true_eq] at this
   omega
theorem tS {n key:List Nat}{wo:Option (List Nat)}{k dd r pl:Nat}(hn:nameOk n)(hk:k < 10 ^ 10)(hd:dd < 10 ^ 10)(hr:r < 10 ^ 10)(hp:pl < 10 ^ 10)(hky:keyOk key)(hw:wordOk wo)(hwl:∀w,wo=some w->w.length<=200):EvOk "put" (putP n k dd r pl key wo):=by
 obtain⟨_,n1,n2⟩:=hn.len
 obtain⟨k1,k2⟩:=hky.len
 obtain⟨w1,w2⟩:=tQ hw hwl
 refine⟨λx hx=>?_,by show List.Nodup [Str.ofString "event",Str.ofString "sender",Str.ofString "number",Str.ofString "deed",Str.ofString "row",Str.ofString "place",Str.ofString "key",Str.ofString "word"];decide +kernel,by show 7<=7;decide⟩
 simp only[putP,List.mem_cons,List.not_mem_nil,or_false] at hx
 rcases hx with rfl | rfl | rfl | rfl | rfl | rfl | rfl
 ·exact⟨oG (p:="sender") (s!"d"),by show n.length<=201;omega,n2⟩
 ·exact i4 (p:="number") (s!"d") (s!"d") (s!"d") (by omega)
 ·exact i4 (p:="deed") (s!"d") (s!"d") (s!"d") (by omega)
 ·exact i4 (p:="row") (s!"d") (s!"d") (s!"d") (by omega)
 ·exact i4 (p:="place") (s!"d") (s!"d") (s!"d") (by omega)
 ·exact⟨oG (p:="key") (s!"d"),by show key.length<=201;omega,k2⟩
 ·exact⟨.inr (.inl ⟨rfl,wo,rfl,rfl⟩),w1,w2⟩
theorem kZ {k:CK}{H:Hp}{A:CA}{Z:List Addr}{M:CM}(h:StAt k H A Z M):A.rs.length<=9 * M.xs.length:=by
 rw[h.len]
 exact ia (λx hx=>(h.okx.each x hx).2.1.2) _
noncomputable def tT (C:Addr):Sp:=λvs H Q _=>∃(r dl bz:Addr),vs=[.ref r]/\DeedsAt C 0 H r dl bz [] deeds0/\∀p H',H p=none->Same H H'->H' p=some (.lst [])->Q (.ref p) H'
noncomputable def tU (k:CK):Sp:=λvs H Q _=>∃(A:CA) (Z:List Addr) (M:CM) (r:Nat) (m:RowM),vs=[.ref A.st,.int (r:Int)]/\StAt k H A Z M/\M.Ms[r]?=some m/\∀H',Same H H'->Q (.int m.last) H'
theorem oH {xs:List Shf}{r:Nat}:∀n,n<=xs.length->r < startOf xs n->∃k x,xs[k]?=some x/\startOf xs k<=r/\r < startOf xs (k+1)
 | 0,_,h=>by simp[startOf] at h
 | n+1,hn,h=>by
  by_cases e:r < startOf xs n
  ·exact oH n (by omega) e
  ·exact⟨n,xs[n]'(by omega),by simp,by omega,h⟩
noncomputable def vv:Sp:=λvs H Q _=>∃(p:Addr) (xs:List Shf),vs=[.ref p]/\LTups H p (xs.map Shf.v)/\OkShfs xs/\xs.length<=3/\∀b H',Same H H'->okB b->Q (.str (S b)) H'
structure St0 (k:CK)(H:Hp)(A:CA)(xs:List Shf):Prop where
 sta:∃dx,H A.st=some (.ins k.S dx (stF A))
 shv:ShAt k.H H A.sh A.shl xs
 okx:OkShfs xs
 rowl:H A.rl=some (.lst (A.rs.map V.ref))
 row:∀(i:Nat) r d,A.rs[i]?=some r->A.ds[i]?=some d->RowAt k.R H r d row0
 len:A.rs.length=startOf xs xs.length
 lend:A.ds.length=A.rs.length
 snd:SendAt k.N H A.sn A.l A.t A.p [] send0
 dee:DeedsAt k.D 0 H A.de A.dl A.bz [] deeds0
 rdr:ReadAt k.Rd H A.rd A.ra A.rb read0
 grp:H A.gr=some (.dK [])
noncomputable def CA.new (A:CA):List Addr:=[A.sh,A.shl,A.rl,A.sn,A.l,A.t,A.p,A.de,A.dl,A.bz,A.gr,A.rd,A.ra,A.rb]++(A.rs++A.ds)
structure Fr (H H':Hp)(L:List Addr):Prop where
 nd:L.Nodup
 no:∀b∈L,H b=none
 yes:∀b∈L,∃o,H' b=some o
noncomputable def Liv (H H':Hp):Prop:=∀b,(∃o,H b=some o)->∃o,H' b=some o
theorem Liv.refl (H:Hp):Liv H H:=λ_ h=>h
theorem Liv.trans {H H1 H2:Hp}(a:Liv H H1)(b:Liv H1 H2):Liv H H2:=λc h=>b c (a c h)
theorem Liv.back {H H':Hp}{b:Addr}(h:Liv H H')(e:H' b=none):H b=none:=by
 cases q:H b with
 | none=>rfl
 | some o=>obtain⟨o',e'⟩:=h b ⟨o,q⟩;rw[e] at e';cases e'
theorem Same.liv {H H':Hp}(s:Same H H'):Liv H H':=λb ⟨o,e⟩=>⟨o,s b o e⟩
theorem Chg.liv1 {x:Addr}{H H':Hp}{o:HO}(c:Chg [x] H H')(e:H' x=some o):Liv H H':=λb hb=>iY c (λb hb=>by rw[List.mem_singleton.mp hb];exact⟨o,e⟩) b hb
theorem Liv.wr {H:Hp}{b:Addr}{o:HO}:Liv H (upd H b o):=λc ⟨u,e⟩=>by
 by_cases z:c=b
 ·subst z;exact⟨o,af⟩
 ·exact⟨u,by rw[aj z];exact e⟩
theorem Fr.nil {H:Hp}:Fr H H []:=⟨List.nodup_nil,λ_ h=>(nomatch h),λ_ h=>(nomatch h)⟩
theorem Fr.liv {H H1 H2:Hp}{L:List Addr}(f:Fr H H1 L)(l:Liv H1 H2):Fr H H2 L:=⟨f.nd,f.no,λb hb=>l b (f.yes b hb)⟩
theorem Fr.add {H H1 H2:Hp}{L:List Addr}{b:Addr}(f:Fr H H1 L)(l0:Liv H H1)(hb:H1 b=none)(l:Liv H1 H2)(e:∃o,H2 b=some o):Fr H H2 (b::L):=
 ⟨List.nodup_cons.mpr ⟨λz=>by (obtain⟨o,q⟩:=f.yes b z;rw[hb] at q;cases q),f.nd⟩,λc hc=>by
  rcases List.mem_cons.mp hc with rfl | hc
  ·exact l0.back hb
  ·exact f.no c hc,λc hc=>by
  rcases List.mem_cons.mp hc with rfl | hc
  ·exact e
  ·exact l c (f.yes c hc)⟩
theorem Fr.perm {H H1:Hp}{L L':List Addr}(f:Fr H H1 L)(p:L.Perm L'):Fr H H1 L':=⟨p.nodup_iff.mp f.nd,λb hb=>f.no b (p.mem_iff.mpr hb),λb hb=>f.yes b (p.mem_iff.mpr hb)⟩
noncomputable def vw (k:CK):Sp:=λvs H Q _=>∃(x dx p:Addr) (xs:List Shf),vs=[.ref x,.ref p]/\H x=some (.ins k.S dx [])/\LTups H p (xs.map Shf.v)/\OkShfs xs/\
 ∀A H',A.st=x->Chg [x] H H'->Fr H H' A.new->St0 k H' A xs->Q .non H'
theorem Fr.adds {H H1 H2:Hp}{L:List Addr}(M:List Addr)(f:Fr H H1 L)(l0:Liv H H1)(nd:M.Nodup)(hb:∀b∈M,H1 b=none)(l:Liv H1 H2)(e:∀b∈M,∃o,H2 b=some o):Fr H H2 (M++L):=
 ⟨List.nodup_append.mpr ⟨nd,f.nd,λa ha b hb' z=>by subst z;obtain⟨o,q⟩:=f.yes a hb';rw[hb a ha] at q;cases q⟩,
  λc hc=>by
  rcases List.mem_append.mp hc with h | h
  ·exact l0.back (hb c h)
  ·exact f.no c h,
  λc hc=>by
  rcases List.mem_append.mp hc with h | h
  ·exact e c h
  ·exact l c (f.yes c h)⟩
theorem i5 {L M:List Addr}(h:∀a,L.count a=M.count a):L.Perm M:=List.perm_iff_count.mpr h
theorem cY {H H2:Hp}{s dx:Addr}{o:HO}(hs:H s=none)(hd:H dx=none)(c:Chg [s] (upd (upd H dx (.own s)) s o) H2):Same H H2:=λb u e=>by
 have n1:b≠s:=λz=>by rw[z,hs] at e;cases e
 have n2:b≠dx:=λz=>by rw[z,hd] at e;cases e
 exact c.keep b u (by rw[aj n1,aj n2];exact e) (by simp;exact n1)
theorem br {H:Hp}{s dx l:Addr}{o:HO}(h:upd (upd H dx (.own s)) s o l=none):H l=none/\l≠s/\l≠dx:=by
 have n1:l≠s:=λz=>by rw[z,af] at h;cases h
 rw[aj n1] at h
 have n2:l≠dx:=λz=>by rw[z,af] at h;cases h
 rw[aj n2] at h
 exact⟨h,n1,n2⟩
structure RowsMade (C:Addr)(H H':Hp)(D:Addr)(ys:List V)(i:Nat)(rs ds:List Addr):Prop where
 eq:ys=rs.map V.ref
 lr:rs.length=i
 ld:ds.length=i
 row:∀(j:Nat) r d,rs[j]?=some r->ds[j]?=some d->RowAt C H' r d row0
 lst:H' D=some (.lst ys)
 same:Same H H'
 fr:Fr H H' (D::(rs++ds))
theorem RowsMade.zero {C:Addr}{H:Hp}{D:Addr}(hD:H D=none):RowsMade C H (upd H D (.lst [])) D [] 0 [] []:=
 ⟨rfl,rfl,rfl,λj r d h=>by simp at h,af,Same.upd hD,Fr.add (Fr.nil) (Liv.refl _) hD (Same.upd hD).liv ⟨_,af⟩⟩
theorem RowsMade.succ {C:Addr}{H H' H5:Hp}{D:Addr}{ys:List V}{i:Nat}{rs ds:List Addr}{r d:Addr}(h:RowsMade C H H' D ys i rs ds)(s5:Same H' H5)(hr:H' r=none)(hd:H' d=none)(nrd:d≠r)(R:RowAt C H5 r d row0) :
  H5 D=some (.lst ys)/\RowsMade C H (upd H5 D (.lst (ys++[.ref r]))) D (ys++[.ref r]) (i+1) (rs++[r]) (ds++[d]):=by
 have hD0:=h.fr.no D (by simp)
 have n1:r≠D:=λz=>by rw[z,h.lst] at hr;cases hr
 have n2:d≠D:=λz=>by rw[z,h.lst] at hd;cases hd
 have f5:=h.fr.adds [r,d] h.same.liv (by simp;exact λz=>nrd z.symm) (λb hb=>by
  simp only[List.mem_cons,List.not_mem_nil,or_false] at hb
  rcases hb with rfl | rfl
  ·exact hr
  ·exact hd) s5.liv (λb hb=>by
  obtain⟨dx,e⟩:=R.obj
  obtain⟨kv,e2,_⟩:=R.dict
  simp only[List.mem_cons,List.not_mem_nil,or_false] at hb
  rcases hb with rfl | rfl
  ·exact⟨_,e⟩
  ·exact⟨_,e2⟩)
 have c6:Chg [D] H5 (upd H5 D (.lst (ys++[.ref r]))):=Chg.upd (by simp) (λxs z=>by rw[s5 _ _ h.lst] at z;cases z)
 have nd:=h.fr.nd
 rw[List.nodup_cons] at nd
 refine⟨s5 _ _ h.lst,by rw[h.eq];simp,by simp[h.lr],by simp[h.ld],λj r1 d1 h1 h2=>?_,af,Same.wr (h.same.trans s5) hD0,?_⟩
 ·by_cases ej:j < i
  ·rw[List.getElem?_append_left (by rw[h.lr];exact ej)] at h1
   rw[List.getElem?_append_left (by rw[h.ld];exact ej)] at h2
   have m1:=List.mem_of_getElem? h1
   have m2:=List.mem_of_getElem? h2
   exact((h.row j r1 d1 h1 h2).same s5).chg c6 (by simp;exact λz=>nd.1 (z▸List.mem_append_left _ m1)) (by simp;exact λz=>nd.1 (z▸List.mem_append_right _ m2))
  ·have l1:=(List.getElem?_eq_some_iff.mp h1).1
   rw[List.length_append,h.lr] at l1
   have ej2:j=i:=by simp at l1;omega
   subst ej2
   rw[List.getElem?_append_right (by rw[h.lr];exact Nat.le_refl _),h.lr,Nat.sub_self] at h1
   rw[List.getElem?_append_right (by rw[h.ld];exact Nat.le_refl _),h.ld,Nat.sub_self] at h2
   cases h1
   cases h2
   exact R.chg c6 (by simp;exact n1) (by simp;exact n2)
 ·refine(f5.liv Liv.wr).perm (i5 λa=>?_)
  simp only[List.count_append,List.count_cons,List.count_nil,List.cons_append,List.nil_append]
  omega
theorem setx {H H':Hp}{x dx C:Addr}{fs fs':List (Str×V)}(hx:H x=some (.ins C dx fs))(e:upd H x (.ins C dx fs')=H'):Chg [x] H H'/\H' x=some (.ins C dx fs')/\Liv H H':=by
 subst e
 exact⟨Chg.upd (by simp) (λxs z=>by rw[hx] at z;cases z),af,Liv.wr⟩
theorem Fr.two {H H1 H2:Hp}{L:List Addr}{a b:Addr}(f:Fr H H1 L)(l0:Liv H H1)(l:Liv H1 H2)(n:a≠b)(ha:H1 a=none)(hb:H1 b=none)(ea:∃o,H2 a=some o)(eb:∃o,H2 b=some o):Fr H H2 ([a,b]++L):=
 f.adds [a,b] l0 (by simp;exact n) (λc hc=>by
  simp only[List.mem_cons,List.not_mem_nil,or_false] at hc
  rcases hc with rfl | rfl
  ·exact ha
  ·exact hb) l (λc hc=>by
  simp only[List.mem_cons,List.not_mem_nil,or_false] at hc
  rcases hc with rfl | rfl
  ·exact ea
  ·exact eb)
theorem Fr.three {H H1 H2:Hp}{L:List Addr}{a b c:Addr}(f:Fr H H1 L)(l0:Liv H H1)(l:Liv H1 H2)(n1:a≠b)(n2:a≠c)(n3:b≠c)(ha:H1 a=none)(hb:H1 b=none)(hc:H1 c=none)(ea:∃o,H2 a=some o)(eb:∃o,H2 b=some o)(ec:∃o,H2 c=some o):Fr H H2 ([a,b,c]++L):=
 f.adds [a,b,c] l0 (by simp;exact⟨⟨n1,n2⟩,n3⟩) (λd hd=>by
  simp only[List.mem_cons,List.not_mem_nil,or_false] at hd
  rcases hd with rfl | rfl | rfl
  ·exact ha
  ·exact hb
  ·exact hc) l (λd hd=>by
  simp only[List.mem_cons,List.not_mem_nil,or_false] at hd
  rcases hd with rfl | rfl | rfl
  ·exact ea
  ·exact eb
  ·exact ec)
theorem Fr.four {H H1 H2:Hp}{L:List Addr}{a b c d:Addr}(f:Fr H H1 L)(l0:Liv H H1)(l:Liv H1 H2)(nd:[a,b,c,d].Nodup)(ha:H1 a=none)(hb:H1 b=none)(hc:H1 c=none)(hd:H1 d=none)(ea:∃o,H2 a=some o)(eb:∃o,H2 b=some o)(ec:∃o,H2 c=some o)(ed:∃o,H2 d=some o):Fr H H2 ([a,b,c,d]++L):=
 f.adds [a,b,c,d] l0 nd (λx hx=>by
  simp only[List.mem_cons,List.not_mem_nil,or_false] at hx
  rcases hx with rfl | rfl | rfl | rfl
  ·exact ha
  ·exact hb
  ·exact hc
  ·exact hd) l (λx hx=>by
  simp only[List.mem_cons,List.not_mem_nil,or_false] at hx
  rcases hx with rfl | rfl | rfl | rfl
  ·exact ea
  ·exact eb
  ·exact ec
  ·exact ed)
theorem AI (A:CA):([A.rd,A.ra,A.rb]++(A.gr::([A.de,A.dl,A.bz]++([A.sn,A.l,A.t,A.p]++((A.rl::(A.rs++A.ds))++[A.sh,A.shl]))))).Perm A.new:=i5 λa=>by
 unfold CA.new
 simp only[List.count_append,List.count_cons,List.count_nil,List.cons_append,List.nil_append,Nat.add_zero,Nat.zero_add]
 ac_rfl
noncomputable def shTx (xs:List Shf)(i:Nat):List (List Nat):=(Str.ofString "shelves").cps.toList::(xs.take i).flatMap λx=>[x.name,strI (x.rows:Int),x.kind.cps.toList]
theorem yE {xs:List Shf}{i:Nat}{y:Shf}(h:xs[i]?=some y):tx (shTx xs (i+1))=tx (shTx xs i)++[.str (S y.name),.str (S (strI (y.rows:Int))),.str y.kind]:=by
 unfold shTx tx
 rw[List.take_add_one,h]
 simp[<-Bv]
theorem Ed {c:Nat}(h:inN c=true):c < 128:=by
 have h2:c∈T36:=by simpa [inN] using h
 have key:∀c∈T36,c < 128:=by decide
 exact key c h2
theorem rH {xs:List Shf}(ok:OkShfs xs)(i:Nat):∀l∈shTx xs i,l.length<=12/\∀c∈l,c < 128:=λl hl=>by
 unfold shTx at hl
 rcases List.mem_cons.mp hl with rfl | hl
 ·decide +kernel
 ·obtain⟨x,hx,hl⟩:=List.mem_flatMap.mp hl
  have o:=ok.each x (List.mem_of_mem_take hx)
  simp only[List.mem_cons,List.not_mem_nil,or_false] at hl
  rcases hl with rfl | rfl | rfl
  ·exact⟨o.1.2.1,λc hc=>Ed (List.all_eq_true.mp o.1.2.2 c hc)⟩
  ·exact⟨Nat.le_trans (rC (k:=1) (by decide) (by have:=o.2.1;omega)) (by decide),λc hc=>by have:=ow _ c hc;omega⟩
  ·rcases o.2.2 with e | e<;>rw[e]<;>decide +kernel
theorem oI {xs:List Shf}(i:Nat):(shTx xs i).length<=1+3 * xs.length:=by
 unfold shTx
 rw[List.length_cons,List.length_flatMap]
 have h:∀l:List Shf,(l.map λx=>[x.name,strI (x.rows:Int),x.kind.cps.toList].length).sum=3 * l.length:=by
  intro l
  induction l with
  | nil=>rfl
  | cons a l ih=>rw[List.map_cons,List.sum_cons,ih,List.length_cons];simp;omega
 rw[h,List.length_take]
 omega
theorem bodySh {xs:List Shf}(ok:OkShfs xs)(h3:xs.length<=3)(i:Nat):okB (joinL [59] ((shTx xs i).map gd)):=by
 constructor
 ·intro c h
  rcases mj h with q | ⟨l,hl,q⟩
  ·simp at q;omega
  ·obtain⟨a,ha,rfl⟩:=List.mem_map.mp hl
   exact CV (rH ok i a ha).2 c q
 ·have h1:=oB (z:=[59]) (m:=24) (ls:=(shTx xs i).map gd) (λl hl=>by
   obtain⟨a,ha,rfl⟩:=List.mem_map.mp hl
   have:=rB a
   have:=(rH ok i a ha).1
   omega)
  have h2:=oI (xs:=xs) i
  rw[List.length_map,List.length_singleton] at h1
  omega
theorem tV:∀{l:List (List Nat)},(∀a∈l,a.length<=12)->(l.map List.length).sum<=12 * l.length
 | [],_=>by simp
 | a::l,h=>by
  have:=h a (by simp)
  have:=tV (l:=l) λb hb=>h b (by simp[hb])
  simp only[List.map_cons,List.sum_cons,List.length_cons]
  omega
theorem StAt.lines {k:CK}{H H':Hp}{A:CA}{Z:List Addr}{M:CM}(h:StAt k H A Z M)(c:Chg [A.bl] H H')(hs:∃o,H' A.bl=some o)(ls:List (List Nat)):StAt k H' A Z { M with ls:=ls }:=by
 have n18:=CA.nd18 h.nd
 have nr:=CA.rG h.nd (a:=A.bl) (mi 3 rfl)
 obtain⟨dx,e⟩:=h.sta
 have hz:∀b∈[A.bl],b∈Z\/∀xs,H b≠some (.lst xs):=λb hb=>.inl (by rw[List.mem_singleton.mp hb];exact h.zin.1)
 refine⟨⟨dx,c.keep _ _ e (bb n18 1 [3] rfl rfl (by decide))⟩,h.shv.chg c (bb n18 4 [3] rfl rfl (by decide)) (bb n18 5 [3] rfl rfl (by decide)),h.okx,c.keep _ _ h.rowl (bb n18 6 [3] rfl rfl (by decide)),λi r d m h1 h2 h3=>?_,h.len,h.lend,h.lenm,
  h.snd.chg c (bb n18 7 [3] rfl rfl (by decide)) (bb n18 8 [3] rfl rfl (by decide)) (bb n18 9 [3] rfl rfl (by decide)) (bb n18 10 [3] rfl rfl (by decide)) hz,h.dee.chg c (bb n18 11 [3] rfl rfl (by decide)) (bb n18 12 [3] rfl rfl (by decide)) (bb n18 13 [3] rfl rfl (by decide)) (λ_ hu=>nomatch hu),h.rdr.chg c (bb n18 15 [3] rfl rfl (by decide)) (bb n18 16 [3] rfl rfl (by decide)) (bb n18 17 [3] rfl rfl (by decide)),c.keep _ _ h.grp (bb n18 14 [3] rfl rfl (by decide)),h.zin,λb hb=>iY c (λb hb=>by rw[List.mem_singleton.mp hb];exact hs) b (h.zo b hb),h.nd⟩
 have m1:=List.mem_of_getElem? h1
 have m2:=List.mem_of_getElem? h2
 exact(h.row i r d m h1 h2 h3).chg c (by simp;exact λz=>nr.1 (z▸m1)) (by simp;exact λz=>nr.2 (z▸m2))
theorem CeAt.wrote {k:CK}{H H':Hp}{A:CA}{Z:List Addr}{M:CM}{ls:List (List Nat)}(h:CeAt k H A Z M)(c:Chg [A.bl] H H')(b:BookAt k.B H' A.bk A.bl ls):CeAt k H' A Z { M with ls:=ls }:=by
 have n18:=CA.nd18 h.st.nd
 obtain⟨dx,e⟩:=h.cel
 exact⟨⟨dx,c.keep _ _ e (bb n18 0 [3] rfl rfl (by decide))⟩,b,h.st.lines c ⟨_,b.lst⟩ ls⟩
theorem CeAt.stood {k:CK}{H H':Hp}{A:CA}{Z B:List Addr}{M M':CM}(h:CeAt k H A Z M)(c:Chg B H H')(hB:∀b∈B,b∈A.l::A.t::A.p::(A.rs++A.ds))(s':StAt k H' A Z M')(e:M'.ls=M.ls):CeAt k H' A Z M':=by
 have n18:=CA.nd18 h.st.nd
 have no:∀(m:Nat) (a:Addr),[A.c,A.st,A.bk,A.bl,A.sh,A.shl,A.rl,A.sn,A.l,A.t,A.p,A.de,A.dl,A.bz,A.gr,A.rd,A.ra,A.rb][m]?=some a->m∉[8,9,10]->a∉B:=λm a ha hm hb=>by
  have n1:=CA.rG h.st.nd (mi m ha)
  have n2:=bb (A:=[A.l,A.t,A.p]) n18 m [8,9,10] ha rfl hm
  rcases List.mem_append.mp (show a∈[A.l,A.t,A.p]++(A.rs++A.ds) from hB a hb) with z | z
  ·exact n2 z
  ·exact(List.mem_append.mp z).elim n1.1 n1.2
 obtain⟨dx,e1⟩:=h.cel
 obtain⟨dx2,e2⟩:=h.book.obj
 exact⟨⟨dx,c.keep _ _ e1 (no 0 _ rfl (by decide))⟩,⟨⟨dx2,c.keep _ _ e2 (no 2 _ rfl (by decide))⟩,by rw[e];exact c.keep _ _ h.book.lst (no 3 _ rfl (by decide))⟩,s'⟩
theorem CeAt.there {k:CK}{H:Hp}{A:CA}{Z:List Addr}{M:CM}(h:CeAt k H A Z M):∀b∈A.fix,∃o,H b=some o:=λb hb=>by
 obtain⟨dx1,e1⟩:=h.cel
 obtain⟨dx2,e2⟩:=h.book.obj
 obtain⟨dx3,e3⟩:=h.st.sta
 obtain⟨dx4,e4⟩:=h.st.shv.obj
 obtain⟨_,e5,_⟩:=h.st.shv.lst
 obtain⟨dx6,e6⟩:=h.st.snd.obj
 obtain⟨_,e7,_⟩:=h.st.snd.liv
 obtain⟨_,e8,_⟩:=h.st.snd.las
 obtain⟨_,e9,_⟩:=h.st.snd.spo
 obtain⟨_,e10⟩:=h.st.dee.obj
 obtain⟨_,e11,_⟩:=h.st.dee.bsy
 obtain⟨_,e12⟩:=h.st.rdr.obj
 obtain⟨_,e13,_⟩:=h.st.rdr.row
 obtain⟨_,e14,_⟩:=h.st.rdr.pla
 unfold CA.fix at hb
 rcases List.mem_append.mp hb with hb | hb
 ·simp only[List.mem_cons,List.not_mem_nil,or_false] at hb
  rcases hb with rfl | rfl | rfl | rfl | rfl | rfl | rfl | rfl | rfl | rfl | rfl | rfl | rfl | rfl | rfl | rfl | rfl | rfl
  ·exact⟨_,e1⟩
  ·exact⟨_,e3⟩
  ·exact⟨_,e2⟩
  ·exact⟨_,h.book.lst⟩
  ·exact⟨_,e4⟩
  ·exact⟨_,e5⟩
  ·exact⟨_,h.st.rowl⟩
  ·exact⟨_,e6⟩
  ·exact⟨_,e7⟩
  ·exact⟨_,e8⟩
  ·exact⟨_,e9⟩
  ·exact⟨_,e10⟩
  ·exact⟨_,h.st.dee.lst⟩
  ·exact⟨_,e11⟩
  ·exact⟨_,h.st.grp⟩
  ·exact⟨_,e12⟩
  ·exact⟨_,e13⟩
  ·exact⟨_,e14⟩
 ·rcases List.mem_append.mp hb with hb | hb
  ·obtain⟨i,hi⟩:=List.getElem?_of_mem hb
   have hil:=(List.getElem?_eq_some_iff.mp hi).1
   have hd:A.ds[i]?=some (A.ds[i]'(by rw[h.st.lend];exact hil)):=by simp
   have hm:M.Ms[i]?=some (M.Ms[i]'(by rw[h.st.lenm];exact hil)):=by simp
   obtain⟨_,e⟩:=(h.st.row i b _ _ hi hd hm).obj
   exact⟨_,e⟩
  ·obtain⟨i,hi⟩:=List.getElem?_of_mem hb
   have hil:=(List.getElem?_eq_some_iff.mp hi).1
   have hr:A.rs[i]?=some (A.rs[i]'(by rw[<-h.st.lend];exact hil)):=by simp
   have hm:M.Ms[i]?=some (M.Ms[i]'(by rw[h.st.lenm,<-h.st.lend];exact hil)):=by simp
   obtain⟨_,e,_⟩:=(h.st.row i _ b _ hr hi hm).dict
   exact⟨_,e⟩
theorem CeAt.notin {k:CK}{H:Hp}{A:CA}{Z:List Addr}{M:CM}(h:CeAt k H A Z M){b:Addr}(e:H b=none):b∉A.fix:=λz=>by
 obtain⟨o,q⟩:=h.there b z
 rw[e] at q;cases q
noncomputable def CM.wr (M:CM)(ls:List (List Nat)):CM:={ M with ls:=ls }
noncomputable def yF (k:CK):Sp:=λvs H Q _=>∃(A:CA) (Z:List Addr) (M:CM) (t ev u:Addr),vs=[.ref A.c,.ref t]/\CeAt k H A Z M/\H t=some (.tup [.ref ev,.ref u])/\
 (∃D,H ev=some (.lst [.ref D])/\M.ls.length<=4000/\ev∉A.fix/\D∉A.fix/\M.S.sz<=100000/\
  ((∃n kk,H D=some (.dK (evK "hail" (hailP n kk)))/\EvOk "hail" (hailP n kk)/\M.S.L (S n)=none/\∀H' ls,Chg A.fix H H'->CeAt k H' A Z ((M.wr ls).hail (S n))->ls.length=M.ls.length+1->Q (.ref u) H')\/
   (∃n kk i pl key wo m,H D=some (.dK (evK "put" (putP n kk 0 i pl key wo)))/\EvOk "put" (putP n kk 0 i pl key wo)/\M.Ms[i]?=some m/\m.last<=10000/\(M.S.L (S n)).isSome=true/\(kk:Int)=M.S.T (S n)+1/\
    ∀H' ls,Chg A.fix H H'->CeAt k H' A Z ((M.wr ls).put i m (key,wo,0) (S n) kk)->ls.length=M.ls.length+1->Q (.ref u) H')))
noncomputable def vx (k:CK):Sp:=λvs H Q _=>∃(A:CA) (Z:List Addr) (M:CM) (n:List Nat) (kk:Nat),vs=[.ref A.c,.str (S n)]/\CeAt k H A Z M/\nameOk n/\(kk:Int)=(M.S.L (S n)).getD 0+1/\kk < 10 ^ 9/\M.ls.length<=4000/\M.S.sz<=100000/\M.S.L (S n)=none/\
 ∀u H' ls,Chg A.fix H H'->CeAt k H' A Z ((M.wr ls).hail (S n))->ls.length=M.ls.length+1->H' u=some (.tup [.int (kk:Int),.int (if (M.S.L (S n)).isSome=true then M.S.T (S n) else 0)])->Q (.ref u) H'
noncomputable def vy (k:CK):Sp:=λvs H Q _=>∃(x dx p:Addr) (xs:List Shf),vs=[.ref x,.ref p]/\H x=some (.ins k.C dx [])/\LTups H p (xs.map Shf.v)/\OkShfs xs/\xs.length<=3/\
 ∀A Z H' ls,A.c=x->(∀b∈A.fix,b=x\/H b=none)->Chg [x] H H'->CeAt k H' A Z ⟨xs,List.replicate (startOf xs xs.length) row0,send0,ls⟩->ls.length=1->Q .non H'
section
variable {P:Program} {w:World} {K:W.Frag} {mg:Str->Option Value} {base:Heap}
theorem FunD.okX {x qual:Str}{st:Stmt}{f:Addr}{fd:FuncData}{items:List Value}{N ps:List Str}{k:Nat}{sp:Sp}(F:FunD K x qual st f fd items)(S:FnScope N ps (defScope st))(len:∀vs H Q E,sp vs H Q E->vs.length=ps.length)
  (hbody:∀(cdv:Value) (A:Around) (outer:List Env) (s:Shared) (H:Hp) (vs:List V) (Q:VK) (E:XK),Room k (A.deeper (envOfC qual (defScope st) s.heap.objs.size f cdv))->sp vs H Q E->
   ∃t,PSs (cxOf (CXv P w) P w K mg base N qual (defScope st) f cdv A outer s H E) (defBody st) t/\t { nx:=λ_ H'=>Q .non H',rt:=Q } (start N vs) H):FnOk P w K mg base (CXv P w) (k+1) f fd ps sp:=by
 obtain⟨oc,od,kV,doc,pm,an,cdv,ct,osl,tD,o,n,rfl,lk,hcd,_⟩:=F.ex
 exact wz lk hcd S len λA outer s H vs Q E hr hsp=>hbody cdv A outer s H vs Q E hr hsp
end
theorem tW (A:CA)(x bk bl:Addr):(x::([bk,bl]++(A.new++[A.st]))).Perm ({ A with c:=x,bk:=bk,bl:=bl }:CA).fix:=i5 λa=>by
 unfold CA.new CA.fix
 simp only[List.count_append,List.count_cons,List.count_nil,List.cons_append,List.nil_append,Nat.add_zero,Nat.zero_add]
 ac_rfl
theorem Chg.past {A:List Addr}{H H1 H2:Hp}{b:Addr}(c:Chg A H H1)(d:Chg [b] H1 H2)(h:H b=none):Chg A H H2:=
 ⟨λx o e n=>d.keep x o (c.keep x o e n) (by simp;exact λz=>by rw[z,h] at e;cases e),λx xs e=>d.tup x xs (c.tup x xs e)⟩
noncomputable def yG:Sp:=λvs H Q _=>∃(c:Int) (m:Nat),vs=[.int c,.int m]/\m<=36/\∀D H' (ks:List (List Nat)),H D=none->Same H H'->H' D=some (.lst (tx ks))->ks.length=m->(∀l∈ks,keyOk l)->Q (.ref D) H'
theorem AJ {b:List Nat}{at0 x:Nat}(h1:1<=b.length)(h2:b.length<=24)(h3:∀c∈b,okSign c=true)(h4:okSign x=true):keyOk (b.set at0 x):=by
 unfold keyOk formV
 simp only[bQ,List.length_set,Bool.and_eq_true,decide_eq_true_eq]
 refine⟨by omega,by omega,List.all_eq_true.mpr λc hc=>?_⟩
 have hc':c∈b.set at0 x:=by simpa [S] using hc
 rcases List.mem_or_eq_of_mem_set hc' with h | rfl
 ·exact h3 c h
 ·exact h4
theorem AK {l:List Nat}(h:okS l):okV (.str (S l)):=by
 show okS (S l).cps.toList
 simpa [S] using h
theorem nameOk.okS {l:List Nat}(h:nameOk l):L2.okS l:=λc hc=>by have:=h.len.2.2 c hc;omega
theorem keyOk.okS {l:List Nat}(h:keyOk l):L2.okS l:=λc hc=>by have:=h.len.2 c hc;omega
section
variable {k:CK} {H:Hp} {A:CA} {Z:List Addr} {M:CM} {W:LwA} {X:LwM} {s j:Nat} {key:List Nat} {wo:Option (List Nat)} {life num dd:Nat} {x:Shf} {lt:Addr} {Q:VK} {E:XK}
end
theorem dW (c:Int)(k:Nat):nameOk (nm5 c k):=by
 have h:=Ay c k
 unfold nameOk formV
 simp only[bQ,Bool.and_eq_true,decide_eq_true_eq]
 refine⟨by omega,by omega,?_⟩
 simpa [S] using h.2.2
theorem tupNe {K:W.Frag}{H:Hp}{Q:VK}{u v:Addr}{t:List V}(hu:H u=some (.tup t))(hv:H v=some (.tup t))(hf:t.all flatV=true)(ho:∀x∈t,okV x)(q:Q (.bl false) H):rNeq K (.ref u) (.ref v) H Q:=
 lZ (n:=1) (.tup (.inl (.inl hu)) (bR hf)) (.tup (.inl (.inl hv)) (bR hf)) (sN λe he=>by
  obtain⟨v,hv,rfl⟩:=List.mem_map.mp he
  exact nJ 0 (ho v hv)) rfl q
noncomputable def ItrS (lo d:Int)(n:Nat):It:=⟨λi _=>i < n,λi H x H'=>H'=H/\x=.int (lo+i * d),λi _=>n<=i⟩
theorem tX {P:Program}{w:World}{K:W.Frag}{tg:Expr}(it:Addr)(lo d:Int)(n:Nat):Turn P w K tg (ItrS lo d n) [it] it (λi h=>IsRangeIter h it (lo+(i:Nat) * d) ((n:Int) - (i:Nat)) d) where
 mem:=by simp
 obj:=λi h st b hb=>by
  obtain rfl:b=it:=by simpa using hb
  exact⟨_,st,λv z=>by
   have z':Data.fields _=Data.cell v:=z
   cases z'⟩
 keep:=λi h h' st k=>k it (by simp) _ st
 item:=by
  intro X hP hw hK hc i pins s σ H E I hf st hg
  subst hP hw hK
  obtain⟨f0,f1,f2,f3,f4,f5⟩:=hf it (by simp)
  refine(Walks.range (prog:=X.prog) (w:=X.w) (I.ok.hd hc) it lo d n).item i s _ _ hg st λv h' tk hv st' kk=>?_
  obtain⟨t,rfl⟩:=hv
  exact⟨_,rfl,r8 (s:={ s with heap:=h',toks:=tk }) (n:="range_iterator") st' rfl rfl (by decide) ⟨.int (lo+i * d),H,I.turned (λb o hb e=>kk b o (by simpa using hb) e) f0 f1 f3 f4 f5,⟨t,rfl⟩,⟨rfl,rfl⟩,st',λb hb=>(hf b hb).1⟩⟩
 done:=by
  intro X hP hw hK hc i pins s σ H E I hf st hg
  subst hP hw hK
  obtain⟨f0,f1,f2,f3,f4,f5⟩:=hf it (by simp)
  exact wpAny_pyNext_range_end (I.ok.hd hc) st (by have:n<=i:=hg;omega) λh' eb=>⟨rfl,I.turned (t':=s.toks) (λb o hb e=>eb b o hb e) f0 f1 f3 f4 f5⟩
 self:=λ_ _ _ _ _ st h=>wpAny_pyIter_rangeiter st h
noncomputable def rngN (lo hi d:Int):Nat:=(Builtin.Range.rangeSize lo hi d).toNat
noncomputable def iRng3 (ta:TA):TI:=λσ H R=>ta σ H λvs H1=>∃i j d:Int,vs=[.int i,.int j,.int d]/\(0<=i/\i<=j/\j < 2 ^ 40/\1<=d/\d < 2 ^ 20)/\R (ItrS i d (rngN i j d)) H1
section
variable {X:Cx} {tg:Expr}
theorem wN {i j d:Int}(h:0<=i/\i<=j/\j < 2 ^ 40/\1<=d/\d < 2 ^ 20):0<=Builtin.Range.rangeSize i j d/\Builtin.Range.rangeSize i j d<=j - i:=by
 unfold Builtin.Range.rangeSize
 rw[if_pos (by omega)]
 split
 ·have h1:=Int.ediv_le_self d (show 0<=j - i - 1 by omega)
  have h2:=Int.ediv_nonneg (show 0<=j - i - 1 by omega) (show 0<=d by omega)
  generalize (j - i - 1) / d=q at h1 h2 ⊢
  omega
 ·omega
theorem Cd {i j d:Int}(h:0<=i/\i<=j/\j < 2 ^ 40/\1<=d/\d < 2 ^ 20):Builtin.Range.small i j d=true:=by
 have b:=wN h
 unfold Builtin.Range.small Builtin.Range.rangeFitsLong
 rw[if_pos (by omega)]
 generalize Builtin.Range.rangeSize i j d=q at b ⊢
 simp only[Bool.and_eq_true,Bool.or_eq_true,decide_eq_true_eq]
 refine⟨⟨⟨⟨?_,?_⟩,?_⟩,?_⟩,.inr ?_⟩<;>omega
theorem yH {a b c:Expr}{ta:TA}{p pos:Pos}(hg:Gl X "range")(hm:X.mg "range"=none)(ha:PA X [a,b,c] ta)(hs:autoParam (starEach [a,b,c] X.env=[(false,eval a X.env),(false,eval b X.env),(false,eval c X.env)]) L2.dft3._auto_1)
  (hs2:autoParam (starEach [b,c] X.env=[(false,eval b X.env),(false,eval c X.env)]) L2.dft3._auto_1):PI X tg (.Call (.Name "range" p) [a,b,c] [] pos) (iRng3 ta):=by
 intro pins s σ H R I h
 refine Call_ (dw I hg hm boot_range (PyProof.Rows.callWith_type1 (thnA (ha pos pins s σ H _ I h) λus s1 vs H1 I1 r1 q1=>?_) (by rw[hs,hs2]) (by rw[hs2];rfl)))
 obtain⟨i,j,d,e,hb,q⟩:=q1
 subst e
 cases r1 with
 | cons r rr=>
  cases rr with
  | cons r' rr=>
   cases rr with
   | cons r'' rr=>
    cases rr
    obtain⟨t,rfl⟩:=r
    obtain⟨t',rfl⟩:=r'
    obtain⟨t'',rfl⟩:=r''
    have bd:=wN hb
    refine PySem.call_range_3 (by omega) ?_ (Or.inl (PyProof.noPylong_small (by omega)))
    refine wpAny_pyIter_range (IsRange.new ..) (Cd hb) ?_
    have I2:Inv X pins σ H1 { s1 with heap:=s1.heap.push { cls:=.type "range",data:=.fields #[.int i t,.int j t',.int d t''] },toks:=s1.toks }:=I1.kept λb o e=>Heap.get?_push_of_some _ e
    refine⟨_,[_],_,_,H1,rfl,I2.kept (t':=s1.toks) λb o e=>Heap.get?_push_of_some _ e,tX _ i d (rngN i j d),?_,λb hb=>?_,q⟩
    ·have e1:i+((0:Nat):Int) * d=i:=by simp
     have e2:((rngN i j d:Nat):Int) - ((0:Nat):Int)=Builtin.Range.rangeSize i j d:=by unfold rngN;omega
     show IsRangeIter _ _ (i+((0:Nat):Int) * d) (((rngN i j d:Nat):Int) - ((0:Nat):Int)) d
     rw[e1,e2]
     exact Heap.get?_push_size _ rfl
    ·obtain rfl:=List.mem_singleton.mp hb
     exact I2.fpOk (Nat.le_refl _) (I2.hok.fresh (Nat.le_refl _))
theorem tY {lo d:Int}{n:Nat}{g:TG}{tb:TS}{D:Ends}{σ:St}{H:Hp}(Pv:Nat->St->Hp->Prop)(h0:Pv 0 σ H)
  (hs:∀i σ H,i < n->Pv i σ H->g (.int (lo+i * d)) σ H λσ2 H2=>tb { D with nx:=Pv (i+1),ct:=Pv (i+1),bk:=D.nx } σ2 H2) (hd:∀σ H,Pv n σ H->D.nx σ H):forW (ItrS lo d n) g tb D σ H:=by
 refine⟨λi m σ H=>m=n - i/\i<=n/\Pv i σ H,⟨n,by simp,Nat.zero_le _,h0⟩,?_⟩
 rintro i m σ H ⟨rfl,hi,p⟩
 by_cases hlt:i < n
 ·refine .inr ⟨hlt,Pv (i+1),λσ' H' p'=>⟨n - (i+1),by omega,rfl,hlt,p'⟩,λx H' y=>?_⟩
  obtain⟨e,y⟩:=y
  subst e y
  exact hs i σ _ hlt p
 ·obtain rfl:i=n:=by omega
  exact .inl ⟨Nat.le_refl _,hd σ H p⟩
theorem Ce {hi d:Int}(h:0<=hi)(hd:1<=d){i:Nat}(hi':i < rngN 0 hi d):(i:Int) * d < hi:=by
 unfold rngN Builtin.Range.rangeSize at hi'
 rw[if_pos (by omega)] at hi'
 by_cases h0:(0:Int) < hi
 ·rw[if_pos h0] at hi'
  have h2:(i:Int)<=(hi - 0 - 1) / d:=by omega
  have h3:=Int.mul_le_mul_of_nonneg_right h2 (show 0<=d by omega)
  have h4:=Int.ediv_mul_le (hi - 0 - 1) (show d≠0 by omega)
  omega
 ·rw[if_neg h0] at hi'
  simp at hi'
end
noncomputable def AL (k:CK)(CN:Addr):Sp:=λvs H Q E=>∃(A:CA) (Z:List Addr) (M:CM) (r:Nat),vs=[.ref A.st,.int (r:Int)]/\StAt k H A Z M/\((r < A.rs.length/\Q .non H)\/(A.rs.length<=r/\XB E H CN [("name",.int (r:Int))]))
noncomputable def yI (k:CK)(CN:Addr):Sp:=λvs H Q E=>∃(A:CA) (Z:List Addr) (M:CM) (r:Nat),vs=[.ref A.st,.int (r:Int)]/\StAt k H A Z M/\((r < A.rs.length/\∀H',Same H H'->Q .non H')\/(A.rs.length<=r/\r<=1000000000/\XB E H CN [("name",.int (r:Int))]))
noncomputable def RdQ (k:CK)(CN:Addr)(H:Hp)(Q:VK)(E:XK)(A:CA)(M:CM)(r start most:Nat):Prop:=
 (∃m,M.Ms[r]?=some m/\m.last<=100000/\m.first<=(start:Int)/\∀D H',H D=none->Same H H'->LTups H' D ((m.seenP start m.last most).map m.rowV)->Q (.ref D) H')\/(A.rs.length<=r/\r<=1000000000/\XB E H CN [("name",.int (r:Int))])
noncomputable def AM (k:CK)(CN:Addr):Sp:=λvs H Q E=>∃(A:CA) (Z:List Addr) (M:CM) (r start most:Nat),vs=[.ref A.st,.int (r:Int),.int (start:Int),.int (most:Int),.bl true]/\StAt k H A Z M/\start<=1000000000/\1<=most/\most<=1000/\RdQ k CN H Q E A M r start most
noncomputable def yJ (k:CK)(CN:Addr):Sp:=λvs H Q E=>∃(A:CA) (Z:List Addr) (M:CM) (r start most:Nat),vs=[.ref A.c,.int (r:Int),.int (start:Int),.int (most:Int),.bl true]/\CeAt k H A Z M/\start<=1000000000/\1<=most/\most<=1000/\RdQ k CN H Q E A M r start most
noncomputable def vz (k:CK):Sp:=λvs H Q _=>∃(A:CA) (Z:List Addr) (M:CM) (r:Nat) (m:RowM),vs=[.ref A.c,.int (r:Int)]/\CeAt k H A Z M/\M.Ms[r]?=some m/\∀H',Same H H'->Q (.int m.last) H'
structure Put71 (n shf key:List Nat)(wo:Option (List Nat))(num:Nat):Prop where
 nm:nameOk n
 sh:nameOk shf
 ky:keyOk key
 wd:wordOk wo
 wl:∀w,wo=some w->w.length<=200
 nu:1<=num/\num<=1000000000
noncomputable def yK (k:CK)(CN:Addr):Sp:=λvs H Q E=>∃(A:CA) (Z:List Addr) (M:CM) (n shf key:List Nat) (wo:Option (List Nat)) (num:Nat) (lt:Addr),vs=[.ref A.st,.str (S n),.int 1,.int (num:Int),.str (S shf),.ref lt,.int 0]/\H lt=some (.tup [.str (S key),wV wo])/\StAt k H A Z M/\Put71 n shf key wo num/\
 ((M.S.L (S n)=none/\XB E H CN [("name",.str (S n))])\/((M.S.L (S n)).isSome=true/\(∀x∈M.xs,x.name≠shf)/\XB E H CN [("name",.str (S shf))])\/
  (M.S.L (S n)=some 1/\(num:Int)=M.S.T (S n)+1/\∃(j:Nat) (x:Shf) (i pl:Nat) (m:RowM),M.xs[j]?=some x/\x.name=shf/\(i:Int)=rowNo M.xs j x key/\M.Ms[i]?=some m/\m.last=(pl:Int)/\pl < 10 ^ 9/\
    ∀t ev u D H',Same H H'->H ev=none->H D=none->H' t=some (.tup [.ref ev,.ref u])->H' ev=some (.lst [.ref D])->H' D=some (.dK (evK "put" (putP n num 0 i pl key wo)))->H' u=some (.tup [.int (i:Int),.int (pl:Int)])->Q (.ref t) H'))
noncomputable def AN (k:CK)(CN:Addr):Sp:=λvs H Q E=>∃(A:CA) (Z:List Addr) (M:CM) (n shf key:List Nat) (wo:Option (List Nat)) (num:Nat),vs=[.ref A.c,.str (S n),.int 1,.int (num:Int),.str (S shf),.str (S key),wV wo,.int 0]/\CeAt k H A Z M/\Put71 n shf key wo num/\
 ((M.S.L (S n)=none/\XB E H CN [("name",.str (S n))])\/((M.S.L (S n)).isSome=true/\(∀x∈M.xs,x.name≠shf)/\XB E H CN [("name",.str (S shf))])\/
  (M.S.L (S n)=some 1/\(num:Int)=M.S.T (S n)+1/\∃(j:Nat) (x:Shf) (i pl:Nat) (m:RowM),M.xs[j]?=some x/\x.name=shf/\(i:Int)=rowNo M.xs j x key/\M.Ms[i]?=some m/\m.last=(pl:Int)/\pl<=10000/\M.ls.length<=4000/\M.S.sz<=100000/\
    ∀u H' ls,Chg A.fix H H'->CeAt k H' A Z ((M.wr ls).put i m (key,wo,0) (S n) num)->ls.length=M.ls.length+1->H' u=some (.tup [.int (i:Int),.int (pl:Int)])->Q (.ref u) H'))
noncomputable def yL (k:CK):Sp:=λvs H Q _=>∃(A:CA) (Z:List Addr) (M:CM) (n shf key:List Nat) (wo:Option (List Nat)) (num:Nat) (lt:Addr),vs=[.ref A.c,.str (S n),.int (num:Int),.ref lt]/\H lt=some (.tup [.str (S shf),.str (S key),wV wo])/\CeAt k H A Z M/\Put71 n shf key wo num/\
  M.S.L (S n)=some 1/\(num:Int)=M.S.T (S n)+1/\∃(j:Nat) (x:Shf) (i pl:Nat) (m:RowM),M.xs[j]?=some x/\x.name=shf/\(i:Int)=rowNo M.xs j x key/\M.Ms[i]?=some m/\m.last=(pl:Int)/\pl<=10000/\M.ls.length<=4000/\M.S.sz<=100000/\
    ∀u H' ls,Chg A.fix H H'->CeAt k H' A Z ((M.wr ls).put i m (key,wo,0) (S n) num)->ls.length=M.ls.length+1->H' u=some (.tup [.int (i:Int),.int (pl:Int)])->Q (.ref u) H'
noncomputable def rJ (k:CK):Sp:=λvs H Q _=>∃(A:CA) (Z:List Addr) (M:CM) (shf n z:List Nat) (r:Nat),vs=[.ref A.c,.str (S shf),.str (S n),.int (r:Int)]/\CeAt k H A Z M/\nameOk n/\nameOk shf/\A.rs.length<=r/\r<=1000/\
 ((M.S.L (S n)=none/\z=n)\/((M.S.L (S n)).isSome=true/\(∀x∈M.xs,x.name≠shf)/\z=shf))/\∀D H',H D=none->Same H H'->H' D=some (.lst [.str (S z),.int (r:Int)])->Q (.ref D) H'
noncomputable def n71 (c:Int):Nat:=(1+mixN c 1 % 3).toNat
noncomputable def shf71 (c:Int)(k:Nat):Shf:=⟨nm5 c k,(1+mixN c (2+(k:Int)) % 4).toNat,if mixN c (5+(k:Int)) % 2=0 then kTab else kStr⟩
noncomputable def xs71 (c:Int):List Shf:=(List.range (n71 c)).map (shf71 c)
theorem vA (c:Int):1<=n71 c/\n71 c<=3:=by unfold n71;omega
theorem dX (c:Int):(xs71 c).length=n71 c:=by unfold xs71;simp
theorem Cf (c:Int):OkShfs (xs71 c):=by
 have h:=vA c
 refine⟨by rw[dX];omega,by rw[dX];omega,λx hx=>?_,?_⟩
 ·unfold xs71 at hx
  obtain⟨k,_,rfl⟩:=List.mem_map.mp hx
  refine⟨Ay c k,?_,?_⟩
  ·show 1<=(1+mixN c (2+(k:Int)) % 4).toNat/\(1+mixN c (2+(k:Int)) % 4).toNat<=9
   omega
  ·show(if mixN c (5+(k:Int)) % 2=0 then kTab else kStr)=_\/(if mixN c (5+(k:Int)) % 2=0 then kTab else kStr)=_
   split
   ·exact .inl rfl
   ·exact .inr rfl
 ·have e:(xs71 c).map Shf.name=names5 c (n71 c):=by unfold xs71 names5;rw[List.map_map];rfl
  rw[e];exact x8 c (by omega)
theorem Cg (c:Int):∀x∈xs71 c,x.name≠nm5 c 3:=λx hx e=>by
 have h:=vA c
 unfold xs71 at hx
 obtain⟨k,hk,rfl⟩:=List.mem_map.mp hx
 have hk':=List.mem_range.mp hk
 have:=jy (by omega) (by decide) (show nm5 c k=nm5 c 3 from e)
 omega
noncomputable def rK:Sp:=λvs H Q _=>∃c:Int,vs=[.int c]/\∀D H',H D=none->Same H H'->LTups H' D ((xs71 c).map Shf.v)->Q (.ref D) H'
noncomputable def yM:Sp:=λvs H Q _=>∃c:Int,vs=[.int c]/\∀H' wo,Same H H'->wordOk wo->(∀w,wo=some w->w.length<=200)->Q (wV wo) H'
noncomputable def yN:Sp:=λvs H Q _=>∃(u:Addr) (i j r p:Int),vs=[.ref u,.int r,.int p]/\H u=some (.tup [.int i,.int j])/\Q (.bl (decide (i=r) && decide (j=p))) H
noncomputable abbrev KO:=List Nat×Option (List Nat)
noncomputable def okKO (x:KO):Prop:=keyOk x.1/\wordOk x.2/\∀w,x.2=some w->w.length<=200
noncomputable def l71 (f:List KO):List (List V):=(List.range f.length).map λ(i:Nat)=>[.int (i:Int),.str (S (f.getD i ([],none)).1),wV (f.getD i ([],none)).2]
noncomputable def rw71 (f:List KO):RowM:=⟨0,f.length,0,λp=>if 0<=p then(f[p.toNat]?).map λx=>(x.1,x.2,0) else none⟩
theorem AO:rw71 []=row0:=by
 unfold rw71 row0
 simp
theorem AQ (f:List KO)(x:KO):rw71 (f++[x])=(rw71 f).add (x.1,x.2,0):=by
 unfold rw71 RowM.add
 simp only[List.length_append,List.length_singleton]
 congr 1
 ·funext q
  by_cases h0:0<=q
  ·rw[if_pos h0,if_pos h0]
   by_cases h1:q=(f.length:Int)
   ·rw[if_pos h1,List.getElem?_append_right (by omega),show q.toNat - f.length=0 by omega]
    rfl
   ·rw[if_neg h1]
    by_cases h2:q.toNat < f.length
    ·rw[List.getElem?_append_left h2]
    ·rw[List.getElem?_eq_none (by simp;omega),List.getElem?_eq_none (by omega)]
  ·rw[if_neg h0,if_neg h0,if_neg (by omega)]
theorem Ci (f:List KO)(x:KO):l71 (f++[x])=l71 f++[[.int (f.length:Int),.str (S x.1),wV x.2]]:=by
 unfold l71
 rw[List.length_append,List.length_singleton,List.range_succ,List.map_append]
 congr 1
 ·refine List.map_congr_left λi hi=>?_
  have:=List.mem_range.mp hi
  simp only[List.getD_eq_getElem?_getD,List.getElem?_append_left this]
 ·simp[List.getD_eq_getElem?_getD]
theorem k4 (f:List KO):(l71 f).length=f.length:=by unfold l71;simp
theorem seen71 (f:List KO)(st most:Nat):((rw71 f).seenP st (rw71 f).last most).map (rw71 f).rowV=((l71 f).drop st).take most:=by
 have hs:∀n,st+n<=f.length->(rw71 f).standing (st:Int) n=(List.range n).map λ(i:Nat)=>((st+i:Nat):Int):=by
  intro n hn
  unfold RowM.standing
  rw[show((List.range n).map λ(i:Nat)=>((st+i:Nat):Int))=(List.range n).map λ(i:Nat)=>(st:Int)+i by
   refine List.map_congr_left λi _=>?_
   omega]
  rw[List.filter_eq_self]
  intro p hp
  obtain⟨i,hi,rfl⟩:=List.mem_map.mp hp
  have:=List.mem_range.mp hi
  show(if 0<=(st:Int)+i then(f[((st:Int)+i).toNat]?).map _ else none).isSome=true
  rw[if_pos (by omega),List.getElem?_eq_getElem (by omega)]
  rfl
 unfold RowM.seenP
 have e1:max (st:Int) (rw71 f).first=(st:Int):=by show max (st:Int) 0=_;omega
 have e2:(min (rw71 f).last (rw71 f).last - (st:Int)).toNat=f.length - st:=by show(min (f.length:Int) (f.length:Int) - (st:Int)).toNat=_;omega
 rw[e1,e2,Int.toNat_natCast,List.map_take]
 congr 1
 by_cases hst:st<=f.length
 ·rw[hs _ (by omega),List.map_map]
  unfold l71
  refine List.ext_getElem (by simp) λi h1 h2=>?_
  have hi:i < f.length - st:=by simpa using h1
  simp only[List.getElem_map,List.getElem_range,Function.comp,List.getElem_drop]
  have hf:f[st+i]?=some f[st+i]:=List.getElem?_eq_getElem (by omega)
  simp only[RowM.rowV,rw71]
  rw[if_pos (by omega),Int.toNat_natCast,hf]
  simp only[Option.map_some,List.getD_eq_getElem?_getD,hf,Option.getD_some]
 ·rw[show f.length - st=0 by omega]
  have:(l71 f).drop st=[]:=List.drop_eq_nil_of_le (by rw[k4];omega)
  rw[this]
  simp[RowM.standing]
theorem tZ (f:List KO):∀r∈l71 f,r.all flatV=true:=λr hr=>by
 unfold l71 at hr
 obtain⟨i,_,rfl⟩:=List.mem_map.mp hr
 cases (f.getD i ([],none)).2<;>rfl
theorem Ee {f:List KO}(h:∀x∈f,okKO x):∀r∈l71 f,∀v∈r,okV v:=λr hr v hv=>by
 unfold l71 at hr
 obtain⟨i,hi,rfl⟩:=List.mem_map.mp hr
 have hi':=List.mem_range.mp hi
 have hm:okKO (f.getD i ([],none)):=by
  rw[List.getD_eq_getElem?_getD,List.getElem?_eq_getElem hi']
  exact h _ (List.getElem_mem hi')
 generalize f.getD i ([],none)=x at hm hv
 simp only[List.mem_cons,List.not_mem_nil,or_false] at hv
 rcases hv with rfl | rfl | rfl
 ·trivial
 ·exact AK (keyOk.okS hm.1)
 ·obtain⟨xk,xw⟩:=x
  cases xw with
  | none=>trivial
  | some w=>exact AK λc hc=>by have:=(tQ hm.2.1 hm.2.2).2 c (List.mem_cons_of_mem _ hc);exact Nat.lt_trans this (by decide)
noncomputable def yO:Sp:=λvs H Q _=>∃(D1 D2:Addr) (f:List KO) (a b:Nat),vs=[.ref D1,.ref D2]/\LTups H D1 (((l71 f).drop a).take b)/\LTups H D2 (((l71 f).drop a).take b)/\(∀x∈f,okKO x)/\f.length<=100/\∀H',Same H H'->Q (.bl true) H'
noncomputable def vB (k:CK):Sp:=λvs H Q _=>∃(A:CA) (Z:List Addr) (M:CM) (r p:Addr) (i most:Nat) (f:List KO),vs=[.ref A.c,.int (i:Int),.ref p,.int (most:Int)]/\CeAt k H A Z M/\LTups H p (l71 f)/\M.Ms[i]?=some (rw71 f)/\(∀x∈f,okKO x)/\f.length<=100/\1<=most/\most<=12/\∀H',Same H H'->Q (.bl true) H'
theorem mU {l:List Nat}(h:l.length<=200)(ho:∀c∈l,okSign c=true):wordOk (some l):=by
 unfold wordOk formV
 simp only[wV,bQ,Bool.or_eq_true,Bool.and_eq_true,decide_eq_true_eq]
 exact .inr ⟨by omega,by omega,List.all_eq_true.mpr λc hc=>ho c (by simpa [S] using hc)⟩
theorem word71 {K:W.Frag}{te:TE}{σ:St}{H:Hp}{Q:VK}{c:Int}{n:Nat}(hn:n<=200)(q:∀H' wo,Same H H'->wordOk wo->(∀w,wo=some w->w.length<=200)->Q (wV wo) H')
  (he:∀(i:Nat) H' (Qe:VK),Qe (.str (S [sgn (mixN c (150+(0+(i:Int)))) 94])) H'->te (some (.int (0+(i:Int)))::σ) H' Qe) :
  compW (Itr 0 n) tYes te σ H λx H1=>∃sep,Str.ofString ""=S sep/\∃x_1,x=V.ref x_1/\∃x,SqL K H1 x_1 (List.map (λl=>V.str (S l)) x)/\(List.map List.length x).sum+x.length * sep.length<=16777216/\Q (V.str (S (joinL sep x))) H1:=by
 refine iR (Nat.le_trans hn (by decide)) (λk=>.str (S [sgn (mixN c (150+(0+(k:Int)))) 94])) (λi H' hi s Qe qe=>he i H' Qe (qe H' (Same.refl _))) λD H1 hD s1 h1=>?_
 generalize hb:(List.range n).map (λ(k:Nat)=>sgn (mixN c (150+(0+(k:Int)))) 94)=b
 have hbl:b.length=n:=by rw[<-hb];simp
 have hbo:∀y∈b,okSign y=true:=λy hy=>by
  rw[<-hb] at hy
  obtain⟨k,_,rfl⟩:=List.mem_map.mp hy
  exact uP _
 refine⟨[],s!"d",D,rfl,b.map λk=>[k],.inl (.inl ?_),?_,?_⟩
 ·rw[h1,<-hb,List.map_map,List.map_map]
  rfl
 ·rw[lX,List.length_map,hbl]
  simp
  omega
 ·rw[kf]
  exact q H1 (some b) s1 (mU (by omega) hbo) λw hw=>by cases hw;omega
theorem LTups.cut {H:Hp}{sl:Addr}{ts:List Addr}{rows:List (List V)}(a b:Nat)(t:TupsAt H ts rows)(e:H sl=some (.lst (((ts.map V.ref).drop a).take b))):LTups H sl ((rows.drop a).take b):=
 ⟨(ts.drop a).take b,by rw[e,List.map_take,List.map_drop],(t.drop a).take b⟩
theorem CeAt.addZ {k:CK}{H H':Hp}{A:CA}{Z:List Addr}{M:CM}(h:CeAt k H A Z M)(s:Same H H')(Z':List Addr)(hz:∀b∈Z',H b=none)(hy:∀b∈Z',∃o,H' b=some o):CeAt k H' A (Z'++Z) M:=
 let g:=h.same s
 let t:=g.st
 ⟨g.cel,g.book,⟨t.sta,t.shv,t.okx,t.rowl,t.row,t.len,t.lend,t.lenm,(h.st.snd.less λb hb=>(List.mem_append.mp hb).elim (λx=>.inr (hz b x)) .inl).same s,t.dee,t.rdr,t.grp,
  ⟨List.mem_append_right _ t.zin.1,List.mem_append_right _ t.zin.2.1,List.mem_append_right _ t.zin.2.2.1,List.mem_append_right _ t.zin.2.2.2⟩,λb hb=>(List.mem_append.mp hb).elim (hy b) (t.zo b),t.nd⟩⟩
structure ListsMade (H H':Hp)(D:Addr)(ys:List V)(i:Nat)(rl:List Addr):Prop where
 eq:ys=rl.map V.ref
 lr:rl.length=i
 emp:∀r∈rl,H' r=some (.lst [])
 lst:H' D=some (.lst ys)
 same:Same H H'
 fr:Fr H H' (D::rl)
theorem ListsMade.zero {H:Hp}{D:Addr}(hD:H D=none):ListsMade H (upd H D (.lst [])) D [] 0 []:=
 ⟨rfl,rfl,λr h=>(nomatch h),af,Same.upd hD,Fr.add Fr.nil (Liv.refl _) hD (Same.upd hD).liv ⟨_,af⟩⟩
theorem ListsMade.succ {H H':Hp}{D r:Addr}{ys:List V}{i:Nat}{rl:List Addr}(h:ListsMade H H' D ys i rl)(hr:H' r=none) :
  upd H' r (.lst []) D=some (.lst ys)/\ListsMade H (upd (upd H' r (.lst [])) D (.lst (ys++[.ref r]))) D (ys++[.ref r]) (i+1) (rl++[r]):=by
 have hD0:=h.fr.no D (by simp)
 have n1:D≠r:=λz=>by rw[<-z,h.lst] at hr;cases hr
 have s5:=Same.upd (o:=.lst []) hr
 have nd:=h.fr.nd
 rw[List.nodup_cons] at nd
 refine⟨(aj n1).trans h.lst,by rw[h.eq];simp,by simp[h.lr],λb hb=>?_,af,Same.wr (h.same.trans s5) hD0,?_⟩
 ·have nb:b≠D:=λz=>by
   subst z
   rcases List.mem_append.mp hb with q | q
   ·exact nd.1 q
   ·exact n1 (List.mem_singleton.mp q)
  rw[aj nb]
  rcases List.mem_append.mp hb with q | q
  ·exact s5 _ _ (h.emp b q)
  ·rw[List.mem_singleton.mp q];exact af
 ·refine((h.fr.add h.same.liv hr s5.liv ⟨_,af⟩).liv Liv.wr).perm (i5 λa=>?_)
  simp only[List.count_append,List.count_cons,List.count_nil]
  omega
structure W71 (k:CK)(H:Hp)(A:CA)(Z:List Addr)(M:CM)(R N:Addr)(rl:List Addr)(fs:List (List KO))(n:Nat->Nat)(c d:Int)(s:Nat):Prop where
 ce:CeAt k H A Z M
 hR:H R=some (.lst (rl.map V.ref))
 hr:∀(i:Nat) r f,rl[i]?=some r->fs[i]?=some f->LTups H r (l71 f)
 hN:H N=some (.lst [.int (n 0:Int),.int (n 1:Int)])
 nd:(R::N::rl).Nodup
 nf:∀b∈R::N::rl,b∉A.fix
 zz:∀b∈R::N::rl,b∈Z
 xs:M.xs=xs71 c
 lr:rl.length=fs.length
 ms:M.Ms=fs.map rw71
 ok:∀f∈fs,∀x∈f,okKO x
 fl:∀f∈fs,f.length<=s
 L:∀i,i < 2->M.S.L (S (nm5 d i))=some 1
 L2:M.S.L (S (nm5 d 2))=none
 Tn:∀i,i < 2->M.S.T (S (nm5 d i))=(n i:Int)
 nl:∀i,i < 2->n i<=s
 ls:M.ls.length<=3+s
 sz:M.S.sz<=3+s
theorem W71.same {k:CK}{H H':Hp}{A:CA}{Z:List Addr}{M:CM}{R N:Addr}{rl:List Addr}{fs:List (List KO)}{n:Nat->Nat}{c d:Int}{s:Nat}(h:W71 k H A Z M R N rl fs n c d s)(e:Same H H'):W71 k H' A Z M R N rl fs n c d s:=
 { h with ce:=h.ce.same e,hR:=e _ _ h.hR,hr:=λi r f h1 h2=>(h.hr i r f h1 h2).same e,hN:=e _ _ h.hN }
theorem W71.step {k:CK}{H H':Hp}{A:CA}{Z:List Addr}{M:CM}{R N r:Addr}{rl:List Addr}{fs:List (List KO)}{n:Nat->Nat}{c d:Int}{s i j:Nat}{f:List KO}{key:List Nat}{wo:Option (List Nat)}{ls:List (List Nat)}
  (h:W71 k H A Z M R N rl fs n c d s) (hj:j < 2) (hf:fs[i]?=some f) (hr:rl[i]?=some r) (g:Chg (N::r::A.fix) H H') (ce':CeAt k H' A Z ((M.wr ls).put i (rw71 f) (key,wo,0) (S (nm5 d j)) (n j+1:Nat))) (hl:ls.length=M.ls.length+1)
  (eN:H' N=some (.lst [.int ((if 0=j then n j+1 else n 0:Nat):Int),.int ((if 1=j then n j+1 else n 1:Nat):Int)])) (er:LTups H' r (l71 (f++[(key,wo)]))) (ok:okKO (key,wo)) :
  W71 k H' A Z ((M.wr ls).put i (rw71 f) (key,wo,0) (S (nm5 d j)) (n j+1:Nat)) R N rl (fs.set i (f++[(key,wo)])) (λx=>if x=j then n j+1 else n x) c d (s+1):=by
 have nd:=h.nd
 have nR:=h.nf R (by simp)
 have mr:=List.mem_of_getElem? hr
 have mf:=List.mem_of_getElem? hf
 rw[List.nodup_cons,List.nodup_cons] at nd
 have hil:i < fs.length:=(List.getElem?_eq_some_iff.mp hf).1
 refine⟨ce',g.keep _ _ h.hR ?_,λi' r' f' h1 h2=>?_,eN,h.nd,h.nf,h.zz,h.xs,by rw[List.length_set];exact h.lr,?_,λf' hf'=>?_,λf' hf'=>?_,λx hx=>h.L x hx,h.L2,λx hx=>?_,λx hx=>?_,?_,?_⟩
 ·simp only[List.mem_cons,not_or]
  exact⟨λz=>nd.1 (by simp[z]),λz=>nd.1 (by rw[z];exact List.mem_cons_of_mem _ mr),nR⟩
 ·by_cases e:i'=i
  ·subst e
   rw[hr] at h1
   rw[List.getElem?_set_self hil] at h2
   cases h1
   cases h2
   exact er
  ·rw[List.getElem?_set_ne (Ne.symm e)] at h2
   have m1:=List.mem_of_getElem? h1
   refine(h.hr i' r' f' h1 h2).chg g ?_
   simp only[List.mem_cons,not_or]
   exact⟨λz=>nd.2.1 (z▸m1),λz=>e (mq nd.2.2 h1 (z▸hr)),h.nf _ (by simp[m1])⟩
 ·show M.Ms.set i ((rw71 f).add (key,wo,0))=_
  rw[h.ms,List.map_set,AQ]
 ·rcases List.mem_or_eq_of_mem_set hf' with q | rfl
  ·exact h.ok f' q
  ·intro x hx
   rcases List.mem_append.mp hx with q | q
   ·exact h.ok f mf x q
   ·rw[List.mem_singleton.mp q];exact ok
 ·rcases List.mem_or_eq_of_mem_set hf' with q | rfl
  ·exact Nat.le_succ_of_le (h.fl f' q)
  ·have:=h.fl f mf
   simp;omega
 ·show(if S (nm5 d x)=S (nm5 d j) then((n j+1:Nat):Int) else M.S.T (S (nm5 d x)))=((if x=j then n j+1 else n x:Nat):Int)
  by_cases e:x=j
  ·rw[e,if_pos rfl,if_pos rfl]
  ·rw[if_neg e,if_neg (λz=>e (jy (c:=d) (by omega) (by omega) (nZ z)))]
   exact h.Tn x hx
 ·show(if x=j then n j+1 else n x)<=s+1
  have:=h.nl j hj
  have:=h.nl x hx
  split<;>omega
 ·show ls.length<=3+(s+1)
  have:=h.ls
  omega
 ·show M.S.sz+1<=3+(s+1)
  have:=h.sz
  omega
theorem sum71 {K:W.Frag}{te:TE}{σ:St}{H:Hp}{Q:VK}{sl:Addr}{xs:List Shf}(hL:LTups H sl (xs.map Shf.v))(hx:xs.length<=6)
  (he:∀t H' (Qe:VK) (x:Shf),H' t=some (.tup x.v)->Qe (.int x.rows) H'->te (some (.ref t)::σ) H' Qe)
  (q:∀H',Same H H'->Q (.int (startOf xs xs.length:Int)) H'):rAny K (.ref sl) H λJ H1=>compW J tYes te σ H1 λx H1=>rSum K [x] H1 Q:=by
 obtain⟨ts,e,tt⟩:=hL
 have hl:SqL K H sl (ts.map V.ref):=.inl (.inl e)
 have hn:ts.length=xs.length:=by rw[tt.length,List.length_map]
 refine cv hl (iU (xs:=ts.map V.ref) (Nat.le_trans (show(ts.map V.ref).length<=6 by rw[List.length_map];omega) (by decide)) (λD i ys H'=>H D=none/\Same H H'/\H' D=some (.lst ys)/\ys=((xs.take i).map λx=>(x.rows:Int)).map V.int) (λD hD=>⟨hD,Same.upd hD,af,rfl⟩)
  (λD i ys H' hi ⟨_,s,e,hy⟩=>⟨e,by rw[hy,List.length_map,List.length_map,List.length_take];omega,s.seq hl⟩) (λD i ys H' v hD hv ⟨_,s,e,hy⟩ Qe qe=>?_) (λD ys H' hD ⟨_,s,e,hy⟩=>?_))
 ·rw[List.getElem?_map] at hv
  obtain⟨t,ht,rfl⟩:=Option.map_eq_some_iff.mp hv
  obtain⟨zs,h1,h2⟩:=tt.get ht
  rw[List.getElem?_map] at h1
  obtain⟨x,hx,rfl⟩:=Option.map_eq_some_iff.mp h1
  refine he t H' Qe x (s _ _ h2) (qe _ _ e ⟨hD,Same.wr s hD,af,?_⟩)
  rw[hy,List.take_add_one,hx,List.map_append,List.map_append]
  rfl
 ·rw[List.length_map,hn,List.take_length] at hy
  rw[hy] at e
  refine DU (.inl (.inl e)) ?_
  have es:∀l:List Shf,(l.map λx=>(x.rows:Int)).sum=(((l.map Shf.rows).sum:Nat):Int):=by
   intro l
   induction l with
   | nil=>rfl
   | cons a l ih=>simp only[List.map_cons,List.sum_cons,ih];omega
  have:=q H' s
  unfold startOf at this
  rw[List.take_length] at this
  rw[es]
  exact this
theorem rL (xs:List Shf)(k:Nat):startOf (xs.take k) (xs.take k).length=startOf xs k:=by
 unfold startOf
 rw[List.take_length]
theorem vC {xs:List Shf}{a b:Nat}(h:a<=b):startOf xs a<=startOf xs b:=by
 induction b with
 | zero=>
  obtain rfl:a=0:=by omega
  exact Nat.le_refl _
 | succ b ih=>
  by_cases e:a=b+1
  ·subst e;exact Nat.le_refl _
  ·refine Nat.le_trans (ih (by omega)) ?_
   cases hx:xs[b]? with
   | none=>
    unfold startOf
    rw[List.take_add_one,hx]
    simp
   | some x=>rw[bp hx];omega
theorem AR {xs:List Shf}{k:Nat}{x:Shf}{key:List Nat}(h:xs[k]?=some x)(h1:1<=x.rows):rowNo xs k x key < startOf xs xs.length:=by
 have hk:=(List.getElem?_eq_some_iff.mp h).1
 have a:=vC (xs:=xs) (show k+1<=xs.length by omega)
 rw[bp h] at a
 have b:=Int.emod_lt_of_pos (sprN key) (show(0:Int) < x.rows by omega)
 have c:=Int.emod_nonneg (sprN key) (show(x.rows:Int)≠0 by omega)
 unfold rowNo
 omega
theorem AS {xs:List Shf}{k:Nat}{x:Shf}{key:List Nat}(h1:1<=x.rows):(startOf xs k:Int)+K02.lspreadN key % (x.rows:Int)=(rowNo xs k x key:Nat):=by
 have c:=Int.emod_nonneg (sprN key) (show(x.rows:Int)≠0 by omega)
 unfold rowNo
 rw[<-D9]
 omega
theorem lstNe {K:W.Frag}{H:Hp}{Q:VK}{u v:Addr}{t:List V}(hu:H u=some (.lst t))(hv:H v=some (.lst t))(hf:t.all flatV=true)(ho:∀x∈t,okV x)(q:Q (.bl false) H):rNeq K (.ref u) (.ref v) H Q:=
 lZ (n:=1) (.lst (.inl (.inl hu)) (bR hf)) (.lst (.inl (.inl hv)) (bR hf)) (rj λe he=>by
  obtain⟨v,hv,rfl⟩:=List.mem_map.mp he
  exact nJ 0 (ho v hv)) rfl q
theorem lstEq {K:W.Frag}{H:Hp}{Q:VK}{u v:Addr}{t:List V}(hu:H u=some (.lst t))(hv:H v=some (.lst t))(hf:t.all flatV=true)(ho:∀x∈t,okV x)(q:Q (.bl true) H):rEqq K (.ref u) (.ref v) H Q:=
 xN (n:=1) (.lst (.inl (.inl hu)) (bR hf)) (.lst (.inl (.inl hv)) (bR hf)) (rj λe he=>by
  obtain⟨v,hv,rfl⟩:=List.mem_map.mp he
  exact nJ 0 (ho v hv)) rfl q
theorem ok2 {l:List Nat}{i:Int}(h:nameOk l):∀x∈[V.str (S l),V.int i],okV x:=λx hx=>by
 simp only[List.mem_cons,List.not_mem_nil,or_false] at hx
 rcases hx with rfl | rfl
 ·exact AK (nameOk.okS h)
 ·trivial
structure FT (K:W.Frag)(mg:Str->Option Value)(x:Str)(st:Stmt)(ps:List Str)(f:Addr)(d:FuncData):Prop where
 F:Fun K x x st f d
 b:Binds K d ps []
 m:mg x=some (.ref f)
structure FM (K:W.Frag)(C:Addr)(x q:Str)(st:Stmt)(ps:List Str)(f:Addr)(d:FuncData):Prop where
 F:Fun K x q st f d
 b:Binds K d ps []
 m:Meth K C x f
structure FI (K:W.Frag)(q:Str)(st:Stmt)(ps:List Str)(f:Addr)(d:FuncData):Prop where
 F:Fun K "__init__" q st f d
 b:Binds K d ps []
section
variable {K:W.Frag} {h:Heap} {mg:Str->Option Value} {C:Addr} {x q:Str} {st:Stmt} {ps:List Str} {f:Addr} {oc:Value} {od an:Option Addr} {osl:Array (Option Value)} {kV doc pm cdv ct:Value}
theorem fB (l:K.lookup f=some ⟨oc,od,.func (W.fnOf "__init__" q (defArgs st) (defBody st) (defScope st) .none kV doc pm an cdv ct),osl⟩)(c:W.codeIn K cdv q=true)(k:W.keepIn K (.ref f)=true)
  (e:∀(kV doc pm:Value) (an:Option Addr) (cdv ct:Value) (us:List Value),us.length=ps.length->bindArgs (W.fnOf "__init__" q (defArgs st) (defBody st) (defScope st) .none kV doc pm an cdv ct) ⟨us,[]⟩=pure (ps.zip us)) :
  FI K q st ps f (W.fnOf "__init__" q (defArgs st) (defBody st) (defScope st) .none kV doc pm an cdv ct):=⟨lP l c k,(lP l c k).binds e⟩
theorem cp (a:W.findIn K (.ref C) x=some (some (.ref f)))(i:W.isFn K (.ref f)=true)(l:K.lookup f=some ⟨oc,od,.func (W.fnOf x q (defArgs st) (defBody st) (defScope st) .none kV doc pm an cdv ct),osl⟩)(c:W.codeIn K cdv q=true)(k:W.keepIn K (.ref f)=true)
  (e:∀(kV doc pm:Value) (an:Option Addr) (cdv ct:Value) (us:List Value),us.length=ps.length->bindArgs (W.fnOf x q (defArgs st) (defBody st) (defScope st) .none kV doc pm an cdv ct) ⟨us,[]⟩=pure (ps.zip us)) :
  FM K C x q st ps f (W.fnOf x q (defArgs st) (defBody st) (defScope st) .none kV doc pm an cdv ct):=⟨lP l c k,(lP l c k).binds e,a,i,k⟩
theorem aI (X:K.In h)(G:h.Ns mainGlobals mg)(a:W.nsIn K mainGlobals x=some (some (.ref f)))(l:K.lookup f=some ⟨oc,od,.func (W.fnOf x x (defArgs st) (defBody st) (defScope st) .none kV doc pm an cdv ct),osl⟩)(c:W.codeIn K cdv x=true)(k:W.keepIn K (.ref f)=true)
  (e:∀(kV doc pm:Value) (an:Option Addr) (cdv ct:Value) (us:List Value),us.length=ps.length->bindArgs (W.fnOf x x (defArgs st) (defBody st) (defScope st) .none kV doc pm an cdv ct) ⟨us,[]⟩=pure (ps.zip us)) :
  FT K mg x st ps f (W.fnOf x x (defArgs st) (defBody st) (defScope st) .none kV doc pm an cdv ct):=⟨lP l c k,(lP l c k).binds e,W.mg_of X G a⟩
end
noncomputable abbrev Em (K:W.Frag)(C D:Addr)(b:Bool):Prop:=W.exmOne K (.ref C) (.ref D)=some b
noncomputable abbrev Xi (K:W.Frag)(C f:Addr):Prop:=W.findIn K (.ref C) "__init__"=some (some (.ref f))
noncomputable abbrev Xf (K:W.Frag)(f:Addr):Prop:=W.isFn K (.ref f)=true
theorem vD {K:W.Frag}{a:Addr}{td:Option Addr}{tn:Nat}{tsl:Array (Option Value)}{vs:List V}{us:List Value}(r:Vals vs us)(hn:us.length<=sizeLine)(l:K.lookup a=some ⟨.type "tuple",td,.seq us.toArray tn,tsl⟩):∀H,SqT K H a vs:=λ_=>.inr ⟨_,_,_,l,rfl,rfl,hn,r⟩
noncomputable def tokV:V->Tok->Value
 | .non,_=>.none
 | .bl b,_=>.bool b
 | .int i,t=>.int i t
 | .str x,t=>.str x t
 | .byt b,t=>.bytes b t
 | .flt b,t=>.float b t
 | .ref a,_=>.ref a
 | .ty n,_=>.type n
theorem relT {v:V}{t:Tok}:RelV v (tokV v t):=by cases v<;>first | rfl | exact⟨t,rfl⟩
theorem jY {mg:Str->Option Value}{x:Str}{v:V}{t:Tok}(h:mg x=some (tokV v t)):GConst mg x v:=⟨_,h,relT⟩
noncomputable abbrev iT (z:Int){t:Tok}:Value:=.int z t
theorem CW {w:World}{K:W.Frag}{mg:Str->Option Value}{x:Str}{F:List (Str×V)}{p:Addr}{es:Array DictEntry}{ep:Nat}(g:mg x=some (.ref p))(l:K.lookup p=some { cls:=.type "dict",dict:=none,data:=.dict es ep,slots:=#[] })
  (k:StrEnts w.params es.toList) (d:∀kv∈F,∃u,findE es kv.1=some u/\RelV kv.2 u):DCon w K mg x F:=⟨_,_,_,g,l,k,d⟩
theorem CY {K:W.Frag}{mg:Str->Option Value}{x:Str}{a:Addr}{td:Option Addr}{tn:Nat}{tsl:Array (Option Value)}{vs:List V}{us:List Value}(g:mg x=some (.ref a))(r:Vals vs us)(hn:us.length<=sizeLine)(l:K.lookup a=some ⟨.type "tuple",td,.seq us.toArray tn,tsl⟩):TConst K mg x vs:=⟨_,g,vD r hn l⟩
theorem el8 {α:Type}{p:List α->Prop}(h:∀a b c d e f g i,p [a,b,c,d,e,f,g,i]):∀us:List α,us.length=8->p us
 | [a,b,c,d,e,f,g,i],_=>h a b c d e f g i
theorem el9 {α:Type}{p:List α->Prop}(h:∀a b c d e f g i j,p [a,b,c,d,e,f,g,i,j]):∀us:List α,us.length=9->p us
 | [a,b,c,d,e,f,g,i,j],_=>h a b c d e f g i j
end L2
namespace K71
open PySem PySem.Spec PyProof.Rows L2
noncomputable def top (i:Nat):Stmt:=PySem.Challenge.pw_lettercell_k71_letters_put_and_read.main.body.getD i (.Pass ⟨0,0,0,0⟩)
noncomputable abbrev fC:Stmt:=inClass (top 6) 0
theorem kh:FnScope ["self","name"] ["self","name"] (defScope fC):=s!"f"
noncomputable abbrev fD:Stmt:=inClass (top 9) 0
theorem vE:FnScope ["self","life"] ["self","life"] (defScope fD):=s!"f"
noncomputable abbrev i6:Stmt:=inClass (top 10) 0
theorem zt:FnScope ["self","due"] ["self","due"] (defScope i6):=s!"f"
noncomputable abbrev fE:Stmt:=inClass (top 11) 0
theorem vF:FnScope ["self","number"] ["self","number"] (defScope fE):=s!"f"
noncomputable abbrev fF:Stmt:=inClass (top 17) 0
theorem vG:FnScope ["self","name"] ["self","name"] (defScope fF):=s!"f"
noncomputable abbrev iB:Stmt:=inClass (top 21) 0
theorem yP:FnScope ["self","row","place"] ["self","row","place"] (defScope iB):=s!"f"
noncomputable abbrev qp:Stmt:=top 24
theorem vH:FnScope ["text"] ["text"] (defScope qp):=s!"f"
noncomputable abbrev oJ:Stmt:=top 25
theorem yQ:FnScope ["fields"] ["fields"] (defScope oJ):=s!"f"
noncomputable abbrev t9:Stmt:=top 26
theorem jB:FnScope ["text","c","sign"] ["text"] (defScope t9):=s!"f"
noncomputable abbrev qq:Stmt:=top 27
theorem oK:FnScope ["number","body","figures"] ["number","body"] (defScope qq):=s!"f"
noncomputable abbrev mV:Stmt:=top 31
theorem rM:FnScope ["word"] ["word"] (defScope mV):=s!"f"
noncomputable abbrev k6:Stmt:=top 32
theorem Bb:FnScope ["owner"] ["owner"] (defScope k6):=s!"f"
noncomputable abbrev qr:Stmt:=top 33
theorem vI:FnScope ["part","value"] ["part","value"] (defScope qr):=s!"f"
noncomputable abbrev oM:Stmt:=top 34
theorem fG:FnScope ["name","values","event","part","value"] ["name","values"] (defScope oM):=s!"f"
noncomputable abbrev ki:Stmt:=top 35
theorem mW:FnScope ["event","name"] ["event"] (defScope ki):=s!"f"
noncomputable abbrev eI:Stmt:=top 36
theorem bo:FnScope ["shelves","texts","name","many","kind"] ["shelves"] (defScope eI):=s!"f"
noncomputable abbrev i7:Stmt:=top 37
theorem nh:FnScope ["state","event"] ["state","event"] (defScope i7):=s!"f"
noncomputable abbrev jZ:Stmt:=top 38
theorem eJ:FnScope ["state","event","row","place"] ["state","event"] (defScope jZ):=s!"f"
noncomputable abbrev ua:Stmt:=top 59
theorem qu:FnScope ["state","event","happening"] ["state","event"] (defScope ua):=s!"f"
noncomputable abbrev qv:Stmt:=top 66
theorem vJ:FnScope ["thing","least","most"] ["thing","least","most"] (defScope qv):=s!"f"
noncomputable abbrev qw:Stmt:=top 67
theorem vK:FnScope ["sign"] ["sign"] (defScope qw):=s!"f"
noncomputable abbrev mw:Stmt:=top 68
theorem vL:FnScope ["thing"] ["thing"] (defScope mw):=s!"f"
noncomputable abbrev oN:Stmt:=top 69
theorem yR:FnScope ["thing"] ["thing"] (defScope oN):=s!"f"
noncomputable abbrev mx:Stmt:=top 70
theorem vM:FnScope ["thing"] ["thing"] (defScope mx):=s!"f"
noncomputable abbrev oO:Stmt:=top 71
theorem ub:FnScope ["thing","low","high"] ["thing","low","high"] (defScope oO):=s!"f"
noncomputable abbrev uc:Stmt:=top 72
theorem jC:FnScope ["key","h","sign"] ["key"] (defScope uc):=s!"f"
noncomputable abbrev ud:Stmt:=top 73
theorem yS:FnScope ["key","many"] ["key","many"] (defScope ud):=s!"f"
noncomputable abbrev gp:Stmt:=top 80
theorem oP:FnScope ["names"] ["names"] (defScope gp):=s!"f"
noncomputable abbrev eK:Stmt:=top 81
theorem ni:FnScope ["bounded"] ["bounded"] (defScope eK):=s!"f"
noncomputable abbrev i8:Stmt:=top 82
theorem nj:FnScope ["key","word"] ["key","word"] (defScope i8):=s!"f"
noncomputable abbrev j0:Stmt:=top 83
theorem oQ:FnScope ["thing"] ["thing"] (defScope j0):=s!"f"
noncomputable abbrev j1:Stmt:=top 84
theorem oR:FnScope ["state","row"] ["state","row"] (defScope j1):=s!"f"
noncomputable abbrev mX:Stmt:=top 88
theorem rN:FnScope ["state","row"] ["state","row"] (defScope mX):=s!"f"
noncomputable abbrev oS:Stmt:=top 91
theorem fH:FnScope ["state","sender","events","deed","life"] ["state","sender"] (defScope oS):=s!"f"
noncomputable abbrev qx:Stmt:=top 92
theorem ig:FnScope ["state","sender","life","number","shelf","letter","deed","row","known","place"] ["state","sender","life","number","shelf","letter","deed"] (defScope qx):=s!"f"
noncomputable abbrev mY:Stmt:=top 106
theorem k7:FnScope ["state","row","start","most","whole","kept"] ["state","row","start","most","whole"] (defScope mY):=s!"f"
noncomputable abbrev iC:Stmt:=inClass (top 108) 0
theorem my:FnScope ["self"] ["self"] (defScope iC):=s!"f"
noncomputable abbrev k8:Stmt:=inClass (top 108) 1
theorem cK:FnScope ["self","bodies","last","k","body","sign"] ["self","bodies"] (defScope k8):=s!"f"
noncomputable abbrev gK:Stmt:=inClass (top 118) 0
theorem k9:FnScope ["self"] ["self"] (defScope gK):=s!"f"
noncomputable abbrev iD:Stmt:=inClass (top 118) 4
theorem mz:FnScope ["self","sender"] ["self","sender"] (defScope iD):=s!"f"
noncomputable abbrev gL:Stmt:=inClass (top 118) 6
theorem wO:FnScope ["self","number"] ["self","number"] (defScope gL):=s!"f"
noncomputable abbrev la:Stmt:=inClass (top 118) 7
theorem Bc:FnScope ["self","number","row","place"] ["self","number","row","place"] (defScope la):=s!"f"
noncomputable abbrev gq:Stmt:=inClass (top 118) 16
theorem oU:FnScope ["self"] ["self"] (defScope gq):=s!"f"
noncomputable abbrev lg:Stmt:=top 120
theorem Bd:FnScope ["ends","spot"] ["ends","spot"] (defScope lg):=s!"f"
noncomputable abbrev fI:Stmt:=top 121
theorem vN:FnScope ["ends","spots","spot"] ["ends","spots"] (defScope fI):=s!"f"
noncomputable abbrev wQ:Stmt:=top 122
theorem E3:FnScope ["ends","paper","deed","spots","other","spot"] ["ends","paper","deed","spots","other"] (defScope wQ):=s!"f"
noncomputable abbrev lh:Stmt:=top 123
theorem gs:FnScope ["ends","paper","pairs","number","pair","other"] ["ends","paper","pairs"] (defScope lh):=s!"f"
noncomputable abbrev qy:Stmt:=top 124
theorem ij:FnScope ["ends","paper","pairs","now","many"] ["ends","paper","pairs"] (defScope qy):=s!"f"
noncomputable abbrev ue:Stmt:=top 125
theorem yT:FnScope ["ends","pairs"] ["ends","pairs"] (defScope ue):=s!"f"
noncomputable abbrev i9:Stmt:=inClass (top 132) 0
theorem nk:FnScope ["self"] ["self"] (defScope i9):=s!"f"
noncomputable abbrev qA:Stmt:=inClass (top 132) 1
theorem oV:FnScope ["self","key","word","deed","place"] ["self","key","word","deed"] (defScope qA):=s!"f"
noncomputable abbrev uf:Stmt:=inClass (top 132) 2
theorem yU:FnScope ["self","place"] ["self","place"] (defScope uf):=s!"f"
noncomputable abbrev oW:Stmt:=inClass (top 132) 3
theorem fJ:FnScope ["self","start","limit","most","found","place","letter"] ["self","start","limit","most"] (defScope oW):=s!"f"
noncomputable abbrev qB:Stmt:=top 133
theorem vO:FnScope ["thing"] ["thing"] (defScope qB):=s!"f"
noncomputable abbrev oX:Stmt:=top 134
theorem ug:FnScope ["thing"] ["thing"] (defScope oX):=s!"f"
noncomputable abbrev dM:Stmt:=top 135
theorem oY:FnScope ["thing"] ["thing"] (defScope dM):=s!"f"
noncomputable abbrev eL:Stmt:=inClass (top 136) 0
theorem jO:FnScope ["self","shelves"] ["self","shelves"] (defScope eL):=s!"f"
noncomputable abbrev ja:Stmt:=inClass (top 136) 1
theorem nq:FnScope ["self"] ["self"] (defScope ja):=s!"f"
noncomputable abbrev cG:Stmt:=inClass (top 136) 2
theorem jb:FnScope ["self"] ["self"] (defScope cG):=s!"f"
noncomputable abbrev fK:Stmt:=inClass (top 136) 3
theorem bV:FnScope ["self","name","start","shelf"] ["self","name"] (defScope fK):=s!"f"
noncomputable abbrev dY:Stmt:=inClass (top 136) 4
theorem bB:FnScope ["self","row","end","shelf"] ["self","row"] (defScope dY):=s!"f"
noncomputable abbrev eM:Stmt:=inClass (top 136) 5
theorem jP:FnScope ["self","row"] ["self","row"] (defScope eM):=s!"f"
noncomputable abbrev fL:Stmt:=inClass (top 136) 7
theorem eO:FnScope ["self","name","key","rows"] ["self","name","key"] (defScope fL):=s!"f"
noncomputable abbrev eP:Stmt:=inClass (top 139) 0
theorem jQ:FnScope ["self"] ["self"] (defScope eP):=s!"f"
noncomputable abbrev jd:Stmt:=inClass (top 139) 1
theorem iE:FnScope ["self","name","life"] ["self","name"] (defScope jd):=s!"f"
noncomputable abbrev je:Stmt:=inClass (top 139) 2
theorem nv:FnScope ["self","name"] ["self","name"] (defScope je):=s!"f"
noncomputable abbrev iF:Stmt:=inClass (top 139) 3
theorem mB:FnScope ["self","name","life"] ["self","name","life"] (defScope iF):=s!"f"
noncomputable abbrev fM:Stmt:=inClass (top 139) 4
theorem eQ:FnScope ["self","name","number","due","kept","oldest"] ["self","name","number"] (defScope fM):=s!"f"
noncomputable abbrev jf:Stmt:=inClass (top 139) 5
theorem iG:FnScope ["self","name","number","row","place","due"] ["self","name","number","row","place"] (defScope jf):=s!"f"
noncomputable abbrev fN:Stmt:=inClass (top 139) 6
theorem kj:FnScope ["self","name"] ["self","name"] (defScope fN):=s!"f"
noncomputable abbrev fO:Stmt:=inClass (top 139) 7
theorem km:FnScope ["self","name"] ["self","name"] (defScope fO):=s!"f"
noncomputable abbrev eR:Stmt:=inClass (top 141) 0
theorem jR:FnScope ["self"] ["self"] (defScope eR):=s!"f"
noncomputable abbrev dD:Stmt:=inClass (top 144) 0
theorem lj:FnScope ["self","shelves"] ["self","shelves"] (defScope dD):=s!"f"
noncomputable abbrev dE:Stmt:=inClass (top 144) 4
theorem ll:FnScope ["self","row"] ["self","row"] (defScope dE):=s!"f"
noncomputable abbrev fP:Stmt:=inClass (top 146) 0
theorem kn:FnScope ["self","shelves"] ["self","shelves"] (defScope fP):=s!"f"
noncomputable abbrev ik:Stmt:=inClass (top 146) 1
theorem gu:FnScope ["self","asked","events","event"] ["self","asked"] (defScope ik):=s!"f"
noncomputable abbrev j2:Stmt:=inClass (top 146) 2
theorem oZ:FnScope ["self","sender"] ["self","sender"] (defScope j2):=s!"f"
noncomputable abbrev lq:Stmt:=inClass (top 146) 3
theorem pM:FnScope ["self","sender","life","number","shelf","key","word","deed"] ["self","sender","life","number","shelf","key","word","deed"] (defScope lq):=s!"f"
noncomputable abbrev j3:Stmt:=inClass (top 146) 22
theorem o6:FnScope ["self","row","start","most","whole"] ["self","row","start","most","whole"] (defScope j3):=s!"f"
noncomputable abbrev fQ:Stmt:=inClass (top 146) 23
theorem ko:FnScope ["self","row"] ["self","row"] (defScope fQ):=s!"f"
noncomputable abbrev mZ:Stmt:=top 148
theorem rO:FnScope ["_law_script","_law_k"] ["_law_script","_law_k"] (defScope mZ):=s!"f"
noncomputable abbrev qC:Stmt:=top 149
theorem o7:FnScope ["_law_cell","_law_k","_law_number"] ["_law_cell","_law_k"] (defScope qC):=s!"f"
noncomputable abbrev uh:Stmt:=top 150
theorem mC:FnScope ["_law_number","_law_many","_law_some"] ["_law_number","_law_many"] (defScope uh):=s!"f"
noncomputable abbrev j4:Stmt:=top 151
theorem dh:FnScope ["_law_one","_law_other","_law_found","_law_worth"] ["_law_one","_law_other"] (defScope j4):=s!"f"
noncomputable abbrev o9:Stmt:=top 152
theorem dZ:FnScope ["_law_key","_law_number","_law_sign_here","_law_high"] ["_law_key"] (defScope o9):=s!"f"
noncomputable abbrev pb:Stmt:=top 153
theorem ui:FnScope ["_law_number"] ["_law_number"] (defScope pb):=s!"f"
noncomputable abbrev mD:Stmt:=top 154
theorem cS:FnScope ["_law_cell","_law_many","_law_size","_law_at","_law_base","_law_names_here","_law_k","_law_signs"] ["_law_cell","_law_many"] (defScope mD):=s!"f"
noncomputable abbrev pd:Stmt:=top 155
theorem dF:FnScope ["_law_cell","_law_many","_law_size","_law_base","_law_at","_law_keys_here","_law_k","_law_signs"] ["_law_cell","_law_many"] (defScope pd):=s!"f"
noncomputable abbrev pe:Stmt:=top 156
theorem jD:FnScope ["_law_cell","_law_way","_law_size"] ["_law_cell"] (defScope pe):=s!"f"
noncomputable abbrev qD:Stmt:=top 157
theorem vP:FnScope ["_law_found","_law_due"] ["_law_found","_law_due"] (defScope qD):=s!"f"
noncomputable abbrev m5:Stmt:=top 158
theorem d7:FnScope ["_law_cell","_law_found","_law_k","_law_name"] ["_law_cell"] (defScope m5):=s!"f"
noncomputable abbrev wR:Stmt:=top 159
theorem AU:FnScope ["_law_cellar","_law_sender","_law_number","_law_letter_here"] ["_law_cellar","_law_sender","_law_number","_law_letter_here"] (defScope wR):=s!"f"
noncomputable abbrev uj:Stmt:=top 160
theorem yV:FnScope ["_law_found","_law_row","_law_place"] ["_law_found","_law_row","_law_place"] (defScope uj):=s!"f"
noncomputable abbrev uk:Stmt:=top 161
theorem qF:FnScope ["_law_found","_law_due","_law_letter_here"] ["_law_found","_law_due"] (defScope uk):=s!"f"
noncomputable abbrev qG:Stmt:=top 162
theorem kq:FnScope ["_law_cellar","_law_row","_law_letters","_law_most","_law_start","_law_found"] ["_law_cellar","_law_row","_law_letters","_law_most"] (defScope qG):=s!"f"
noncomputable abbrev m6:Stmt:=top 163
theorem bW:FnScope ["_law_cellar","_law_shelf","_law_sender","_law_row","_law_first","_law_second","e"] ["_law_cellar","_law_shelf","_law_sender","_law_row"] (defScope m6):=s!"f"
noncomputable abbrev um:Stmt:=top 164
theorem bI:FnScope ["_law_script","_law_cell","_law_shelves_here","_law_cellar","_law_senders","_law_keys_here","_law_rows","_law_numbers","_law_each","_law_at","_law_shelf","_law_key","_law_word_here","_law_ahead","_law_row","_law_letter_here","_law_found","_law_letters","_law_last"] ["_law_script"] (defScope um):=s!"f"
set_option genInjectivity false in
structure Adr where
 {C_BadWord C_Fenced C_Gap C_Gone C_NoDeed C_NoSuch C_TooOld C_Readers C_Book C_Row C_Shelves C_Senders C_Cellar C_Deeds C_State f_NoSuch___init__ f_Fenced___init__ f_Gap___init__ f_TooOld___init__ f_NoDeed___init__ f_Gone___init__ f_guarded f_joined f_sum_of f_line_of f_word_text f_owner_text f_text_of f_event_of f_body_for f_body_for_shelves f_hail_happens f_put_happens f_happen f_is_text f_is_sign f_is_name f_is_key f_is_word f_is_whole f_spread f_row_in f_check_names f_check_wholes f_check_letter f_check_truth f_check_there f_asked_row f_hail_act f_put_act f_read_from f_Book___init__ f_Book_write f_Deeds___init__ f_Deeds_open_of f_Deeds_numbered f_Deeds_hold f_Deeds_pairs f_is_beneath f_row_not_beneath f_lower f_lower_once f_lowered f_fronts f_Row___init__ f_Row_add f_Row_at f_Row_seen f_is_kind f_is_shelf f_are_shelves f_Shelves___init__ f_Shelves_told f_Shelves_many_rows f_Shelves_rows_of f_Shelves_shelf_with f_Shelves_shelf_at f_Shelves_row_for f_Senders___init__ f_Senders_hail f_Senders_need f_Senders_allow f_Senders_spot_of f_Senders_note f_Senders_life_of f_Senders_last_of f_Readers___init__ f_State___init__ f_State_front_at f_Cellar___init__ f_Cellar_act f_Cellar_hail f_Cellar_put f_Cellar_read f_Cellar_front_of f_l_cell_at f_l_mixed f_l_sign f_l_laid_over f_l_spread f_l_letter f_l_names f_l_keys f_l_word f_l_whole f_l_shelves f_l_put f_l_spot f_l_page f_l_pages f_l_nothing f_law p_PARTS_put p_PARTS_hail:Addr}
 {d_NoSuch___init__ d_Fenced___init__ d_Gap___init__ d_TooOld___init__ d_NoDeed___init__ d_Gone___init__ d_guarded d_joined d_sum_of d_line_of d_word_text d_owner_text d_text_of d_event_of d_body_for d_body_for_shelves d_hail_happens d_put_happens d_happen d_is_text d_is_sign d_is_name d_is_key d_is_word d_is_whole d_spread d_row_in d_check_names d_check_wholes d_check_letter d_check_truth d_check_there d_asked_row d_hail_act d_put_act d_read_from d_Book___init__ d_Book_write d_Deeds___init__ d_Deeds_open_of d_Deeds_numbered d_Deeds_hold d_Deeds_pairs d_is_beneath d_row_not_beneath d_lower d_lower_once d_lowered d_fronts d_Row___init__ d_Row_add d_Row_at d_Row_seen d_is_kind d_is_shelf d_are_shelves d_Shelves___init__ d_Shelves_told d_Shelves_many_rows d_Shelves_rows_of d_Shelves_shelf_with d_Shelves_shelf_at d_Shelves_row_for d_Senders___init__ d_Senders_hail d_Senders_need d_Senders_allow d_Senders_spot_of d_Senders_note d_Senders_life_of d_Senders_last_of d_Readers___init__ d_State___init__ d_State_front_at d_Cellar___init__ d_Cellar_act d_Cellar_hail d_Cellar_put d_Cellar_read d_Cellar_front_of d_l_cell_at d_l_mixed d_l_sign d_l_laid_over d_l_spread d_l_letter d_l_names d_l_keys d_l_word d_l_whole d_l_shelves d_l_put d_l_spot d_l_page d_l_pages d_l_nothing d_law:FuncData}
 {e1_Row_add i_Row_add e1_Cellar_put e2_Cellar_put i_Cellar_put e1_Cellar_read e2_Cellar_read i_Cellar_read:List Value}
structure Txt (w:World)(K:W.Frag)(mg:Str->Option Value)(a:Adr):Prop where
 vQ:mg "Readers"=some (.ref a.C_Readers)
 Cj:mg "Book"=some (.ref a.C_Book)
 Ef:mg "Row"=some (.ref a.C_Row)
 vR:mg "Shelves"=some (.ref a.C_Shelves)
 vS:mg "Senders"=some (.ref a.C_Senders)
 yW:mg "Cellar"=some (.ref a.C_Cellar)
 AV:mg "Deeds"=some (.ref a.C_Deeds)
 AW:mg "State"=some (.ref a.C_State)
 Eg:mg "BadWord"=some (.ref a.C_BadWord)
 Er:mg "Fenced"=some (.ref a.C_Fenced)
 FA:mg "Gap"=some (.ref a.C_Gap)
 Fl:mg "Gone"=some (.ref a.C_Gone)
 Es:mg "NoDeed"=some (.ref a.C_NoDeed)
 gM:mg "NoSuch"=some (.ref a.C_NoSuch)
 Et:mg "TooOld"=some (.ref a.C_TooOld)
 yX:Mk K a.C_Readers a.f_Readers___init__
 Eh:Mk K a.C_Book a.f_Book___init__
 E4:Mk K a.C_Row a.f_Row___init__
 yY:Mk K a.C_Shelves a.f_Shelves___init__
 yZ:Mk K a.C_Senders a.f_Senders___init__
 AX:Mk K a.C_Cellar a.f_Cellar___init__
 Cm:Mk K a.C_Deeds a.f_Deeds___init__
 Cn:Mk K a.C_State a.f_State___init__
 Eu:Xi K a.C_Fenced a.f_Fenced___init__
 Ew:Xf K a.f_Fenced___init__
 FC:Xi K a.C_Gap a.f_Gap___init__
 FD:Xf K a.f_Gap___init__
 Fm:Xi K a.C_Gone a.f_Gone___init__
 Fn:Xf K a.f_Gone___init__
 Ex:Xi K a.C_NoDeed a.f_NoDeed___init__
 Ey:Xf K a.f_NoDeed___init__
 mE:Xi K a.C_NoSuch a.f_NoSuch___init__
 mF:Xf K a.f_NoSuch___init__
 Ez:Xi K a.C_TooOld a.f_TooOld___init__
 EA:Xf K a.f_TooOld___init__
 cq:FI K "NoSuch.__init__" fC ["self","name"] a.f_NoSuch___init__ a.d_NoSuch___init__
 wU:FI K "Fenced.__init__" fD ["self","life"] a.f_Fenced___init__ a.d_Fenced___init__
 AY:FI K "Gap.__init__" i6 ["self","due"] a.f_Gap___init__ a.d_Gap___init__
 wW:FI K "TooOld.__init__" fE ["self","number"] a.f_TooOld___init__ a.d_TooOld___init__
 wX:FI K "NoDeed.__init__" fF ["self","name"] a.f_NoDeed___init__ a.d_NoDeed___init__
 zu:FI K "Gone.__init__" iB ["self","row","place"] a.f_Gone___init__ a.d_Gone___init__
 jE:FT K mg "guarded" qp ["text"] a.f_guarded a.d_guarded
 eS:FT K mg "joined" oJ ["fields"] a.f_joined a.d_joined
 lu:FT K mg "sum_of" t9 ["text"] a.f_sum_of a.d_sum_of
 jF:FT K mg "line_of" qq ["number","body"] a.f_line_of a.d_line_of
 fR:FT K mg "word_text" mV ["word"] a.f_word_text a.d_word_text
 il:FT K mg "owner_text" k6 ["owner"] a.f_owner_text a.d_owner_text
 jG:FT K mg "text_of" qr ["part","value"] a.f_text_of a.d_text_of
 bJ:FT K mg "event_of" oM ["name","values"] a.f_event_of a.d_event_of
 iq:FT K mg "body_for" ki ["event"] a.f_body_for a.d_body_for
 bX:FT K mg "body_for_shelves" eI ["shelves"] a.f_body_for_shelves a.d_body_for_shelves
 eT:FT K mg "hail_happens" i7 ["state","event"] a.f_hail_happens a.d_hail_happens
 gv:FT K mg "put_happens" jZ ["state","event"] a.f_put_happens a.d_put_happens
 lz:FT K mg "happen" ua ["state","event"] a.f_happen a.d_happen
 cc:FT K mg "is_text" qv ["thing","least","most"] a.f_is_text a.d_is_text
 dG:FT K mg "is_sign" qw ["sign"] a.f_is_sign a.d_is_sign
 dH:FT K mg "is_name" mw ["thing"] a.f_is_name a.d_is_name
 lA:FT K mg "is_key" oN ["thing"] a.f_is_key a.d_is_key
 jH:FT K mg "is_word" mx ["thing"] a.f_is_word a.d_is_word
 cT:FT K mg "is_whole" oO ["thing","low","high"] a.f_is_whole a.d_is_whole
 lB:FT K mg "spread" uc ["key"] a.f_spread a.d_spread
 lC:FT K mg "row_in" ud ["key","many"] a.f_row_in a.d_row_in
 bK:FT K mg "check_names" gp ["names"] a.f_check_names a.d_check_names
 aV:FT K mg "check_wholes" eK ["bounded"] a.f_check_wholes a.d_check_wholes
 di:FT K mg "check_letter" i8 ["key","word"] a.f_check_letter a.d_check_letter
 dN:FT K mg "check_truth" j0 ["thing"] a.f_check_truth a.d_check_truth
 dO:FT K mg "check_there" j1 ["state","row"] a.f_check_there a.d_check_there
 cy:FT K mg "asked_row" mX ["state","row"] a.f_asked_row a.d_asked_row
 iu:FT K mg "hail_act" oS ["state","sender"] a.f_hail_act a.d_hail_act
 jI:FT K mg "put_act" qx ["state","sender","life","number","shelf","letter","deed"] a.f_put_act a.d_put_act
 fS:FT K mg "read_from" mY ["state","row","start","most","whole"] a.f_read_from a.d_read_from
 iH:FI K "Book.__init__" iC ["self"] a.f_Book___init__ a.d_Book___init__
 dj:FM K a.C_Book "write" "Book.write" k8 ["self","bodies"] a.f_Book_write a.d_Book_write
 gN:FI K "Deeds.__init__" gK ["self"] a.f_Deeds___init__ a.d_Deeds___init__
 b6:FM K a.C_Deeds "open_of" "Deeds.open_of" iD ["self","sender"] a.f_Deeds_open_of a.d_Deeds_open_of
 y4:FM K a.C_Deeds "numbered" "Deeds.numbered" gL ["self","number"] a.f_Deeds_numbered a.d_Deeds_numbered
 Co:FM K a.C_Deeds "hold" "Deeds.hold" la ["self","number","row","place"] a.f_Deeds_hold a.d_Deeds_hold
 gw:FM K a.C_Deeds "pairs" "Deeds.pairs" gq ["self"] a.f_Deeds_pairs a.d_Deeds_pairs
 Cp:FT K mg "is_beneath" lg ["ends","spot"] a.f_is_beneath a.d_is_beneath
 wY:FT K mg "row_not_beneath" fI ["ends","spots"] a.f_row_not_beneath a.d_row_not_beneath
 Fo:FT K mg "lower" wQ ["ends","paper","deed","spots","other"] a.f_lower a.d_lower
 d8:FT K mg "lower_once" lh ["ends","paper","pairs"] a.f_lower_once a.d_lower_once
 jJ:FT K mg "lowered" qy ["ends","paper","pairs"] a.f_lowered a.d_lowered
 lD:FT K mg "fronts" ue ["ends","pairs"] a.f_fronts a.d_fronts
 jg:FI K "Row.__init__" i9 ["self"] a.f_Row___init__ a.d_Row___init__
 y6:Meth K a.C_Row "add" a.f_Row_add
 y8:FunD K "add" "Row.add" qA a.f_Row_add a.d_Row_add a.i_Row_add
 y9:Binds K a.d_Row_add ["self","key","word","deed"] []
 Ei:Binds K a.d_Row_add ["self","key","word","deed"] a.e1_Row_add
 Ej:Vals [.int 0] a.e1_Row_add
 pj:FM K a.C_Row "at" "Row.at" uf ["self","place"] a.f_Row_at a.d_Row_at
 kr:FM K a.C_Row "seen" "Row.seen" oW ["self","start","limit","most"] a.f_Row_seen a.d_Row_seen
 jK:FT K mg "is_kind" qB ["thing"] a.f_is_kind a.d_is_kind
 iw:FT K mg "is_shelf" oX ["thing"] a.f_is_shelf a.d_is_shelf
 dP:FT K mg "are_shelves" dM ["thing"] a.f_are_shelves a.d_are_shelves
 eV:FI K "Shelves.__init__" eL ["self","shelves"] a.f_Shelves___init__ a.d_Shelves___init__
 eW:FM K a.C_Shelves "told" "Shelves.told" ja ["self"] a.f_Shelves_told a.d_Shelves_told
 cI:FM K a.C_Shelves "many_rows" "Shelves.many_rows" cG ["self"] a.f_Shelves_many_rows a.d_Shelves_many_rows
 dk:FM K a.C_Shelves "rows_of" "Shelves.rows_of" fK ["self","name"] a.f_Shelves_rows_of a.d_Shelves_rows_of
 cz:FM K a.C_Shelves "shelf_with" "Shelves.shelf_with" dY ["self","row"] a.f_Shelves_shelf_with a.d_Shelves_shelf_with
 cU:FM K a.C_Shelves "shelf_at" "Shelves.shelf_at" eM ["self","row"] a.f_Shelves_shelf_at a.d_Shelves_shelf_at
 dm:FM K a.C_Shelves "row_for" "Shelves.row_for" fL ["self","name","key"] a.f_Shelves_row_for a.d_Shelves_row_for
 eX:FI K "Senders.__init__" eP ["self"] a.f_Senders___init__ a.d_Senders___init__
 eY:FM K a.C_Senders "hail" "Senders.hail" jd ["self","name"] a.f_Senders_hail a.d_Senders_hail
 a8:FM K a.C_Senders "need" "Senders.need" je ["self","name"] a.f_Senders_need a.d_Senders_need
 d4:FM K a.C_Senders "allow" "Senders.allow" iF ["self","name","life"] a.f_Senders_allow a.d_Senders_allow
 dn:FM K a.C_Senders "spot_of" "Senders.spot_of" fM ["self","name","number"] a.f_Senders_spot_of a.d_Senders_spot_of
 eZ:FM K a.C_Senders "note" "Senders.note" jf ["self","name","number","row","place"] a.f_Senders_note a.d_Senders_note
 bH:FM K a.C_Senders "life_of" "Senders.life_of" fN ["self","name"] a.f_Senders_life_of a.d_Senders_life_of
 dq:FM K a.C_Senders "last_of" "Senders.last_of" fO ["self","name"] a.f_Senders_last_of a.d_Senders_last_of
 fb:FI K "Readers.__init__" eR ["self"] a.f_Readers___init__ a.d_Readers___init__
 gO:FI K "State.__init__" dD ["self","shelves"] a.f_State___init__ a.d_State___init__
 bN:FM K a.C_State "front_at" "State.front_at" dE ["self","row"] a.f_State_front_at a.d_State_front_at
 fU:FI K "Cellar.__init__" fP ["self","shelves"] a.f_Cellar___init__ a.d_Cellar___init__
 du:FM K a.C_Cellar "act" "Cellar.act" ik ["self","asked"] a.f_Cellar_act a.d_Cellar_act
 cL:FM K a.C_Cellar "hail" "Cellar.hail" j2 ["self","sender"] a.f_Cellar_hail a.d_Cellar_hail
 d9:Meth K a.C_Cellar "put" a.f_Cellar_put
 rP:FunD K "put" "Cellar.put" lq a.f_Cellar_put a.d_Cellar_put a.i_Cellar_put
 Cq:Binds K a.d_Cellar_put ["self","sender","life","number","shelf","key","word","deed"] []
 gy:Binds K a.d_Cellar_put ["self","sender","life","number","shelf","key","word","deed"] a.e1_Cellar_put
 gz:Vals [.int 0] a.e1_Cellar_put
 pN:Binds K a.d_Cellar_put ["self","sender","life","number","shelf","key","word","deed"] a.e2_Cellar_put
 pO:Vals [.non,.int 0] a.e2_Cellar_put
 cM:Meth K a.C_Cellar "read" a.f_Cellar_read
 pP:FunD K "read" "Cellar.read" j3 a.f_Cellar_read a.d_Cellar_read a.i_Cellar_read
 Be:Binds K a.d_Cellar_read ["self","row","start","most","whole"] []
 jh:Binds K a.d_Cellar_read ["self","row","start","most","whole"] a.e1_Cellar_read
 ji:Vals [.bl true] a.e1_Cellar_read
 fc:Binds K a.d_Cellar_read ["self","row","start","most","whole"] a.e2_Cellar_read
 fe:Vals [.int 10,.bl true] a.e2_Cellar_read
 dv:FM K a.C_Cellar "front_of" "Cellar.front_of" fQ ["self","row"] a.f_Cellar_front_of a.d_Cellar_front_of
 bq:FT K mg "_law_cell_at" mZ ["_law_script","_law_k"] a.f_l_cell_at a.d_l_cell_at
 ao:FT K mg "_law_mixed" qC ["_law_cell","_law_k"] a.f_l_mixed a.d_l_mixed
 cN:FT K mg "_law_sign" uh ["_law_number","_law_many"] a.f_l_sign a.d_l_sign
 dQ:FT K mg "_law_laid_over" j4 ["_law_one","_law_other"] a.f_l_laid_over a.d_l_laid_over
 ix:FT K mg "_law_spread" o9 ["_law_key"] a.f_l_spread a.d_l_spread
 cV:FT K mg "_law_letter" pb ["_law_number"] a.f_l_letter a.d_l_letter
 cf:FT K mg "_law_names" mD ["_law_cell","_law_many"] a.f_l_names a.d_l_names
 lE:FT K mg "_law_keys" pd ["_law_cell","_law_many"] a.f_l_keys a.d_l_keys
 lF:FT K mg "_law_word" pe ["_law_cell"] a.f_l_word a.d_l_word
 bt:FT K mg "_law_whole" qD ["_law_found","_law_due"] a.f_l_whole a.d_l_whole
 fV:FT K mg "_law_shelves" m5 ["_law_cell"] a.f_l_shelves a.d_l_shelves
 nM:FT K mg "_law_put" wR ["_law_cellar","_law_sender","_law_number","_law_letter_here"] a.f_l_put a.d_l_put
 lG:FT K mg "_law_spot" uj ["_law_found","_law_row","_law_place"] a.f_l_spot a.d_l_spot
 cO:FT K mg "_law_page" uk ["_law_found","_law_due"] a.f_l_page a.d_l_page
 jL:FT K mg "_law_pages" qG ["_law_cellar","_law_row","_law_letters","_law_most"] a.f_l_pages a.d_l_pages
 cC:FT K mg "_law_nothing" m6 ["_law_cellar","_law_shelf","_law_sender","_law_row"] a.f_l_nothing a.d_l_nothing
 CZ:FT K mg "law" um ["_law_script"] a.f_law a.d_law
 pk:Cls K a.C_Readers
 lH:NoAttr K a.C_Readers "places"
 ny:NoAttr K a.C_Readers "rows"
 fW:Cls K a.C_Book
 cg:NoAttr K a.C_Book "lines"
 cJ:Cls K a.C_Row
 rQ:NoAttr K a.C_Row "drawn"
 dI:NoAttr K a.C_Row "end"
 iy:NoAttr K a.C_Row "first"
 fg:NoAttr K a.C_Row "letters"
 bx:Cls K a.C_Shelves
 bA:NoAttr K a.C_Shelves "shelves"
 aC:Cls K a.C_Senders
 bc:NoAttr K a.C_Senders "lasts"
 bO:NoAttr K a.C_Senders "lives"
 cE:NoAttr K a.C_Senders "spots"
 aG:Cls K a.C_Cellar
 fh:NoAttr K a.C_Cellar "book"
 ba:NoAttr K a.C_Cellar "state"
 fi:Cls K a.C_Deeds
 j5:NoAttr K a.C_Deeds "busy"
 jj:NoAttr K a.C_Deeds "deeds"
 aL:Cls K a.C_State
 fj:NoAttr K a.C_State "deeds"
 nz:NoAttr K a.C_State "groups"
 mG:NoAttr K a.C_State "readers"
 cP:NoAttr K a.C_State "rows"
 aZ:NoAttr K a.C_State "senders"
 bP:NoAttr K a.C_State "shelves"
 pQ:NoAttr K a.C_State "turn"
 EB:XCls K a.C_BadWord
 C9:W.findIn K (.ref a.C_BadWord) "__init__"=some (some (.builtin "ValueError.__init__"))
 wZ:Em K a.C_BadWord a.C_NoSuch false
 E5:XCls K a.C_Fenced
 AZ:NoAttr K a.C_Fenced "life"
 za:Em K a.C_Fenced a.C_NoSuch false
 FG:XCls K a.C_Gap
 Ek:NoAttr K a.C_Gap "due"
 Bf:Em K a.C_Gap a.C_NoSuch false
 FE:XCls K a.C_Gone
 Bg:NoAttr K a.C_Gone "place"
 Dc:NoAttr K a.C_Gone "row"
 A3:Em K a.C_Gone a.C_NoSuch false
 E6:XCls K a.C_NoDeed
 A4:NoAttr K a.C_NoDeed "name"
 zc:Em K a.C_NoDeed a.C_NoSuch false
 gP:XCls K a.C_NoSuch
 fk:NoAttr K a.C_NoSuch "name"
 gQ:Em K a.C_NoSuch a.C_NoSuch true
 E7:XCls K a.C_TooOld
 zd:NoAttr K a.C_TooOld "number"
 ze:Em K a.C_TooOld a.C_NoSuch false
 qH:mg "all"=none
 A5:mg "bool"=none
 fX:mg "enumerate"=none
 De:mg "int"=none
 a9:mg "isinstance"=none
 cF:mg "len"=none
 gA:mg "list"=none
 E8:mg "max"=none
 E9:mg "min"=none
 w4:mg "ord"=none
 dR:mg "range"=none
 Fb:mg "set"=none
 Fc:mg "sorted"=none
 pq:mg "str"=none
 A6:mg "sum"=none
 rR:mg "tuple"=none
 Fd:mg "zip"=none
 fm:GConst mg "GREATEST" (.int 1000000000)
 rS:L2.DCon w K mg "HAPPENINGS" [("hail",.ref a.f_hail_happens),("put",.ref a.f_put_happens)]
 vT:GConst mg "KEY_MOST" (.int 24)
 Cr:TConst K mg "KINDS" [.str "table",.str "stream"]
 pw:GConst mg "LETTERS_MOST" (.int 1000)
 uo:GConst mg "NAME_MOST" (.int 12)
 rT:GConst mg "NAME_SIGNS" (.str "abcdefghijklmnopqrstuvwxyz0123456789")
 w6:L2.DCon w K mg "PARTS" [("hail",.ref a.p_PARTS_hail),("put",.ref a.p_PARTS_put)]
 vU:GConst mg "PER_CENT" (.int 37)
 uq:GConst mg "ROWS_MOST" (.int 9)
 pA:GConst mg "SHELVES_MOST" (.int 6)
 rV:GConst mg "SPOTS_KEPT" (.int 8)
 Cs:TConst K mg "TEXTS" [.str "sender",.str "key",.str "group",.str "shelf",.str "taker",.str "reader"]
 ur:GConst mg "WORD_MOST" (.int 200)
 El:∀(s:Shared) (u:Value),BindsTo s a.d_law ⟨[u],[]⟩ [("_law_script",u)]
 lI:∀H,SqT K H a.p_PARTS_put [.str "sender",.str "number",.str "deed",.str "row",.str "place",.str "key",.str "word"]
 j6:∀H,SqT K H a.p_PARTS_hail [.str "sender",.str "life"]
def rdN:String:="iRng3 rSw rSplit rZf iEnum1 Ep tAug tCT tLR1 tLR2 tLenSet tIxD tCallV gJ vm yr vn Eo uW uX sX tq kT ng tu u7 uZ oj om u9 Ax xV xW xY x9 yg yh yi yj yk vh yl ym vf yd Ea yf vg tH sP uT xO sO Aw tm u6 yq yo yp rTupOf Ae uO BO sXs tRaise tRaise0 tTry tXFld xMeth xCall xMake xNo tAs tBare tNoH Ends.less iZipT tL tM rD vo tN rE rF tO mv oF yA tP yK AL yI tT tU AM vv vw vx AN yJ vy B1 vc yM rK yL yN yO vB rJ vz yG yL ye uQ FF and_assoc Ff EN FH Fg iRng1 iRng2 rSlS tSl tNoPart tPart tBM tBM0 tyV rJoin tLst tTup tSeq tAsg gName gTup gCons gNil gSub tC tOp tUn rU rI rI0 tTest tIfS tRet tRetN tNext tBreak tCont tDrop tCons tNil tCall tMeth tMake tCB tB tNot tAnd tOr tAndV tOrV tNotV tChain tIf tIsN tNotN tFld sFld tInRng tInRng1 tDGet1 tDGet2 tDPop1 tDPop2 tDisp tPairs tDNewK rAppend rMax rMin iZip iEnum rStrI Fj EW EU iItems iKeys iRev tDClear sL EO Fh BN Fi DR Fq Fs Ft Fu rOrd tTru Fx Fy Fz Fv rIxS2 Fw Cy BD Cz BE A8 BF DN CC DO CH BG CI CJ BH CL BI A9 BJ CO BK CP BL Ba BM _root_.L2.start CMul CDiv CPow Int.reduceNeg Int.reducePow Int.reduceLT Int.reduceLE Int.reduceToNat or_true true_or and_self Nat.reducePow mapC mapN onRx onBx List.length_cons List.length_nil List.replicate List.cons_append List.nil_append List.append_nil Nat.reduceAdd Nat.reduceSub Nat.zero_add Nat.add_zero Nat.sub_self List.getElem?_cons_zero List.getElem?_cons_succ List.set_cons_zero List.set_cons_succ Option.some.injEq V.int.injEq V.bl.injEq V.str.injEq V.ref.injEq V.ty.injEq reduceCtorEq exists_eq exists_eq' not_true_eq_false not_false_eq_true exists_eq_left' exists_eq_left exists_eq_right exists_eq_right' exists_and_left exists_and_right exists_const false_and and_false true_and and_true exists_false or_false false_or List.cons.injEq eq_self_iff_true Bool.false_eq_true Bool.or_self Bool.or_true Bool.true_or Bool.or_false Bool.false_or if_true if_false ite_true ite_false Bool.not_true Bool.not_false decide_eq_true_eq Bool.not_eq_true' decide_eq_false_iff_not"
open Lean in
def rdM (d:String):MacroM (TSyntax `tactic):=do
 let ds:=d.splitOn " "
 let ls <-((rdN.splitOn " ").filter λs=>!ds.contains s).mapM λs=>`(Parser.Tactic.simpLemma| $(mkIdent s.toName):term)
 let ls:=ls.toArray
 `(tactic| simp(maxSteps:=3000000) only[$ls,*,↓reduceIte,↓$(Lean.mkIdent `tV0):term,↓$(Lean.mkIdent `tVs):term,↓$(Lean.mkIdent `onRr):term,↓$(Lean.mkIdent `onBb):term])
local macro_rules | `(tactic| walk_at "rd")=>rdM "iZipT tL tM rD vo tN rE rF tO mv oF yA tP yK AL yI tT tU AM vv vw vx AN yJ vy B1 vc yM rK yL yN yO vB rJ vz yG yL ye uQ"
open Lean in
local macro_rules | `(tactic| walk_at "c1")=>do `(tactic| (refine cut1 fun $(mkIdent `Rz) $(mkIdent `hRz)=>?_;walk_at "rd"))
open Lean in
local macro_rules | `(tactic| walk_at "c2")=>do `(tactic| (refine cut2 fun $(mkIdent `Rz) $(mkIdent `hRz)=>?_;walk_at "rd"))
open Lean in
local macro_rules | `(tactic| walk_at "ls")=>do `(tactic| (rw[$(mkIdent `hRz):ident];clear $(mkIdent `hRz);walk_at "rd"))
open Lean in
local macro_rules | `(tactic| walk_at "nx")=>do `(tactic| (rw[$(mkIdent `hRz):ident];clear $(mkIdent `hRz);walk_at "c1"))
open Lean in
local macro_rules | `(tactic| walk_at "n2")=>do `(tactic| (rw[$(mkIdent `hRz):ident];clear $(mkIdent `hRz);walk_at "c2"))
seal PE PT PW PA PS PSs PG PGs PI PO PPs PC
section
variable {P:Program} {w:World} {K:W.Frag} {mg:Str->Option Value} {base:Heap} {a:Adr}
theorem cW (T:Txt w K mg a):FnOk P w K mg base CX0 1 a.f_NoSuch___init__ a.d_NoSuch___init__ ["self","name"] (Am a.C_NoSuch ["name"]):=by
 refine T.cq.F.ok kh (λvs H Q E h=>?_) (λcdv A outer s H vs Q E hr h=>?_)
 ·obtain⟨ea,t,ys,rfl,hl,_⟩:=h
  rw[List.length_cons,hl]
  rfl
 ·obtain⟨ea,t,ys,rfl,hl,he,q⟩:=h
  obtain⟨y0,rfl⟩:∃y0,ys=[y0]:=by
   match ys,hl with
   | [y0],_=>exact⟨y0,rfl⟩
  refine⟨_,(ai (BX (pv 0) (pv 1) rfl)),?_⟩
  walk_at "rd"
  exact⟨a.C_NoSuch,T.gP,T.fk,t,.inl ⟨he,λd hd nd=>q d _ hd nd (λb h1 h2=>by rw[aj h2,aj h1]) af (by rw[aj nd];exact af)⟩⟩
theorem aP (T:Txt w K mg a):FnOk P w K mg base CX0 1 a.f_l_mixed a.d_l_mixed ["_law_cell","_law_k"] Ae:=by
 refine T.ao.F.ok o7 (λvs H Q E h=>?_) (λcdv A outer s H vs Q E hr h=>?_)
 ·obtain⟨c,k,rfl,_⟩:=h
  rfl
 ·obtain⟨c,k,rfl,q⟩:=h
  refine⟨_,(ag (av (i:=2) o7.nd rfl (Or.inl rfl) (ax bg (ax (ay (K:=K)) (ax (ay (K:=K)) (ax hV (ax bg (pv 0) ah) ah) (ax hV ah (pv 1))) ah) ah))
   (ai (ar (ax bg (ax hV (pv 2) (pv 2)) ah)))),?_⟩
  walk_at "rd"
  refine⟨.inl ?_,q⟩
  omega
theorem iz (T:Txt w K mg a):FnOk P w K mg base CX0 1 a.f_l_cell_at a.d_l_cell_at ["_law_script","_law_k"] (uO K):=by
 refine T.bq.F.ok rO (λvs H Q E h=>?_) (λcdv A outer s H vs Q E hr h=>?_)
 ·obtain⟨p,ns,k,rfl,_⟩:=h
  rfl
 ·obtain⟨p,ns,k,rfl,hs,hk,q⟩:=h
  refine⟨_,(ag (aS (aM lR (pv 1) (aw (aO (K:=K)) (by rfl) T.cF boot_len (aa (pv 0) ae)) (nomark _)) (ai (ar (aB (aq (K:=K) (hU1 hr)) (pv 0) (pv 1) (λ_ _=>rfl)))) aD)
   (ai (ar ah))),?_⟩
  walk_at "rd"
  refine cm hs ?_
  walk_at "rd"
  rw[List.length_map]
  refine ite2 (λhlt=>?_) (λhge=>?_)
  ·refine bw hs (v:=.int (ns.getD k.toNat 0)) (bZ hk ?_) q
   rw[List.getElem?_map,List.getD_eq_getElem?_getD,List.getElem?_eq_getElem (show k.toNat < ns.length by omega)]
   rfl
  ·rw[List.getD_eq_getElem?_getD,List.getElem?_eq_none (show ns.length<=k.toNat by omega)] at q
   exact q
theorem mH (T:Txt w K mg a):FnOk P w K mg base CX0 1 a.f_l_sign a.d_l_sign ["_law_number","_law_many"] BO:=by
 refine T.cN.F.ok mC (λvs H Q E h=>?_) (λcdv A outer s H vs Q E hr h=>?_)
 ·obtain⟨n,m,rfl,_⟩:=h
  rfl
 ·obtain⟨n,m,rfl,h0,h1,q⟩:=h
  refine⟨_,(ag (av (i:=2) mC.nd rfl (Or.inl rfl) aK)
   (ag (av (i:=2) mC.nd rfl (Or.inl rfl) (ax (ay (K:=K)) (pv 2) aK))
   (ai (ar (aB (aq (K:=K) (hU1 hr)) (pv 2) (ax bg (pv 0) (pv 1)) (λ_ _=>rfl)))))),?_⟩
  walk_at "rd"
  exact⟨T62,s!"d",T34,s!"d",by decide,h0,by decide,sgn n m,bZ (Int.emod_nonneg _ (by omega)) (Af n m h0 h1),q⟩
theorem ku (T:Txt w K mg a):FnOk P w K mg base CX0 1 a.f_is_text a.d_is_text ["thing","least","most"] uW:=by
 refine T.cc.F.ok vJ (λvs H Q E h=>?_) (λcdv A outer s H vs Q E hr h=>?_)
 ·obtain⟨x,lo,hi,rfl,_⟩:=h
  rfl
 ·obtain⟨x,lo,hi,rfl,t,q⟩:=h
  refine⟨_,(ai (ar (dy (aw (aJ (K:=K)) (by rfl) T.a9 boot_isinstance (aa (pv 0) (aa (cZ (v:=.ty "str") rfl T.pq boot_str rfl) ae))) (fZ (nS g9 g9 (pv 1) (aw (aO (K:=K)) (by rfl) T.cF boot_len (aa (pv 0) ae)) (pv 2)))))),?_⟩
  cases t with
  | non=>walk_at "rd";exact q
  | bl b=>walk_at "rd";exact q
  | int i=>walk_at "rd";exact q
  | str l h=>
   walk_at "rd"
   refine⟨Nat.le_trans h (by decide),?_⟩
   simp only[textV,bQ] at q
   refine ite2 (λhc=>?_) (λhc=>?_)
   ·rw[decide_eq_true hc,Bool.true_and] at q;exact q
   ·rw[decide_eq_false hc,Bool.false_and] at q;exact q
  | lst h=>walk_at "rd";simp only[mR h];walk_at "rd";exact q
  | tup h=>walk_at "rd";simp only[sJ h];walk_at "rd";exact q
theorem pB (T:Txt w K mg a):FnOk P w K mg base CX0 2 a.f_is_name a.d_is_name ["thing"] uX:=by
 refine T.dH.F.ok vL (λvs H Q E h=>?_) (λcdv A outer s H vs Q E hr h=>?_)
 ·obtain⟨x,rfl,_⟩:=h
  rfl
 ·obtain⟨x,rfl,t,q⟩:=h
  refine⟨_,(ai (ar (dy (ak (ku T) (hr.mono (by decide)) rfl T.cc.m T.cc.F.kp T.cc.b .nil pass0 (aa (pv 0) (aa ah (aa (bG T.uo) ae)))) (fZ (aw (eA (K:=K)) (by rfl) T.qH boot_all (aa (bL ["thing"] ["thing"] (defScope mw) (by exact⟨rfl,s!"d",s!"d",s!"d",s!"d",s!"d",s!"d",s!"d",s!"d"⟩) (aW (K:=K) (pv 0)) (λC₁ s₁ H₁ f₁=>(jq (uM (K:=K) (hU1 hr)) (pv 0) (bG T.rT) (by rfl)))) ae)))))),?_⟩
  walk_at "rd"
  refine⟨t,ite2 (λh1=>?_) (λh1=>?_)⟩
  ·obtain⟨l,rfl,hl⟩:=nK t h1
   walk_at "rd"
   refine lY (Nat.le_trans hl (by decide)) (λc=>.bl (inN c)) (λc H' _ s Qe qe=>?_) (λD H' hD s hl=>?_)
   ·walk_at "rd"
    rw[Aj,BS]
    exact qe H' (Same.refl _)
   ·refine lT (bs:=l.map inN) (.inl (.inl (by rw[hl,List.map_map];rfl))) ?_
    have e:=q H' s
    rw[jx h1] at e
    rw[hW]
    exact e
  ·rw[kQ h1] at q
   exact q H (Same.refl _)
theorem pC (T:Txt w K mg a):FnOk P w K mg base CX0 1 a.f_is_sign a.d_is_sign ["sign"] vm:=by
 refine T.dG.F.ok vK (λvs H Q E h=>?_) (λcdv A outer s H vs Q E hr h=>?_)
 ·obtain⟨x,rfl,_⟩:=h
  rfl
 ·obtain⟨x,rfl,q⟩:=h
  refine⟨_,(ai (ar (dy (nS g9 g9 aK (pv 0) aK) (fZ (jq (dB (K:=K) (hU hr)) (aw jv (by rfl) T.w4 boot_ord (aa (pv 0) ae)) (bG T.vU) (nomark _)))))),?_⟩
  walk_at "rd"
  have e1:(Str.ofString " ").cps.toList=[32]:=by decide +kernel
  have e2:(Str.ofString "~").cps.toList=[126]:=by decide +kernel
  rw[e1,e2]
  simp only[ltOne]
  unfold okSign at q
  refine ite2 (λh1=>?_) (λh1=>?_)
  ·rw[decide_eq_true (show 32<=x by omega),Bool.true_and] at q
   refine ite2 (λh2=>?_) (λh2=>?_)
   ·rw[decide_eq_true (show x<=126 by omega),Bool.true_and] at q
    rw[show(!decide ((x:Int)=37))=decide (x≠37) by by_cases e:x=37<;>simp[e];omega]
    exact q
   ·rw[decide_eq_false (show ¬x<=126 by omega),Bool.false_and] at q
    exact q
  ·rw[decide_eq_false (show ¬32<=x by omega),Bool.false_and,Bool.false_and] at q
   exact q
theorem hW {l:List Nat}{p:Nat->Bool}:(l.map p).all id=l.all p:=by simp[List.all_map,Function.comp_def]
theorem jx {l:List Nat}{lo hi:Int}{p:Nat->Bool}(h:textV (.str (S l)) lo hi=true):formV (.str (S l)) lo hi p=l.all p:=by
 simp only[textV,formV,Bool.and_eq_true] at h ⊢
 rw[h.1,h.2]
 simp
theorem kQ {x:V}{lo hi:Int}{p:Nat->Bool}(h:¬textV x lo hi=true):formV x lo hi p=false:=by
 cases x with
 | str z=>
  simp only[textV,formV,Bool.and_eq_true] at h ⊢
  by_cases h1:decide (lo<=(z.length:Int))=true
  ·rw[h1,Bool.true_and]
   have h2:¬decide ((z.length:Int)<=hi)=true:=λe=>h ⟨h1,e⟩
   rw[Bool.eq_false_iff.mpr h2,Bool.false_and]
  ·rw[Bool.eq_false_iff.mpr h1,Bool.false_and]
 | _=>rfl
theorem nK {H:Hp}{x:V}{lo hi:Int}(t:Thg H x)(h:textV x lo hi=true):∃l:List Nat,x=.str (S l)/\l.length<=1000:=by
 cases t with
 | str l hl=>exact⟨l,rfl,hl⟩
 | _=>simp[textV] at h
theorem zg (T:Txt w K mg a):FnOk P w K mg base CX0 2 a.f_is_key a.d_is_key ["thing"] yr:=by
 refine T.lA.F.ok yR (λvs H Q E h=>?_) (λcdv A outer s H vs Q E hr h=>?_)
 ·obtain⟨x,rfl,_⟩:=h
  rfl
 ·obtain⟨x,rfl,t,q⟩:=h
  refine⟨_,(ai (ar (dy (ak (ku T) (hr.mono (by decide)) rfl T.cc.m T.cc.F.kp T.cc.b .nil pass0 (aa (pv 0) (aa ah (aa (bG T.vT) ae)))) (fZ (aw (eA (K:=K)) (by rfl) T.qH boot_all (aa (bL ["thing"] ["thing"] (defScope oN) (by exact⟨rfl,s!"d",s!"d",s!"d",s!"d",s!"d",s!"d",s!"d",s!"d"⟩) (aW (K:=K) (pv 0)) (λC₁ s₁ H₁ f₁=>(ak (pC T) (hr.mono (by decide)) rfl T.dG.m T.dG.F.kp T.dG.b .nil pass0 (aa (pv 0) ae)))) ae)))))),?_⟩
  walk_at "rd"
  refine⟨t,ite2 (λh1=>?_) (λh1=>?_)⟩
  ·obtain⟨l,rfl,hl⟩:=nK t h1
   walk_at "rd"
   refine lY (Nat.le_trans hl (by decide)) (λc=>.bl (okSign c)) (λc H' _ s Qe qe=>?_) (λD H' hD s hl=>?_)
   ·walk_at "rd"
    exact qe H' (Same.refl _)
   ·refine lT (bs:=l.map okSign) (.inl (.inl (by rw[hl,List.map_map];rfl))) ?_
    have e:=q H' s
    rw[jx h1] at e
    rw[hW]
    exact e
  ·rw[kQ h1] at q
   exact q H (Same.refl _)
theorem vV (T:Txt w K mg a):FnOk P w K mg base CX0 2 a.f_is_word a.d_is_word ["thing"] vn:=by
 refine T.jH.F.ok vM (λvs H Q E h=>?_) (λcdv A outer s H vs Q E hr h=>?_)
 ·obtain⟨x,rfl,_⟩:=h
  rfl
 ·obtain⟨x,rfl,t,q⟩:=h
  refine⟨_,(ag (aS (nP (uz (pv 0))) (ai (ar d6)) aD)
   (ai (ar (dy (ak (ku T) (hr.mono (by decide)) rfl T.cc.m T.cc.F.kp T.cc.b .nil pass0 (aa (pv 0) (aa ah (aa (bG T.ur) ae)))) (fZ (aw (eA (K:=K)) (by rfl) T.qH boot_all (aa (bL ["thing"] ["thing"] (defScope mx) (by exact⟨rfl,s!"d",s!"d",s!"d",s!"d",s!"d",s!"d",s!"d",s!"d"⟩) (aW (K:=K) (pv 0)) (λC₁ s₁ H₁ f₁=>(ak (pC T) (hr.mono (by decide)) rfl T.dG.m T.dG.F.kp T.dG.b .nil pass0 (aa (pv 0) ae)))) ae))))))),?_⟩
  walk_at "rd"
  refine ite2 (λh0=>?_) (λh0=>?_)
  ·rw[decide_eq_true h0,Bool.true_or] at q
   exact q H (Same.refl _)
  rw[decide_eq_false h0,Bool.false_or] at q
  refine⟨t,ite2 (λh1=>?_) (λh1=>?_)⟩
  ·obtain⟨l,rfl,hl⟩:=nK t h1
   walk_at "rd"
   refine lY (Nat.le_trans hl (by decide)) (λc=>.bl (okSign c)) (λc H' _ s Qe qe=>?_) (λD H' hD s hl=>?_)
   ·walk_at "rd"
    exact qe H' (Same.refl _)
   ·refine lT (bs:=l.map okSign) (.inl (.inl (by rw[hl,List.map_map];rfl))) ?_
    have e:=q H' s
    rw[jx h1] at e
    rw[hW]
    exact e
  ·rw[kQ h1] at q
   exact q H (Same.refl _)
theorem m7 (T:Txt w K mg a):FnOk P w K mg base CX0 1 a.f_is_whole a.d_is_whole ["thing","low","high"] sX:=by
 refine T.cT.F.ok ub (λvs H Q E h=>?_) (λcdv A outer s H vs Q E hr h=>?_)
 ·obtain⟨x,lo,hi,rfl,_⟩:=h
  rfl
 ·obtain⟨x,lo,hi,rfl,t,q⟩:=h
  refine⟨_,(ai (ar (dy (aw (aJ (K:=K)) (by rfl) T.a9 boot_isinstance (aa (pv 0) (aa (cZ (v:=.ty "int") rfl T.De boot_int rfl) ae))) (dy (zy (aw (aJ (K:=K)) (by rfl) T.a9 boot_isinstance (aa (pv 0) (aa (cZ (v:=.ty "bool") rfl T.A5 boot_bool rfl) ae)))) (fZ (nS g9 g9 (pv 1) (pv 0) (pv 2))))))),?_⟩
  cases t with
  | non=>walk_at "rd";exact q
  | bl b=>walk_at "rd";exact q
  | int i=>
   walk_at "rd"
   simp only[wholeV] at q
   refine ite2 (λhc=>?_) (λhc=>?_)
   ·rw[decide_eq_true hc,Bool.true_and] at q;exact q
   ·rw[decide_eq_false hc,Bool.false_and] at q;exact q
  | str l h=>walk_at "rd";exact q
  | lst h=>walk_at "rd";simp only[sH h];walk_at "rd";exact q
  | tup h=>walk_at "rd";simp only[sI h];walk_at "rd";exact q
theorem zh (T:Txt w K mg a):FnOk P w K mg base CX0 1 a.f_spread a.d_spread ["key"] xV:=by
 refine T.lB.F.ok jC (λvs H Q E h=>?_) (λcdv A outer s H vs Q E hr h=>?_)
 ·obtain⟨l,rfl,_⟩:=h
  rfl
 ·obtain⟨l,rfl,q⟩:=h
  refine⟨_,(ag (av (i:=1) jC.nd rfl (Or.inl rfl) ah)
   (ag (bS PassesOwn.never rfl (aW (K:=K) (pv 0)) (aN (i:=2) jC.nd rfl (Or.inl rfl)) (ai (av (i:=1) jC.nd rfl (Or.inl rfl) (ax zG (ax (ay (K:=K)) (ax hV (pv 1) ah) (aw jv (by rfl) T.w4 boot_ord (aa (pv 2) ae))) ah))))
   (ai (ar (ax zH (pv 1) (ax zF (pv 1) ah)))))),?_⟩
  walk_at "rd"
  refine n5 (λi σ H'=>H'=H/\∃v,σ=[some (.str (S l)),some (.int (foldK (l.take i))),v]) ⟨rfl,none,rfl⟩ ?_ ?_
  ·rintro i c σ H' hc ⟨rfl,v,rfl⟩
   walk_at "rd"
   rw[uY hc]
  ·rintro σ H' ⟨rfl,v,rfl⟩
   walk_at "rd"
   have e:l.take (S l).cps.size=l:=by simp
   rw[e]
   exact q
theorem zi (T:Txt w K mg a):FnOk P w K mg base CX0 2 a.f_row_in a.d_row_in ["key","many"] xW:=by
 refine T.lC.F.ok yS (λvs H Q E h=>?_) (λcdv A outer s H vs Q E hr h=>?_)
 ·obtain⟨l,m,rfl,_⟩:=h
  rfl
 ·obtain⟨l,m,rfl,hm,q⟩:=h
  refine⟨_,(ai (ar (ax bg (ak (zh T) (hr.mono (by decide)) rfl T.lB.m T.lB.F.kp T.lB.b .nil pass0 (aa (pv 0) ae)) (pv 1)))),?_⟩
  walk_at "rd"
  exact⟨hm,q⟩
theorem m8 (T:Txt w K mg a):FnOk P w K mg base CX0 1 a.f_l_letter a.d_l_letter ["_law_number"] xY:=by
 refine T.cV.F.ok ui (λvs H Q E h=>?_) (λcdv A outer s H vs Q E hr h=>?_)
 ·obtain⟨n,rfl,_⟩:=h
  rfl
 ·obtain⟨n,rfl,q⟩:=h
  refine⟨_,(ai (ar (aB (aq (K:=K) (hU1 hr)) aK (ax bg (pv 0) ah) (λ_ _=>rfl)))),?_⟩
  walk_at "rd"
  rw[Aj]
  refine⟨T36,rfl,by decide,ltr36 n,bZ (Int.emod_nonneg _ (by decide)) ?_,q⟩
  have h:(n % 36).toNat < T36.length:=by
   show(n % 36).toNat < 36
   omega
  unfold ltr36
  rw[List.getD_eq_getElem?_getD,List.getElem?_eq_getElem h]
  rfl
theorem nB (T:Txt w K mg a):FnOk P w K mg base CX0 1 a.f_Row___init__ a.d_Row___init__ ["self"] (sP a.C_Row):=by
 refine T.jg.F.ok nk (λvs H Q E h=>?_) (λcdv A outer s H vs Q E hr h=>?_)
 ·obtain⟨x,dx,rfl,_⟩:=h
  rfl
 ·obtain⟨x,dx,rfl,hx,q⟩:=h
  refine⟨_,(ag (bu (pv 0) ah rfl)
   (ag (bu (pv 0) ah rfl)
   (ag (bu (pv 0) ah rfl)
   (ai (bu (pv 0) dU rfl))))),?_⟩
  walk_at "rd"
  refine⟨_,dx,[],hx,T.cJ,T.iy,by decide,_,dx,_,af,T.cJ,T.dI,by decide,_,dx,_,af,T.cJ,T.rQ,by decide,λd hd=>?_⟩
  have hdx:d≠x:=λz=>by rw[z,af] at hd;cases hd
  rw[aj hdx,aj hdx,aj hdx] at hd
  refine⟨_,dx,_,(aj (Ne.symm hdx)).trans af,T.cJ,T.fg,by decide,?_⟩
  refine q d _ hd hdx ?_ ⟨⟨dx,af⟩,⟨[],(aj hdx).trans af,by decide,λp=>⟨rfl,rfl⟩⟩,by decide,by decide,by decide,λp h=>by cases h⟩
  have m:x∈[x]:=by simp
  refine(Chg.upd m (bU hx)).trans ((Chg.upd m (bU af)).trans ((Chg.upd m (bU af)).trans ((Chg.new (by rw[aj hdx,aj hdx,aj hdx];exact hd)).trans (Chg.upd m (bU ((aj (Ne.symm hdx)).trans af))))))
theorem vW (T:Txt w K mg a):FnOk P w K mg base CX0 1 a.f_Row_add a.d_Row_add ["self","key","word","deed"] (uT a.C_Row):=by
 refine T.y8.ok oV (λvs H Q E h=>?_) (λcdv A outer s H vs Q E hr h=>?_)
 ·obtain⟨r,d,M,x,rfl,_⟩:=h
  rfl
 ·obtain⟨r,d,M,x,rfl,R,hb,q⟩:=h
  refine⟨_,(ag (av (i:=4) oV.nd rfl (Or.inl rfl) (au (K:=K) (pv 0) rfl))
   (ag (gh (bC (aa (pv 1) (aa (pv 2) (aa (pv 3) ae)))) (gb (au (K:=K) (pv 0) rfl) (pv 4) (dJ (hU1 hr))))
   (ag (bu (pv 0) (ax (ay (K:=K)) (pv 4) ah) rfl)
   (ai (ar (pv 4)))))),?_⟩
  obtain⟨dx,hr⟩:=R.obj
  obtain⟨kvs,hd,hk,hl⟩:=R.dict
  walk_at "rd"
  refine⟨_,dx,_,hr,T.cJ,T.dI,_,sQ M d,by decide,λt ht=>?_⟩
  have htr:t≠r:=λz=>by rw[z,hr] at ht;cases ht
  have htd:t≠d:=λz=>by rw[z,hd] at ht;cases ht
  have hdr:d≠r:=Ne.symm R.ne
  have hr1:upd H t (.tup (letV x)) r=some (.ins a.C_Row dx (rowF M d)):=(aj (Ne.symm htr)).trans hr
  have hd1:upd H t (.tup (letV x)) d=some (.dK kvs):=(aj (Ne.symm htd)).trans hd
  have hz:kvs.length < sizeLine:=Nat.lt_of_le_of_lt (show kvs.length<=100000 by omega) (by decide)
  refine⟨_,dx,_,hr1,T.cJ,T.fg,_,kO M d,gZ (DPut.k (k:=.inl M.last) hd1 hz) ?_⟩
  walk_at "rd"
  refine⟨_,dx,_,(aj (Ne.symm hdr)).trans hr1,T.cJ,T.dI,(show 4 < 1000 by decide),?_⟩
  have c1:Chg [r,d] H (upd H t (.tup (letV x))):=Chg.new ht
  have c2:Chg [r,d] (upd H t (.tup (letV x))) (upd (upd H t (.tup (letV x))) d (.dK (putK kvs (.inl M.last) (.ref t)))):=Chg.upd (by simp) (lV hd1)
  have c3:Chg [r,d] (upd (upd H t (.tup (letV x))) d (.dK (putK kvs (.inl M.last) (.ref t)))) _:=Chg.upd (o:=.ins a.C_Row dx (putF (Str.ofString "end") (.int (M.last+1)) (rowF M d))) (show r∈[r,d] by simp) (bU ((aj (Ne.symm hdr)).trans hr1))
  have c:=c1.trans (c2.trans c3)
  have l0:LetsAt (upd H t (.tup (letV x))) (putK kvs (.inl M.last) (.ref t)) (λq=>if q=M.last then some x else M.L q):=(hl.chg c1).put af
  refine q _ c ⟨⟨dx,af⟩,⟨_,(aj hdr).trans af,?_,l0.chg (c2.trans c3)⟩,R.f0,Int.le_trans R.fl (show M.last<=M.last+1 by omega),R.dr,λp hp=>?_⟩
  ·have:=bF kvs (.inl M.last:Key) (.ref t)
   show((putK kvs (.inl M.last) (.ref t)).length:Int)<=M.last+1
   omega
  ·have f:=R.fl
   show M.first<=p/\p < M.last+1
   by_cases e:p=M.last
   ·omega
   ·have hp':(M.L p).isSome=true:=by
     have:(if p=M.last then some x else M.L p).isSome=true:=hp
     rwa [if_neg e] at this
    have:=R.within p hp'
    omega
theorem zj (T:Txt w K mg a):FnOk P w K mg base CX0 1 a.f_Row_at a.d_Row_at ["self","place"] (xO a.C_Row):=by
 refine T.pj.F.ok yU (λvs H Q E h=>?_) (λcdv A outer s H vs Q E hr h=>?_)
 ·obtain⟨r,d,M,p,rfl,_⟩:=h
  rfl
 ·obtain⟨r,d,M,p,rfl,R,q⟩:=h
  refine⟨_,(ai (ar (zU (hU1 hr) (au (K:=K) (pv 0) rfl) (pv 1) ⟨rfl,rfl,rfl,rfl⟩))),?_⟩
  obtain⟨dx,hr⟩:=R.obj
  obtain⟨kvs,hd,hk,hl⟩:=R.dict
  walk_at "rd"
  exact⟨_,dx,_,hr,T.cJ,T.fg,_,kO M d,d,rfl,.inl ⟨kvs,.inl hd⟩,_,DGet.k (k:=.inl p) hd,q _ (hl p).1⟩
theorem uu (T:Txt w K mg a):FnOk P w K mg base CX0 2 a.f_Row_seen a.d_Row_seen ["self","start","limit","most"] (sO a.C_Row):=by
 refine T.kr.F.ok fJ (λvs H Q E h=>?_) (λcdv A outer s H vs Q E hr h=>?_)
 ·obtain⟨r,d,M,st,li,mo,rfl,_⟩:=h
  rfl
 ·obtain⟨r,d,M,st,li,mo,rfl,R,hb,h0,h1,h2,h3,q⟩:=h
  refine⟨_,(ag (av (i:=4) fJ.nd rfl (Or.inl rfl) (aU ae))
   (ag (bS PassesOwn.never rfl (xg rfl T.dR (aa (aw (xJ rfl) (by rfl) T.E8 boot_max (aa (pv 1) (aa (au (K:=K) (pv 0) rfl) ae))) (aa (aw (xK rfl) (by rfl) T.E9 boot_min (aa (pv 2) (aa (au (K:=K) (pv 0) rfl) ae))) ae))) (aN (i:=5) fJ.nd rfl (Or.inl rfl)) (ag (aS (aM DH (aw (aO (K:=K)) (by rfl) T.cF boot_len (aa (pv 4) ae)) (pv 3) (nomark _)) (ai zA) aD)
   (ag (av (i:=6) fJ.nd rfl (Or.inl rfl) (aF (pv 0) T.cJ T.pj.m (zj T) (hr.mono (by decide)) T.pj.b .nil pass0 (aa (pv 5) ae)))
   (ai (aS (nP (wm (pv 6))) (ai (aH (cn (K:=K) PySem.F.plainAttrs_list PySem.F.slot_list_append PySem.F.type_list_append b9 (pv 4) (aa (bC (aa (pv 5) (aa (aB (aq (K:=K) (hU1 hr)) (pv 6) ah (λ_ _=>rfl)) (aa (aB (aq (K:=K) (hU1 hr)) (pv 6) ah (λ_ _=>rfl)) ae)))) ae)))) aD)))))
   (ai (ar (pv 4))))),?_⟩
  obtain⟨dx,hr⟩:=R.obj
  have f0:=R.f0
  have fl:=R.fl
  walk_at "rd"
  refine⟨by decide,λD hD=>⟨_,dx,_,(Same.upd hD) _ _ hr,T.cJ,T.iy,_,uU M d,_,rfl,_,dx,_,(Same.upd hD) _ _ hr,T.cJ,T.dI,_,sQ M d,_,rfl,by omega,by omega,by omega,by omega,?_⟩⟩
  generalize hlo:max st M.first=lo
  generalize hn:(min li M.last - lo).toNat=n
  have hn1:n<=100000:=by omega
  have hseen:M.seenP st li mo=(M.standing lo n).take mo.toNat:=by unfold RowM.seenP;rw[hlo,hn]
  rw[hseen] at q
  refine kc (λi σ H'=>Same H H'/\i<=n/\LTups H' D (((M.standing lo i).take mo.toNat).map M.rowV)/\∃v1 v2,σ=[some (V.ref r),some (V.int st),some (V.int li),some (V.int mo),some (V.ref D),v1,v2]) ⟨Same.upd hD,Nat.zero_le _,⟨[],af,?_⟩,none,none,rfl⟩ ?_ ?_
  ·rw[show M.standing lo 0=[] from rfl,List.take_nil]
   exact .nil
  ·rintro i σ H' hi ⟨hs,hin,⟨ts,hl,ht⟩,v1,v2,rfl⟩
   have hlen:=ht.length
   rw[List.length_map,List.length_take] at hlen
   have hsl:=rn M lo i
   refine cut1 λRy hRy=>?_
   walk_at "rd"
   refine cm (.inl (.inl hl)) ?_
   walk_at "rd"
   rw[List.length_map]
   refine ite2 (λhm=>?_) (λhm=>?_)
   ·obtain⟨more,he⟩:=rm M lo hin
    refine q D H' hD hs ?_
    rw[he,List.take_append_of_le_length (by omega)]
    exact⟨ts,hl,ht⟩
   ·have R':=R.chg (A:=[]) (Chg.of_same hs) (by simp) (by simp)
    rw[hRy]
    clear hRy
    refine cut1 λRy hRy=>?_
    walk_at "rd"
    refine⟨dx,_,hs _ _ hr,BQ M d,d,M,R',λv hv=>?_⟩
    rw[hRy]
    clear hRy
    walk_at "rd"
    have hlt:(M.standing lo i).length < mo.toNat:=by omega
    have e1:(M.standing lo i).take mo.toNat=M.standing lo i:=List.take_of_length_le (by omega)
    rw[e1] at ht
    cases hM:M.L (lo+(i:Int)) with
    | none=>
     rw[hM] at hv
     cases (show v=.non from hv)
     simp only[decide_true,Bool.not_true,Bool.false_eq_true,if_false]
     refine⟨hs,by omega,⟨ts,hl,?_⟩⟩
     rw[gm,hM,if_neg (by simp),List.append_nil,e1]
     exact ht
    | some x=>
     rw[hM] at hv
     obtain⟨t,rfl,htt⟩:=hv
     have hT:SqT K H' t (letV x):=.inl (.inl htt)
     simp only[reduceCtorEq,decide_false,Bool.not_false,if_true]
     refine⟨.inl ⟨_,.inl (.inl hl)⟩,aQ (v:=.str (S x.1)) hT rfl (aQ (v:=wV x.2.1) hT rfl ⟨by decide,λp hp=>?_⟩)⟩
     have hpD:p≠D:=λz=>by rw[z,hl] at hp;cases hp
     have hl':upd H' p (.tup [.int (lo+(i:Int)),.str (S x.1),wV x.2.1]) D=some (.lst (ts.map V.ref)):=(aj (Ne.symm hpD)).trans hl
     refine⟨_,hl',Nat.lt_of_le_of_lt (show(ts.map V.ref).length<=100000 by rw[List.length_map];omega) (by decide),?_⟩
     have c1:Chg [D] H' (upd H' p (.tup [.int (lo+(i:Int)),.str (S x.1),wV x.2.1])):=Chg.new hp
     have c2:Chg [D] (upd H' p (.tup [.int (lo+(i:Int)),.str (S x.1),wV x.2.1])) (upd (upd H' p (.tup [.int (lo+(i:Int)),.str (S x.1),wV x.2.1])) D (.lst (ts.map V.ref++[V.ref p]))):=Chg.upd (by simp) (jw hl')
     refine⟨λb o hb=>(c1.trans c2).keep _ _ (hs b o hb) ?_,by omega,⟨ts++[p],?_,?_⟩⟩
     ·simp only[List.mem_cons,List.not_mem_nil,or_false]
      exact az hb hD
     ·rw[af,List.map_append];rfl
     ·rw[gm,hM,if_pos (show(some x).isSome=true from rfl),List.take_of_length_le (by rw[List.length_append];simp;omega),List.map_append]
      refine(ht.chg (c1.trans c2)).snoc ?_
      rw[c2.tup _ _ af]
      simp only[RowM.rowV,hM]
  ·rintro σ H' ⟨hs,hin,hl,v1,v2,rfl⟩
   walk_at "rd"
   exact q D H' hD hs hl
theorem jS (T:Txt w K mg a):FnOk P w K mg base CX0 1 a.f_Senders___init__ a.d_Senders___init__ ["self"] (yg a.C_Senders):=by
 refine T.eX.F.ok jQ (λvs H Q E h=>?_) (λcdv A outer s H vs Q E hr h=>?_)
 ·obtain⟨x,dx,rfl,_⟩:=h
  rfl
 ·obtain⟨x,dx,rfl,hx,q⟩:=h
  refine⟨_,(ag (bu (pv 0) dU rfl)
   (ag (bu (pv 0) dU rfl)
   (ai (bu (pv 0) dU rfl)))),?_⟩
  walk_at "rd"
  refine λl hl=>?_
  have nl:l≠x:=λz=>by rw[z,hx] at hl;cases hl
  refine⟨_,dx,[],(aj (Ne.symm nl)).trans hx,T.aC,T.bO,by decide,λt ht=>?_⟩
  have nt:t≠x:=λz=>by rw[z,af] at ht;cases ht
  refine⟨_,dx,_,(aj (Ne.symm nt)).trans af,T.aC,T.bc,(show 1 < 1000 by decide),λp hp=>?_⟩
  have np:p≠x:=λz=>by rw[z,af] at hp;cases hp
  refine⟨_,dx,_,(aj (Ne.symm np)).trans af,T.aC,T.cE,(show 2 < 1000 by decide),?_⟩
  have ntl:t≠l:=λz=>by rw[aj nt,z,af] at ht;cases ht
  have npt:p≠t:=λz=>by rw[aj np,z,af] at hp;cases hp
  have npl:p≠l:=λz=>by rw[aj np,aj npt,z,aj nl,af] at hp;cases hp
  have ht0:H t=none:=by rw[aj nt,aj ntl] at ht;exact ht
  have hp0:H p=none:=by rw[aj np,aj npt,aj np,aj npl] at hp;exact hp
  have m:x∈[x]:=by simp
  refine q l t p _ hl ht0 hp0 ?_ ⟨⟨dx,af⟩,⟨[],?_,Nat.zero_le _,λz=>rfl⟩,⟨[],?_,Nat.zero_le _,λz=>rfl⟩,⟨[],?_,Nat.zero_le _,λz h=>(by cases h)⟩,λz=>Nat.zero_le _,Ne.symm nl,Ne.symm nt,Ne.symm np,Ne.symm ntl,Ne.symm npl,Ne.symm npt⟩
  ·exact(Chg.new hl).trans ((Chg.upd m (bU ((aj (Ne.symm nl)).trans hx))).trans ((Chg.new ht).trans ((Chg.upd m (bU ((aj (Ne.symm nt)).trans af))).trans ((Chg.new hp).trans (Chg.upd m (bU ((aj (Ne.symm np)).trans af)))))))
  ·exact(aj nl).trans ((aj (Ne.symm npl)).trans ((aj nl).trans ((aj (Ne.symm ntl)).trans ((aj nl).trans af))))
  ·exact(aj nt).trans ((aj (Ne.symm npt)).trans ((aj nt).trans af))
  ·exact(aj np).trans af
theorem fq (T:Txt w K mg a):FnOk P w K mg base CX0 1 a.f_Senders_life_of a.d_Senders_life_of ["self","name"] (yi a.C_Senders):=by
 refine T.bH.F.ok kj (λvs H Q E h=>?_) (λcdv A outer s H vs Q E hr h=>?_)
 ·obtain⟨r,l,t,p,Z,M,n,rfl,_⟩:=h
  rfl
 ·obtain⟨r,l,t,p,Z,M,n,rfl,R,q⟩:=h
  refine⟨_,(ai (ar (nX (hU1 hr) (au (K:=K) (pv 0) rfl) (pv 1) ah ⟨rfl,rfl,rfl,rfl⟩))),?_⟩
  obtain⟨dx,hr⟩:=R.obj
  obtain⟨kvs,hl,hk,hv⟩:=R.liv
  walk_at "rd"
  refine⟨_,dx,_,hr,T.aC,T.bO,_,kW l t p,l,rfl,.inl ⟨kvs,.inl hl⟩,_,DGet.k (k:=.inr n) hl,?_⟩
  rw[hv n]
  cases e:M.L n with
  | none=>rw[e] at q;exact q
  | some z=>rw[e] at q;exact q
theorem kz (T:Txt w K mg a):FnOk P w K mg base CX0 1 a.f_Senders_last_of a.d_Senders_last_of ["self","name"] (yj a.C_Senders):=by
 refine T.dq.F.ok km (λvs H Q E h=>?_) (λcdv A outer s H vs Q E hr h=>?_)
 ·obtain⟨r,l,t,p,Z,M,n,rfl,_⟩:=h
  rfl
 ·obtain⟨r,l,t,p,Z,M,n,rfl,R,q⟩:=h
  refine⟨_,(ai (ar (nX (hU1 hr) (au (K:=K) (pv 0) rfl) (pv 1) ah ⟨rfl,rfl,rfl,rfl⟩))),?_⟩
  obtain⟨dx,hr⟩:=R.obj
  obtain⟨kvs,ht,hk,hv⟩:=R.las
  walk_at "rd"
  refine⟨_,dx,_,hr,T.aC,T.bc,_,gI l t p,t,rfl,.inl ⟨kvs,.inl ht⟩,_,DGet.k (k:=.inr n) ht,?_⟩
  rw[hv n]
  cases e:M.L n with
  | none=>rw[e] at q;exact q
  | some z=>rw[e] at q;exact q
theorem cQ (T:Txt w K mg a):FnOk P w K mg base (CXv P w) 3 a.f_Senders_need a.d_Senders_need ["self","name"] (yk a.C_Senders a.C_NoSuch):=by
 refine T.a8.F.okX nv (λvs H Q E h=>?_) (λcdv A outer s H vs Q E hr h=>?_)
 ·obtain⟨r,l,t,p,Z,M,n,rfl,_⟩:=h
  rfl
 ·obtain⟨r,l,t,p,Z,M,n,rfl,R,q⟩:=h
  refine⟨_,(ai (aS (PT.nox (aM (xG (K:=K) (hU1 hr)) (pv 1) (au (K:=K) (pv 0) rfl) (by rfl))) (ai (og T.gP T.mE T.mF (cW T) (hr.mono (by decide)) rfl T.gM T.cq.b (by decide) raiseX (aa (pv 1) ae))) aD)),?_⟩
  obtain⟨dx,hr⟩:=R.obj
  obtain⟨kvs,hl,hk,hv⟩:=R.liv
  walk_at "rd"
  refine⟨_,dx,_,hr,T.aC,T.bO,_,kW l t p,DS (DGet.k (k:=.inr n) hl) ⟨_,rfl,?_⟩⟩
  rw[hv n]
  rcases q with⟨e,q⟩ | ⟨e,q⟩
  ·obtain⟨v,e⟩:=Option.isSome_iff_exists.mp e
   rw[e]
   exact q
  ·rw[e]
   exact q
theorem mI (T:Txt w K mg a):FnOk P w K mg base (CXv P w) 4 a.f_Senders_allow a.d_Senders_allow ["self","name","life"] (vh a.C_Senders a.C_NoSuch a.C_Fenced):=by
 refine T.d4.F.okX mB (λvs H Q E h=>?_) (λcdv A outer s H vs Q E hr h=>?_)
 ·obtain⟨r,l,t,p,Z,M,n,k,rfl,_⟩:=h
  rfl
 ·obtain⟨r,l,t,p,Z,M,n,k,rfl,R,q⟩:=h
  refine⟨_,(ag (aH (aF (pv 0) T.aC T.a8.m (cQ T) (hr.mono (by decide)) T.a8.b .nil passX (aa (pv 1) ae)))
   (ai (aS (PT.nox (aM (dB (K:=K) (hU hr)) (pv 2) (aB (aq (K:=K) (hU1 hr)) (au (K:=K) (pv 0) rfl) (pv 1) (λ_ _=>rfl)) (nomark _))) bh aD))),?_⟩
  obtain⟨dx,hr⟩:=R.obj
  obtain⟨k1,hl,hk1,v1⟩:=R.liv
  walk_at "rd"
  refine⟨dx,_,hr,rfl,l,t,p,Z,M,R,?_⟩
  rcases q with⟨e,q⟩ | ⟨e,q⟩
  ·exact .inr ⟨e,q⟩
  ·have g1:DGet H l (.str n) (some (.int k)):=by have:=DGet.k (k:=.inr n) hl;rw[v1 n,e] at this;exact this
   refine .inl ⟨by rw[e];rfl,_,dx,_,hr,T.aC,T.bO,_,kW l t p,cu g1 ?_⟩
   rw[BN]
   refine⟨_,rfl,?_⟩
   rw[if_neg (by simp)];exact q
theorem kA (T:Txt w K mg a):FnOk P w K mg base (CXv P w) 4 a.f_Senders_spot_of a.d_Senders_spot_of ["self","name","number"] (yl a.C_Senders a.C_NoSuch a.C_Gap a.C_TooOld):=by
 refine T.dn.F.okX eQ (λvs H Q E h=>?_) (λcdv A outer s H vs Q E hr h=>?_)
 ·obtain⟨r,l,t,p,Z,M,n,k,rfl,_⟩:=h
  rfl
 ·obtain⟨r,l,t,p,Z,M,n,k,rfl,R,e,c,q⟩:=h
  refine⟨_,(ag (aH (aF (pv 0) T.aC T.a8.m (cQ T) (hr.mono (by decide)) T.a8.b .nil passX (aa (pv 1) ae)))
   (ag (PS.nox (av (i:=3) eQ.nd rfl (Or.inl rfl) (ax (ay (K:=K)) (aB (aq (K:=K) (hU1 hr)) (au (K:=K) (pv 0) rfl) (pv 1) (λ_ _=>rfl)) ah)))
   (ag (aS (PT.nox (aM z9 (pv 2) (pv 3) (nomark _))) bh aD)
   (ag (PS.nox (aS (aM (gk (K:=K) (hU hr)) (pv 2) (pv 3) (nomark _)) (ai (ar qK)) aD))
   bh)))),?_⟩
  obtain⟨dx,hr⟩:=R.obj
  obtain⟨k2,ht,hk2,v2⟩:=R.las
  obtain⟨v,ev⟩:=Option.isSome_iff_exists.mp e
  have g1:DGet H t (.str n) (some (.int (M.T n))):=by have:=DGet.k (k:=.inr n) ht;rw[v2 n,ev] at this;exact this
  walk_at "c2"
  refine⟨dx,_,hr,rfl,l,t,p,Z,M,R,.inl ⟨e,_,dx,_,hr,T.aC,T.bc,_,gI l t p,cu g1 ?_⟩⟩
  rw[sL]
  walk_at "nx"
  rw[if_neg (by omega)]
  walk_at "nx"
  rw[if_pos c]
  exact q
theorem nC (T:Txt w K mg a):FnOk P w K mg base (CXv P w) 4 a.f_Senders_note a.d_Senders_note ["self","name","number","row","place"] (ym a.C_Senders a.C_NoSuch a.C_Gap a.C_TooOld):=by
 refine T.eZ.F.okX iG (λvs H Q E h=>?_) (λcdv A outer s H vs Q E hr h=>?_)
 ·obtain⟨r,l,t,p,Z,M,n,k,x,y,rfl,_⟩:=h
  rfl
 ·obtain⟨r,l,t,p,Z,M,n,k,x,y,rfl,R,e,c,hz,hZ,q⟩:=h
  refine⟨_,(ag (aH (aF (pv 0) T.aC T.a8.m (cQ T) (hr.mono (by decide)) T.a8.b .nil passX (aa (pv 1) ae)))
   (ag (PS.nox (av (i:=5) iG.nd rfl (Or.inl rfl) (ax (ay (K:=K)) (aB (aq (K:=K) (hU1 hr)) (au (K:=K) (pv 0) rfl) (pv 1) (λ_ _=>rfl)) ah)))
   (ag (aS (PT.nox (aM z9 (pv 2) (pv 5) (nomark _))) bh aD)
   (ag (aS (PT.nox (aM lR (pv 2) (pv 5) (nomark _))) bh aD)
   (ag (PS.nox (gh (pv 2) (gb (au (K:=K) (pv 0) rfl) (pv 1) (dJ (hU1 hr)))))
   (ai (PS.nox (gh (iP (kM (K:=K)) (ax (ay (K:=K)) (aB (aq (K:=K) (hU1 hr)) (au (K:=K) (pv 0) rfl) (pv 1) (λ_ _=>rfl)) (aU (aa (bC (aa (pv 3) (aa (pv 4) ae))) ae))) (gX (Ct zI (bG T.rV))) qR) (gb (au (K:=K) (pv 0) rfl) (pv 1) (dJ (hU1 hr))))))))))),?_⟩
  obtain⟨dx,hr⟩:=R.obj
  obtain⟨k1,hl,hk1,v1⟩:=R.liv
  obtain⟨k2,ht,hk2,v2⟩:=R.las
  obtain⟨k3,hp,hk3,v3⟩:=R.spo
  walk_at "c2"
  refine⟨dx,_,hr,rfl,l,t,p,Z,M,R,?_⟩
  obtain⟨v,ev⟩:=Option.isSome_iff_exists.mp e
  obtain⟨qa,hq1,⟨ts,hts,htt⟩,hqz⟩:=v3 n e
  have htl:ts.length=(M.P n).length:=by have:=htt.length;rw[List.length_map] at this;exact this
  have g1:DGet H t (.str n) (some (.int (M.T n))):=by have:=DGet.k (k:=.inr n) ht;rw[v2 n,ev] at this;exact this
  have g2:DGet H p (.str n) (some (.ref qa)):=by have:=DGet.k (k:=.inr n) hp;rw[hq1] at this;exact this
  refine .inl ⟨e,_,dx,_,hr,T.aC,T.bc,_,gI l t p,cu g1 ?_⟩
  rw[sL]
  walk_at "n2"
  rw[if_neg (by omega),if_neg (by omega)]
  walk_at "nx"
  refine⟨_,dx,_,hr,T.aC,T.bc,_,gI l t p,gZ (DPut.k (k:=.inr n) ht (Nat.lt_of_le_of_lt hk2 (Nat.lt_of_le_of_lt hz (by decide)))) ?_⟩
  have c1:Chg [t] H (upd H t (.dK (putK k2 (.inr n) (.int k)))):=Chg.upd (by simp) (lV ht)
  have a1:upd H t (.dK (putK k2 (.inr n) (.int k))) t=some (.dK (putK k2 (.inr n) (.int k))):=af
  generalize upd H t (.dK (putK k2 (.inr n) (.int k)))=H1 at c1 a1 ⊢
  walk_at "ls"
  have hp1:=c1.keep _ _ hp (n1 (Ne.symm R.tp))
  have hr1:=c1.keep _ _ hr (n1 R.rt)
  have hl1:=c1.keep _ _ hl (n1 R.lt)
  have hts1:=c1.keep _ _ hts (n1 (iL hts ht (by intro z;cases z)))
  have g3:DGet H1 p (.str n) (some (.ref qa)):=by have:=DGet.k (k:=.inr n) hp1;rw[hq1] at this;exact this
  refine⟨_,dx,_,hr1,T.aC,T.cE,_,oz l t p,cu g3 ⟨by decide,λu hu=>⟨by decide,λb hb=>?_⟩⟩⟩
  have nub:u≠b:=λz=>by rw[<-z,af] at hb;cases hb
  have s2:Same H1 (upd (upd H1 u (.tup [V.int x,V.int y])) b (.lst [V.ref u])):=(Same.upd hu).trans (Same.upd hb)
  have hb2:upd (upd H1 u (.tup [V.int x,V.int y])) b (.lst [V.ref u]) b=some (.lst [V.ref u]):=af
  have hu2:upd (upd H1 u (.tup [V.int x,V.int y])) b (.lst [V.ref u]) u=some (.tup (spotV (x,y))):=(aj nub).trans af
  generalize upd (upd H1 u (.tup [V.int x,V.int y])) b (.lst [V.ref u])=H2 at s2 hb2 hu2 ⊢
  have h8:=R.len n
  refine wB (.inl (.inl (s2 _ _ hts1))) (.inl (.inl hb2)) (by rw[List.length_map,htl];exact Nat.le_trans (show(M.P n).length+1<=9 by omega) (by decide)) λe1 he1=>?_
  have s3:Same H2 (upd H2 e1 (.lst (ts.map V.ref++[V.ref u]))):=Same.upd he1
  have a3:upd H2 e1 (.lst (ts.map V.ref++[V.ref u])) e1=some (.lst (ts.map V.ref++[V.ref u])):=af
  generalize upd H2 e1 (.lst (ts.map V.ref++[V.ref u]))=H3 at s3 a3 ⊢
  refine n6 (.inl (.inl a3)) λe2 he2=>?_
  have en:cutV (ts.map V.ref++[V.ref u]) (some (-8)) none=((ts++[u]).drop ((M.P n++[(x,y)]).length - 8)).map V.ref:=by
   rw[yn,List.map_drop,List.map_append]
   congr 1
   rw[List.length_append,List.length_append,List.length_map,htl]
   rfl
  rw[en]
  have s4:Same H3 (upd H3 e2 (.lst (((ts++[u]).drop ((M.P n++[(x,y)]).length - 8)).map V.ref))):=Same.upd he2
  have a4:upd H3 e2 (.lst (((ts++[u]).drop ((M.P n++[(x,y)]).length - 8)).map V.ref)) e2=some (.lst (((ts++[u]).drop ((M.P n++[(x,y)]).length - 8)).map V.ref)):=af
  generalize upd H3 e2 (.lst (((ts++[u]).drop ((M.P n++[(x,y)]).length - 8)).map V.ref))=H4 at s4 a4 ⊢
  have s14:=(s2.trans s3).trans s4
  have he0:H e2=none:=by
   have h1:H1 e2=none:=aY (s2.trans s3) he2
   cases z:H e2 with
   | none=>rfl
   | some o=>
    by_cases et:e2=t
    ·rw[et,a1] at h1;cases h1
    ·rw[c1.keep _ _ z (n1 et)] at h1;cases h1
  refine⟨_,dx,_,s14 _ _ hr1,T.aC,T.cE,_,oz l t p,gZ (DPut.k (k:=.inr n) (s14 _ _ hp1) (Nat.lt_of_le_of_lt hk3 (Nat.lt_of_le_of_lt hz (by decide)))) ?_⟩
  have c5:Chg [p] H4 (upd H4 p (.dK (putK k3 (.inr n) (.ref e2)))):=Chg.upd (by simp) (lV (s14 _ _ hp1))
  have cA:Chg [t,p] H (upd H4 p (.dK (putK k3 (.inr n) (.ref e2)))):=(c1.mono (by simp)).trans ((Chg.of_same s14).trans (c5.mono (by simp)))
  refine q _ cA ⟨⟨dx,c5.keep _ _ (s14 _ _ hr1) (n1 R.rp)⟩,⟨k1,c5.keep _ _ (s14 _ _ hl1) (n1 R.lp),Nat.le_succ_of_le hk1,v1⟩,⟨_,c5.keep _ _ (s14 _ _ a1) (n1 R.tp),?_,λz=>?_⟩,⟨_,af,?_,λz hzz=>?_⟩,λz=>?_,R.rl,R.rt,R.rp,R.lt,R.lp,R.tp⟩
  ·have:=bF k2 (.inr n:Key) (.int k)
   show(putK k2 (.inr n:Key) (.int k)).length<=M.sz+1
   omega
  ·rw[eE]
   show _=(M.L z).map λ_=>V.int (if z=n then k else M.T z)
   by_cases ez:z=n
   ·subst ez
    rw[if_pos rfl,if_pos rfl,ev]
    rfl
   ·rw[if_neg (λh=>ez (Sum.inr.inj h)),if_neg ez]
    exact v2 z
  ·have:=bF k3 (.inr n:Key) (.ref e2)
   show(putK k3 (.inr n:Key) (.ref e2)).length<=M.sz+1
   omega
  ·show ∃q,_/\LTups _ q ((if z=n then(M.P n++[(x,y)]).drop ((M.P n++[(x,y)]).length - 8) else M.P z).map spotV)/\q∉Z
   rw[eE]
   by_cases ez:z=n
   ·subst ez
    rw[if_pos rfl,if_pos rfl]
    refine⟨e2,rfl,⟨_,c5.keep _ _ a4 (by simp;exact λw=>by rw[w,hp] at he0;cases he0),?_⟩,λm=>?_⟩
    ·have h2:TupsAt H4 (ts++[u]) ((M.P z++[(x,y)]).map spotV):=by
      rw[List.map_append]
      exact((htt.chg c1).chg (Chg.of_same (A:=[]) s14)).snoc (s4 _ _ (s3 _ _ hu2))
     rw[List.map_drop]
     exact(h2.drop _).chg c5
    ·obtain⟨o,ho⟩:=hZ e2 m
     rw[he0] at ho;cases ho
   ·rw[if_neg (λh=>ez (Sum.inr.inj h)),if_neg ez]
    obtain⟨qz,z1,z2,z3⟩:=v3 z hzz
    refine⟨qz,z1,z2.chg cA ?_,z3⟩
    obtain⟨tz,w1,_⟩:=z2
    simp
    exact⟨iL w1 ht (by intro z;cases z),iL w1 hp (by intro z;cases z)⟩
  ·show(if z=n then(M.P n++[(x,y)]).drop ((M.P n++[(x,y)]).length - 8) else M.P z).length<=8
   split
   ·rw[List.length_drop];omega
   ·exact R.len z
theorem nE (T:Txt w K mg a):FnOk P w K mg base CX0 2 a.f_Senders_hail a.d_Senders_hail ["self","name"] (yh a.C_Senders):=by
 refine T.eY.F.ok iE (λvs H Q E h=>?_) (λcdv A outer s H vs Q E hr h=>?_)
 ·obtain⟨r,l,t,p,Z,M,n,rfl,_⟩:=h
  rfl
 ·obtain⟨r,l,t,p,Z,M,n,rfl,R,hz,ev,hZ,q⟩:=h
  refine⟨_,(ag (av (i:=2) iE.nd rfl (Or.inl rfl) (ax (ay (K:=K)) (aF (pv 0) T.aC T.bH.m (fq T) (hr.mono (by decide)) T.bH.b .nil pass0 (aa (pv 1) ae)) ah))
   (ag (gh (pv 2) (gb (au (K:=K) (pv 0) rfl) (pv 1) (dJ (hU1 hr))))
   (ag (aS (aM (gk (K:=K) (hU hr)) (pv 2) ah (nomark _)) (ag (gh ah (gb (au (K:=K) (pv 0) rfl) (pv 1) (dJ (hU1 hr))))
   (ai (gh (aU ae) (gb (au (K:=K) (pv 0) rfl) (pv 1) (dJ (hU1 hr)))))) aD)
   (ai (ar (bC (aa (pv 2) (aa (aB (aq (K:=K) (hU1 hr)) (au (K:=K) (pv 0) rfl) (pv 1) (λ_ _=>rfl)) ae)))))))),?_⟩
  obtain⟨dx,hr⟩:=R.obj
  obtain⟨k1,hl,hk1,v1⟩:=R.liv
  obtain⟨k2,ht,hk2,v2⟩:=R.las
  obtain⟨k3,hp,hk3,v3⟩:=R.spo
  walk_at "c2"
  refine⟨dx,_,hr,rfl,l,t,p,Z,M,R,_,dx,_,hr,T.aC,T.bO,_,kW l t p,gZ (DPut.k (k:=.inr n) hl (Nat.lt_of_le_of_lt hk1 (Nat.lt_of_le_of_lt hz (by decide)))) ?_⟩
  have c1:Chg [l] H (upd H l (.dK (putK k1 (.inr n) (.int ((M.L n).getD 0+1))))):=Chg.upd (by simp) (lV hl)
  have a1:upd H l (.dK (putK k1 (.inr n) (.int ((M.L n).getD 0+1)))) l=some (.dK (putK k1 (.inr n) (.int ((M.L n).getD 0+1)))):=af
  have z1:(putK k1 (.inr n:Key) (.int ((M.L n).getD 0+1))).length<=M.sz+1:=by have:=bF k1 (.inr n:Key) (.int ((M.L n).getD 0+1));omega
  have w1:∀z,valV (putK k1 (.inr n) (.int ((M.L n).getD 0+1))) (.inr z)=((M.hail n).L z).map V.int:=λz=>by
   rw[eE]
   show _=(if z=n then some ((M.L n).getD 0+1) else M.L z).map V.int
   by_cases ez:z=n
   ·subst ez;rw[if_pos rfl,if_pos rfl];rfl
   ·rw[if_neg (λh=>ez (Sum.inr.inj h)),if_neg ez];exact v1 z
  generalize putK k1 (.inr n:Key) (.int ((M.L n).getD 0+1))=kk1 at c1 a1 z1 w1 ⊢
  generalize upd H l (.dK kk1)=H1 at c1 a1 ⊢
  walk_at "nx"
  have hr1:=c1.keep _ _ hr (n1 R.rl)
  have ht1:=c1.keep _ _ ht (n1 (Ne.symm R.lt))
  have hp1:=c1.keep _ _ hp (n1 (Ne.symm R.lp))
  have new:∀b,H1 b=none->H b=none:=λb hb=>by
   cases z:H b with
   | none=>rfl
   | some o=>
    by_cases et:b=l
    ·rw[et,a1] at hb;cases hb
    ·rw[c1.keep _ _ z (n1 et)] at hb;cases hb
  have isl:∀z,z≠n->((M.hail n).L z).isSome=true->(M.L z).isSome=true:=λz ez h=>by
   have h':(if z=n then some ((M.L n).getD 0+1) else M.L z).isSome=true:=h
   rw[if_neg ez] at h';exact h'
  rw[ev] at q ⊢
  have e0':(M.L n).getD 0=0:=by rw[ev];rfl
  rw[if_pos (show(none:Option Int).getD 0+1=1 from rfl)]
  refine⟨_,dx,_,hr1,T.aC,T.bc,_,gI l t p,gZ (DPut.k (k:=.inr n) ht1 (Nat.lt_of_le_of_lt hk2 (Nat.lt_of_le_of_lt hz (by decide)))) ⟨Nat.zero_le _,?_⟩⟩
  have c2:Chg [t] H1 (upd H1 t (.dK (putK k2 (.inr n) (.int 0)))):=Chg.upd (by simp) (lV ht1)
  have a2:upd H1 t (.dK (putK k2 (.inr n) (.int 0))) t=some (.dK (putK k2 (.inr n) (.int 0))):=af
  generalize upd H1 t (.dK (putK k2 (.inr n) (.int 0)))=H2 at c2 a2 ⊢
  have hr2:=c2.keep _ _ hr1 (n1 R.rt)
  have hl2:=c2.keep _ _ a1 (n1 R.lt)
  have hp2:=c2.keep _ _ hp1 (n1 (Ne.symm R.tp))
  have new2:∀b,H2 b=none->H b=none:=λb hb=>new b (by
   cases z:H1 b with
   | none=>rfl
   | some o=>
    by_cases et:b=t
    ·rw[et,a2] at hb;cases hb
    ·rw[c2.keep _ _ z (n1 et)] at hb;cases hb)
  refine λb hb=>?_
  have s3:Same H2 (upd H2 b (.lst [])):=Same.upd hb
  have a3:upd H2 b (.lst []) b=some (.lst []):=af
  generalize upd H2 b (.lst [])=H3 at s3 a3 ⊢
  have hb0:=new2 b hb
  refine⟨_,dx,_,s3 _ _ hr2,T.aC,T.cE,_,oz l t p,gZ (DPut.k (k:=.inr n) (s3 _ _ hp2) (Nat.lt_of_le_of_lt hk3 (Nat.lt_of_le_of_lt hz (by decide)))) ?_⟩
  have c4:Chg [p] H3 (upd H3 p (.dK (putK k3 (.inr n) (.ref b)))):=Chg.upd (by simp) (lV (s3 _ _ hp2))
  have a4:upd H3 p (.dK (putK k3 (.inr n) (.ref b))) p=some (.dK (putK k3 (.inr n) (.ref b))):=af
  generalize upd H3 p (.dK (putK k3 (.inr n) (.ref b)))=H4 at c4 a4 ⊢
  walk_at "ls"
  have hr4:=c4.keep _ _ (s3 _ _ hr2) (n1 R.rp)
  have ht4:=c4.keep _ _ (s3 _ _ a2) (n1 R.tp)
  have hl4:=c4.keep _ _ (s3 _ _ hl2) (n1 R.lp)
  have hb4:=c4.keep _ _ a3 (by simp;exact λw=>by rw[w,hp] at hb0;cases hb0)
  have new4:∀c,H4 c=none->H c=none:=λc hc=>new2 c (aY s3 (by
   cases z:H3 c with
   | none=>rfl
   | some o=>
    by_cases et:c=p
    ·rw[et,a4] at hc;cases hc
    ·rw[c4.keep _ _ z (n1 et)] at hc;cases hc))
  have g1:DGet H4 t (.str n) (some (.int 0)):=by have:=DGet.k (k:=.inr n) ht4;rw[eE,if_pos rfl] at this;exact this
  refine⟨_,dx,_,hr4,T.aC,T.bc,_,gI l t p,cu g1 ⟨by decide,λu hu=>?_⟩⟩
  have s5:Same H4 (upd H4 u (.tup [V.int ((none:Option Int).getD 0+1),V.int 0])):=Same.upd hu
  have cA:Chg [l,t,p] H (upd H4 u (.tup [V.int ((none:Option Int).getD 0+1),V.int 0])):=(((c1.mono (by simp)).trans (c2.mono (by simp))).trans (Chg.of_same s3)).trans ((c4.mono (by simp)).trans (Chg.of_same s5))
  refine q u _ cA ⟨⟨dx,s5 _ _ hr4⟩,⟨_,s5 _ _ hl4,z1,w1⟩,⟨_,s5 _ _ ht4,?_,λz=>?_⟩,⟨_,s5 _ _ a4,?_,λz hzz=>?_⟩,λz=>?_,R.rl,R.rt,R.rp,R.lt,R.lp,R.tp⟩ (new4 u hu) ?_
  ·have:=bF k2 (.inr n:Key) (.int 0)
   show(putK k2 (.inr n:Key) (.int 0)).length<=M.sz+1
   omega
  ·rw[eE]
   show _=(if z=n then some ((M.L n).getD 0+1) else M.L z).map λ_=>V.int (if z=n then(if (M.L n).getD 0=0 then 0 else M.T n) else M.T z)
   by_cases ez:z=n
   ·subst ez;rw[if_pos rfl,if_pos rfl,if_pos rfl,if_pos e0'];rfl
   ·rw[if_neg (λh=>ez (Sum.inr.inj h)),if_neg ez,if_neg ez];exact v2 z
  ·have:=bF k3 (.inr n:Key) (.ref b)
   show(putK k3 (.inr n:Key) (.ref b)).length<=M.sz+1
   omega
  ·show ∃q,_/\LTups _ q ((if z=n then(if (M.L n).getD 0=0 then[] else M.P n) else M.P z).map spotV)/\q∉Z
   rw[eE]
   by_cases ez:z=n
   ·subst ez
    rw[if_pos rfl,if_pos rfl,if_pos e0']
    refine⟨b,rfl,⟨[],s5 _ _ hb4,.nil⟩,λm=>?_⟩
    obtain⟨o,ho⟩:=hZ b m
    rw[hb0] at ho;cases ho
   ·rw[if_neg (λh=>ez (Sum.inr.inj h)),if_neg ez]
    obtain⟨qz,y1,y2,y3⟩:=v3 z (isl z ez hzz)
    refine⟨qz,y1,y2.chg cA ?_,y3⟩
    obtain⟨tz,x1,_⟩:=y2
    simp
    exact⟨iL x1 hl (by intro z;cases z),iL x1 ht (by intro z;cases z),iL x1 hp (by intro z;cases z)⟩
  ·show(if z=n then(if (M.L n).getD 0=0 then[] else M.P n) else M.P z).length<=8
   by_cases ez:z=n
   ·rw[if_pos ez,if_pos e0'];exact Nat.zero_le _
   ·rw[if_neg ez];exact R.len z
  ·show _=some (HO.tup [V.int ((none:Option Int).getD 0+1),V.int (if n=n then(if (M.L n).getD 0=0 then 0 else M.T n) else M.T n)])
   rw[if_pos rfl,if_pos e0']
   exact af
local macro_rules | `(tactic| walk_at "rd")=>rdM "iZipT tL tM rD vo tN rE rF tO mv oF yA tP yK AL yI tT tU AM vv vw vx AN yJ vy B1 vc yM rK yL yN yO vB rJ vz yG yL ye uQ"
theorem vX (T:Txt w K mg a):FnOk P w K mg base CX0 1 a.f_is_kind a.d_is_kind ["thing"] tq:=by
 refine T.jK.F.ok vO (λvs H Q E h=>?_) (λcdv A outer s H vs Q E hr h=>?_)
 ·obtain⟨v,rfl,_⟩:=h
  rfl
 ·obtain⟨v,rfl,hv,q⟩:=h
  refine⟨_,(ai (ar (dy (aw (aJ (K:=K)) (by rfl) T.a9 boot_isinstance (aa (pv 0) (aa (cZ (v:=.ty "str") rfl T.pq boot_str rfl) ae))) (fZ (jq (uM (K:=K) (hU1 hr)) (pv 0) (qh (K:=K) T.Cr) (by rfl)))))),?_⟩
  cases hv with
  | non=>walk_at "rd";exact q
  | bl b=>walk_at "rd";exact q
  | int i=>walk_at "rd";exact q
  | lst h=>
   walk_at "rd"
   rw[mR h]
   walk_at "rd"
   exact q
  | str z=>
   walk_at "rd"
   refine λp hp=>Ac (.inr (hp H)) rfl rfl ?_
   have e:inV (.str z) [V.str (Str.ofString "table"),V.str (Str.ofString "stream")]=kindV (.str z):=by
    unfold inV kindV
    simp only[List.any_cons,List.any_nil,Bool.or_false,eqV]
    have b1:(Str.ofString "table" == z)=decide (z=kTab):=by
     by_cases y:z=kTab
     ·rw[y,decide_eq_true rfl];exact beq_self_eq_true _
     ·rw[decide_eq_false y];exact beq_eq_false_iff_ne.mpr λw=>y w.symm
    have b2:(Str.ofString "stream" == z)=decide (z=kStr):=by
     by_cases y:z=kStr
     ·rw[y,decide_eq_true rfl];exact beq_self_eq_true _
     ·rw[decide_eq_false y];exact beq_eq_false_iff_ne.mpr λw=>y w.symm
    rw[b1,b2]
   rw[e]
   exact q
theorem uv (T:Txt w K mg a):FnOk P w K mg base CX0 3 a.f_is_shelf a.d_is_shelf ["thing"] kT:=by
 refine T.iw.F.ok ug (λvs H Q E h=>?_) (λcdv A outer s H vs Q E hr h=>?_)
 ·obtain⟨v,b,rfl,_⟩:=h
  rfl
 ·obtain⟨v,b,rfl,hv,q⟩:=h
  refine⟨_,(ag (aS (PW.pt (mM (ck (aR (K:=K) (aw (aJ (K:=K)) (by rfl) T.a9 boot_isinstance (aa (pv 0) (aa (cZ (v:=.ty "tuple") rfl T.rR boot_tuple rfl) ae))) (by intro _;rfl))) (iM (aM (dB (K:=K) (hU hr)) (aw (aO (K:=K)) (by rfl) T.cF boot_len (aa (pv 0) ae)) ah (nomark _))))) (ai (ar d6)) aD)
   (ai (ar (dy (ak (pB T) (hr.mono (by decide)) rfl T.dH.m T.dH.F.kp T.dH.b .nil pass0 (aa (aB (aq (K:=K) (hU1 hr)) (pv 0) ah (λ_ _=>rfl)) ae)) (dy (ak (m7 T) (hr.mono (by decide)) rfl T.cT.m T.cT.F.kp T.cT.b .nil pass0 (aa (aB (aq (K:=K) (hU1 hr)) (pv 0) ah (λ_ _=>rfl)) (aa ah (aa (bG T.uq) ae)))) (fZ (ak (vX T) (hr.mono (by decide)) rfl T.jK.m T.jK.F.kp T.jK.b .nil pass0 (aa (aB (aq (K:=K) (hU1 hr)) (pv 0) ah (λ_ _=>rfl)) ae)))))))),?_⟩
  have tri:∀(p:Addr) (x y z:V) (Q':VK),H p=some (.tup [x,y,z])->Thg H x->Thg H y->KThg H z->(∀H',Same H H'->Q (.bl (formV x 1 12 inN && (wholeV y 1 9 && kindV z))) H')->Q'=Q->
    rIxA K (V.ref p) (V.int 0) H λx H1=>Thg H1 x/\∀H',Same H1 H'->if formV x 1 12 inN=true then rIxA K (V.ref p) (V.int 1) H' λx H1=>Thg H1 x/\if wholeV x 1 9=true then rIxA K (V.ref p) (V.int 2) H1 λx H1=>KThg H1 x/\Q' (V.bl (kindV x)) H1 else Q' (V.bl false) H1 else Q' (V.bl false) H':=λp x y z Q' hp hx hy hz hq e=>by
   subst e
   refine aQ (v:=x) (SqT.of hp) rfl ⟨hx,λH' s=>?_⟩
   have hq':=hq H' s
   by_cases h1:formV x 1 12 inN=true
   ·rw[if_pos h1]
    rw[h1,Bool.true_and] at hq'
    refine aQ (v:=y) (SqT.of (s _ _ hp)) rfl ⟨hy.same s,?_⟩
    by_cases h2:wholeV y 1 9=true
    ·rw[if_pos h2]
     rw[h2,Bool.true_and] at hq'
     exact aQ (v:=z) (SqT.of (s _ _ hp)) rfl ⟨hz.same s,hq'⟩
    ·rw[if_neg h2]
     rw[Bool.not_eq_true] at h2
     rw[h2,Bool.false_and] at hq'
     exact hq'
   ·rw[if_neg h1]
    rw[Bool.not_eq_true] at h1
    rw[h1,Bool.false_and] at hq'
    exact hq'
  cases hv with
  | good h ok=>
   rename_i t x
   obtain⟨⟨n1,n2,n3⟩,⟨r1,r2⟩,hk⟩:=ok
   walk_at "rd"
   rw[gj h]
   walk_at "rd"
   refine Ab (SqT.of h) ?_
   have e3:((x.v.length:Nat):Int)=3:=rfl
   rw[e3]
   walk_at "rd"
   refine tri t (.str (S x.name)) (.int x.rows) (.str x.kind) Q h (.str _ (by omega)) (.int _) (.str _) (λH' s=>?_) rfl
   have ef:formV (.str (S x.name)) 1 12 inN=true:=by
    simp only[formV,bQ,Bool.and_eq_true,decide_eq_true_eq]
    exact⟨by omega,by omega,n3⟩
   have ew:wholeV (.int (x.rows:Int)) 1 9=true:=by
    simp only[wholeV,Bool.and_eq_true,decide_eq_true_eq]
    omega
   have ek:kindV (.str x.kind)=true:=by
    unfold kindV
    rcases hk with e | e<;>simp[e]
   rw[ef,ew,ek]
   exact q H' s
theorem pD (T:Txt w K mg a):FnOk P w K mg base CX0 4 a.f_are_shelves a.d_are_shelves ["thing"] ng:=by
 refine T.dP.F.ok oY (λvs H Q E h=>?_) (λcdv A outer s H vs Q E hr h=>?_)
 ·obtain⟨v,b,rfl,_⟩:=h
  rfl
 ·obtain⟨v,b,rfl,hv,q⟩:=h
  refine⟨_,(ag (aS (PW.pt (mM (ck (aR (K:=K) (aw (aJ (K:=K)) (by rfl) T.a9 boot_isinstance (aa (pv 0) (aa (cZ (v:=.ty "list") rfl T.gA boot_list rfl) ae))) (by intro _;rfl))) (iM (ck (sf g9 g9 ah (aw (aO (K:=K)) (by rfl) T.cF boot_len (aa (pv 0) ae)) (bG T.pA)))))) (ai (ar d6)) aD)
   (ag (aS (ck (aR (K:=K) (aw (eA (K:=K)) (by rfl) T.qH boot_all (aa (bL ["thing"] ["thing"] (defScope dM) (by exact⟨rfl,s!"d",s!"d",s!"d",s!"d",s!"d",s!"d",s!"d",s!"d"⟩) (aW (K:=K) (pv 0)) (λC₁ s₁ H₁ f₁=>(ak (uv T) (hr.mono (by decide)) rfl T.iw.m T.iw.F.kp T.iw.b .nil pass0 (aa (pv 0) ae)))) ae)) (by intro _;rfl))) (ai (ar d6)) aD)
   (ai (ar (jq (gk (K:=K) (hU hr)) (xT (K:=K) rfl rfl T.cF rfl T.Fb (bL ["thing"] ["thing"] (defScope dM) (by exact⟨rfl,s!"d",s!"d",s!"d",s!"d",s!"d",s!"d",s!"d",s!"d"⟩) (aW (K:=K) (pv 0)) (λC₁ s₁ H₁ f₁=>(aB (aq (K:=K) (hU1 hr)) (pv 0) ah (λ_ _=>rfl))))) (aw (aO (K:=K)) (by rfl) T.cF boot_len (aa (pv 0) ae)) (nomark _)))))),?_⟩
  have both:∀(p:Addr) (xs:List Shf) (Q':VK),LTups H p (xs.map Shf.v)->1<=xs.length->xs.length<=6->(∀x∈xs,okShf x)->(∀H',Same H H'->Q' (.bl (decide ((onceS (xs.map λx=>S x.name)).length=xs.length))) H')->Q'=Q->
    tSeq (tIfS (tOr (tNot (tTru K (tCB (rIsi K) (tCons (tVar 0) (tCons (tC (V.ty "list")) tNil))))) (tNot (tTest (tChain rLe rLe (tC (V.int 1)) (tCB (rLen K) (tCons (tVar 0) tNil)) (tC (V.int 6)))))) (tRet (tC (V.bl false))) tNext)
     (tSeq (tIfS (tNot (tTru K (tCB (rAll K) (tCons (tComp (iAny K (tVar 0)) tYes (tCall kT [] E0 (tCons (tVar 0) tNil))) tNil)))) (tRet (tC (V.bl false))) tNext)
      (tRet (tOp (rEqq K) (tLenSet K (tComp (iAny K (tVar 0)) tYes (tOp (rIxA K) (tVar 0) (tC (V.int 0))))) (tCB (rLen K) (tCons (tVar 0) tNil)))))
     { nx:=λx H'=>Q' V.non H',rt:=Q' } (L2.start [Str.ofString "thing"] [V.ref p]) H:=λp xs Q' hl o1 o2 each hq e0=>by
   clear e0
   obtain⟨ts,e,hT⟩:=id hl
   have hlen:ts.length=xs.length:=by rw[hT.length,List.length_map]
   walk_at "rd"
   rw[kL e]
   walk_at "rd"
   refine cm (.inl (.inl e)) ?_
   rw[List.length_map,hlen]
   walk_at "rd"
   rw[if_pos (show(1:Int)<=(xs.length:Int) by omega),if_neg (show ¬¬((xs.length:Int)<=6) by omega)]
   have hsl:(xs.map Shf.v).length<=sizeLine:=by rw[List.length_map];exact Nat.le_trans o2 (by decide)
   refine cv (.inl (.inl e)) (kg hl hsl (λ_=>.bl true) ?_ ?_)
   ·intro t ys H' hy s ht Qe qe
    obtain⟨x,hx,rfl⟩:=List.mem_map.mp hy
    walk_at "rd"
    exact⟨true,.good ht (each x hx),λH'' s'=>qe H'' s'⟩
   ·intro D H1 hD s1 h1
    refine lT (bs:=(xs.map Shf.v).map λ_=>true) (.inl (.inl (by rw[h1];simp))) ?_
    have ea:(((xs.map Shf.v).map λ_=>true).all id)=true:=by simp
    rw[ea]
    walk_at "rd"
    have hl1:=hl.same s1
    refine cv (.inl (.inl (s1 _ _ e))) (kg hl1 hsl (it 0) ?_ ?_)
    ·intro t ys H' hy s ht Qe qe
     obtain⟨x,hx,rfl⟩:=List.mem_map.mp hy
     walk_at "rd"
     exact aQ (v:=it 0 x.v) (.inl (.inl ht)) rfl (qe H' (Same.refl _))
    ·intro D2 H2 hD2 s2 h2
     refine⟨D2,rfl,xs.map λx=>S x.name,.inl (.inl (by rw[h2,List.map_map,List.map_map];rfl)),by rw[List.length_map];omega,cm (.inl (.inl (s2 _ _ (s1 _ _ e)))) ?_⟩
     rw[List.length_map,hlen]
     walk_at "rd"
     have:=hq H2 (s1.trans s2)
     rw[show decide ((((onceS (xs.map λx=>S x.name)).length:Nat):Int)=((xs.length:Nat):Int))=decide ((onceS (xs.map λx=>S x.name)).length=xs.length) by simp only[Int.natCast_inj]]
     exact this
  cases hv with
  | good hl ok=>
   rename_i p xs
   refine both p xs Q hl ok.lo ok.hi ok.each (λH' s=>?_) rfl
   have en:(onceS (xs.map λx=>S x.name)).length=xs.length:=sS _ _ (by simp) (by
    have:=ok.nd
    rw[show(λx:Shf=>S x.name)=S∘Shf.name from rfl,<-List.map_map]
    exact List.pairwise_map.mpr (List.Pairwise.imp (λh z=>h (nZ z)) this))
   rw[decide_eq_true en]
   exact q H' s
theorem jT (T:Txt w K mg a):FnOk P w K mg base (CXv P w) 5 a.f_Shelves___init__ a.d_Shelves___init__ ["self","shelves"] (tu a.C_Shelves a.C_BadWord):=by
 refine T.eV.F.okX jO (λvs H Q E h=>?_) (λcdv A outer s H vs Q E hr h=>?_)
 ·obtain⟨x,dx,v,rfl,_⟩:=h
  rfl
 ·obtain⟨x,dx,v,rfl,hx,h⟩:=h
  refine⟨_,(ag (aS (PT.nox (ck (aR (K:=K) (ak (pD T) (hr.mono (by decide)) rfl T.dP.m T.dP.F.kp T.dP.b .nil pass0 (aa (pv 1) ae)) (by intro _;rfl)))) bh aD)
   (ai (PS.nox (bu (pv 0) (bD (cR (K:=K)) rfl T.gA boot_list (aa (pv 1) ae)) rfl)))),?_⟩
  walk_at "rd"
  rcases h with⟨p,xs,rfl,hl,ok,q⟩ | ⟨hb,q⟩
  ·refine⟨true,.good hl ok,λH1 s1=>?_⟩
   rw[if_neg (by decide)]
   obtain⟨ts,e,hT⟩:=hl.same s1
   refine ju (.inl (.inl (.inl e))) λl hl'=>?_
   have hlx:x≠l:=λz=>by rw[<-z,s1 _ _ hx] at hl';cases hl'
   refine⟨_,dx,[],(aj hlx).trans (s1 _ _ hx),T.bx,T.bA,by decide,q l _ (s1.free hl') ?_ ⟨⟨dx,af⟩,⟨ts,(aj (Ne.symm hlx)).trans af,?_⟩⟩⟩
   ·exact(Chg.of_same s1).trans ((Chg.new hl').trans (Chg.upd (by simp) (bU ((aj hlx).trans (s1 _ _ hx)))))
   ·exact hT.chg (A:=[x]) ((Chg.new hl').trans (Chg.upd (by simp) (bU ((aj hlx).trans (s1 _ _ hx)))))
  ·cases hb
theorem nF (T:Txt w K mg a):FnOk P w K mg base CX0 1 a.f_Shelves_told a.d_Shelves_told ["self"] (u7 a.C_Shelves):=by
 refine T.eW.F.ok nq (λvs H Q E h=>?_) (λcdv A outer s H vs Q E hr h=>?_)
 ·obtain⟨s,l,xs,rfl,_⟩:=h
  rfl
 ·obtain⟨s,l,xs,rfl,R,q⟩:=h
  refine⟨_,(ai (ar (bD (cR (K:=K)) rfl T.gA boot_list (aa (au (K:=K) (pv 0) rfl) ae)))),?_⟩
  walk_at "rd"
  obtain⟨dx,hs⟩:=R.obj
  obtain⟨ts,e,hT⟩:=R.lst
  refine⟨_,dx,_,hs,T.bx,T.bA,_,rfl,ju (.inl (.inl (.inl e))) λD hD=>q D _ hD (Same.upd hD) ⟨ts,af,hT.chg (A:=[]) (Chg.of_same (Same.upd hD))⟩⟩
theorem jk (T:Txt w K mg a):FnOk P w K mg base CX0 1 a.f_Shelves_many_rows a.d_Shelves_many_rows ["self"] (uZ a.C_Shelves):=by
 refine T.cI.F.ok jb (λvs H Q E h=>?_) (λcdv A outer s H vs Q E hr h=>?_)
 ·obtain⟨s,l,xs,rfl,_⟩:=h
  rfl
 ·obtain⟨s,l,xs,rfl,R,hn,q⟩:=h
  refine⟨_,(ai (ar (aw (lS (K:=K)) (by rfl) T.A6 boot_sum (aa (bL ["self"] ["self"] (defScope cG) (by exact⟨rfl,s!"d",s!"d",s!"d",s!"d",s!"d",s!"d",s!"d",s!"d"⟩) (aW (K:=K) (au (K:=K) (pv 0) rfl)) (λC₁ s₁ H₁ f₁=>(aB (aq (K:=K) (hU1 hr)) (pv 0) ah (λ_ _=>rfl)))) ae)))),?_⟩
  walk_at "rd"
  obtain⟨dx,hs⟩:=R.obj
  obtain⟨ts,e,hT⟩:=R.lst
  refine⟨_,dx,_,hs,T.bx,T.bA,_,rfl,cv (.inl (.inl e)) (kg R.lst (by rw[List.length_map];exact Nat.le_trans hn (by decide)) (it 1) ?_ ?_)⟩
  ·intro t ys H' hy s ht Qe qe
   obtain⟨x,hx,rfl⟩:=List.mem_map.mp hy
   walk_at "rd"
   exact aQ (v:=it 1 x.v) (.inl (.inl ht)) rfl (qe H' (Same.refl _))
  ·intro D H1 hD s1 h1
   refine⟨D,xs.map λx=>(x.rows:Int),rfl,.inl (.inl (by rw[h1,List.map_map,List.map_map];rfl)),?_⟩
   have es:(xs.map λx=>(x.rows:Int)).sum=((startOf xs xs.length:Nat):Int):=by
    unfold startOf
    rw[List.take_length]
    generalize xs=ys
    induction ys with
    | nil=>rfl
    | cons y ys ih=>rw[List.map_cons,List.map_cons,List.sum_cons,List.sum_cons,ih];push_cast;rfl
   rw[es]
   exact q H1 s1
theorem kB (T:Txt w K mg a):FnOk P w K mg base (CXv P w) 3 a.f_Shelves_rows_of a.d_Shelves_rows_of ["self","name"] (oj a.C_Shelves a.C_NoSuch):=by
 refine T.dk.F.okX bV (λvs H Q E h=>?_) (λcdv A outer s H vs Q E hr h=>?_)
 ·obtain⟨s,l,xs,nm,rfl,_⟩:=h
  rfl
 ·obtain⟨s,l,xs,nm,rfl,R,ok,q⟩:=h
  refine⟨_,(ag (PS.nox (av (i:=2) bV.nd rfl (Or.inl rfl) ah))
   (ag (PS.nox (bS PassesOwn.never rfl (aW (K:=K) (au (K:=K) (pv 0) rfl)) (aN (i:=3) bV.nd rfl (Or.inl rfl)) (ag (aS (aM (gk (K:=K) (hU hr)) (aB (aq (K:=K) (hU1 hr)) (pv 3) ah (λ_ _=>rfl)) (pv 1) (nomark _)) (ai (ar (pL rfl rfl T.gA rfl T.dR (aa (pv 2) (aa (ax (ay (K:=K)) (pv 2) (aB (aq (K:=K) (hU1 hr)) (pv 3) ah (λ_ _=>rfl))) ae))))) aD)
   (ai (zC (i:=2) bV.nd rfl (Or.inl rfl) (aB (aq (K:=K) (hU1 hr)) (pv 3) ah (λ_ _=>rfl)) sG)))))
   (ai (og T.gP T.mE T.mF (cW T) (hr.mono (by decide)) rfl T.gM T.cq.b (by decide) raiseX (aa (pv 1) ae))))),?_⟩
  walk_at "rd"
  obtain⟨dx,hs⟩:=R.obj
  obtain⟨ts,e,hT⟩:=R.lst
  have hlen:ts.length=xs.length:=by rw[hT.length,List.length_map]
  have h9:∀y∈xs,y.rows<=9:=λy hy=>(ok.each y hy).2.1.2
  have o2:=ok.hi
  refine⟨_,dx,_,hs,T.bx,T.bA,_,rfl,cv (.inl (.inl e)) (dA (xs:=ts.map V.ref) (λi σ H'=>H'=H/\(∀j y,j < i->xs[j]?=some y->y.name≠nm)/\∃v,σ=[some (V.ref s),some (V.str (S nm)),some (V.int (startOf xs i)),v]) ⟨rfl,λj y hj=>absurd hj (Nat.not_lt_zero _),none,rfl⟩ (λi σ H' _ h=>by rw[h.1];exact .inl (.inl e)) ?_ ?_)⟩
  ·rintro i y σ H' hy ⟨rfl,hik,v,rfl⟩
   rw[List.getElem?_map] at hy
   cases hti:ts[i]? with
   | none=>rw[hti] at hy;cases hy
   | some t=>
    rw[hti] at hy
    cases (Option.some.inj hy)
    obtain⟨ys,h1,h2⟩:=hT.get hti
    rw[List.getElem?_map] at h1
    cases hxi:xs[i]? with
    | none=>rw[hxi] at h1;cases h1
    | some y=>
     rw[hxi] at h1
     cases (Option.some.inj h1)
     have hTt:SqT K H' t y.v:=.inl (.inl h2)
     have hb:=ia h9 i
     have hy9:=h9 y (List.mem_of_getElem? hxi)
     have hil0:=(List.getElem?_eq_some_iff.mp hxi).1
     walk_at "rd"
     refine aQ (v:=.str (S y.name)) hTt rfl ?_
     walk_at "rd"
     refine ite2 (λhn=>?_) (λhn=>?_)
     ·have hnn:y.name=nm:=hn
      rcases q with⟨k,x,hk,hxn,q⟩ | ⟨hno,_⟩
      rotate_left
      ·exact absurd hnn (hno y (List.mem_of_getElem? hxi))
      have hki:i=k:=by
       refine Classical.byContradiction λhne=>?_
       have hkl:=(List.getElem?_eq_some_iff.mp hk).1
       have hil:=(List.getElem?_eq_some_iff.mp hxi).1
       rcases Nat.lt_or_gt_of_ne hne with h | h
       ·have:=List.pairwise_iff_getElem.mp ok.nd i k (by rw[List.length_map];omega) (by rw[List.length_map];omega) h
        apply this
        rw[List.getElem_map,List.getElem_map,(List.getElem?_eq_some_iff.mp hxi).2,(List.getElem?_eq_some_iff.mp hk).2,hnn,hxn]
       ·have:=List.pairwise_iff_getElem.mp ok.nd k i (by rw[List.length_map];omega) (by rw[List.length_map];omega) h
        apply this
        rw[List.getElem_map,List.getElem_map,(List.getElem?_eq_some_iff.mp hxi).2,(List.getElem?_eq_some_iff.mp hk).2,hnn,hxn]
      subst hki
      rw[hxi] at hk
      cases (Option.some.inj hk)
      refine aQ (v:=.int y.rows) hTt rfl ?_
      walk_at "rd"
      refine⟨by omega,by omega,by omega,by omega,?_,λl hl=>?_⟩
      ·have:(9:Int)<=sizeLine:=by decide
       omega
      ·refine q l _ hl (Same.upd hl) ?_
       rw[af,show((startOf xs i:Nat):Int)+(y.rows:Int) - ((startOf xs i:Nat):Int)=(y.rows:Int) by omega,Int.toNat_natCast]
     ·refine aQ (v:=.int y.rows) hTt rfl ?_
      walk_at "rd"
      refine⟨λj y' hj hy'=>?_,?_⟩
      ·rcases Nat.lt_or_ge j i with h | h
       ·exact hik j y' h hy'
       ·have:j=i:=by omega
        subst this
        rw[hxi] at hy'
        cases (Option.some.inj hy')
        exact hn
      ·rw[bp hxi]
       push_cast
       rfl
  ·rintro σ H' ⟨rfl,hik,v,rfl⟩
   rw[List.length_map,hlen] at hik
   walk_at "rd"
   rcases q with⟨k,x,hk,hxn,_⟩ | ⟨_,q⟩
   ·exact absurd hxn (hik k x (List.getElem?_eq_some_iff.mp hk).1 hk)
   ·exact q.bears
theorem iK (T:Txt w K mg a):FnOk P w K mg base (CXv P w) 3 a.f_Shelves_shelf_with a.d_Shelves_shelf_with ["self","row"] (u9 a.C_Shelves a.C_NoSuch):=by
 refine T.cz.F.okX bB (λvs H Q E h=>?_) (λcdv A outer s H vs Q E hr h=>?_)
 ·obtain⟨s,l,xs,r,rfl,_⟩:=h
  rfl
 ·obtain⟨s,l,xs,r,rfl,R,ok,q⟩:=h
  refine⟨_,(ag (PS.nox (av (i:=2) bB.nd rfl (Or.inl rfl) ah))
   (ag (PS.nox (bS PassesOwn.never rfl (aW (K:=K) (au (K:=K) (pv 0) rfl)) (aN (i:=3) bB.nd rfl (Or.inl rfl)) (ag (zC (i:=2) bB.nd rfl (Or.inl rfl) (aB (aq (K:=K) (hU1 hr)) (pv 3) ah (λ_ _=>rfl)) sG)
   (ai (aS (sf g9 lR ah (pv 1) (pv 2)) (ai (ar (pv 3))) aD)))))
   (ai (og T.gP T.mE T.mF (cW T) (hr.mono (by decide)) rfl T.gM T.cq.b (by decide) raiseX (aa (pv 1) ae))))),?_⟩
  walk_at "rd"
  obtain⟨dx,hs⟩:=R.obj
  obtain⟨ts,e,hT⟩:=R.lst
  have hlen:ts.length=xs.length:=by rw[hT.length,List.length_map]
  refine⟨_,dx,_,hs,T.bx,T.bA,_,rfl,cv (.inl (.inl e)) (dA (xs:=ts.map V.ref) (λi σ H'=>H'=H/\(r < 0\/(startOf xs i:Int)<=r)/\∃v,σ=[some (V.ref s),some (V.int r),some (V.int (startOf xs i)),v]) ⟨rfl,?_,none,rfl⟩ (λi σ H' _ h=>by rw[h.1];exact .inl (.inl e)) ?_ ?_)⟩
  ·rcases Int.lt_or_le r 0 with h | h
   ·exact .inl h
   ·exact .inr (by unfold startOf;simpa using h)
  ·rintro i y σ H' hy ⟨rfl,hik,v,rfl⟩
   rw[List.getElem?_map] at hy
   obtain⟨t,hti,rfl⟩:=Option.map_eq_some_iff.mp hy
   obtain⟨ys,h1,h2⟩:=hT.get hti
   rw[List.getElem?_map] at h1
   obtain⟨y,hxi,rfl⟩:=Option.map_eq_some_iff.mp h1
   have hTt:SqT K H' t y.v:=.inl (.inl h2)
   walk_at "rd"
   refine aQ (v:=.int y.rows) hTt rfl ?_
   walk_at "rd"
   have es:=bp hxi
   have hil:=(List.getElem?_eq_some_iff.mp hxi).1
   have nxt:¬(0<=r/\r < (startOf xs i:Int)+y.rows)->(r < 0\/(startOf xs (i+1):Int)<=r)/\(startOf xs i:Int)+y.rows=(startOf xs (i+1):Int):=λz=>by
    rw[es]
    constructor
    ·push_cast
     omega
    ·push_cast;rfl
   refine ite2 (λh0=>ite2 (λh1=>?_) (λh1=>nxt (λz=>h1 z.2))) (λh0=>nxt (λz=>h0 z.1))
   have hi0:(startOf xs i:Int)<=r:=by omega
   rcases q with⟨k,x,hk,a1,a2,q⟩ | ⟨hb,_⟩
   ·have ek:=bp hk
    rw[ek] at a2
    push_cast at a2
    have hki:k=i:=by
     rcases Nat.lt_trichotomy k i with h | h | h
     ·have:=ib hk h;omega
     ·exact h
     ·have:=ib hxi h;omega
    subst hki
    rw[hxi] at hk
    cases (Option.some.inj hk)
    exact q t h2
   ·have:=ib hxi hil
    omega
  ·rintro σ H' ⟨rfl,hik,v,rfl⟩
   rw[List.length_map,hlen] at hik
   walk_at "rd"
   rcases q with⟨k,x,hk,a1,a2,_⟩ | ⟨_,q⟩
   ·have hkl:=(List.getElem?_eq_some_iff.mp hk).1
    have:=ib hk hkl
    rw[bp hk] at a2
    push_cast at a2
    omega
   ·exact q.bears
theorem jU (T:Txt w K mg a):FnOk P w K mg base (CXv P w) 4 a.f_Shelves_shelf_at a.d_Shelves_shelf_at ["self","row"] (Ax 0 a.C_Shelves a.C_NoSuch):=by
 refine T.cU.F.okX jP (λvs H Q E h=>?_) (λcdv A outer s H vs Q E hr h=>?_)
 ·obtain⟨s,l,xs,r,rfl,_⟩:=h
  rfl
 ·obtain⟨s,l,xs,r,rfl,R,ok,q⟩:=h
  refine⟨_,(ai (ar (aB (aq (K:=K) (hU1 hr)) (aF (pv 0) T.bx T.cz.m (iK T) (hr.mono (by decide)) T.cz.b .nil passX (aa (pv 1) ae)) ah (λ_ _=>rfl)))),?_⟩
  walk_at "rd"
  obtain⟨dx,hs⟩:=R.obj
  refine⟨dx,_,hs,rfl,l,xs,R,ok,?_⟩
  rcases q with⟨k,x,hk,a1,a2,q⟩ | ⟨hb,q⟩
  ·exact .inl ⟨k,x,hk,a1,a2,λt ht=>aQ (v:=it 0 x.v) (SqT.of ht) rfl q⟩
  ·exact .inr ⟨hb,q⟩
theorem kC (T:Txt w K mg a):FnOk P w K mg base (CXv P w) 4 a.f_Shelves_row_for a.d_Shelves_row_for ["self","name","key"] (om a.C_Shelves a.C_NoSuch):=by
 refine T.dm.F.okX eO (λvs H Q E h=>?_) (λcdv A outer s H vs Q E hr h=>?_)
 ·obtain⟨s,l,xs,nm,key,rfl,_⟩:=h
  rfl
 ·obtain⟨s,l,xs,nm,key,rfl,R,ok,q⟩:=h
  refine⟨_,(ag (av (i:=3) eO.nd rfl (Or.inl rfl) (aF (pv 0) T.bx T.dk.m (kB T) (hr.mono (by decide)) T.dk.b .nil passX (aa (pv 1) ae)))
   (ai (PS.nox (ar (aB (aq (K:=K) (hU1 hr)) (pv 3) (ak (zi T) (hr.mono (by decide)) rfl T.lC.m T.lC.F.kp T.lC.b .nil pass0 (aa (pv 2) (aa (aw (aO (K:=K)) (by rfl) T.cF boot_len (aa (pv 3) ae)) ae))) (λ_ _=>rfl)))))),?_⟩
  walk_at "rd"
  obtain⟨dx,hs⟩:=R.obj
  refine⟨dx,_,hs,rfl,l,xs,R,ok,?_⟩
  rcases q with⟨k,x,hk,hxn,q⟩ | ⟨hb,q⟩
  ·have hx:=(ok.each x (List.mem_of_getElem? hk)).2.1
   refine .inl ⟨k,x,hk,hxn,λD H1 hD s1 h1=>cm (.inl (.inl h1)) ?_⟩
   have el:(rngV (startOf xs k) x.rows).length=x.rows:=by simp[rngV]
   rw[el]
   have h0:0<=sprN key % (x.rows:Int):=Int.emod_nonneg _ (by omega)
   have h2:sprN key % (x.rows:Int) < x.rows:=Int.emod_lt_of_pos _ (by omega)
   refine⟨_,rfl,by omega,bw (v:=.int (rowNo xs k x key)) (.inl (.inl h1)) (bZ h0 ?_) (q H1 s1)⟩
   unfold rngV rowNo
   rw[List.getElem?_map,List.getElem?_range (by omega)]
   simp only[Option.map_some]
   push_cast
   rfl
  ·exact .inr ⟨hb,q⟩
theorem vY (T:Txt w K mg a):FnOk P w K mg base CX0 1 a.f_guarded a.d_guarded ["text"] vf:=by
 refine T.jE.F.ok1 vH (s!"d") (λvs H Q E h=>?_) (λcdv A outer s H vs Q E hr h=>?_)
 ·obtain⟨a,rfl,_⟩:=h
  rfl
 ·obtain⟨a,rfl,hl,q⟩:=h
  refine⟨_,(Az (tF (K:=K) (c:=59) (z:=[126,115]) (s!"d") (s!"d") (s!"d") (tF (K:=K) (c:=126) (z:=[126,119]) (s!"d") (s!"d") (s!"d") (PE.one (pv 0))))),?_⟩
  have e1:(joinL [126,119] (splitL 126 a)).length<=2 * a.length:=by
   have:joinL [126,119] (splitL 126 a)=a.flatMap λx=>if x=126 then[126,119] else[x]:=fz _ _ _
   rw[this]
   clear this hl q
   induction a with
   | nil=>exact Nat.le_refl _
   | cons x a ih=>
    rw[List.flatMap_cons,List.length_append,List.length_cons]
    by_cases h:x=126
    ·rw[if_pos h];simp only[List.length_cons,List.length_nil];omega
    ·rw[if_neg h];simp only[List.length_cons,List.length_nil];omega
  refine⟨a,rfl,?_,_,rfl,?_,?_⟩
  ·simp only[List.length_cons,List.length_nil];omega
  ·simp only[List.length_cons,List.length_nil];omega
  ·rw[E2];exact q
theorem qI (T:Txt w K mg a):FnOk P w K mg base CX0 2 a.f_joined a.d_joined ["fields"] (yd K):=by
 refine T.eS.F.ok yQ (λvs H Q E h=>?_) (λcdv A outer s H vs Q E hr h=>?_)
 ·obtain⟨p,l,rfl,_⟩:=h
  rfl
 ·obtain⟨p,l,rfl,hp,hl,q⟩:=h
  refine⟨_,(ai (ar (cn (K:=K) PySem.F.plainAttrs_str PySem.F.slot_str_join PySem.F.type_str_join (iS (K:=K)) aK (aa (bL ["fields"] ["fields"] (defScope oJ) (by exact⟨rfl,s!"d",s!"d",s!"d",s!"d",s!"d",s!"d",s!"d",s!"d"⟩) (aW (K:=K) (pv 0)) (λC₁ s₁ H₁ f₁=>(ak (vY T) (hr.mono (by decide)) rfl T.jE.m T.jE.F.kp T.jE.b .nil pass0 (aa (pv 0) ae)))) ae)))),?_⟩
  walk_at "rd"
  have Z:4000000<=sizeLine:=by decide
  have e1:l.length<=1000000:=by omega
  have e2:∀x∈l,x.length<=1000000:=λx hx=>Nat.le_trans (oq (List.mem_map.mpr ⟨x,hx,rfl⟩)) (show(l.map List.length).sum<=1000000 by omega)
  refine cv hp (ke hp (by unfold tx;rw[List.length_map];omega) (λv=>match v with | .str (⟨z⟩)=>.str (S (gd z.toList)) | x=>x) (λx H' hx s Qe qe=>?_) λD H' hD s1 hd=>?_)
  ·unfold tx at hx
   obtain⟨c,hc,rfl⟩:=List.mem_map.mp hx
   walk_at "rd"
   exact⟨e2 c hc,qe H' (Same.refl _)⟩
  ·refine⟨[59],s!"d",D,rfl,l.map gd,.inl (.inl ?_),?_,?_⟩
   ·rw[hd];unfold tx;rw[List.map_map,List.map_map];rfl
   ·have:∀l:List (List Nat),((l.map gd).map List.length).sum<=2 * (l.map List.length).sum:=by
     intro l
     induction l with
     | nil=>exact Nat.le_refl _
     | cons x l ih=>have:=rB x;simp only[List.map_cons,List.sum_cons];omega
    have:=this l
    simp only[List.length_map,List.length_cons,List.length_nil]
    omega
   ·exact q _ s1
theorem zk (T:Txt w K mg a):FnOk P w K mg base CX0 1 a.f_sum_of a.d_sum_of ["text"] Ea:=by
 refine T.lu.F.ok jB (λvs H Q E h=>?_) (λcdv A outer s H vs Q E hr h=>?_)
 ·obtain⟨l,rfl,_⟩:=h
  rfl
 ·obtain⟨l,rfl,hl,q⟩:=h
  refine⟨_,(ag (av (i:=1) jB.nd rfl (Or.inl rfl) ah)
   (ag (bS PassesOwn.never rfl (aW (K:=K) (pv 0)) (aN (i:=2) jB.nd rfl (Or.inl rfl)) (ai (av (i:=1) jB.nd rfl (Or.inl rfl) (ax zH (ax EC (ax zG (ax Dp (pv 1) ah) ah) (ax zF (pv 1) ah)) (aw jv (by rfl) T.w4 boot_ord (aa (pv 2) ae))))))
   (ai (ar (pv 1))))),?_⟩
  walk_at "rd"
  refine n5 (λi σ H'=>H'=H/\∃v,σ=[some (.str (S l)),some (.int (sumF 0 (l.take i):Nat)),v]) ⟨rfl,none,rfl⟩ ?_ ?_
  ·rintro i c σ H' hc ⟨rfl,v,rfl⟩
   have hc':l[i]?=some c:=by simpa using hc
   have hb:sumF 0 (l.take i) < 65536:=wJ (λx hx=>Nat.lt_trans (hl x (List.mem_of_mem_take hx)) (by decide)) (by decide)
   have hs:=Ar (c:=c) hb
   walk_at "rd"
   rw[x3 hc',<-hs]
   refine⟨by omega,?_⟩
   simp
  ·rintro σ H' ⟨rfl,v,rfl⟩
   walk_at "rd"
   have e:l.take (S l).cps.size=l:=by simp
   rw[e]
   exact q
theorem vZ (T:Txt w K mg a):FnOk P w K mg base CX0 2 a.f_line_of a.d_line_of ["number","body"] yf:=by
 refine T.jF.F.ok oK (λvs H Q E h=>?_) (λcdv A outer s H vs Q E hr h=>?_)
 ·obtain⟨n,b,rfl,_⟩:=h
  rfl
 ·obtain⟨n,b,rfl,g,q⟩:=h
  refine⟨_,(ag (av (i:=2) oK.nd rfl (Or.inl rfl) (aU (aa (cn (K:=K) PySem.F.plainAttrs_str PySem.F.slot_str_zfill PySem.F.type_str_zfill oy (bD (gG (K:=K)) rfl T.pq boot_str (aa (pv 0) ae)) (aa ah ae)) (aa (cn (K:=K) PySem.F.plainAttrs_str PySem.F.slot_str_zfill PySem.F.type_str_zfill oy (bD (gG (K:=K)) rfl T.pq boot_str (aa (ak (zk T) (hr.mono (by decide)) rfl T.lu.m T.lu.F.kp T.lu.b .nil pass0 (aa (pv 1) ae)) ae)) (aa ah ae)) (aa (cn (K:=K) PySem.F.plainAttrs_str PySem.F.slot_str_zfill PySem.F.type_str_zfill oy (bD (gG (K:=K)) rfl T.pq boot_str (aa (aw (aO (K:=K)) (by rfl) T.cF boot_len (aa (pv 1) ae)) ae)) (aa ah ae)) ae)))))
   (ai (ar (ax (ay (K:=K)) (ax (ay (K:=K)) (cn (K:=K) PySem.F.plainAttrs_str PySem.F.slot_str_join PySem.F.type_str_join (iS (K:=K)) aK (aa (pv 2) ae)) aK) (pv 1))))),?_⟩
  walk_at "rd"
  have hs:=g.sum
  have hl:=g.l
  have hn:=g.n
  have Z:40000<=sizeLine:=by decide
  have z6:=ma (w:=6) (by decide) g.n
  have z5:=ma (w:=5) (by decide) (Nat.lt_trans g.sum (show 65536 < 10 ^ 5 by decide))
  have z4:=ma (w:=4) (by decide) g.l
  refine⟨gH (by omega) (by omega),n,rfl,6,rfl,by decide,g.c,gH (by omega) (by omega),sumF 0 b,rfl,5,rfl,by decide,by omega,gH (by omega) (by omega),b.length,rfl,4,rfl,by decide,by omega,λp hp=>⟨[32],s!"d",[zf 6 n,zf 5 (sumF 0 b),zf 4 b.length],.inl (.inl af),?_,[32],s!"d",?_⟩⟩
  ·simp only[List.map_cons,List.map_nil,List.sum_cons,List.sum_nil,List.length_cons,List.length_nil];omega
  have ej:joinL [32] [zf 6 n,zf 5 (sumF 0 b),zf 4 b.length]++[32]=hdL n b:=by
   show zf 6 n++[32]++(zf 5 (sumF 0 b)++[32]++zf 4 b.length)++[32]=_
   unfold hdL pfL;simp
  have el:=congrArg List.length ej
  rw[g.hd,List.length_append,List.length_singleton] at el
  rw[ej,g.hd]
  refine⟨?_,by omega,q _ (Same.upd hp)⟩
  simp only[List.length_cons,List.length_nil];omega
theorem mJ (T:Txt w K mg a):FnOk P w K mg base CX0 1 a.f_Book___init__ a.d_Book___init__ ["self"] (vg a.C_Book):=by
 refine T.iH.F.ok my (λvs H Q E h=>?_) (λcdv A outer s H vs Q E hr h=>?_)
 ·obtain⟨x,dx,rfl,_⟩:=h
  rfl
 ·obtain⟨x,dx,rfl,hx,q⟩:=h
  refine⟨_,(ai (bu (pv 0) (aU ae) rfl)),?_⟩
  walk_at "rd"
  refine⟨by decide,λd hd=>?_⟩
  have hdx:d≠x:=λz=>by rw[z,hx] at hd;cases hd
  refine⟨_,dx,[],(aj (Ne.symm hdx)).trans hx,T.fW,T.cg,by decide,?_⟩
  refine q d _ hd hdx ((Chg.new hd).trans (Chg.upd (by simp) (bU ((aj (Ne.symm hdx)).trans hx)))) ⟨⟨dx,af⟩,(aj hdx).trans af⟩
theorem j7 (T:Txt w K mg a):FnOk P w K mg base CX0 3 a.f_Book_write a.d_Book_write ["self","bodies"] (tH a.C_Book):=by
 refine T.dj.F.ok cK (λvs H Q E h=>?_) (λcdv A outer s H vs Q E hr h=>?_)
 ·obtain⟨r,p,l,ls,act,rfl,_⟩:=h
  rfl
 ·obtain⟨r,p,l,ls,act,rfl,R,hp,hpl,hb,hn,q⟩:=h
  refine⟨_,(ag (av (i:=2) cK.nd rfl (Or.inl rfl) (ax Dm (aw (aO (K:=K)) (by rfl) T.cF boot_len (aa (pv 1) ae)) ah))
   (ag (bS PassesOwn.never rfl (hJ rfl T.fX (aa (pv 1) ae)) (hG (K:=K) (n:=2) rfl (bj (aN (i:=3) cK.nd rfl (Or.inl rfl)) (bj (aN (i:=4) cK.nd rfl (Or.inl rfl)) gS))) (ag (av (i:=5) cK.nd rfl (Or.inl rfl) (nQ (aM (gk (K:=K) (hU hr)) (pv 3) (pv 2) (nomark _)) aK aK))
   (ai (aH (cn (K:=K) PySem.F.plainAttrs_list PySem.F.slot_list_append PySem.F.type_list_append b9 (au (K:=K) (pv 0) rfl) (aa (ak (vZ T) (hr.mono (by decide)) rfl T.jF.m T.jF.F.kp T.jF.b .nil pass0 (aa (aw (aO (K:=K)) (by rfl) T.cF boot_len (aa (au (K:=K) (pv 0) rfl) ae)) (aa (ax (ay (K:=K)) (pv 5) (pv 4)) ae))) ae))))))
   (ai (ar (aw (aO (K:=K)) (by rfl) T.cF boot_len (aa (au (K:=K) (pv 0) rfl) ae)))))),?_⟩
  have Z:40000<=sizeLine:=by decide
  walk_at "rd"
  refine cm (.inl (.inl hp)) ?_
  walk_at "rd"
  have lt:(tx act).length=act.length:=by unfold tx;rw[List.length_map]
  rw[lt]
  refine⟨⟨_,.inl (.inl hp)⟩,?_⟩
  refine lW (xs:=tx act) (λi σ H'=>Chg [l] H H'/\BookAt a.C_Book H' r l (ls++lns ls.length ((sgA act).take i))/\∃v1 v2 v3,σ=[some (.ref r),some (.ref p),some (.int ((act.length:Int) - 1)),v1,v2,v3]) ⟨Chg.refl _,by simpa [lns] using R,none,none,none,rfl⟩ (λi σ H' _ h=>.inl (.inl (h.1.keep _ _ hp (by simpa using hpl)))) ?_ ?_
  ·rintro i x t σ H' hx ht ⟨c,R',v1,v2,v3,rfl⟩
   unfold tx at hx
   rw[List.getElem?_map,Option.map_eq_some_iff] at hx
   obtain⟨b,hbi,rfl⟩:=hx
   have hi:i < act.length:=(List.getElem?_eq_some_iff.mp hbi).1
   have okb:=hb b (List.mem_of_getElem? hbi)
   have sg:=wK act i b hbi
   have c1:Chg [l] H' (upd H' t (.tup [.int (i:Nat),.str (S b)])):=Chg.new ht
   have R1:=R'.same (Same.upd (o:=.tup [.int (i:Nat),.str (S b)]) ht)
   have ht1:upd H' t (.tup [.int (i:Nat),.str (S b)]) t=some (.tup [.int (i:Nat),.str (S b)]):=af
   generalize upd H' t (.tup [.int (i:Nat),.str (S b)])=H1 at c1 R1 ht1 ⊢
   obtain⟨dx,hr1⟩:=R1.obj
   have tl:(ls++lns ls.length ((sgA act).take i)).length=ls.length+i:=by
    rw[List.length_append,kU,List.length_take,fA];omega
   refine⟨t,_,rfl,.inl (.inl ht1),rfl,_,_,rfl,_,_,rfl,rfl,?_⟩
   refine cut1 λRy hRy=>?_
   walk_at "rd"
   by_cases hk:(i:Int)=(act.length:Int) - 1
   ·rw[if_pos hk,hRy]
    clear hRy
    walk_at "rd"
    rw[if_neg (by omega)] at sg
    have R2:=R1.lst
    refine⟨_,dx,_,hr1,T.fW,T.cg,_,rfl,.inl ⟨_,.inl (.inl R2)⟩,_,dx,_,hr1,T.fW,T.cg,_,rfl,cm (.inl (.inl R2)) ?_⟩
    refine⟨[46],s!"d",by have:=okb.2;simp only[List.length_cons,List.length_nil];omega,ls.length+i,?_,?_,λH2 s2=>⟨l,rfl,_,s2 _ _ R2,?_,?_⟩⟩
    ·unfold tx;rw[List.length_map,tl]
    ·refine⟨by omega,λx hx=>?_,by have:=okb.2;simp only[List.length_append,List.length_cons,List.length_nil];omega⟩
     rcases List.mem_append.mp hx with hx | hx
     ·rw[List.mem_singleton.mp hx];decide
     ·exact okb.1 x hx
    ·unfold tx;rw[List.length_map,tl];omega
    ·have hl2:=s2 _ _ R2
     refine⟨c.trans (c1.trans ((Chg.of_same s2).trans (Chg.upd (by simp) (jw hl2)))),⟨⟨dx,(aj R1.ne).trans (s2 _ _ hr1)⟩,?_⟩⟩
     ·rw[af,ot sg,tG,List.length_take,fA,Nat.min_eq_left (by omega)]
      unfold tx
      simp
   ·rw[if_neg hk,hRy]
    clear hRy
    walk_at "rd"
    rw[if_pos (by omega)] at sg
    have R2:=R1.lst
    refine⟨_,dx,_,hr1,T.fW,T.cg,_,rfl,.inl ⟨_,.inl (.inl R2)⟩,_,dx,_,hr1,T.fW,T.cg,_,rfl,cm (.inl (.inl R2)) ?_⟩
    refine⟨[43],s!"d",by have:=okb.2;simp only[List.length_cons,List.length_nil];omega,ls.length+i,?_,?_,λH2 s2=>⟨l,rfl,_,s2 _ _ R2,?_,?_⟩⟩
    ·unfold tx;rw[List.length_map,tl]
    ·refine⟨by omega,λx hx=>?_,by have:=okb.2;simp only[List.length_append,List.length_cons,List.length_nil];omega⟩
     rcases List.mem_append.mp hx with hx | hx
     ·rw[List.mem_singleton.mp hx];decide
     ·exact okb.1 x hx
    ·unfold tx;rw[List.length_map,tl];omega
    ·have hl2:=s2 _ _ R2
     refine⟨c.trans (c1.trans ((Chg.of_same s2).trans (Chg.upd (by simp) (jw hl2)))),⟨⟨dx,(aj R1.ne).trans (s2 _ _ hr1)⟩,?_⟩⟩
     ·rw[af,ot sg,tG,List.length_take,fA,Nat.min_eq_left (by omega)]
      unfold tx
      simp
  ·rintro σ H' ⟨c,R',v1,v2,v3,rfl⟩
   walk_at "rd"
   obtain⟨dx,hr1⟩:=R'.obj
   refine⟨_,dx,_,hr1,T.fW,T.cg,_,rfl,cm (.inl (.inl R'.lst)) ?_⟩
   rw[show(sgA act).take (tx act).length=sgA act by rw[lt,<-fA,List.take_length]] at R' ⊢
   have e:(tx (ls++lns ls.length (sgA act))).length=ls.length+act.length:=by unfold tx;rw[List.length_map,List.length_append,kU,fA]
   rw[e]
   exact q _ c R'
theorem lJ (T:Txt w K mg a):FnOk P w K mg base CX0 1 a.f_Deeds___init__ a.d_Deeds___init__ ["self"] (yo a.C_Deeds 0):=by
 refine T.gN.F.ok k9 (λvs H Q E h=>?_) (λcdv A0 outer s0 H vs Q E hr h=>?_)
 ·obtain⟨x,dx,rfl,_⟩:=h
  rfl
 ·obtain⟨x,dx,rfl,hx,q⟩:=h
  refine⟨_,(ag (bu (pv 0) (aU ae) rfl)
   (ai (bu (pv 0) dU rfl))),?_⟩
  walk_at "rd"
  refine⟨Nat.zero_le _,λdl hdl=>?_⟩
  have ndl:dl≠x:=λz=>by rw[z,hx] at hdl;cases hdl
  refine⟨_,dx,[],(aj (Ne.symm ndl)).trans hx,T.fi,T.jj,by decide,λbz hbz=>?_⟩
  have nbz:bz≠x:=λz=>by rw[z,af] at hbz;cases hbz
  have nbd:bz≠dl:=λz=>by rw[z,aj ndl,af] at hbz;cases hbz
  have hbz0:H bz=none:=by rw[aj nbz,aj nbd] at hbz;exact hbz
  refine⟨_,dx,_,(aj (Ne.symm nbz)).trans af,T.fi,T.j5,(show 1 < 1000 by decide),?_⟩
  have m:x∈[x]:=by simp
  refine q dl bz _ hdl hbz0 ?_ ⟨⟨dx,af⟩,?_,rfl,λi u y h=>(by simp at h),List.nodup_nil,⟨[],?_,Nat.le_refl _,λz=>rfl⟩,by simp⟩
  ·exact(Chg.new hdl).trans ((Chg.upd m (bU ((aj (Ne.symm ndl)).trans hx))).trans ((Chg.new hbz).trans (Chg.upd m (bU ((aj (Ne.symm nbz)).trans af)))))
  ·exact(aj ndl).trans ((aj (Ne.symm nbd)).trans ((aj ndl).trans af))
  ·exact(aj nbz).trans af
theorem gR (T:Txt w K mg a):FnOk P w K mg base CX0 1 a.f_Deeds_open_of a.d_Deeds_open_of ["self","sender"] (yp a.C_Deeds 0):=by
 refine T.b6.F.ok mz (λvs H Q E h=>?_) (λcdv A0 outer s0 H vs Q E hr h=>?_)
 ·obtain⟨r,dl,bz,us,M,s,rfl,_⟩:=h
  rfl
 ·obtain⟨r,dl,bz,us,M,s,rfl,D,q⟩:=h
  refine⟨_,(ai (ar (nX (hU1 hr) (au (K:=K) (pv 0) rfl) (pv 1) ah ⟨rfl,rfl,rfl,rfl⟩))),?_⟩
  obtain⟨dx,hro⟩:=D.obj
  obtain⟨kvs,hb,lb,vb⟩:=D.bsy
  walk_at "rd"
  have gg:=DGet.k (k:=.inr s) hb
  refine⟨_,dx,_,hro,T.fi,T.j5,_,Ca dl bz,bz,rfl,.inl ⟨kvs,.inl hb⟩,_,gg,?_⟩
  rw[vb s]
  cases e:M.B s with
  | none=>rw[e] at q;exact q
  | some n=>rw[e] at q;exact q
theorem v7 (T:Txt w K mg a):FnOk P w K mg base CX0 2 a.f_row_not_beneath a.d_row_not_beneath ["ends","spots"] gJ:=FnOk.never
theorem Fe (T:Txt w K mg a):FnOk P w K mg base CX0 2 a.f_lower a.d_lower ["ends","paper","deed","spots","other"] gJ:=FnOk.never
theorem pR (T:Txt w K mg a):FnOk P w K mg base CX0 3 a.f_lower_once a.d_lower_once ["ends","paper","pairs"] Aw:=by
 refine T.d8.F.ok gs (λvs H Q E h=>?_) (λcdv A0 outer s0 H vs Q E hr h=>?_)
 ·obtain⟨A,B,p,rfl,_⟩:=h
  rfl
 ·obtain⟨A,B,p,rfl,hp,q⟩:=h
  refine⟨_,(ai (bS PassesOwn.never rfl (AB (K:=K) rfl T.fX (pv 2)) (hG (K:=K) (n:=2) rfl (bj (aN (i:=3) gs.nd rfl (Or.inl rfl)) (bj (aN (i:=4) gs.nd rfl (Or.inl rfl)) gS))) bh)),?_⟩
  walk_at "rd"
  refine⟨⟨[],.inl (.inl hp)⟩,vj (xs:=[]) (λi σ H'=>H'=H) rfl (λi σ H' _ z=>by rw[z];exact .inl (.inl hp)) (λi y U σ H' hy _ _=>nomatch hy) λσ H' z=>?_⟩
  subst z
  exact q
theorem wa (T:Txt w K mg a):FnOk P w K mg base CX0 4 a.f_lowered a.d_lowered ["ends","paper","pairs"] (tm K):=by
 refine T.jJ.F.ok ij (λvs H Q E h=>?_) (λcdv A0 outer s0 H vs Q E hr h=>?_)
 ·obtain⟨q0,B,p,e0,rfl,_⟩:=h
  rfl
 ·obtain⟨q0,B,p,e0,rfl,hq,hB,hp,q⟩:=h
  refine⟨_,(ag (av (i:=3) ij.nd rfl (Or.inl rfl) (bD (cR (K:=K)) rfl T.gA boot_list (aa (pv 0) ae)))
   (ag (av (i:=4) ij.nd rfl (Or.inl rfl) (Ct zI ah))
   (ag (zD PassesOwn.never (aM lR (pv 4) (aw (aO (K:=K)) (by rfl) T.cF boot_len (aa (pv 1) ae)) (nomark _)) (ag (av (i:=4) ij.nd rfl (Or.inl rfl) (aw (aO (K:=K)) (by rfl) T.cF boot_len (aa (pv 1) ae)))
   (ai (aH (ak (pR T) (hr.mono (by decide)) rfl T.d8.m T.d8.F.kp T.d8.b .nil pass0 (aa (pv 3) (aa (pv 1) (aa (pv 2) ae))))))))
   (ai (ar (pv 3)))))),?_⟩
  walk_at "rd"
  refine ju (.inl hq) λA hA=>?_
  have sA:Same H (upd H A (.lst (e0.map V.int))):=Same.upd hA
  have aA:upd H A (.lst (e0.map V.int)) A=some (.lst (e0.map V.int)):=af
  generalize upd H A (.lst (e0.map V.int))=H1 at sA aA ⊢
  refine⟨λm σ H'=>∃many:Int,m=(if many < 0 then 1 else 0)/\H'=H1/\σ=[some (V.ref q0),some (V.ref B),some (V.ref p),some (V.ref A),some (V.int many)],⟨_,-1,rfl,rfl,rfl⟩,?_⟩
  rintro m σ H' ⟨many,rfl,rfl,rfl⟩
  have hB1:SqL K H' B []:=.inl (.inl (sA _ _ hB))
  walk_at "rd"
  refine cm hB1 ?_
  rw[DR]
  refine⟨_,rfl,?_⟩
  by_cases hlt:many < ((([]:List V).length:Nat):Int)
  ·rw[if_pos (decide_eq_true hlt)]
   refine⟨λσ' H2=>H2=H'/\σ'=[some (V.ref q0),some (V.ref B),some (V.ref p),some (V.ref A),some (V.int 0)],?_,cm hB1 ?_⟩
   ·rintro σ' H2 ⟨rfl,rfl⟩
    exact⟨0,by rw[if_pos (show many < 0 from hlt)];decide,0,rfl,rfl,rfl⟩
   ·exact⟨sA _ _ hp,rfl,rfl⟩
  ·rw[if_neg (λz=>hlt (of_decide_eq_true z))]
   exact q A H' hA sA aA
theorem zl (T:Txt w K mg a):FnOk P w K mg base CX0 5 a.f_fronts a.d_fronts ["ends","pairs"] (u6 K):=by
 refine T.lD.F.ok yT (λvs H Q E h=>?_) (λcdv A0 outer s0 H vs Q E hr h=>?_)
 ·obtain⟨q0,p,e0,rfl,_⟩:=h
  rfl
 ·obtain⟨q0,p,e0,rfl,hq,hp,q⟩:=h
  refine⟨_,(ai (ar (ak (wa T) (hr.mono (by decide)) rfl T.jJ.m T.jJ.F.kp T.jJ.b .nil pass0 (aa (pv 0) (aa (aU ae) (aa (pv 1) ae)))))),?_⟩
  walk_at "rd"
  refine⟨Nat.zero_le _,λB hB=>⟨e0,(Same.upd hB).seq hq,af,(Same.upd hB) _ _ hp,λA H' hA s hA'=>q A H' (aY (Same.upd hB) hA) ((Same.upd hB).trans s) hA'⟩⟩
theorem jV (T:Txt w K mg a):FnOk P w K mg base CX0 1 a.f_Readers___init__ a.d_Readers___init__ ["self"] (yq a.C_Readers):=by
 refine T.fb.F.ok jR (λvs H Q E h=>?_) (λcdv A outer s H vs Q E hr h=>?_)
 ·obtain⟨x,dx,rfl,_⟩:=h
  rfl
 ·obtain⟨x,dx,rfl,hx,q⟩:=h
  refine⟨_,(ag (bu (pv 0) dU rfl)
   (ai (bu (pv 0) dU rfl))),?_⟩
  walk_at "rd"
  refine λl hl=>?_
  have nl:l≠x:=λz=>by rw[z,hx] at hl;cases hl
  refine⟨_,dx,[],(aj (Ne.symm nl)).trans hx,T.pk,T.ny,by decide,λt ht=>?_⟩
  have nt:t≠x:=λz=>by rw[z,af] at ht;cases ht
  refine⟨_,dx,_,(aj (Ne.symm nt)).trans af,T.pk,T.lH,(show 1 < 1000 by decide),?_⟩
  have ntl:t≠l:=λz=>by rw[aj nt,z,af] at ht;cases ht
  have ht0:H t=none:=by rw[aj nt,aj ntl] at ht;exact ht
  have m:x∈[x]:=by simp
  refine q l t _ hl ht0 ?_ ⟨⟨dx,af⟩,⟨[],?_,Nat.zero_le _,λz=>rfl,λp=>rfl⟩,⟨[],?_,Nat.zero_le _,λz=>rfl⟩,Ne.symm nl,Ne.symm nt,Ne.symm ntl⟩
  ·exact(Chg.new hl).trans ((Chg.upd m (bU ((aj (Ne.symm nl)).trans hx))).trans ((Chg.new ht).trans (Chg.upd m (bU ((aj (Ne.symm nt)).trans af)))))
  ·exact(aj nl).trans ((aj (Ne.symm ntl)).trans ((aj nl).trans af))
  ·exact(aj nt).trans af
local macro_rules | `(tactic| walk_at "rd")=>rdM "tN rE rF tO mv oF yA tP yK AL yI tT tU AM vv vw vx AN yJ vy B1 vc yM rK yL yN yO vB rJ vz yG yL ye uQ"
theorem pS (T:Txt w K mg a):FnOk P w K mg base CX0 1 a.f_owner_text a.d_owner_text ["owner"] gJ:=FnOk.never
theorem rW (T:Txt w K mg a):FnOk P w K mg base CX0 1 a.f_word_text a.d_word_text ["word"] rD:=by
 refine T.fR.F.ok rM (λvs H Q E h=>?_) (λcdv A outer s H vs Q E hr h=>?_)
 ·obtain⟨o,rfl,_⟩:=h
  rfl
 ·obtain⟨o,rfl,hl,q⟩:=h
  refine⟨_,(ai (ar (nQ (nP (uz (pv 0))) aK (ax (ay (K:=K)) aK (pv 0))))),?_⟩
  cases o with
  | none=>
   simp only[wV]
   walk_at "rd"
   rw[show Str.ofString "-"=S [45] by decide +kernel]
   exact q
  | some w0=>
   simp only[wV]
   walk_at "rd"
   exact⟨[61],s!"d",Nat.le_trans (show[61].length+w0.length<=1001 by have:=hl w0 rfl;simp;omega) (by decide),q⟩
theorem wb (T:Txt w K mg a):FnOk P w K mg base CX0 2 a.f_text_of a.d_text_of ["part","value"] vo:=by
 refine T.jG.F.ok vI (λvs H Q E h=>?_) (λcdv A outer s H vs Q E hr h=>?_)
 ·obtain⟨p,v,t,rfl,_⟩:=h
  rfl
 ·obtain⟨p,v,t,rfl,hp,hl,q⟩:=h
  refine⟨_,(ag (aS (aM (uM (K:=K) (hU1 hr)) (pv 0) (qh (K:=K) T.Cs) (by rfl)) (ai (ar (pv 1))) aD)
   (ag (aS (aM (gk (K:=K) (hU hr)) (pv 0) aK (nomark _)) (ai (ar (ak (rW T) (hr.mono (by decide)) rfl T.fR.m T.fR.F.kp T.fR.b .nil pass0 (aa (pv 1) ae)))) aD)
   (ag (aS (aM (gk (K:=K) (hU hr)) (pv 0) aK (nomark _)) (ai (ar (ak (pS T) (hr.mono (by decide)) rfl T.il.m T.il.F.kp T.il.b .nil pass0 (aa (pv 1) ae)))) aD)
   (ai (ar (bD (gG (K:=K)) rfl T.pq boot_str (aa (pv 1) ae))))))),?_⟩
  walk_at "rd"
  intro p1 hp1
  refine Ac (.inr (hp1 H)) rfl rfl ⟨_,rfl,?_⟩
  rw[show inV (V.str p) [V.str (Str.ofString "sender"),V.str (Str.ofString "key"),V.str (Str.ofString "group"),V.str (Str.ofString "shelf"),V.str (Str.ofString "taker"),V.str (Str.ofString "reader")]=decide (p∈textsL) from AG p textsL]
  rcases hp with⟨h1,rfl⟩ | ⟨rfl,o,rfl,rfl⟩ | ⟨h1,h2,h3,n,rfl,h4,rfl⟩
  ·rw[if_pos (decide_eq_true h1)]
   exact q
  ·rw[if_neg (s!"d"),if_pos rfl]
   refine⟨o,rfl,λw0 e=>?_,q⟩
   subst e
   have:(wordT (some w0)).length=w0.length+1:=rfl
   omega
  ·rw[if_neg (by simpa using h1),if_neg h2,if_neg h3]
   exact⟨_,rfl,gH (by omega) (by omega),q⟩
theorem jl (T:Txt w K mg a):FnOk P w K mg base CX0 1 a.f_event_of a.d_event_of ["name","values"] (tL a.p_PARTS_hail a.p_PARTS_put):=by
 refine T.bJ.F.ok fG (λvs H Q E h=>?_) (λcdv A outer s H vs Q E hr h=>?_)
 ·obtain⟨n,p,pa,ps,rfl,_⟩:=h
  rfl
 ·obtain⟨n,p,pa,ps,rfl,hp,hn,ok,q⟩:=h
  refine⟨_,(ag (av (i:=2) fG.nd rfl (Or.inl rfl) (Bt (zS aK (pv 0) Bs) rfl rfl (by simp) (by decide)))
   (ag (bS PassesOwn.never rfl (Cb (K:=K) rfl T.Fd (aa (vk T.w6 (pv 0) (λ_ _=>rfl)) (aa (pv 1) ae))) (hG (K:=K) (n:=2) rfl (bj (aN (i:=3) fG.nd rfl (Or.inl rfl)) (bj (aN (i:=4) fG.nd rfl (Or.inl rfl)) gS))) (ai (gh (pv 4) (gb (pv 2) (pv 3) (dJ (hU1 hr))))))
   (ai (ar (pv 2))))),?_⟩
  walk_at "rd"
  intro D hD
  obtain⟨hm,hT⟩:(n,V.ref pa)∈[(Str.ofString "hail",V.ref a.p_PARTS_hail),(Str.ofString "put",V.ref a.p_PARTS_put)]/\∀H,SqT K H pa ((ps.map (·.1)).map V.str):=by
   generalize hl:ps.map (·.1)=l at hn
   cases hn with
   | hail=>exact⟨by simp,T.j6⟩
   | put=>exact⟨by simp,T.lI⟩
  have nDp:D≠p:=λz=>by rw[z,hp] at hD;cases hD
  generalize hH1:upd (upd H D (.dK [])) D (.dK (mergeK [] [((.inr (Str.ofString "event"):Key),V.str n)]))=H1
  have s1:Same H H1:=by rw[<-hH1];exact(Same.upd hD).wr hD
  have hD1:H1 D=some (.dK [((.inr (Str.ofString "event"):Key),V.str n)]):=by rw[<-hH1];exact af
  refine⟨af,[((.inr (Str.ofString "event"):Key),V.str n)],rfl,(show 1<=15 by decide),(n,.ref pa),hm,rfl,pa,rfl,⟨_,hT _⟩,⟨_,by rw[hH1];exact .inl (.inl (s1 _ _ hp))⟩,?_⟩
  rw[hH1]
  have hlen:=ok.len
  refine yx (xs:=(ps.map (·.1)).map V.str) (ys:=ps.map λx=>x.2.1) (λi σ Hx=>Same H Hx/\Hx D=some (.dK (evK n (ps.take i)))/\∃v3 v4,σ=[some (V.str n),some (V.ref p),some (V.ref D),v3,v4]) (by simp) ⟨s1,hD1,none,none,rfl⟩
   (λi σ Hx _ z=>⟨hT _,.inl (.inl (z.1 _ _ hp))⟩) ?_ ?_
  ·rintro i x y U σ Hx hx hy hU ⟨sx,hDx,v3,v4,rfl⟩
   rw[List.map_map,List.getElem?_map] at hx
   rw[List.getElem?_map] at hy
   cases e:ps[i]? with
   | none=>rw[e] at hx;cases hx
   | some z=>
    rw[e] at hx hy
    cases hx
    cases hy
    refine⟨U,_,rfl,.inl (.inl af),rfl,?_⟩
    walk_at "rd"
    have nUD:D≠U:=λq=>by rw[<-q,hDx] at hU;cases hU
    have hD2:upd Hx U (.tup [V.str z.1,z.2.1]) D=some (.dK (evK n (ps.take i))):=(aj nUD).trans hDx
    have hz:z∈ps:=List.mem_of_getElem? e
    have hi:=(List.getElem?_eq_some_iff.mp e).1
    have hps:ps=ps.take i++z::ps.drop (i+1):=by
     rw[<-(List.getElem?_eq_some_iff.mp e).2,<-List.drop_eq_getElem_cons hi,List.take_append_drop]
    have hnew:(.inr z.1:Key)∉(evK n (ps.take i)).map (·.1):=by
     have nd:=ok.nd
     rw[hps,List.map_append,List.map_cons,List.nodup_cons,List.nodup_append] at nd
     unfold evK
     simp only[List.map_cons,List.map_map,List.mem_cons,List.mem_map,Function.comp,not_or]
     refine⟨λq=>?_,?_⟩
     ·have q2:z.1=Str.ofString "event":=Sum.inr.inj q
      exact nd.1 (by rw[<-q2];simp)
     ·rintro⟨x,hx,q⟩
      have q2:x.1=z.1:=Sum.inr.inj q
      exact nd.2.2.2 x.1 (List.mem_map.mpr ⟨x,hx,rfl⟩) z.1 (by simp) q2
    refine gZ (DPut.k (k:=.inr z.1) hD2 (Nat.lt_of_le_of_lt (show(evK n (ps.take i)).length<=8 by unfold evK;simp;omega) (by decide))) ⟨(sx.trans (Same.upd hU)).wr hD,?_⟩
    rw[yy hnew]
    have e2:ps.take (i+1)=ps.take i++[z]:=by rw[List.take_succ,e];rfl
    refine af.trans ?_
    rw[e2]
    unfold evK
    simp
  ·rintro σ Hx ⟨sx,hDx,v3,v4,rfl⟩
   walk_at "rd"
   rw[List.length_map,List.length_map,List.take_length] at hDx
   exact q D Hx hD sx hDx
theorem uw (T:Txt w K mg a):FnOk P w K mg base CX0 3 a.f_body_for a.d_body_for ["event"] (tM a.p_PARTS_hail a.p_PARTS_put):=by
 refine T.iq.F.ok mW (λvs H Q E h=>?_) (λcdv A outer s H vs Q E hr h=>?_)
 ·obtain⟨n,D,pa,ps,rfl,_⟩:=h
  rfl
 ·obtain⟨n,D,pa,ps,rfl,hD,hn,ok,q⟩:=h
  refine⟨_,(ag (av (i:=1) mW.nd rfl (Or.inl rfl) (aB (aq (K:=K) (hU1 hr)) (pv 0) aK (λ_ _=>rfl)))
   (ai (ar (ak (qI T) (hr.mono (by decide)) rfl T.eS.m T.eS.F.kp T.eS.b .nil pass0 (aa (ax (ay (K:=K)) (aU (aa (pv 1) ae)) (bL ["event","name"] ["event","name"] (defScope ki) (by exact⟨rfl,s!"d",s!"d",s!"d",s!"d",s!"d",s!"d",s!"d",s!"d"⟩) (aW (K:=K) (vk T.w6 (pv 1) (λ_ _=>rfl))) (λC₁ s₁ H₁ f₁=>(ak (wb T) (hr.mono (by decide)) rfl T.jG.m T.jG.F.kp T.jG.b .nil pass0 (aa (pv 0) (aa (aB (aq (K:=K) (hU1 hr)) (pv 1) (pv 0) (λ_ _=>rfl)) ae)))))) ae))))),?_⟩
  obtain⟨hm,hT⟩:(n,V.ref pa)∈[(Str.ofString "hail",V.ref a.p_PARTS_hail),(Str.ofString "put",V.ref a.p_PARTS_put)]/\∀H,SqT K H pa ((ps.map (·.1)).map V.str):=by
   generalize hl:ps.map (·.1)=l at hn
   cases hn with
   | hail=>exact⟨by simp,T.j6⟩
   | put=>exact⟨by simp,T.lI⟩
  walk_at "rd"
  refine cu (DGet.k (k:=.inr (Str.ofString "event")) hD) ?_
  refine⟨by decide,λp hp=>⟨(n,.ref pa),hm,rfl,DT (hT _) ?_⟩⟩
  have nDp:D≠p:=λz=>by rw[<-z,hD] at hp;cases hp
  have hlen:=ok.len
  have hev:∀x∈ps,valV (evK n ps) (.inr x.1)=some x.2.1:=by
   intro x hx
   have nd:=ok.nd
   rw[List.nodup_cons] at nd
   unfold evK
   rw[bM (λq=>nd.1 (by rw[Sum.inr.inj q];exact List.mem_map.mpr ⟨x,hx,rfl⟩))]
   exact oC nd.2 hx
  generalize hl0:upd H p (.lst [((.inr (Str.ofString "event"):Key),V.str n).2])=H0
  have s0:Same H H0:=by rw[<-hl0];exact Same.upd hp
  have hp0:H0 p=some (.lst [V.str n]):=by rw[<-hl0];exact af
  refine vt hT (Nat.le_trans (show((ps.map (·.1)).map V.str).length<=7 by simp;omega) (by decide)) (partF ps) (λx H' hx s' Qe qe=>?_) λD2 H2 hD2 s2 hl2=>?_
  ·rw[List.map_map] at hx
   obtain⟨z,hz,rfl⟩:=List.mem_map.mp hx
   have qe2:∀H'',Same H' H''->Qe (V.str (S z.2.2)) H'':=λH'' s''=>by
    have e:=qe H'' s''
    rw[show partF ps ((V.str∘λx=>x.fst) z)=V.str (S z.2.2) from oE (List.nodup_cons.mp ok.nd).2 hz] at e
    exact e
   show _
   simp only[Function.comp]
   walk_at "rd"
   obtain⟨o1,o2,o3⟩:=ok.part z hz
   have g:=DGet.k (k:=.inr z.1) (s' _ _ (s0 _ _ hD))
   rw[hev z hz] at g
   exact cu g ⟨z.2.2,o1,by omega,qe2 _ (Same.refl _)⟩
  ·rw[yz (List.nodup_cons.mp ok.nd).2] at hl2
   have nn:n.cps.toList.length<=8/\∀c∈n.cps.toList,c < 128:=by
    generalize hl:ps.map (·.1)=l at hn
    cases hn with
    | hail=>decide +kernel
    | put=>decide +kernel
   have hp2:H2 p=some (.lst (tx [n.cps.toList])):=by
    rw[s2 _ _ hp0]
    show _=some (HO.lst [V.str (S n.cps.toList)])
    rw[<-Bv n]
   have hb:=bodyB ok nn.1 nn.2
   refine wB (.inl (.inl hp2)) (.inl (.inl hl2)) (Nat.le_trans (show(tx [n.cps.toList]).length+(tx (ps.map λx=>x.2.2)).length<=8 by unfold tx;simp;omega) (by decide)) λu hu=>?_
   refine⟨u,rfl,n.cps.toList::ps.map λx=>x.2.2,.inl (.inl ?_),?_,λH' s'=>q _ H' (s0.trans (s2.trans ((Same.upd hu).trans s'))) hb⟩
   ·refine af.trans ?_
    unfold tx
    simp
   ·have h2:((n.cps.toList::ps.map λx=>x.2.2).map List.length).sum<=8+7 * 201:=by
     rw[List.map_cons,List.sum_cons]
     have h3:∀l:List Part,(∀x∈l,x.2.2.length<=201)->((l.map λx=>x.2.2).map List.length).sum<=l.length * 201:=by
      intro l
      induction l with
      | nil=>intro _;simp
      | cons x r ih=>
       intro h
       have a:=h x (by simp)
       have b:=ih λy hy=>h y (by simp[hy])
       simp only[List.map_cons,List.sum_cons,List.length_cons] at b ⊢
       omega
     have:=h3 ps λx hx=>(ok.part x hx).2.1
     omega
    simp only[List.length_cons,List.length_map]
    omega
local macro_rules | `(tactic| walk_at "rd")=>rdM "mv oF yA tP yK AL yI tT tU AM vv vw vx AN yJ vy B1 vc yM rK yL yN yO vB rJ vz yG yL ye uQ"
theorem jm (T:Txt w K mg a):FnOk P w K mg base (CXv P w) 3 a.f_check_names a.d_check_names ["names"] tN:=by
 refine T.bK.F.okX oP (λvs H Q E h=>?_) (λcdv A outer s H vs Q E hr h=>?_)
 ·obtain⟨p,ls,rfl,_⟩:=h
  rfl
 ·obtain⟨p,ls,rfl,hp,hl,ho,q⟩:=h
  refine⟨_,(ai (aS (PT.nox (ck (aR (K:=K) (aw (eA (K:=K)) (by rfl) T.qH boot_all (aa (bL ["names"] ["names"] (defScope gp) (by exact⟨rfl,s!"d",s!"d",s!"d",s!"d",s!"d",s!"d",s!"d",s!"d"⟩) (aW (K:=K) (pv 0)) (λC₁ s₁ H₁ f₁=>(ak (pB T) (hr.mono (by decide)) rfl T.dH.m T.dH.F.kp T.dH.b .nil pass0 (aa (pv 0) ae)))) ae)) (by intro _;rfl)))) bh aD)),?_⟩
  walk_at "rd"
  refine cv (.inl (.inl hp)) (ke (xs:=tx ls) (.inl (.inl hp)) (Nat.le_trans (show(tx ls).length<=9 by unfold tx;simpa using hl) (by decide)) (λx=>.bl (formV x 1 12 inN)) (λx H' hx s' Qe qe=>?_) λD H' hD s' hl'=>?_)
  ·obtain⟨l,hm,rfl⟩:=List.mem_map.mp hx
   walk_at "rd"
   exact⟨.str l (ho l hm).2,qe⟩
  ·refine lT (bs:=ls.map λ_=>true) (.inl (.inl ?_)) ⟨true,(show true=_ by rw[List.all_map];simp),?_⟩
   ·rw[hl']
    unfold tx
    rw[List.map_map,List.map_map]
    congr 2
    refine List.map_congr_left λl hm=>?_
    show V.bl (formV (V.str (S l)) 1 12 inN)=V.bl true
    rw[(ho l hm).1]
   ·rw[if_neg (by decide)]
    exact q H' s'
theorem d5 (T:Txt w K mg a):FnOk P w K mg base (CXv P w) 2 a.f_check_wholes a.d_check_wholes ["bounded"] rE:=by
 refine T.aV.F.okX ni (λvs H Q E h=>?_) (λcdv A outer s H vs Q E hr h=>?_)
 ·obtain⟨p,ls,rfl,_⟩:=h
  rfl
 ·obtain⟨p,xs,rfl,hp,hl,ho,q⟩:=h
  refine⟨_,(ai (aS (PT.nox (ck (aR (K:=K) (aw (eA (K:=K)) (by rfl) T.qH boot_all (aa (Ai ["bounded"] ["bounded"] (defScope eK) ["thing","low","high"] (by exact⟨rfl,s!"d",s!"d",s!"d",s!"d",s!"d",s!"d"⟩) (aW (K:=K) (pv 0)) (λC₁ s₁ H₁ f₁=>(hG (K:=K) (n:=3) rfl (bj (aN (i:=0) (show List.Nodup (α:=Str) ["thing","low","high","bounded"] by decide +kernel) rfl (Or.inl rfl) (Or.inr rfl)) (bj (aN (i:=1) (show List.Nodup (α:=Str) ["thing","low","high","bounded"] by decide +kernel) rfl (Or.inl rfl) (Or.inr rfl)) (bj (aN (i:=2) (show List.Nodup (α:=Str) ["thing","low","high","bounded"] by decide +kernel) rfl (Or.inl rfl) (Or.inr rfl)) gS))))) (λC₁ s₁ H₁ f₁=>(ak (m7 T) (hr.mono (by decide)) rfl T.cT.m T.cT.F.kp T.cT.b .nil pass0 (aa (pv 0) (aa (pv 1) (aa (pv 2) ae)))))) ae)) (by intro _;rfl)))) bh aD)),?_⟩
  walk_at "rd"
  obtain⟨ts,hts,htt⟩:=id hp
  refine cv (.inl (.inl hts)) (tJ hp (by rw[List.length_map];omega) (λys hys=>by obtain⟨s,_,rfl⟩:=List.mem_map.mp hys;rfl) (λ_=>true) (λ_=>.bl true) ?_ ?_ ?_ ?_)
  ·rintro t ys H' o R hys s' ht ho' r
   obtain⟨x,hx,rfl⟩:=List.mem_map.mp hys
   obtain⟨o1,o2,o3,rfl⟩:∃o1 o2 o3,o=[o1,o2,o3]:=by
    match o,ho' with
    | [o1,o2,o3],_=>exact⟨o1,o2,o3,rfl⟩
   refine⟨t,_,rfl,.inl (.inl ht),rfl,?_⟩
   walk_at "rd"
   exact⟨_,_,rfl,_,_,rfl,_,_,rfl,rfl,r⟩
  ·intro ys H' hys s' Qt qt
   exact qt H' (Same.refl _)
  ·rintro ys H' hys - s' Qe qe
   obtain⟨x,hx,rfl⟩:=List.mem_map.mp hys
   simp only[w3V,List.map_cons,List.map_nil,List.cons_append,List.nil_append]
   walk_at "rd"
   refine⟨.int _,?_⟩
   have e:wholeV (V.int x.1) x.2.1 x.2.2=true:=by
    show(decide (x.2.1<=x.1) && decide (x.1<=x.2.2))=true
    rw[decide_eq_true (ho x hx).1,decide_eq_true (ho x hx).2]
    rfl
   rw[e]
   exact qe H' (Same.refl _)
  ·intro D H' hD s' hl'
   rw[cX,List.map_map] at hl'
   refine lT (bs:=xs.map λ_=>true) (.inl (.inl ?_)) ⟨true,(show true=_ by rw[List.all_map];simp),?_⟩
   ·rw[hl',List.map_map]
    rfl
   ·rw[if_neg (by decide)]
    exact q H' s'
theorem nG (T:Txt w K mg a):FnOk P w K mg base (CXv P w) 3 a.f_check_letter a.d_check_letter ["key","word"] rF:=by
 refine T.di.F.okX nj (λvs H Q E h=>?_) (λcdv A outer s H vs Q E hr h=>?_)
 ·obtain⟨k,o,rfl,_⟩:=h
  rfl
 ·obtain⟨k,o,rfl,hk,hkl,ho,hol,q⟩:=h
  refine⟨_,(ai (aS (PT.nox (PW.pt (mM (ck (aR (K:=K) (ak (zg T) (hr.mono (by decide)) rfl T.lA.m T.lA.F.kp T.lA.b .nil pass0 (aa (pv 0) ae)) (by intro _;rfl))) (iM (ck (aR (K:=K) (ak (vV T) (hr.mono (by decide)) rfl T.jH.m T.jH.F.kp T.jH.b .nil pass0 (aa (pv 1) ae)) (by intro _;rfl))))))) bh aD)),?_⟩
  walk_at "rd"
  refine⟨.str k hkl,λH1 s1=>?_⟩
  rw[if_neg (by rw[hk];decide)]
  refine⟨?_,λH2 s2=>?_⟩
  ·cases o with
   | none=>exact .non
   | some w0=>exact .str w0 (hol w0 rfl)
  ·rw[if_neg (by rw[ho];decide)]
   exact q H2 (s1.trans s2)
theorem pE (T:Txt w K mg a):FnOk P w K mg base CX0 1 a.f_check_truth a.d_check_truth ["thing"] tO:=by
 refine T.dN.F.ok oQ (λvs H Q E h=>?_) (λcdv A outer s H vs Q E hr h=>?_)
 ·obtain⟨b,rfl,_⟩:=h
  rfl
 ·obtain⟨b,rfl,q⟩:=h
  refine⟨_,(ai (aS (PW.pt (zx (aM wD (pv 0) d6 (nomark _)) (wq (aM wD (pv 0) d6 (nomark _))))) (ai zB) aD)),?_⟩
  walk_at "rd"
  cases b with
  | true=>rw[if_neg (by decide)];exact q
  | false=>rw[if_pos (by decide),if_neg (by decide)];exact q
local macro_rules | `(tactic| walk_at "rd")=>rdM "tP yK AL yI tT tU AM vv vw vx AN yJ vy B1 vc yM rK yL yN yO vB rJ vz yG yL ye uQ"
noncomputable def kk5 (a:Adr):CK:=⟨a.C_Cellar,a.C_State,a.C_Book,a.C_Shelves,a.C_Row,a.C_Senders,a.C_Deeds,a.C_Readers⟩
theorem w8 (T:Txt w K mg a):FnOk P w K mg base CX0 1 a.f_Deeds_numbered a.d_Deeds_numbered ["self","number"] gJ:=FnOk.never
theorem Bh (T:Txt w K mg a):FnOk P w K mg base CX0 2 a.f_Deeds_hold a.d_Deeds_hold ["self","number","row","place"] gJ:=FnOk.never
theorem nH (T:Txt w K mg a):FnOk P w K mg base CX0 3 a.f_hail_happens a.d_hail_happens ["state","event"] (mv (kk5 a)):=by
 refine T.eT.F.ok nh (λvs H Q E h=>?_) (λcdv A outer s H vs Q E hr h=>?_)
 ·obtain⟨A,Z,M,D,n,kk,rfl,_⟩:=h
  rfl
 ·obtain⟨A0,Z,M,D,n,kk,rfl,hS,hD,hsz,hv,q⟩:=h
  refine⟨_,(ai (aH (aF (au (K:=K) (pv 0) rfl) T.aC T.eY.m (nE T) (hr.mono (by decide)) T.eY.b .nil pass0 (aa (aB (aq (K:=K) (hU1 hr)) (pv 1) aK (λ_ _=>rfl)) ae)))),?_⟩
  obtain⟨dx,hst⟩:=hS.sta
  obtain⟨dxs,hsn⟩:=hS.snd.obj
  walk_at "rd"
  refine⟨_,dx,_,hst,T.aL,T.aZ,_,cx A0,_,rfl,dxs,_,hsn,rfl,?_⟩
  refine cu (dg hD (yB n kk)) ⟨_,rfl,_,_,_,_,_,_,rfl,hS.snd,hsz,hv,hS.zo,λu H' c s' _ _=>q H' c ?_⟩
  exact hS.sends c s'
theorem pF (T:Txt w K mg a):FnOk P w K mg base CX0 5 a.f_put_happens a.d_put_happens ["state","event"] (oF (kk5 a)):=by
 refine T.gv.F.ok eJ (λvs H Q E h=>?_) (λcdv A outer s H vs Q E hr h=>?_)
 ·obtain⟨A,Z,M,D,n,kk,i,pl,key,wo,r,d,m,rfl,_⟩:=h
  rfl
 ·obtain⟨A0,Z,M,D,n,kk,i,pl,key,wo,r,d,m,rfl,hS,hD,nDd,nDt,nDp,hr1,hd1,hm,hml,hsz,hL,hkk,q⟩:=h
  refine⟨_,(ag (av (i:=2) eJ.nd rfl (Or.inl rfl) (aB (aq (K:=K) (hU1 hr)) (pv 1) aK (λ_ _=>rfl)))
   (ag (av (i:=3) eJ.nd rfl (Or.inl rfl) (aF (aB (aq (K:=K) (hU1 hr)) (au (K:=K) (pv 0) rfl) (pv 2) (λ_ _=>rfl)) T.cJ T.y6 (vW T) (hr.mono (by decide)) T.y9 .nil pass0 (aa (aB (aq (K:=K) (hU1 hr)) (pv 1) aK (λ_ _=>rfl)) (aa (aB (aq (K:=K) (hU1 hr)) (pv 1) aK (λ_ _=>rfl)) (aa (aB (aq (K:=K) (hU1 hr)) (pv 1) aK (λ_ _=>rfl)) ae)))))
   (ag (aH (aF (au (K:=K) (pv 0) rfl) T.aC T.eZ.m (nC T) (hr.mono (by decide)) T.eZ.b .nil passv0 (aa (aB (aq (K:=K) (hU1 hr)) (pv 1) aK (λ_ _=>rfl)) (aa (aB (aq (K:=K) (hU1 hr)) (pv 1) aK (λ_ _=>rfl)) (aa (pv 2) (aa (pv 3) ae))))))
   (ai (aS (aM (dB (K:=K) (hU hr)) (aB (aq (K:=K) (hU1 hr)) (pv 1) aK (λ_ _=>rfl)) ah (nomark _)) bh aD))))),?_⟩
  obtain⟨dx,hst⟩:=hS.sta
  walk_at "c2"
  have hrr:SqL K H A0.rl (A0.rs.map V.ref):=.inl (.inl hS.rowl)
  have R:=hS.row i r d m hr1 hd1 hm
  obtain⟨dxr,hro⟩:=R.obj
  refine cu (dg hD (Eb n kk 0 i pl key wo)) ⟨_,dx,_,hst,T.aL,T.cP,_,kY A0,?_⟩
  refine bw (v:=.ref r) hrr (bZ (by omega) (by rw[Int.toNat_natCast,List.getElem?_map,hr1];rfl)) ⟨r,rfl,dxr,_,hro,Ah m d,?_⟩
  refine cu (dg hD (Ec n kk 0 i pl key wo)) (cu (dg hD (Cc n kk 0 i pl key wo)) (cu (dg hD (wM n kk 0 i pl key wo)) ?_))
  refine⟨r,rfl,d,m,(key,wo,0),rfl,rfl,rfl,R,by omega,λH1 c1 R1=>?_⟩
  walk_at "nx"
  have S1:=hS.rowd hr1 hd1 c1 R1
  obtain⟨dx1,hst1⟩:=S1.sta
  obtain⟨dxs,hsn⟩:=S1.snd.obj
  have mr:=List.mem_of_getElem? hr1
  have md:=List.mem_of_getElem? hd1
  have nD:D≠r/\D≠d:=⟨(λz=>by rw[z,hro] at hD;cases hD),nDd⟩
  have hD1:H1 D=some (.dK (evK "put" (putP n kk 0 i pl key wo))):=c1.keep _ _ hD (n2 nD)
  refine⟨_,dx1,_,hst1,T.aL,T.aZ,_,cx A0,_,rfl,dxs,_,hsn,rfl,?_⟩
  refine cu (dg hD1 (yC n kk 0 i pl key wo)) (cu (dg hD1 (yD n kk 0 i pl key wo)) ?_)
  refine⟨_,rfl,_,_,_,_,_,_,rfl,_,rfl,S1.snd,hL,hkk,hsz,S1.zo,λH2 c2 s2=>?_⟩
  walk_at "ls"
  have hD2:H2 D=some (.dK (evK "put" (putP n kk 0 i pl key wo))):=c2.keep _ _ hD1 (by
   obtain⟨k2,e2,_,v2⟩:=S1.snd.las
   obtain⟨k3,e3,_⟩:=S1.snd.spo
   simp only[List.mem_cons,List.not_mem_nil,or_false,not_or]
   exact⟨nDt,nDp⟩)
  refine cu (dg hD2 (wM n kk 0 i pl key wo)) ?_
  walk_at "rd"
  refine q H2 ((c1.mono (by simp)).trans (c2.mono (by simp))) ?_
  exact S1.sends (c2.mono (by simp)) s2
theorem zm (T:Txt w K mg a):FnOk P w K mg base CX0 6 a.f_happen a.d_happen ["state","event"] (yA (kk5 a)):=by
 refine T.lz.F.ok qu (λvs H Q E h=>?_) (λcdv A outer s H vs Q E hr h=>?_)
 ·obtain⟨st,D,rfl,_⟩:=h
  rfl
 ·obtain⟨st,D,rfl,h⟩:=h
  refine⟨_,(ag (av (i:=2) qu.nd rfl (Or.inl rfl) (vk T.rS (aB (aq (K:=K) (hU1 hr)) (pv 1) aK (λ_ _=>rfl)) (λ_ _=>rfl)))
   (ai (aH (AD (.cons (nH T) (hr.mono (by decide)) T.eT.F.kp T.eT.b pass0 (.cons (pF T) (hr.mono (by decide)) T.gv.F.kp T.gv.b pass0 .nil)) (pv 2) (aa (pv 0) (aa (pv 1) ae)))))),?_⟩
  walk_at "rd"
  rcases h with⟨h,ps,hD⟩ | ⟨h,ps,hD⟩
  ·exact cu (dg hD (show valV (evK "hail" ps) (.inr (Str.ofString "event"))=some (.str (Str.ofString "hail")) from rfl)) ⟨(Str.ofString "hail",V.ref a.f_hail_happens),by simp,rfl,_,rfl,mv (kk5 a),by simp,h⟩
  ·exact cu (dg hD (show valV (evK "put" ps) (.inr (Str.ofString "event"))=some (.str (Str.ofString "put")) from rfl)) ⟨(Str.ofString "put",V.ref a.f_put_happens),by simp,rfl,_,rfl,oF (kk5 a),by simp,h⟩
local macro_rules | `(tactic| walk_at "rd")=>rdM "AL yI tT tU AM vv vw vx AN yJ vy B1 vc yM rK yL yN yO vB rJ vz yG yL ye uQ"
theorem ux (T:Txt w K mg a):FnOk P w K mg base CX0 4 a.f_hail_act a.d_hail_act ["state","sender"] (tP (kk5 a)):=by
 refine T.iu.F.ok fH (λvs H Q E h=>?_) (λcdv A outer s H vs Q E hr h=>?_)
 ·obtain⟨A,Z,M,n,kk,rfl,_⟩:=h
  rfl
 ·obtain⟨A0,Z,M,n,kk,rfl,hS,hn,hkk,hk9,q⟩:=h
  refine⟨_,(ag (aH (ak (jm T) (hr.mono (by decide)) rfl T.bK.m T.bK.F.kp T.bK.b .nil passv0 (aa (aU (aa (pv 1) ae)) ae)))
   (ag (av (i:=2) fH.nd rfl (Or.inl rfl) (aU ae))
   (ag (av (i:=3) fH.nd rfl (Or.inl rfl) (aF (au (K:=K) (pv 0) rfl) T.fi T.b6.m (gR T) (hr.mono (by decide)) T.b6.b .nil pass0 (aa (pv 1) ae)))
   (ag (aS (aM (dB (K:=K) (hU hr)) (pv 3) ah (nomark _)) (ai (aH (cn (K:=K) PySem.F.plainAttrs_list PySem.F.slot_list_append PySem.F.type_list_append b9 (pv 2) (aa (ak (jl T) (hr.mono (by decide)) rfl T.bJ.m T.bJ.F.kp T.bJ.b .nil pass0 (aa aK (aa (aU (aa (pv 3) ae)) ae))) ae)))) aD)
   (ag (av (i:=4) fH.nd rfl (Or.inl rfl) (ax (ay (K:=K)) (aF (au (K:=K) (pv 0) rfl) T.aC T.bH.m (fq T) (hr.mono (by decide)) T.bH.b .nil pass0 (aa (pv 1) ae)) ah))
   (ag (aH (cn (K:=K) PySem.F.plainAttrs_list PySem.F.slot_list_append PySem.F.type_list_append b9 (pv 2) (aa (ak (jl T) (hr.mono (by decide)) rfl T.bJ.m T.bJ.F.kp T.bJ.b .nil pass0 (aa aK (aa (aU (aa (pv 1) (aa (pv 4) ae))) ae))) ae)))
   (ai (ar (bC (aa (pv 2) (aa (bC (aa (pv 4) (aa (aF (au (K:=K) (pv 0) rfl) T.aC T.dq.m (kz T) (hr.mono (by decide)) T.dq.b .nil pass0 (aa (pv 1) ae)) ae))) ae))))))))))),?_⟩
  refine cut1 λRz hRz=>?_
  walk_at "rd"
  refine⟨by decide,λp0 hp0=>⟨[n],af,(show 1<=9 by decide),λl hl=>by rw[List.mem_singleton.mp hl];exact⟨hn,by have:=hn.len;omega⟩,λH1 s1=>?_⟩⟩
  rw[hRz]
  clear hRz
  refine cut1 λRz hRz=>?_
  walk_at "rd"
  refine⟨Nat.zero_le _,λev hev=>?_⟩
  have s01:Same H H1:=(Same.upd hp0).trans s1
  generalize hH2:upd H1 ev (.lst [])=H2
  have s02:Same H H2:=by rw[<-hH2];exact s01.trans (Same.upd hev)
  have hev2:H2 ev=some (.lst []):=by rw[<-hH2];exact af
  have hev0:H ev=none:=aY s01 hev
  have S2:=hS.same s02
  obtain⟨dx,hst⟩:=S2.sta
  obtain⟨dxd,hde⟩:=S2.dee.obj
  obtain⟨dxs,hsn⟩:=S2.snd.obj
  rw[hRz]
  clear hRz
  refine cut1 λRz hRz=>?_
  walk_at "rd"
  refine⟨_,dx,_,hst,T.aL,T.fj,_,qm A0,_,rfl,dxd,_,hde,rfl,_,rfl,_,_,_,_,S2.dee,?_⟩
  rw[hRz]
  clear hRz
  refine cut1 λRz hRz=>?_
  walk_at "rd"
  rw[if_neg (by show ¬¬(0:Int)=0;simp)]
  rw[hRz]
  clear hRz
  refine cut1 λRz hRz=>?_
  walk_at "rd"
  refine⟨_,dx,_,hst,T.aL,T.aZ,_,cx A0,_,rfl,dxs,_,hsn,rfl,_,rfl,_,_,_,_,_,S2.snd,?_⟩
  rw[<-hkk]
  rw[hRz]
  clear hRz
  refine cut1 λRz hRz=>?_
  walk_at "rd"
  refine⟨.inl ⟨_,.inl (.inl hev2)⟩,by decide,λp hp=>⟨_,hailP n kk,af,EvN.hail,qo hn hk9,λD H3 hD s3 eD=>?_⟩⟩
  have nep:ev≠p:=λz=>by rw[z,hp] at hev2;cases hev2
  have s23:Same H2 H3:=(Same.upd hp).trans s3
  have hev3:H3 ev=some (.lst []):=s23 _ _ hev2
  have hD2:H2 D=none:=aY (Same.upd hp) hD
  have nD:D≠ev:=λz=>by rw[z,hev2] at hD2;cases hD2
  refine⟨_,hev3,by show 0 < _;decide,?_⟩
  rw[List.nil_append]
  generalize hH4:upd H3 ev (.lst [.ref D])=H4
  have s04:Same H H4:=by rw[<-hH4];exact Same.wr (s02.trans s23) hev0
  have hev4:H4 ev=some (.lst [.ref D]):=by rw[<-hH4];exact af
  have hD4:H4 D=some (.dK (evK "hail" (hailP n kk))):=by rw[<-hH4,aj nD];exact eD
  have S4:=hS.same s04
  obtain⟨dx4,hst4⟩:=S4.sta
  obtain⟨dxs4,hsn4⟩:=S4.snd.obj
  rw[hRz]
  clear hRz
  walk_at "rd"
  refine⟨_,dx4,_,hst4,T.aL,T.aZ,_,cx A0,_,rfl,dxs4,_,hsn4,rfl,_,rfl,_,_,_,_,_,S4.snd,by decide,λu hu=>⟨by decide,λt ht=>?_⟩⟩
  have s5:=Same.upd (o:=.tup [.int (kk:Int),.int (if (M.S.L (S n)).isSome=true then M.S.T (S n) else 0)]) hu
  refine q t ev u D _ (s04.trans (s5.trans (Same.upd ht))) hev0 (aY s02 hD2) af ?_ ?_ ?_
  ·exact Same.upd ht _ _ (s5 _ _ hev4)
  ·exact Same.upd ht _ _ (s5 _ _ hD4)
  ·exact Same.upd ht _ _ af
theorem wc (T:Txt w K mg a):FnOk P w K mg base (CXv P w) 5 a.f_put_act a.d_put_act ["state","sender","life","number","shelf","letter","deed"] (yK (kk5 a) a.C_NoSuch):=by
 refine T.jI.F.okX ig (λvs H Q E h=>?_) (λcdv A outer s H vs Q E hr h=>?_)
 ·obtain⟨A,Z,M,n,shf,key,wo,num,lt,rfl,_⟩:=h
  rfl
 ·obtain⟨A0,Z,M,n,shf,key,wo,num,lt,rfl,hlt,hS,⟨hnm,hsh,hky,hwd,hwl,hnu⟩,hq⟩:=h
  refine⟨_,(ag (aH (ak (jm T) (hr.mono (by decide)) rfl T.bK.m T.bK.F.kp T.bK.b .nil passX (aa (aU (aa (pv 1) (aa (pv 4) ae))) ae)))
   (ag (aH (ak (d5 T) (hr.mono (by decide)) rfl T.aV.m T.aV.F.kp T.aV.b .nil passX (aa (aU (aa (bC (aa (pv 2) (aa ah (aa (bG T.fm) ae)))) (aa (bC (aa (pv 3) (aa ah (aa (bG T.fm) ae)))) (aa (bC (aa (pv 6) (aa ah (aa (bG T.fm) ae)))) ae)))) ae)))
   (ag (aH (ak (nG T) (hr.mono (by decide)) rfl T.di.m T.di.F.kp T.di.b .nil passX (aa (aB (aq (K:=K) (hU1 hr)) (pv 5) ah (λ_ _=>rfl)) (aa (aB (aq (K:=K) (hU1 hr)) (pv 5) ah (λ_ _=>rfl)) ae))))
   (ag (aH (aF (au (K:=K) (pv 0) rfl) T.aC T.a8.m (cQ T) (hr.mono (by decide)) T.a8.b .nil passX (aa (pv 1) ae)))
   (ag (av (i:=7) ig.nd rfl (Or.inl rfl) (aF (au (K:=K) (pv 0) rfl) T.bx T.dm.m (kC T) (hr.mono (by decide)) T.dm.b .nil passX (aa (pv 4) (aa (aB (aq (K:=K) (hU1 hr)) (pv 5) ah (λ_ _=>rfl)) ae))))
   (ag (aH (aF (au (K:=K) (pv 0) rfl) T.aC T.d4.m (mI T) (hr.mono (by decide)) T.d4.b .nil passX (aa (pv 1) (aa (pv 2) ae))))
   (ag (av (i:=8) ig.nd rfl (Or.inl rfl) (aF (au (K:=K) (pv 0) rfl) T.aC T.dn.m (kA T) (hr.mono (by decide)) T.dn.b .nil passX (aa (pv 1) (aa (pv 3) ae))))
   (ag (PS.nox (aS (nP (wm (pv 8))) bh aD))
   (ag (aS (PT.nox (PW.pt (zx (aM (dB (K:=K) (hU hr)) (pv 6) ah (nomark _)) (wq (aM (dB (K:=K) (hU hr)) (pv 6) (aF (au (K:=K) (pv 0) rfl) T.fi T.b6.m (gR T) (hr.mono (by decide)) T.b6.b .nil pass0 (aa (pv 1) ae)) (nomark _)))))) bh aD)
   (ag (PS.nox (av (i:=9) ig.nd rfl (Or.inl rfl) (au (K:=K) (aB (aq (K:=K) (hU1 hr)) (au (K:=K) (pv 0) rfl) (pv 7) (λ_ _=>rfl)) rfl)))
   (ai (PS.nox (ar (bC (aa (aU (aa (ak (jl T) (hr.mono (by decide)) rfl T.bJ.m T.bJ.F.kp T.bJ.b .nil pass0 (aa aK (aa (aU (aa (pv 1) (aa (pv 3) (aa (pv 6) (aa (pv 7) (aa (pv 9) (aa (aB (aq (K:=K) (hU1 hr)) (pv 5) ah (λ_ _=>rfl)) (aa (aB (aq (K:=K) (hU1 hr)) (pv 5) ah (λ_ _=>rfl)) ae)))))))) ae))) ae)) (aa (bC (aa (pv 7) (aa (pv 9) ae))) ae)))))))))))))))),?_⟩
  refine cut1 λRz hRz=>?_
  walk_at "rd"
  refine⟨by decide,λp0 hp0=>⟨[n,shf],af,(show 2<=9 by decide),λl hl=>?_,λH1 s1=>?_⟩⟩
  ·simp only[List.mem_cons,List.not_mem_nil,or_false] at hl
   rcases hl with rfl | rfl
   ·exact⟨hnm,by have:=hnm.len;omega⟩
   ·exact⟨hsh,by have:=hsh.len;omega⟩
  have s01:Same H H1:=(Same.upd hp0).trans s1
  rw[hRz]
  clear hRz
  refine cut1 λRz hRz=>?_
  walk_at "rd"
  refine⟨by decide,λp1 hp1=>⟨by decide,λp2 hp2=>⟨by decide,λp3 hp3=>⟨by decide,λp4 hp4=>?_⟩⟩⟩⟩
  have t1:=Same.upd (o:=.tup [.int 1,.int 1,.int 1000000000]) hp1
  have t2:=Same.upd (o:=.tup [.int (num:Int),.int 1,.int 1000000000]) hp2
  have t3:=Same.upd (o:=.tup [.int 0,.int 0,.int 1000000000]) hp3
  have t4:=Same.upd (o:=.lst [.ref p1,.ref p2,.ref p3]) hp4
  refine⟨[((1:Int),1,1000000000),((num:Int),1,1000000000),((0:Int),0,1000000000)],⟨[p1,p2,p3],af,?_⟩,(show 3<=9 by decide),λy hy=>?_,λH2 s2=>?_⟩
  ·exact .cons (t4 _ _ (t3 _ _ (t2 _ _ af))) (.cons (t4 _ _ (t3 _ _ af)) (.cons (t4 _ _ af) .nil))
  ·simp only[List.mem_cons,List.not_mem_nil,or_false] at hy
   rcases hy with rfl | rfl | rfl
   ·decide
   ·exact⟨by show(1:Int)<=num;omega,by show(num:Int)<=1000000000;omega⟩
   ·decide
  have s02:Same H H2:=s01.trans (t1.trans (t2.trans (t3.trans (t4.trans s2))))
  rw[hRz]
  clear hRz
  refine cut1 λRz hRz=>?_
  walk_at "rd"
  have l2:SqT K H2 lt [.str (S key),wV wo]:=.inl (.inl (s02 _ _ hlt))
  refine aQ l2 rfl (aQ l2 rfl ⟨_,rfl,wo,rfl,hky,by have:=hky.len;omega,hwd,λw hw=>by have:=hwl w hw;omega,λH3 s3=>?_⟩)
  have s03:=s02.trans s3
  have S3:=hS.same s03
  obtain⟨dx3,hst3⟩:=S3.sta
  obtain⟨dxs3,hsn3⟩:=S3.snd.obj
  obtain⟨dxh3,hsh3⟩:=S3.shv.obj
  have l3:SqT K H3 lt [.str (S key),wV wo]:=.inl (.inl (s03 _ _ hlt))
  rw[hRz]
  clear hRz
  refine cut1 λRz hRz=>?_
  walk_at "rd"
  refine⟨_,dx3,_,hst3,T.aL,T.aZ,_,cx A0,_,rfl,dxs3,_,hsn3,rfl,_,rfl,_,_,_,_,_,S3.snd,?_⟩
  rcases hq with⟨hL,hB⟩ | hq
  ·exact .inr ⟨hL,(hB.back s03).bears⟩
  have hL0:(M.S.L (S n)).isSome=true:=by
   rcases hq with⟨h,_⟩ | ⟨h,_⟩
   ·exact h
   ·rw[h];rfl
  refine .inl ⟨hL0,?_⟩
  rw[hRz]
  clear hRz
  refine cut1 λRz hRz=>?_
  walk_at "rd"
  refine⟨_,dx3,_,hst3,T.aL,T.bP,_,iZ A0,_,rfl,dxh3,_,hsh3,rfl,aQ l3 rfl ⟨_,rfl,_,_,_,rfl,S3.shv,S3.okx,?_⟩⟩
  rcases hq with⟨hL,hno,hB⟩ | ⟨hL,hnum,j,x,i,pl,m,hpos,hxn,hi,hm,hpl,hpl9,hQ⟩
  ·exact .inr ⟨hno,hB.back s03⟩
  refine .inl ⟨j,x,hpos,hxn,λH4 s4=>?_⟩
  have s04:=s03.trans s4
  have S4:=hS.same s04
  obtain⟨dx4,hst4⟩:=S4.sta
  obtain⟨dxs4,hsn4⟩:=S4.snd.obj
  rw[hRz]
  clear hRz
  refine cut1 λRz hRz=>?_
  walk_at "rd"
  refine⟨_,dx4,_,hst4,T.aL,T.aZ,_,cx A0,_,rfl,dxs4,_,hsn4,rfl,_,rfl,_,_,_,_,_,S4.snd,.inr ⟨hL,?_⟩⟩
  rw[hRz]
  clear hRz
  refine cut1 λRz hRz=>?_
  walk_at "rd"
  refine⟨_,dx4,_,hst4,T.aL,T.aZ,_,cx A0,_,rfl,dxs4,_,hsn4,rfl,_,rfl,_,_,_,_,_,S4.snd,by rw[hL];rfl,hnum,?_⟩
  rw[hRz]
  clear hRz
  refine cut3 λRz hRz=>?_
  walk_at "rd"
  have hi':rowNo M.xs j x key=i:=by omega
  rw[hi']
  have hil:i < A0.rs.length:=by rw[<-hS.lenm];exact(List.getElem?_eq_some_iff.mp hm).1
  have hr1:A0.rs[i]?=some A0.rs[i]:=by simp
  have hd1:A0.ds[i]?=some (A0.ds[i]'(by rw[hS.lend];exact hil)):=by simp
  generalize A0.rs[i]=r at hr1
  generalize A0.ds[i]'(by rw[hS.lend];exact hil)=d at hd1
  have R:=S4.row i r d m hr1 hd1 hm
  obtain⟨dxr,hro⟩:=R.obj
  have hrr:SqL K H4 A0.rl (A0.rs.map V.ref):=.inl (.inl S4.rowl)
  have l4:SqT K H4 lt [.str (S key),wV wo]:=.inl (.inl (s04 _ _ hlt))
  refine⟨_,dx4,_,hst4,T.aL,T.cP,_,kY A0,?_⟩
  refine bw (v:=.ref r) hrr (bZ (by omega) (by rw[Int.toNat_natCast,List.getElem?_map,hr1];rfl)) ⟨r,rfl,_,dxr,_,hro,T.cJ,T.dI,?_⟩
  refine⟨_,rfl,?_⟩
  rw[hRz]
  clear hRz
  walk_at "rd"
  refine aQ l4 rfl (aQ l4 rfl ?_)
  rw[hpl]
  refine⟨by decide,λp hp=>⟨_,putP n num 0 i pl key wo,af,EvN.put,tS hnm (by omega) (by decide) (by have:=hS.okx.hi;have:=kZ hS;omega) (by omega) hky hwd hwl,λD H5 hD s5 eD=>⟨by decide,λev hev=>⟨by decide,λu hu=>⟨by decide,λt ht=>?_⟩⟩⟩⟩⟩
  have s45:Same H4 H5:=(Same.upd hp).trans s5
  have s05:=s04.trans s45
  have s6:=Same.upd (o:=.lst [.ref D]) hev
  have s7:=Same.upd (o:=.tup [.int (i:Int),.int (pl:Int)]) hu
  have s8:=Same.upd (o:=.tup [.ref ev,.ref u]) ht
  exact hQ t ev u D _ (s05.trans (s6.trans (s7.trans s8))) (aY s05 hev) (aY s04 (aY (Same.upd hp) hD)) af (s8 _ _ (s7 _ _ af)) (s8 _ _ (s7 _ _ (s6 _ _ eD))) (s8 _ _ af)
local macro_rules | `(tactic| walk_at "rd")=>rdM "vv vw vx AN yJ vy B1 vc yM rK yL yN yO vB rJ vz yG yL ye uQ"
theorem pG (T:Txt w K mg a):FnOk P w K mg base (CXv P w) 5 a.f_check_there a.d_check_there ["state","row"] (AL (kk5 a) a.C_NoSuch):=by
 refine T.dO.F.okX oR (λvs H Q E h=>?_) (λcdv A outer s H vs Q E hr h=>?_)
 ·obtain⟨A,Z,M,r,rfl,_⟩:=h
  rfl
 ·obtain⟨A0,Z,M,r,rfl,hS,hq⟩:=h
  refine⟨_,(ai (aH (aF (au (K:=K) (pv 0) rfl) T.bx T.cU.m (jU T) (hr.mono (by decide)) T.cU.b .nil passX (aa (pv 1) ae)))),?_⟩
  walk_at "rd"
  obtain⟨dx,hst⟩:=hS.sta
  obtain⟨dxh,hsh⟩:=hS.shv.obj
  refine⟨_,dx,_,hst,T.aL,T.bP,_,iZ A0,_,rfl,dxh,_,hsh,rfl,_,rfl,_,_,hS.shv,hS.okx,?_⟩
  rw[hS.len] at hq
  rcases hq with⟨hr1,q⟩ | ⟨hr1,hB⟩
  ·obtain⟨kx,x,hx,h1,h2⟩:=oH _ (Nat.le_refl _) hr1
   exact .inl ⟨kx,⟨x,hx⟩,by omega,by omega,q⟩
  ·exact .inr ⟨.inr (by omega),hB⟩
theorem lK (T:Txt w K mg a):FnOk P w K mg base (CXv P w) 6 a.f_asked_row a.d_asked_row ["state","row"] (yI (kk5 a) a.C_NoSuch):=by
 refine T.cy.F.okX rN (λvs H Q E h=>?_) (λcdv A outer s H vs Q E hr h=>?_)
 ·obtain⟨A,Z,M,r,rfl,_⟩:=h
  rfl
 ·obtain⟨A0,Z,M,r,rfl,hS,hq⟩:=h
  refine⟨_,(ag (aH (ak (d5 T) (hr.mono (by decide)) rfl T.aV.m T.aV.F.kp T.aV.b .nil passX (aa (aU (aa (bC (aa (pv 1) (aa ah (aa (bG T.fm) ae)))) ae)) ae)))
   (ai (aH (ak (pG T) (hr.mono (by decide)) rfl T.dO.m T.dO.F.kp T.dO.b .nil passX (aa (pv 0) (aa (pv 1) ae)))))),?_⟩
  walk_at "rd"
  have l1:=kZ hS
  have l2:=hS.okx.hi
  refine⟨by decide,λp1 hp1=>⟨by decide,λp2 hp2=>⟨[((r:Int),0,1000000000)],⟨[p1],af,.cons (Same.upd hp2 _ _ af) .nil⟩,(show 1<=9 by decide),λy hy=>?_,λH1 s1=>?_⟩⟩⟩
  ·rw[List.mem_singleton.mp hy]
   exact⟨by show(0:Int)<=r;omega,by show(r:Int)<=1000000000;rcases hq with h | h<;>omega⟩
  ·have s01:Same H H1:=(Same.upd hp1).trans ((Same.upd hp2).trans s1)
   refine⟨A0,rfl,Z,M,r,rfl,hS.same s01,?_⟩
   rcases hq with⟨h1,q⟩ | ⟨h1,_,hB⟩
   ·exact .inl ⟨h1,q _ s01⟩
   ·exact .inr ⟨h1,hB.back s01⟩
theorem pH (T:Txt w K mg a):FnOk P w K mg base CX0 1 a.f_Deeds_pairs a.d_Deeds_pairs ["self"] (tT a.C_Deeds):=by
 refine T.gw.F.ok oU (λvs H Q E h=>?_) (λcdv A outer s H vs Q E hr h=>?_)
 ·obtain⟨r,dl,bz,rfl,_⟩:=h
  rfl
 ·obtain⟨r,dl,bz,rfl,D,q⟩:=h
  refine⟨_,(ai (ar (bL ["self"] ["self"] (defScope gq) (by exact⟨rfl,s!"d",s!"d",s!"d",s!"d",s!"d",s!"d",s!"d",s!"d"⟩) (aW (K:=K) (au (K:=K) (pv 0) rfl)) (λC₁ s₁ H₁ f₁=>(bC (aa (au (K:=K) (pv 0) rfl) (aa (bD (cR (K:=K)) rfl T.gA boot_list (aa (au (K:=K) (pv 0) rfl) ae)) ae))))))),?_⟩
  walk_at "rd"
  obtain⟨dx,hde⟩:=D.obj
  refine⟨_,dx,_,hde,T.fi,T.jj,_,rfl,cv (xs:=[]) (.inl (.inl D.lst)) ?_⟩
  exact ke (xs:=[]) (.inl (.inl D.lst)) (Nat.zero_le _) (λv=>v) (λx H' hx=>nomatch hx) (λp H' hp s e=>q p H' hp s e)
theorem fY (T:Txt w K mg a):FnOk P w K mg base CX0 6 a.f_State_front_at a.d_State_front_at ["self","row"] (tU (kk5 a)):=by
 refine T.bN.F.ok ll (λvs H Q E h=>?_) (λcdv A outer s H vs Q E hr h=>?_)
 ·obtain⟨A,Z,M,r,m,rfl,_⟩:=h
  rfl
 ·obtain⟨A0,Z,M,r,m,rfl,hS,hm,q⟩:=h
  refine⟨_,(ai (ar (aB (aq (K:=K) (hU1 hr)) (ak (zl T) (hr.mono (by decide)) rfl T.lD.m T.lD.F.kp T.lD.b .nil pass0 (aa (bL ["self","row"] ["self","row"] (defScope dE) (by exact⟨rfl,s!"d",s!"d",s!"d",s!"d",s!"d",s!"d",s!"d",s!"d"⟩) (aW (K:=K) (au (K:=K) (pv 0) rfl)) (λC₁ s₁ H₁ f₁=>(au (K:=K) (pv 0) rfl))) (aa (nV (au (K:=K) (pv 0) rfl) T.fi T.gw.m (pH T) (hr.mono (by decide)) T.gw.b .nil pass0) ae))) (pv 1) (λ_ _=>rfl)))),?_⟩
  walk_at "rd"
  obtain⟨dx,hst⟩:=hS.sta
  obtain⟨dxd,hde⟩:=hS.dee.obj
  have hrr:SqL K H A0.rl (A0.rs.map V.ref):=.inl (.inl hS.rowl)
  have l1:=kZ hS
  have l2:=hS.okx.hi
  refine⟨_,dx,_,hst,T.aL,T.cP,_,kY A0,cv hrr ?_⟩
  refine iU (xs:=A0.rs.map V.ref) (by rw[List.length_map];unfold sizeLine;omega) (λD i ys H'=>H D=none/\Same H H'/\H' D=some (.lst ys)/\ys=(M.Ms.take i).map λm=>V.int m.last) (λD hD=>⟨hD,Same.upd hD,af,rfl⟩) (λD i ys H' hi ⟨_,s,e,hy⟩=>⟨e,by rw[hy,List.length_map,List.length_take];omega,s.seq hrr⟩) (λD i ys H' v hD hv ⟨_,s,e,hy⟩ Qe qe=>?_) (λD ys H' hD ⟨_,s,e,hy⟩=>?_)
  ·rw[List.getElem?_map] at hv
   obtain⟨r1,hr1,rfl⟩:=Option.map_eq_some_iff.mp hv
   have hil:i < A0.rs.length:=(List.getElem?_eq_some_iff.mp hr1).1
   have hm1:M.Ms[i]?=some (M.Ms[i]'(by rw[hS.lenm];exact hil)):=by simp
   have hd1:A0.ds[i]?=some (A0.ds[i]'(by rw[hS.lend];exact hil)):=by simp
   obtain⟨dxr,hro⟩:=(hS.row i r1 _ _ hr1 hd1 hm1).obj
   walk_at "rd"
   refine⟨_,dxr,_,s _ _ hro,T.cJ,T.dI,_,rfl,?_⟩
   refine qe _ _ e ⟨hD,Same.wr s hD,af,?_⟩
   rw[hy,List.take_add_one,hm1,List.map_append]
   rfl
  ·rw[List.length_map,<-hS.lenm,List.take_length] at hy
   have S1:=hS.same s
   obtain⟨dx1,hst1⟩:=S1.sta
   obtain⟨dxd1,hde1⟩:=S1.dee.obj
   refine⟨_,dx1,_,hst1,T.aL,T.fj,_,qm A0,_,rfl,dxd1,_,hde1,rfl,_,rfl,⟨_,_,S1.dee⟩,λp H2 hp s2 e2=>⟨D,rfl,M.Ms.map (·.last),.inl (.inl (by rw[s2 _ _ e,hy,List.map_map];rfl)),e2,λB H3 hB s3 hB3=>?_⟩⟩
   refine bw (v:=.int m.last) (.inl (.inl hB3)) (bZ (by omega) (by rw[Int.toNat_natCast,List.map_map,List.getElem?_map,hm];rfl)) ?_
   exact q _ (s.trans (s2.trans s3))
theorem rX (T:Txt w K mg a):FnOk P w K mg base (CXv P w) 7 a.f_read_from a.d_read_from ["state","row","start","most","whole"] (AM (kk5 a) a.C_NoSuch):=by
 refine T.fS.F.okX k7 (λvs H Q E h=>?_) (λcdv A outer s H vs Q E hr h=>?_)
 ·obtain⟨A,Z,M,r,start,most,rfl,_⟩:=h
  rfl
 ·obtain⟨A0,Z,M,r,start,most,rfl,hS,hs9,hm1,hm2,hq⟩:=h
  refine⟨_,(ag (aH (ak (d5 T) (hr.mono (by decide)) rfl T.aV.m T.aV.F.kp T.aV.b .nil passX (aa (aU (aa (bC (aa (pv 2) (aa ah (aa (bG T.fm) ae)))) (aa (bC (aa (pv 3) (aa ah (aa (bG T.pw) ae)))) ae))) ae)))
   (ag (PS.nox (aH (ak (pE T) (hr.mono (by decide)) rfl T.dN.m T.dN.F.kp T.dN.b .nil pass0 (aa (pv 4) ae))))
   (ag (aH (ak (lK T) (hr.mono (by decide)) rfl T.cy.m T.cy.F.kp T.cy.b .nil passX (aa (pv 0) (aa (pv 1) ae))))
   (ag (PS.nox (av (i:=5) k7.nd rfl (Or.inl rfl) (aB (aq (K:=K) (hU1 hr)) (au (K:=K) (pv 0) rfl) (pv 1) (λ_ _=>rfl))))
   (ag (aS (PT.nox (aM lR (pv 2) (au (K:=K) (pv 5) rfl) (nomark _))) bh aD)
   (ai (PS.nox (ar (aF (pv 5) T.cJ T.kr.m (uu T) (hr.mono (by decide)) T.kr.b .nil pass0 (aa (pv 2) (aa (nQ (aR (K:=K) (pv 4) (by intro _;rfl)) (aF (pv 0) T.aL T.bN.m (fY T) (hr.mono (by decide)) T.bN.b .nil pass0 (aa (pv 1) ae)) (au (K:=K) (pv 5) rfl)) (aa (pv 3) ae)))))))))))),?_⟩
  walk_at "c2"
  refine⟨by decide,λp1 hp1=>⟨by decide,λp2 hp2=>⟨by decide,λp3 hp3=>⟨[((start:Int),0,1000000000),((most:Int),1,1000)],⟨[p1,p2],af,?_⟩,(show 2<=9 by decide),λy hy=>?_,λH1 s1=>?_⟩⟩⟩⟩
  ·exact .cons (Same.upd hp3 _ _ (Same.upd hp2 _ _ af)) (.cons (Same.upd hp3 _ _ af) .nil)
  ·simp only[List.mem_cons,List.not_mem_nil,or_false] at hy
   rcases hy with rfl | rfl
   ·exact⟨by show(0:Int)<=start;omega,by show(start:Int)<=1000000000;omega⟩
   ·exact⟨by show(1:Int)<=most;omega,by show(most:Int)<=1000;omega⟩
  have s01:Same H H1:=(Same.upd hp1).trans ((Same.upd hp2).trans ((Same.upd hp3).trans s1))
  walk_at "nx"
  refine⟨A0,rfl,Z,M,r,rfl,hS.same s01,?_⟩
  rcases hq with⟨m,hm,hl,hf,q⟩ | ⟨h1,h2,hB⟩
  ·have hil:r < A0.rs.length:=by rw[<-hS.lenm];exact(List.getElem?_eq_some_iff.mp hm).1
   refine .inl ⟨hil,λH2 s2=>?_⟩
   walk_at "nx"
   have s02:=s01.trans s2
   have S2:=hS.same s02
   obtain⟨dx,hst⟩:=S2.sta
   have hr1:A0.rs[r]?=some A0.rs[r]:=by simp
   have hd1:A0.ds[r]?=some (A0.ds[r]'(by rw[hS.lend];exact hil)):=by simp
   generalize A0.rs[r]=rr at hr1
   generalize A0.ds[r]'(by rw[hS.lend];exact hil)=d at hd1
   have R:=S2.row r rr d m hr1 hd1 hm
   obtain⟨dxr,hro⟩:=R.obj
   have hrr:SqL K H2 A0.rl (A0.rs.map V.ref):=.inl (.inl S2.rowl)
   refine⟨_,dx,_,hst,T.aL,T.cP,_,kY A0,?_⟩
   refine bw (v:=.ref rr) hrr (bZ (by omega) (by rw[Int.toNat_natCast,List.getElem?_map,hr1];rfl)) ?_
   walk_at "ls"
   refine⟨_,dxr,_,hro,T.cJ,T.iy,_,rfl,?_⟩
   walk_at "rd"
   rw[if_neg (by omega)]
   refine⟨dxr,_,hro,rfl,dx,_,hst,rfl,A0,rfl,Z,M,r,rfl,S2,m,hm,λH3 s3=>⟨d,m,R.same s3,hl,by omega,by omega,by have:=R.f0;have:=R.fl;omega,by omega,λD H4 hD s4 hL=>?_⟩⟩
   exact q D H4 (aY (s02.trans s3) hD) (s02.trans (s3.trans s4)) hL
  ·exact .inr ⟨h1,h2,hB.back s01⟩
local macro_rules | `(tactic| walk_at "rd")=>rdM "vx AN yJ vy B1 vc yM rK yL yN yO vB rJ vz yG yL ye uQ"
theorem jW (T:Txt w K mg a):FnOk P w K mg base CX0 3 a.f_body_for_shelves a.d_body_for_shelves ["shelves"] vv:=by
 refine T.bX.F.ok bo (λvs H Q E h=>?_) (λcdv A outer s H vs Q E hr h=>?_)
 ·obtain⟨p,xs,rfl,_⟩:=h
  rfl
 ·obtain⟨p,xs,rfl,hL,ok,h3,q⟩:=h
  refine⟨_,(ag (av (i:=1) bo.nd rfl (Or.inl rfl) (aU (aa aK ae)))
   (ag (bS PassesOwn.never rfl (aW (K:=K) (pv 0)) (hG (K:=K) (n:=3) rfl (bj (aN (i:=2) bo.nd rfl (Or.inl rfl)) (bj (aN (i:=3) bo.nd rfl (Or.inl rfl)) (bj (aN (i:=4) bo.nd rfl (Or.inl rfl)) gS)))) (ai (aH (cn (K:=K) PySem.F.plainAttrs_list PySem.F.slot_list_extend PySem.F.type_list_extend xq (pv 1) (aa (aU (aa (pv 2) (aa (bD (gG (K:=K)) rfl T.pq boot_str (aa (pv 3) ae)) (aa (pv 4) ae)))) ae)))))
   (ai (ar (ak (qI T) (hr.mono (by decide)) rfl T.eS.m T.eS.F.kp T.eS.b .nil pass0 (aa (pv 1) ae)))))),?_⟩
  walk_at "rd"
  obtain⟨ts,e,hT⟩:=hL
  have hlen:ts.length=xs.length:=by rw[hT.length,List.length_map]
  refine⟨by decide,λu hu=>?_⟩
  have s1:=Same.upd (o:=.lst [.str (Str.ofString "shelves")]) hu
  refine cv (xs:=ts.map V.ref) (.inl (.inl (s1 _ _ e))) (dA (xs:=ts.map V.ref) (λi σ H'=>Same H H'/\H' u=some (.lst (tx (shTx xs i)))/\∃v2 v3 v4,σ=[some (V.ref p),some (V.ref u),v2,v3,v4]) ⟨s1,af.trans (by rfl),_,_,_,rfl⟩ (λi σ H' _ h=>.inl (.inl (h.1 _ _ e))) ?_ ?_)
  ·rintro i y σ H' hy ⟨s',eu,v2,v3,v4,rfl⟩
   rw[List.getElem?_map] at hy
   obtain⟨t,hti,rfl⟩:=Option.map_eq_some_iff.mp hy
   obtain⟨ys,h1,h2⟩:=hT.get hti
   rw[List.getElem?_map] at h1
   obtain⟨y,hxi,rfl⟩:=Option.map_eq_some_iff.mp h1
   have hTt:SqT K H' t y.v:=.inl (.inl (s' _ _ h2))
   have h9:=(ok.each y (List.mem_of_getElem? hxi)).2.1
   have hl3:=oI (xs:=xs) i
   walk_at "rd"
   refine⟨_,hTt,rfl,_,_,rfl,_,_,rfl,_,_,rfl,rfl,.inl ⟨_,.inl (.inl eu)⟩,_,rfl,gH (by omega) (by omega),by decide,λw hw=>?_⟩
   have s2:=Same.upd (o:=.lst [.str (S y.name),.str (S (strI (y.rows:Int))),.str y.kind]) hw
   have hu0:H u=none:=hu
   refine⟨u,w,_,_,rfl,rfl,s2 _ _ eu,af,Nat.le_trans (show(tx (shTx xs i)).length+3<=20 by unfold tx;rw[List.length_map];omega) (by decide),⟨Same.wr (s'.trans s2) hu0,?_⟩⟩
   rw[yE hxi]
   exact af
  ·rintro σ H' ⟨s',eu,v2,v3,v4,rfl⟩
   rw[List.length_map,hlen] at eu
   have hl3:=oI (xs:=xs) xs.length
   have hl4:=tV (λa ha=>(rH ok xs.length a ha).1)
   walk_at "rd"
   exact⟨_,.inl (.inl eu),by omega,λH2 s2=>q _ _ (s'.trans s2) (bodySh ok h3 _)⟩
theorem lL (T:Txt w K mg a):FnOk P w K mg base CX0 7 a.f_State___init__ a.d_State___init__ ["self","shelves"] (vw (kk5 a)):=by
 refine T.gO.F.ok lj (λvs H Q E h=>?_) (λcdv A outer s H vs Q E hr h=>?_)
 ·obtain⟨x,dx,p,xs,rfl,_⟩:=h
  rfl
 ·obtain⟨x,dx,p,xs,rfl,hx,hL,ok,q⟩:=h
  refine⟨_,(ag (bu (pv 0) (qP T.yY (jT T) (hr.mono (by decide)) rfl T.vR T.eV.b .nil passv0 (aa (pv 1) ae)) rfl)
   (ag (bu (pv 0) (bL ["self","shelves"] ["self","shelves"] (defScope dD) (by exact⟨rfl,s!"d",s!"d",s!"d",s!"d",s!"d",s!"d",s!"d",s!"d"⟩) (dz rfl T.dR (aa (nV (au (K:=K) (pv 0) rfl) T.bx T.cI.m (jk T) (hr.mono (by decide)) T.cI.b .nil pass0) ae)) (λC₁ s₁ H₁ f₁=>(iO T.E4 (nB T) (hr.mono (by decide)) rfl T.Ef T.jg.b .nil pass0))) rfl)
   (ag (bu (pv 0) (iO T.yZ (jS T) (hr.mono (by decide)) rfl T.vS T.eX.b .nil pass0) rfl)
   (ag (bu (pv 0) (iO T.Cm (lJ T) (hr.mono (by decide)) rfl T.AV T.gN.b .nil pass0) rfl)
   (ag (bu (pv 0) dU rfl)
   (ag (bu (pv 0) (iO T.yX (jV T) (hr.mono (by decide)) rfl T.vQ T.fb.b .nil pass0) rfl)
   (ai (bu (pv 0) ah rfl)))))))),?_⟩
  walk_at "c1"
  refine λsh dxh hsh0 hdxh ndx=>⟨⟨dxh,af⟩,.inl ⟨xs,hL.same ((Same.upd hdxh).trans (Same.upd (by rw[aj (Ne.symm ndx)];exact hsh0))),ok,λshl H1 hshl c1 R1=>?_⟩⟩
  have s1:Same H H1:=cY hsh0 hdxh c1
  obtain⟨hshl0,nshl,_⟩:=br hshl
  obtain⟨dxh1,eo1⟩:=R1.obj
  obtain⟨_,el1,_⟩:=R1.lst
  have f1:Fr H H1 [sh,shl]:=(Fr.nil (H:=H)).adds [sh,shl] (Liv.refl _) (by simp;exact λz=>nshl z.symm) (λb hb=>by
   simp only[List.mem_cons,List.not_mem_nil,or_false] at hb
   rcases hb with rfl | rfl
   ·exact hsh0
   ·exact hshl0) s1.liv (λb hb=>by
   simp only[List.mem_cons,List.not_mem_nil,or_false] at hb
   rcases hb with rfl | rfl
   ·exact⟨_,eo1⟩
   ·exact⟨_,el1⟩)
  have nx:∀{b:Addr},H b=none->b∉[x]:=λhb z=>by rw[List.mem_singleton.mp z,hx] at hb;cases hb
  have hx1:=s1 _ _ hx
  refine⟨_,dx,_,hx1,T.aL,T.bP,by decide,?_⟩
  generalize hH2:upd H1 x _=H2
  walk_at "nx"
  have c2:Chg [x] H1 H2:=by rw[<-hH2];exact Chg.upd (by simp) (λxs z=>by rw[hx1] at z;cases z)
  have hx2:H2 x=some (.ins a.C_State dx [("shelves",.ref sh)]):=by rw[<-hH2];exact af
  have l2:Liv H1 H2:=by rw[<-hH2];exact Liv.wr
  have f2:=f1.liv l2
  have L2:=s1.liv.trans l2
  have R2:=R1.chg c2 (nx hsh0) (nx hshl0)
  obtain⟨dxh2,eo2⟩:=R2.obj
  refine⟨_,dx,_,hx2,T.aL,T.bP,_,rfl,_,rfl,dxh2,_,eo2,rfl,_,rfl,_,_,R2,by have:=ok.hi;omega,λH3 s3=>?_⟩
  have h9:=ia (λy hy=>(ok.each y hy).2.1.2) xs.length
  have h6:=ok.hi
  refine⟨by omega,by omega,?_⟩
  rw[Int.toNat_natCast]
  refine kR (Nat.le_trans (show startOf xs xs.length<=54 by omega) (by decide)) (λD i ys H'=>∃rs ds,RowsMade a.C_Row H3 H' D ys i rs ds) (λD hD=>⟨[],[],RowsMade.zero hD⟩) (λD i ys H' _ ⟨rs,ds,h⟩=>⟨h.lst,by rw[h.eq,List.length_map,h.lr];exact Nat.le_refl _⟩) (λD i ys H' hD hi ⟨rs,ds,h⟩ Qe qe=>?_) (λD ys H4 hD ⟨rs,ds,h⟩=>?_)
  ·walk_at "rd"
   refine λr dxr hr0 hdr ndr=>⟨⟨dxr,af⟩,λd H5 hd nd c5 R5=>?_⟩
   obtain⟨hd0,_,_⟩:=br hd
   obtain⟨e5,h5⟩:=h.succ (cY hr0 hdr c5) hr0 hd0 nd R5
   exact qe _ _ e5 ⟨_,_,h5⟩
  have s4:=s3.trans h.same
  have hx4:=s4 _ _ hx2
  have L4:=L2.trans s4.liv
  have f4:=(f2.liv s3.liv).adds (D::(rs++ds)) (L2.trans s3.liv) h.fr.nd h.fr.no h.same.liv h.fr.yes
  have d0:∀b∈D::(rs++ds),H b=none:=λb hb=>f4.no b (List.mem_append_left _ hb)
  refine⟨_,dx,_,hx4,T.aL,T.cP,(show 1 < 1000 by decide),?_⟩
  generalize hH5:upd H4 x _=H5
  walk_at "nx"
  obtain⟨c5,hx5,l5⟩:=setx hx4 hH5
  have L5:=L4.trans l5
  have f5:=f4.liv l5
  refine λsn dxs hsn hdxs ndxs=>⟨⟨dxs,af⟩,λl t p' H6 hl ht hp6 c6 R6=>?_⟩
  have s6:Same H5 H6:=cY hsn hdxs c6
  have f6:=f5.four L5 s6.liv (by simp;exact⟨⟨R6.rl,R6.rt,R6.rp⟩,⟨R6.lt,R6.lp⟩,R6.tp⟩) hsn (br hl).1 (br ht).1 (br hp6).1 (R6.obj.elim λ_ e=>⟨_,e⟩) (R6.liv.elim λ_ e=>⟨_,e.1⟩) (R6.las.elim λ_ e=>⟨_,e.1⟩) (R6.spo.elim λ_ e=>⟨_,e.1⟩)
  have L6:=L5.trans s6.liv
  have hx6:=s6 _ _ hx5
  refine⟨_,dx,_,hx6,T.aL,T.aZ,(show 2 < 1000 by decide),?_⟩
  generalize hH7:upd H6 x _=H7
  walk_at "nx"
  obtain⟨c7,hx7,l7⟩:=setx hx6 hH7
  have L7:=L6.trans l7
  have f7:=f6.liv l7
  refine λde dxd hde hdxd ndxd=>⟨⟨dxd,af⟩,λdl bz H8 hdl hbz c8 R8=>?_⟩
  have s8:Same H7 H8:=cY hde hdxd c8
  have f8:=f7.three L7 s8.liv (Ne.symm (br hdl).2.1) (Ne.symm (br hbz).2.1) (λz=>by
   obtain⟨_,e,_⟩:=R8.bsy
   rw[<-z,R8.lst] at e;cases e) hde (br hdl).1 (br hbz).1 (R8.obj.elim λ_ e=>⟨_,e⟩) ⟨_,R8.lst⟩ (R8.bsy.elim λ_ e=>⟨_,e.1⟩)
  have L8:=L7.trans s8.liv
  have hx8:=s8 _ _ hx7
  refine⟨_,dx,_,hx8,T.aL,T.fj,(show 3 < 1000 by decide),?_⟩
  generalize hH9:upd H8 x _=H9
  walk_at "nx"
  obtain⟨c9,hx9,l9⟩:=setx hx8 hH9
  have L9:=L8.trans l9
  have f9:=f8.liv l9
  refine λgr hgr=>?_
  have s10:Same H9 (upd H9 gr (.dK [])):=Same.upd hgr
  have f10:=f9.add L9 hgr s10.liv ⟨_,af⟩
  have e10:upd H9 gr (.dK []) gr=some (.dK []):=af
  generalize upd H9 gr (.dK [])=H10 at s10 f10 e10 ⊢
  have L10:=L9.trans s10.liv
  have hx10:=s10 _ _ hx9
  refine⟨_,dx,_,hx10,T.aL,T.nz,(show 4 < 1000 by decide),?_⟩
  generalize hH11:upd H10 x _=H11
  walk_at "nx"
  obtain⟨c11,hx11,l11⟩:=setx hx10 hH11
  have L11:=L10.trans l11
  have f11:=f10.liv l11
  refine λrd dxe hrd hdxe ndxe=>⟨⟨dxe,af⟩,λra rb H12 hra hrb c12 R12=>?_⟩
  have s12:Same H11 H12:=cY hrd hdxe c12
  have f12:=f11.three L11 s12.liv R12.ra R12.rb R12.ab hrd (br hra).1 (br hrb).1 (R12.obj.elim λ_ e=>⟨_,e⟩) (R12.row.elim λ_ e=>⟨_,e.1⟩) (R12.pla.elim λ_ e=>⟨_,e.1⟩)
  have L12:=L11.trans s12.liv
  have hx12:=s12 _ _ hx11
  refine⟨_,dx,_,hx12,T.aL,T.mG,(show 5 < 1000 by decide),?_⟩
  generalize hH13:upd H12 x _=H13
  walk_at "ls"
  obtain⟨c13,hx13,l13⟩:=setx hx12 hH13
  have L13:=L12.trans l13
  have f13:=f12.liv l13
  refine⟨_,dx,_,hx13,T.aL,T.pQ,(show 6 < 1000 by decide),?_⟩
  generalize hH14:upd H13 x _=H14
  obtain⟨c14,hx14,l14⟩:=setx hx13 hH14
  have L14:=L13.trans l14
  have f14:=f13.liv l14
  have g12:Chg [x] H12 H14:=c13.trans c14
  have g8:Chg [x] H8 H14:=c9.trans ((Chg.of_same s10).trans (c11.trans ((Chg.of_same s12).trans g12)))
  have g6:Chg [x] H6 H14:=c7.trans ((Chg.of_same s8).trans g8)
  have g4:Chg [x] H4 H14:=c5.trans ((Chg.of_same s6).trans g6)
  have g2:Chg [x] H2 H14:=(Chg.of_same s4).trans g4
  have no:∀b∈[rd,ra,rb]++(gr::([de,dl,bz]++([sn,l,t,p']++((D::(rs++ds))++[sh,shl])))),b∉[x]:=λb hb=>nx (f14.no b hb)
  refine q { c:=0,st:=x,bk:=0,bl:=0,sh:=sh,shl:=shl,rl:=D,sn:=sn,l:=l,t:=t,p:=p',de:=de,dl:=dl,bz:=bz,gr:=gr,rd:=rd,ra:=ra,rb:=rb,rs:=rs,ds:=ds } H14 rfl ((Chg.of_same s1).trans (c2.trans g2)) (f14.perm (AI ({ c:=0,st:=x,bk:=0,bl:=0,sh:=sh,shl:=shl,rl:=D,sn:=sn,l:=l,t:=t,p:=p',de:=de,dl:=dl,bz:=bz,gr:=gr,rd:=rd,ra:=ra,rb:=rb,rs:=rs,ds:=ds }:CA))) ?_
  refine⟨⟨dx,hx14⟩,R2.chg g2 (nx hsh0) (nx hshl0),ok,?_,λi r d h1 h2=>?_,h.lr,h.ld.trans h.lr.symm,?_,?_,?_,?_⟩
  ·exact g4.keep _ _ (by rw[h.lst,h.eq]) (no _ (mi 11 rfl))
  ·have m1:=List.mem_of_getElem? h1
   have m2:=List.mem_of_getElem? h2
   exact(h.row i r d h1 h2).chg g4 (nx (d0 _ (List.mem_cons_of_mem _ (List.mem_append_left _ m1)))) (nx (d0 _ (List.mem_cons_of_mem _ (List.mem_append_right _ m2))))
  ·exact R6.chg g6 (no _ (mi 7 rfl)) (no _ (mi 8 rfl)) (no _ (mi 9 rfl)) (no _ (mi 10 rfl)) (λb hb=>.inr λxs z=>by rw[List.mem_singleton.mp hb,hx6] at z;cases z)
  ·exact R8.chg g8 (no _ (mi 4 rfl)) (no _ (mi 5 rfl)) (no _ (mi 6 rfl)) (λ_ hu=>nomatch hu)
  ·exact R12.chg g12 (no _ (mi 0 rfl)) (no _ (mi 1 rfl)) (no _ (mi 2 rfl))
  ·exact(c11.trans ((Chg.of_same s12).trans g12)).keep _ _ e10 (no _ (mi 3 rfl))
local macro_rules | `(tactic| walk_at "rd")=>rdM "tM mv oF yA tP yK AM B1 vc yM rK yL yN yO vB rJ vz yG yL ye uQ"
theorem kD (T:Txt w K mg a):FnOk P w K mg base CX0 9 a.f_Cellar___init__ a.d_Cellar___init__ ["self","shelves"] (vy (kk5 a)):=by
 refine T.fU.F.ok kn (λvs H Q E h=>?_) (λcdv A outer s H vs Q E hr h=>?_)
 ·obtain⟨x,dx,p,xs,rfl,_⟩:=h
  rfl
 ·obtain⟨x,dx,p,xs,rfl,hx,hL,ok,h3,q⟩:=h
  refine⟨_,(ag (bu (pv 0) (qP T.Cn (lL T) (hr.mono (by decide)) rfl T.AW T.gO.b .nil pass0 (aa (pv 1) ae)) rfl)
   (ag (bu (pv 0) (iO T.Eh (mJ T) (hr.mono (by decide)) rfl T.Cj T.iH.b .nil pass0) rfl)
   (ai (aH (aF (au (K:=K) (pv 0) rfl) T.fW T.dj.m (j7 T) (hr.mono (by decide)) T.dj.b .nil pass0 (aa (aU (aa (ak (jW T) (hr.mono (by decide)) rfl T.bX.m T.bX.F.kp T.bX.b .nil pass0 (aa (nV (au (K:=K) (au (K:=K) (pv 0) rfl) rfl) T.bx T.eW.m (nF T) (hr.mono (by decide)) T.eW.b .nil pass0) ae)) ae)) ae)))))),?_⟩
  walk_at "c1"
  refine λst dxs hst hdxs nds=>⟨⟨dxs,af⟩,xs,hL.same ((Same.upd hdxs).trans (Same.upd (by rw[aj (Ne.symm nds)];exact hst))),ok,λA1 H1 hA c1 f1 S1=>?_⟩
  have s1:Same H H1:=cY hst hdxs c1
  have lU:Liv H (upd (upd H dxs (.own st)) st (.ins a.C_State dxs [])):=Liv.wr.trans Liv.wr
  have eU:upd (upd H dxs (.own st)) st (.ins a.C_State dxs []) st=some (.ins a.C_State dxs []):=af
  generalize upd (upd H dxs (.own st)) st (.ins a.C_State dxs [])=U at c1 f1 lU eU
  obtain⟨dx1,hs1⟩:=S1.sta
  rw[hA] at hs1
  have F1:L2.Fr H H1 (A1.new++[st]):=((Fr.nil (H:=H)).add (Liv.refl _) hst lU ⟨_,eU⟩).adds A1.new lU f1.nd f1.no (c1.liv1 hs1) f1.yes
  have nx:∀{b:Addr},H b=none->b∉[x]:=λhb z=>by rw[List.mem_singleton.mp z,hx] at hb;cases hb
  have hx1:=s1 _ _ hx
  refine⟨_,dx,_,hx1,T.aG,T.ba,by decide,?_⟩
  generalize hH2:upd H1 x _=H2
  walk_at "nx"
  obtain⟨c2,hx2,l2⟩:=setx hx1 hH2
  have L2:=s1.liv.trans l2
  have F2:=F1.liv l2
  refine λbk dxb hbk hdxb ndb=>⟨⟨dxb,af⟩,λbl H3 hbl nbl c3 B3=>?_⟩
  have s3:Same H2 H3:=cY hbk hdxb c3
  have F3:=F2.two L2 s3.liv (Ne.symm nbl) hbk (br hbl).1 (B3.obj.elim λ_ e=>⟨_,e⟩) ⟨_,B3.lst⟩
  have L3:=L2.trans s3.liv
  have hx3:=s3 _ _ hx2
  refine⟨_,dx,_,hx3,T.aG,T.fh,(show 1 < 1000 by decide),?_⟩
  generalize hH4:upd H3 x _=H4
  walk_at "ls"
  obtain⟨c4,hx4,l4⟩:=setx hx3 hH4
  have L4:=L3.trans l4
  have F4:=F3.liv l4
  have no:∀b∈[bk,bl]++(A1.new++[st]),b∉[x]:=λb hb=>nx (F4.no b hb)
  have B4:BookAt a.C_Book H4 bk bl []:=by
   obtain⟨dx3,e⟩:=B3.obj
   exact⟨⟨dx3,c4.keep _ _ e (no _ (by simp))⟩,c4.keep _ _ B3.lst (no _ (by simp))⟩
  have g1:Chg [x] H1 H4:=c2.trans ((Chg.of_same s3).trans c4)
  have mn:∀b∈A1.new,b∉[x]:=λb hb=>no b (by simp[hb])
  have m14:∀{b:Addr},b∈[A1.sh,A1.shl,A1.rl,A1.sn,A1.l,A1.t,A1.p,A1.de,A1.dl,A1.bz,A1.gr,A1.rd,A1.ra,A1.rb]->b∉[x]:=λhb=>mn _ (List.mem_append_left _ hb)
  have ss:H4 st=some (.ins a.C_State dx1 (stF A1)):=g1.keep _ _ hs1 (no _ (by simp))
  have sh4:=S1.shv.chg g1 (m14 (mi 0 rfl)) (m14 (mi 1 rfl))
  let A2:CA:={ A1 with c:=x,bk:=bk,bl:=bl }
  have C4:CeAt (kk5 a) H4 A2 [bl,A1.rl,A1.shl,A1.dl] ⟨xs,List.replicate (startOf xs xs.length) row0,send0,[]⟩:=by
   refine⟨⟨dx,?_⟩,B4,⟨dx1,?_⟩,sh4,ok,?_,?_,S1.len,S1.lend,?_,?_,?_,?_,?_,?_,?_,?_⟩
   ·rw[hx4]
    show some (HO.ins a.C_Cellar dx [("state",.ref st),("book",.ref bk)])=some (HO.ins a.C_Cellar dx [("state",.ref A1.st),("book",.ref bk)])
    rw[hA]
   ·show H4 A1.st=_
    rw[hA]
    exact ss
   ·exact g1.keep _ _ S1.rowl (m14 (mi 2 rfl))
   ·intro i r d m h1 h2 h3
    have:=List.mem_of_getElem? h3
    rw[List.eq_of_mem_replicate this]
    exact(S1.row i r d h1 h2).chg g1 (mn _ (List.mem_append_right _ (List.mem_append_left _ (List.mem_of_getElem? h1)))) (mn _ (List.mem_append_right _ (List.mem_append_right _ (List.mem_of_getElem? h2))))
   ·show(List.replicate (startOf xs xs.length) row0).length=A1.rs.length
    rw[List.length_replicate,S1.len]
   ·have z:=S1.snd.chg g1 (m14 (mi 3 rfl)) (m14 (mi 4 rfl)) (m14 (mi 5 rfl)) (m14 (mi 6 rfl)) (λb hb=>.inr λxs z=>by rw[List.mem_singleton.mp hb,hx1] at z;cases z)
    exact⟨z.obj,z.liv,z.las,by
     obtain⟨kv,e1,e2,_⟩:=z.spo
     exact⟨kv,e1,e2,λz hz=>by cases hz⟩,z.len,z.rl,z.rt,z.rp,z.lt,z.lp,z.tp⟩
   ·exact S1.dee.chg g1 (m14 (mi 7 rfl)) (m14 (mi 8 rfl)) (m14 (mi 9 rfl)) (λ_ hu=>nomatch hu)
   ·exact S1.rdr.chg g1 (m14 (mi 11 rfl)) (m14 (mi 12 rfl)) (m14 (mi 13 rfl))
   ·exact g1.keep _ _ S1.grp (m14 (mi 10 rfl))
   ·exact⟨by simp[A2],by simp[A2],by simp[A2],by simp[A2]⟩
   ·intro b hb
    refine F4.yes b ?_
    simp only[List.mem_cons,List.not_mem_nil,or_false] at hb
    unfold CA.new
    rcases hb with rfl | rfl | rfl | rfl<;>simp
   ·have p1:(x::([bk,bl]++(A1.new++[st]))).Perm A2.fix:=by
     rw[<-hA]
     exact tW A1 x bk bl
    refine p1.nodup_iff.mp (List.nodup_cons.mpr ⟨λz=>no x z (by simp),F4.nd⟩)
  obtain⟨dxb4,hb4⟩:=B4.obj
  obtain⟨dxh4,hh4⟩:=sh4.obj
  refine⟨_,dx,_,hx4,T.aG,T.fh,_,rfl,bk,rfl,dxb4,_,hb4,rfl,_,dx,_,hx4,T.aG,T.ba,_,rfl,st,rfl,_,dx1,_,ss,T.aL,T.bP,_,iZ A1,_,rfl,dxh4,_,hh4,rfl,_,rfl,_,_,sh4,λD H5 hD s5 hL5=>⟨xs,hL5,ok,h3,λb H6 s6 ob=>⟨by decide,λp6 hp6=>?_⟩⟩⟩
  have s46:Same H4 (upd H6 p6 (.lst [.str (S b)])):=s5.trans (s6.trans (Same.upd hp6))
  have C6:=C4.same s46
  have np:p6≠bl:=λz=>by
   have:=(s5.trans s6) _ _ B4.lst
   rw[<-z,hp6] at this;cases this
  refine⟨bk,rfl,bl,[],C6.book,[b],af,np,λc hc=>by rw[List.mem_singleton.mp hc];exact ob,by show 0+1<=5000;decide,λH7 c7 B7=>?_⟩
  have C7:=C6.wrote c7 B7
  have frs:∀b∈A2.fix,b=x\/H b=none:=λb hb=>by
   have p1:(x::([bk,bl]++(A1.new++[st]))).Perm A2.fix:=by
    rw[<-hA]
    exact tW A1 x bk bl
   rcases List.mem_cons.mp (p1.mem_iff.mpr hb) with h | h
   ·exact .inl h
   ·exact .inr (F4.no b h)
  refine q A2 _ H7 _ rfl frs ?_ C7 (by rw[List.nil_append,kU,fA];rfl)
  exact((Chg.of_same s1).trans (g1.trans (Chg.of_same s46))).past c7 (F4.no bl (by simp))
theorem j8 (T:Txt w K mg a):FnOk P w K mg base CX0 7 a.f_Cellar_act a.d_Cellar_act ["self","asked"] (yF (kk5 a)):=by
 refine T.du.F.ok gu (λvs H Q E h=>?_) (λcdv A outer s H vs Q E hr h=>?_)
 ·obtain⟨A,Z,M,t,ev,u,rfl,_⟩:=h
  rfl
 ·obtain⟨A0,Z,M,t,ev,u,rfl,hC,ht,h⟩:=h
  refine⟨_,(ag (av (i:=2) gu.nd rfl (Or.inl rfl) (aB (aq (K:=K) (hU1 hr)) (pv 1) ah (λ_ _=>rfl)))
   (ag (aS (aR (K:=K) (pv 2) (by intro _;rfl)) (ai (aH (aF (au (K:=K) (pv 0) rfl) T.fW T.dj.m (j7 T) (hr.mono (by decide)) T.dj.b .nil pass0 (aa (bL ["self","asked","events","event"] ["self","asked","events",""] (defScope ik) (by exact⟨rfl,s!"d",s!"d",s!"d",s!"d",s!"d",s!"d",s!"d",s!"d"⟩) (aW (K:=K) (pv 2)) (λC₁ s₁ H₁ f₁=>(ak (uw T) (hr.mono (by decide)) rfl T.iq.m T.iq.F.kp T.iq.b .nil pass0 (aa (pv 0) ae)))) ae)))) aD)
   (ag (bS PassesOwn.never rfl (aW (K:=K) (pv 2)) (aN (i:=3) gu.nd rfl (Or.inl rfl)) (ai (aH (ak (zm T) (hr.mono (by decide)) rfl T.lz.m T.lz.F.kp T.lz.b .nil pass0 (aa (au (K:=K) (pv 0) rfl) (aa (pv 3) ae))))))
   (ai (ar (aB (aq (K:=K) (hU1 hr)) (pv 1) ah (λ_ _=>rfl))))))),?_⟩
  have l1:SqT K H t [.ref ev,.ref u]:=.inl (.inl ht)
  walk_at "c2"
  refine aQ l1 rfl ?_
  obtain⟨dxc,hce⟩:=hC.cel
  obtain⟨D,hev,hls,nev,nD,hsz,h⟩:=h
  ·refine⟨true,.inl ⟨[.ref D],.inl (.inl hev),rfl⟩,?_⟩
   rw[if_pos rfl]
   obtain⟨dxb,hbk⟩:=hC.book.obj
   refine⟨_,dxc,_,hce,T.aG,T.fh,_,AH A0,_,rfl,dxb,_,hbk,rfl,?_⟩
   have hl0:SqL K H ev [.ref D]:=.inl (.inl hev)
   refine cv hl0 ?_
   obtain⟨en,ps,pa,hD,hEN,hEO⟩:∃en ps pa,H D=some (.dK (evK en ps))/\EvN a.p_PARTS_hail a.p_PARTS_put en (ps.map (·.1)) pa/\EvOk en ps:=by
    rcases h with⟨n,kk,h1,h2,_⟩ | ⟨n,kk,i,pl,key,wo,m,h1,h2,_⟩
    ·exact⟨_,_,_,h1,EvN.hail,h2⟩
    ·exact⟨_,_,_,h1,EvN.put,h2⟩
   refine iU (xs:=[.ref D]) (show 1<=sizeLine by decide) (λL i ys H'=>H L=none/\Same H H'/\H' L=some (.lst ys)/\ys.length=i/\∃bs:List (List Nat),ys=tx bs/\∀b∈bs,okB b) (λL hL=>⟨hL,Same.upd hL,af,rfl,[],rfl,λ_ z=>nomatch z⟩) (λL i ys H' _ h=>⟨h.2.2.1,Nat.le_of_eq h.2.2.2.1,h.2.1.seq hl0⟩) ?_ ?_
   ·rintro L i ys H' v hL hv ⟨_,s',e',hy,bs,hbs,hob⟩ Qe qe
    have hv2:v=.ref D:=by
     match i,hv with
     | 0,hv=>exact(Option.some.inj hv).symm
    subst hv2
    walk_at "rd"
    refine⟨en,D,pa,ps,rfl,s' _ _ hD,hEN,hEO,λb H2 s2 ob=>qe _ _ (s2 _ _ e') ⟨hL,Same.wr (s'.trans s2) hL,af,by simp[hy],bs++[b],by rw[hbs];unfold tx;simp,λc hc=>?_⟩⟩
    rcases List.mem_append.mp hc with h1 | h1
    ·exact hob c h1
    ·rw[List.mem_singleton.mp h1];exact ob
   rintro L ys H1 hL ⟨_,s1,e1,hy,bs,rfl,hob⟩
   have C1:=hC.same s1
   have hbl:L≠A0.bl:=λz=>by
    have:=hC.book.lst
    rw[<-z,hL] at this;cases this
   have hbn:bs.length=1:=by unfold tx at hy;simpa using hy
   refine⟨_,rfl,L,rfl,_,_,C1.book,bs,e1,hbl,hob,by omega,λH2 c2 B2=>?_⟩
   have C2:CeAt (kk5 a) H2 A0 Z (M.wr _):=C1.wrote c2 B2
   have inB:A0.bl∈A0.fix:=List.mem_append_left _ (by simp)
   have c02:Chg A0.fix H H2:=(Chg.of_same s1).trans (c2.mono λb hb=>by rw[List.mem_singleton.mp hb];exact inB)
   have hev2:=c02.keep _ _ hev nev
   have hD2:=c02.keep _ _ hD nD
   have ht2:=c02.tup _ _ ht
   have hll:(M.ls++lns M.ls.length (sgA bs)).length=M.ls.length+1:=by
    rw[List.length_append,kU,fA,hbn]
   generalize M.ls++lns M.ls.length (sgA bs)=ls2 at B2 C2 hll
   obtain⟨dxc2,hce2⟩:=C2.cel
   walk_at "ls"
   refine cv (xs:=[.ref D]) (.inl (.inl hev2)) (dA (xs:=[.ref D]) (λi σ H'=>H' ev=some (.lst [.ref D])/\((i=0/\H'=H2)\/(i=1/\H' t=some (.tup [.ref ev,.ref u])/\Q (.ref u) H'))/\∃v,σ=[some (V.ref A0.c),some (V.ref t),some (V.ref ev),v]) ⟨hev2,.inl ⟨rfl,rfl⟩,none,rfl⟩ (λi σ H' _ h=>.inl (.inl h.1)) ?_ ?_)
   ·rintro i y σ H' hy ⟨_,hi,v,rfl⟩
    obtain⟨rfl,rfl⟩:i=0/\y=.ref D:=by
     match i,hy with
     | 0,hy=>exact⟨rfl,(Option.some.inj hy).symm⟩
    obtain rfl:H'=H2:=by
     rcases hi with h | h
     ·exact h.2
     ·exact absurd h.1 (by decide)
    walk_at "rd"
    have i3:∀b∈[A0.l,A0.t,A0.p],b∈A0.fix:=λb hb=>List.mem_append_left _ (by simp only[List.mem_cons,List.not_mem_nil,or_false] at hb ⊢;grind)
    refine⟨_,dxc2,_,hce2,T.aG,T.ba,_,eB A0,A0.st,D,rfl,?_⟩
    rcases h with⟨n,kk,h1,h2,h3,q⟩ | ⟨n,kk,i,pl,key,wo,m,h1,h2,hm,hml,hL,hkk,q⟩
    ·have e1:=c02.keep _ _ h1 nD
     refine .inl ⟨⟨A0,Z,M.wr ls2,D,n,kk,rfl,C2.st,e1,hsz,h3,λH3 c3 S3=>?_⟩,_,e1⟩
     have c3':=c3.mono i3
     exact⟨c3'.keep _ _ hev2 nev,c3.tup _ _ ht2,q H3 ls2 (c02.trans c3') (C2.stood c3 (λb hb=>by simp only[List.mem_cons,List.not_mem_nil,or_false] at hb ⊢;grind) S3 rfl) hll⟩
    ·have e1:=c02.keep _ _ h1 nD
     have hil:i < A0.rs.length:=by rw[<-hC.st.lenm];exact(List.getElem?_eq_some_iff.mp hm).1
     have hr1:A0.rs[i]?=some A0.rs[i]:=by simp
     have hd1:A0.ds[i]?=some (A0.ds[i]'(by rw[hC.st.lend];exact hil)):=by simp
     generalize A0.rs[i]=r at hr1
     generalize A0.ds[i]'(by rw[hC.st.lend];exact hil)=d at hd1
     have mr:=List.mem_of_getElem? hr1
     have md:=List.mem_of_getElem? hd1
     have ir:r∈A0.fix:=List.mem_append_right _ (List.mem_append_left _ mr)
     have id:d∈A0.fix:=List.mem_append_right _ (List.mem_append_right _ md)
     refine .inr ⟨⟨A0,Z,M.wr ls2,D,n,kk,i,pl,key,wo,r,d,m,rfl,C2.st,e1,λz=>nD (z▸id),λz=>nD (z▸i3 _ (by simp)),λz=>nD (z▸i3 _ (by simp)),hr1,hd1,hm,hml,hsz,hL,hkk,λH3 c3 S3=>?_⟩,_,e1⟩
     have c3':Chg A0.fix H' H3:=c3.mono λb hb=>by
      simp only[List.mem_cons,List.not_mem_nil,or_false] at hb
      rcases hb with rfl | rfl | rfl | rfl | rfl
      ·exact ir
      ·exact id
      ·exact i3 _ (by simp)
      ·exact i3 _ (by simp)
      ·exact i3 _ (by simp)
     refine⟨c3'.keep _ _ hev2 nev,c3.tup _ _ ht2,q H3 ls2 (c02.trans c3') (C2.stood c3 (λb hb=>?_) S3 rfl) hll⟩
     simp only[List.mem_cons,List.not_mem_nil,or_false] at hb
     rcases hb with rfl | rfl | rfl | rfl | rfl
     ·simp[mr]
     ·simp[md]
     ·simp
     ·simp
     ·simp
   ·rintro σ H' ⟨_,hi,v,rfl⟩
    obtain⟨ht3,q⟩:H' t=some (.tup [.ref ev,.ref u])/\Q (.ref u) H':=by
     rcases hi with h | h
     ·exact absurd h.1 (show ¬1=0 by decide)
     ·exact h.2
    walk_at "rd"
    exact aQ (.inl (.inl ht3)) rfl q
theorem jn (T:Txt w K mg a):FnOk P w K mg base CX0 8 a.f_Cellar_hail a.d_Cellar_hail ["self","sender"] (vx (kk5 a)):=by
 refine T.cL.F.ok oZ (λvs H Q E h=>?_) (λcdv A outer s H vs Q E hr h=>?_)
 ·obtain⟨A,Z,M,n,kk,rfl,_⟩:=h
  rfl
 ·obtain⟨A0,Z,M,n,kk,rfl,hC,hn,hkk,hk9,hls,hsz,hv,q⟩:=h
  refine⟨_,(ai (ar (aF (pv 0) T.aG T.du.m (j8 T) (hr.mono (by decide)) T.du.b .nil pass0 (aa (ak (ux T) (hr.mono (by decide)) rfl T.iu.m T.iu.F.kp T.iu.b .nil pass0 (aa (au (K:=K) (pv 0) rfl) (aa (pv 1) ae))) ae)))),?_⟩
  walk_at "rd"
  obtain⟨dxc,hce⟩:=hC.cel
  refine⟨dxc,_,hce,rfl,_,dxc,_,hce,T.aG,T.ba,_,eB A0,A0,Z,M,n,kk,rfl,hC.st,hn,hkk,hk9,λt ev u D H1 s1 hev hD et ee eD eu=>?_⟩
  refine⟨A0,Z,M,t,ev,u,rfl,hC.same s1,et,⟨D,ee,hls,hC.notin hev,hC.notin hD,hsz,.inl ⟨n,kk,eD,qo hn hk9,hv,λH2 ls c2 C2 hl=>?_⟩⟩⟩
  exact q u H2 ls ((Chg.of_same s1).trans c2) C2 hl (c2.tup _ _ eu)
theorem dS (T:Txt w K mg a):FnOk P w K mg base (CXv P w) 8 a.f_Cellar_put a.d_Cellar_put ["self","sender","life","number","shelf","key","word","deed"] (AN (kk5 a) a.C_NoSuch):=by
 refine T.rP.okX pM (λvs H Q E h=>?_) (λcdv A outer s H vs Q E hr h=>?_)
 ·obtain⟨A,Z,M,n,shf,key,wo,num,rfl,_⟩:=h
  rfl
 ·obtain⟨A0,Z,M,n,shf,key,wo,num,rfl,hC,hP,hq⟩:=h
  refine⟨_,(ai (ar (aF (pv 0) T.aG T.du.m (j8 T) (hr.mono (by decide)) T.du.b .nil pass0 (aa (ak (wc T) (hr.mono (by decide)) rfl T.jI.m T.jI.F.kp T.jI.b .nil passX (aa (au (K:=K) (pv 0) rfl) (aa (pv 1) (aa (pv 2) (aa (pv 3) (aa (pv 4) (aa (bC (aa (pv 5) (aa (pv 6) ae))) (aa (pv 7) ae)))))))) ae)))),?_⟩
  walk_at "rd"
  obtain⟨dxc,hce⟩:=hC.cel
  refine⟨dxc,_,hce,rfl,_,dxc,_,hce,T.aG,T.ba,_,eB A0,by decide,λp hp=>?_⟩
  have s0:=Same.upd (o:=.tup [.str (S key),wV wo]) hp
  have C0:=hC.same s0
  refine⟨A0,Z,M,n,shf,key,wo,num,p,rfl,af,C0.st,hP,?_⟩
  rcases hq with⟨h1,h2⟩ | ⟨h1,h2,h3⟩ | ⟨hL,hnum,j,x,i,pl,m,hpos,hxn,hi,hm,hpl,hpl4,hls,hsz,q⟩
  ·exact .inl ⟨h1,h2.back s0⟩
  ·exact .inr (.inl ⟨h1,h2,h3.back s0⟩)
  ·refine .inr (.inr ⟨hL,hnum,j,x,i,pl,m,hpos,hxn,hi,hm,hpl,by omega,λt ev u D H1 s1 hev hD et ee eD eu=>?_⟩)
   have l1:=kZ hC.st
   have l2:=hC.st.okx.hi
   have hil:i < A0.rs.length:=by rw[<-hC.st.lenm];exact(List.getElem?_eq_some_iff.mp hm).1
   have hnu:=hP.nu
   refine⟨A0,Z,M,t,ev,u,rfl,C0.same s1,et,⟨D,ee,hls,C0.notin hev,C0.notin hD,hsz,.inr ⟨n,num,i,pl,key,wo,m,eD,tS hP.nm (by omega) (by decide) (by omega) (by omega) hP.ky hP.wd hP.wl,hm,by omega,by rw[hL];rfl,hnum,λH2 ls c2 C2 hl=>?_⟩⟩⟩
   exact q u H2 ls ((Chg.of_same (s0.trans s1)).trans c2) C2 hl (c2.tup _ _ eu)
theorem cD (T:Txt w K mg a):FnOk P w K mg base (CXv P w) 8 a.f_Cellar_read a.d_Cellar_read ["self","row","start","most","whole"] (yJ (kk5 a) a.C_NoSuch):=by
 refine T.pP.okX o6 (λvs H Q E h=>?_) (λcdv A outer s H vs Q E hr h=>?_)
 ·obtain⟨A,Z,M,r,start,most,rfl,_⟩:=h
  rfl
 ·obtain⟨A0,Z,M,r,start,most,rfl,hC,hs9,hm1,hm2,hq⟩:=h
  refine⟨_,(ai (ar (ak (rX T) (hr.mono (by decide)) rfl T.fS.m T.fS.F.kp T.fS.b .nil passX (aa (au (K:=K) (pv 0) rfl) (aa (pv 1) (aa (pv 2) (aa (pv 3) (aa (pv 4) ae)))))))),?_⟩
  walk_at "rd"
  obtain⟨dxc,hce⟩:=hC.cel
  exact⟨_,dxc,_,hce,T.aG,T.ba,_,eB A0,A0,Z,M,r,start,most,rfl,hC.st,hs9,hm1,hm2,hq⟩
theorem kE (T:Txt w K mg a):FnOk P w K mg base (CXv P w) 7 a.f_Cellar_front_of a.d_Cellar_front_of ["self","row"] (vz (kk5 a)):=by
 refine T.dv.F.okX ko (λvs H Q E h=>?_) (λcdv A outer s H vs Q E hr h=>?_)
 ·obtain⟨A,Z,M,r,m,rfl,_⟩:=h
  rfl
 ·obtain⟨A0,Z,M,r,m,rfl,hC,hm,q⟩:=h
  refine⟨_,(ag (aH (ak (lK T) (hr.mono (by decide)) rfl T.cy.m T.cy.F.kp T.cy.b .nil passX (aa (au (K:=K) (pv 0) rfl) (aa (pv 1) ae))))
   (ai (PS.nox (ar (aF (au (K:=K) (pv 0) rfl) T.aL T.bN.m (fY T) (hr.mono (by decide)) T.bN.b .nil pass0 (aa (pv 1) ae)))))),?_⟩
  walk_at "rd"
  obtain⟨dxc,hce⟩:=hC.cel
  have hil:r < A0.rs.length:=by rw[<-hC.st.lenm];exact(List.getElem?_eq_some_iff.mp hm).1
  refine⟨_,dxc,_,hce,T.aG,T.ba,_,eB A0,A0,rfl,Z,M,r,rfl,hC.st,.inl ⟨hil,λH1 s1=>?_⟩⟩
  have C1:=hC.same s1
  obtain⟨dx1,hce1⟩:=C1.cel
  obtain⟨dxs,hst⟩:=C1.st.sta
  exact⟨_,dx1,_,hce1,T.aG,T.ba,_,eB A0,_,rfl,dxs,_,hst,rfl,A0,rfl,Z,M,r,rfl,C1.st,m,hm,λH2 s2=>q H2 (s1.trans s2)⟩
local macro_rules | `(tactic| walk_at "rd")=>rdM "tM mv oF yA tP yK AM vx AN yJ uQ"
theorem kF (T:Txt w K mg a):FnOk P w K mg base CX0 2 a.f_l_names a.d_l_names ["_law_cell","_law_many"] x9:=by
 refine T.cf.F.ok cS (λvs H Q E h=>?_) (λcdv A outer s H vs Q E hr h=>?_)
 ·obtain⟨c,m,rfl,_⟩:=h
  rfl
 ·obtain⟨c,m,rfl,h1,h2,q⟩:=h
  refine⟨_,(ag (av (i:=2) cS.nd rfl (Or.inl rfl) (ax (ay (K:=K)) ah (ax bg (ak (aP T) (hr.mono (by decide)) rfl T.ao.m T.ao.F.kp T.ao.b .nil pass0 (aa (pv 0) (aa ah ae))) ah)))
   (ag (av (i:=3) cS.nd rfl (Or.inl rfl) (ax bg (ak (aP T) (hr.mono (by decide)) rfl T.ao.m T.ao.F.kp T.ao.b .nil pass0 (aa (pv 0) (aa ah ae))) (pv 2)))
   (ag (rf (i:=4) ["_law_cell","_law_many","_law_size","_law_at","_law_base","_law_names_here","_law_k","_law_signs"] ["_law_cell","_law_many","_law_size","_law_at","_law_base","_law_names_here","","_law_signs"] (defScope mD) (by exact⟨rfl,s!"d",s!"d",s!"d",s!"d",s!"d",s!"d",s!"d",s!"d"⟩) (dz rfl T.dR (aa (pv 2) ae)) (λC₁ s₁ H₁ f₁=>(ak (m8 T) (hr.mono (by decide)) rfl T.cV.m T.cV.F.kp T.cV.b .nil pass0 (aa (ak (aP T) (hr.mono (by decide)) rfl T.ao.m T.ao.F.kp T.ao.b .nil pass0 (aa (pv 1) (aa (ax (ay (K:=K)) ah (pv 0)) ae))) ae))) cS.nd)
   (ag (av (i:=5) cS.nd rfl (Or.inl rfl) (aU ae))
   (ag (bS PassesOwn.never rfl (dz rfl T.dR (aa (pv 1) ae)) (aN (i:=6) cS.nd rfl (Or.inl rfl)) (ag (av (i:=7) cS.nd rfl (Or.inl rfl) (bD (cR (K:=K)) rfl T.gA boot_list (aa (pv 4) ae)))
   (ag (gh (ak (m8 T) (hr.mono (by decide)) rfl T.cV.m T.cV.F.kp T.cV.b .nil pass0 (aa (ax (ay (K:=K)) (ax bg (ak (aP T) (hr.mono (by decide)) rfl T.ao.m T.ao.F.kp T.ao.b .nil pass0 (aa (pv 0) (aa ah ae))) ah) (pv 6)) ae)) (gb (pv 7) (pv 3) (dJ (hU1 hr))))
   (ai (aH (cn (K:=K) PySem.F.plainAttrs_list PySem.F.slot_list_append PySem.F.type_list_append b9 (pv 5) (aa (cn (K:=K) PySem.F.plainAttrs_str PySem.F.slot_str_join PySem.F.type_str_join (iS (K:=K)) aK (aa (pv 7) ae)) ae)))))))
   (ai (ar (pv 5)))))))),?_⟩
  walk_at "rd"
  obtain⟨sz,hsz0⟩:∃sz,1+mixN c 61 % 12=sz:=⟨_,rfl⟩
  obtain⟨at0,hat0⟩:∃at0,mixN c 62 % sz=at0:=⟨_,rfl⟩
  have hsz:1<=sz/\sz<=12:=by omega
  have hat:0<=at0/\at0 < sz:=by rw[<-hat0];exact⟨Int.emod_nonneg _ (by omega),Int.emod_lt_of_pos _ (by omega)⟩
  have gnm:nm5 c=λ(k:Nat)=>(((List.range sz.toNat).map λ(k:Nat)=>ltr36 (mixN c (70+(0+(k:Int)))))).set at0.toNat (ltr36 (mixN c 63 % 36+(0+(k:Int)))):=by
   funext k
   unfold nm5 nb5 sz5 at5
   rw[hsz0,hat0]
  rw[hsz0,hat0]
  refine⟨by omega,by omega,by omega,iR (Nat.le_trans (show sz.toNat<=12 by omega) (by decide)) (λk=>.str (S [ltr36 (mixN c (70+(0+(k:Int))))])) ?_ ?_⟩
  ·intro i H' hi s Qe qe
   walk_at "rd"
   exact qe H' (Same.refl _)
  ·intro D H1 hD s1 h1
   have eb:((List.range sz.toNat).map λ(k:Nat)=>V.str (S [ltr36 (mixN c (70+(0+(k:Int))))]))=(((List.range sz.toNat).map λ(k:Nat)=>ltr36 (mixN c (70+(0+(k:Int))))).map λk=>[k]).map λl=>V.str (S l):=by
    rw[List.map_map,List.map_map];rfl
   rw[eb] at h1
   have hbl:((List.range sz.toNat).map λ(k:Nat)=>ltr36 (mixN c (70+(0+(k:Int))))).length=sz.toNat:=by simp
   have hba:((List.range sz.toNat).map λ(k:Nat)=>ltr36 (mixN c (70+(0+(k:Int))))).all inN=true:=by
    rw[List.all_eq_true]
    intro y hy
    obtain⟨k,_,rfl⟩:=List.mem_map.mp hy
    exact n9 _
   generalize ((List.range sz.toNat).map λ(k:Nat)=>ltr36 (mixN c (70+(0+(k:Int)))))=b at h1 hbl hba gnm
   refine⟨Nat.zero_le _,λp hp=>⟨by omega,by omega,?_⟩⟩
   have hDp:D≠p:=λz=>by rw[<-z,h1] at hp;cases hp
   have hD1:upd H1 p (.lst []) D=some (.lst ((b.map λk=>[k]).map λl=>V.str (S l))):=(aj hDp).trans h1
   generalize hg:(λ(k:Nat)=>b.set at0.toNat (ltr36 (mixN c 63 % 36+(0+(k:Int)))))=g
   refine kc (λi σ H'=>Chg [p] (upd H1 p (.lst [])) H'/\H' p=some (.lst (((List.range i).map g).map λl=>V.str (S l)))/\∃v1 v2,σ=[some (V.int c),some (V.int m),some (V.int sz),some (V.int at0),some (V.ref D),some (V.ref p),v1,v2]) ⟨Chg.refl _,af,none,none,rfl⟩ ?_ ?_
   ·rintro i σ H' hi ⟨c',hl,v1,v2,rfl⟩
    have hD':H' D=_:=c'.keep _ _ hD1 (by simp[hDp])
    refine cut1 λRy hRy=>?_
    walk_at "rd"
    refine⟨D,_,rfl,.inl (.inl (.inl hD')),λl hlf=>?_⟩
    rw[hRy]
    clear hRy
    refine cut1 λRy hRy=>?_
    walk_at "rd"
    have hlp:l≠p:=λz=>by rw[z,hl] at hlf;cases hlf
    refine rh af (uR hat.1 (by simp;omega)) ?_
    have hset:(List.map (λl=>V.str (S l)) (List.map (λk=>[k]) b)).set at0.toNat (V.str (S [ltr36 (mixN c 63 % 36+(0+(i:Int)))]))=(((g i).map λk=>[k]).map λl=>V.str (S l)):=by
     rw[<-hg]
     simp only[List.map_set]
    have hgl:(g i).length<=12:=by rw[<-hg];simp only[List.length_set];omega
    rw[hset,wg,hRy]
    clear hRy
    walk_at "rd"
    have s2:Same H' (upd H' l (.lst (((g i).map λk=>[k]).map λl=>V.str (S l)))):=Same.upd hlf
    refine⟨.inl ⟨_,.inl (.inl (s2 _ _ hl))⟩,[],rfl,_,.inl (.inl af),?_,?_⟩
    ·rw[lX,List.length_map]
     exact Nat.le_trans (show(g i).length+_<=100 by simp;omega) (by decide)
    ·rw[kf]
     refine⟨_,s2 _ _ hl,Nat.lt_of_le_of_lt (show _<=36 by simp;omega) (by decide),?_,af.trans ?_⟩
     ·exact c'.trans ((Chg.of_same s2).trans (Chg.upd (by simp) (jw (s2 _ _ hl))))
     ·rw[List.range_succ,List.map_append,List.map_append]
      rfl
   ·rintro σ H' ⟨c',hl,v1,v2,rfl⟩
    walk_at "rd"
    refine q p H' (s1.free hp) (λb0 o hb=>?_) ?_
    ·have hb1:=s1 _ _ hb
     exact c'.keep _ _ ((Same.upd hp) _ _ hb1) (by simp;exact az hb1 hp)
    ·rw[hl]
     unfold names5
     rw[gnm,hg]
     simp
theorem iA (T:Txt w K mg a):FnOk P w K mg base CX0 1 a.f_l_whole a.d_l_whole ["_law_found","_law_due"] ye:=by
 refine T.bt.F.ok vP (λvs H Q E h=>?_) (λcdv A outer s H vs Q E hr h=>?_)
 ·obtain⟨x,y,rfl,_⟩:=h
  rfl
 ·obtain⟨x,y,rfl,q⟩:=h
  refine⟨_,(ai (ar (dy (aw (aJ (K:=K)) (by rfl) T.a9 boot_isinstance (aa (pv 0) (aa (cZ (v:=.ty "int") rfl T.De boot_int rfl) ae))) (dy (zy (aw (aJ (K:=K)) (by rfl) T.a9 boot_isinstance (aa (pv 0) (aa (cZ (v:=.ty "bool") rfl T.A5 boot_bool rfl) ae)))) (fZ (jq (gk (K:=K) (hU hr)) (pv 0) (pv 1) (nomark _))))))),?_⟩
  walk_at "rd"
  exact q
theorem zp (T:Txt w K mg a):FnOk P w K mg base CX0 2 a.f_l_keys a.d_l_keys ["_law_cell","_law_many"] yG:=by
 refine T.lE.F.ok dF (λvs H Q E h=>?_) (λcdv A outer s H vs Q E hr h=>?_)
 ·obtain⟨c,m,rfl,_⟩:=h
  rfl
 ·obtain⟨c,m,rfl,h2,q⟩:=h
  refine⟨_,(ag (av (i:=2) dF.nd rfl (Or.inl rfl) (ax (ay (K:=K)) ah (ax bg (ak (aP T) (hr.mono (by decide)) rfl T.ao.m T.ao.F.kp T.ao.b .nil pass0 (aa (pv 0) (aa ah ae))) ah)))
   (ag (rf (i:=3) ["_law_cell","_law_many","_law_size","_law_base","_law_at","_law_keys_here","_law_k","_law_signs"] ["_law_cell","_law_many","_law_size","_law_base","_law_at","_law_keys_here","","_law_signs"] (defScope pd) (by exact⟨rfl,s!"d",s!"d",s!"d",s!"d",s!"d",s!"d",s!"d",s!"d"⟩) (dz rfl T.dR (aa (pv 2) ae)) (λC₁ s₁ H₁ f₁=>(ak (mH T) (hr.mono (by decide)) rfl T.cN.m T.cN.F.kp T.cN.b .nil pass0 (aa (ak (aP T) (hr.mono (by decide)) rfl T.ao.m T.ao.F.kp T.ao.b .nil pass0 (aa (pv 1) (aa (ax (ay (K:=K)) ah (pv 0)) ae))) (aa ah ae)))) dF.nd)
   (ag (av (i:=4) dF.nd rfl (Or.inl rfl) (ax bg (ak (aP T) (hr.mono (by decide)) rfl T.ao.m T.ao.F.kp T.ao.b .nil pass0 (aa (pv 0) (aa ah ae))) (pv 2)))
   (ag (av (i:=5) dF.nd rfl (Or.inl rfl) (aU ae))
   (ag (bS PassesOwn.never rfl (dz rfl T.dR (aa (pv 1) ae)) (aN (i:=6) dF.nd rfl (Or.inl rfl)) (ag (av (i:=7) dF.nd rfl (Or.inl rfl) (bD (cR (K:=K)) rfl T.gA boot_list (aa (pv 3) ae)))
   (ag (gh (ak (mH T) (hr.mono (by decide)) rfl T.cN.m T.cN.F.kp T.cN.b .nil pass0 (aa (ax (ay (K:=K)) (ax bg (ak (aP T) (hr.mono (by decide)) rfl T.ao.m T.ao.F.kp T.ao.b .nil pass0 (aa (pv 0) (aa ah ae))) ah) (ax hV ah (pv 6))) (aa ah ae))) (gb (pv 7) (pv 4) (dJ (hU1 hr))))
   (ai (aH (cn (K:=K) PySem.F.plainAttrs_list PySem.F.slot_list_append PySem.F.type_list_append b9 (pv 5) (aa (cn (K:=K) PySem.F.plainAttrs_str PySem.F.slot_str_join PySem.F.type_str_join (iS (K:=K)) aK (aa (pv 7) ae)) ae)))))))
   (ai (ar (pv 5)))))))),?_⟩
  walk_at "rd"
  obtain⟨sz,hsz0⟩:∃sz,1+mixN c 101 % 24=sz:=⟨_,rfl⟩
  obtain⟨at0,hat0⟩:∃at0,mixN c 102 % sz=at0:=⟨_,rfl⟩
  have hsz:1<=sz/\sz<=24:=by omega
  have hat:0<=at0/\at0 < sz:=by rw[<-hat0];exact⟨Int.emod_nonneg _ (by omega),Int.emod_lt_of_pos _ (by omega)⟩
  rw[hsz0,hat0]
  refine⟨by omega,by omega,iR (Nat.le_trans (show sz.toNat<=24 by omega) (by decide)) (λk=>.str (S [sgn (mixN c (110+(0+(k:Int)))) 94])) ?_ ?_⟩
  ·intro i H' hi s Qe qe
   walk_at "rd"
   exact qe H' (Same.refl _)
  ·intro D H1 hD s1 h1
   have eb:((List.range sz.toNat).map λ(k:Nat)=>V.str (S [sgn (mixN c (110+(0+(k:Int)))) 94]))=(((List.range sz.toNat).map λ(k:Nat)=>sgn (mixN c (110+(0+(k:Int)))) 94).map λk=>[k]).map λl=>V.str (S l):=by
    rw[List.map_map,List.map_map];rfl
   rw[eb] at h1
   have hbl:((List.range sz.toNat).map λ(k:Nat)=>sgn (mixN c (110+(0+(k:Int)))) 94).length=sz.toNat:=by simp
   have hba:∀y∈((List.range sz.toNat).map λ(k:Nat)=>sgn (mixN c (110+(0+(k:Int)))) 94),okSign y=true:=by
    intro y hy
    obtain⟨k,_,rfl⟩:=List.mem_map.mp hy
    exact uP _
   generalize ((List.range sz.toNat).map λ(k:Nat)=>sgn (mixN c (110+(0+(k:Int)))) 94)=b at h1 hbl hba
   refine⟨by omega,Nat.zero_le _,λp hp=>⟨by omega,by omega,?_⟩⟩
   have hDp:D≠p:=λz=>by rw[<-z,h1] at hp;cases hp
   have hD1:upd H1 p (.lst []) D=some (.lst ((b.map λk=>[k]).map λl=>V.str (S l))):=(aj hDp).trans h1
   generalize hg:(λ(k:Nat)=>b.set at0.toNat (sgn (mixN c 103 % 94+7 * (0+(k:Int))) 94))=g
   refine kc (λi σ H'=>Chg [p] (upd H1 p (.lst [])) H'/\H' p=some (.lst (((List.range i).map g).map λl=>V.str (S l)))/\∃v1 v2,σ=[some (V.int c),some (V.int m),some (V.int sz),some (V.ref D),some (V.int at0),some (V.ref p),v1,v2]) ⟨Chg.refl _,af,none,none,rfl⟩ ?_ ?_
   ·rintro i σ H' hi ⟨c',hl,v1,v2,rfl⟩
    have hD':H' D=_:=c'.keep _ _ hD1 (by simp[hDp])
    refine cut1 λRy hRy=>?_
    walk_at "rd"
    refine⟨D,_,rfl,.inl (.inl (.inl hD')),λl hlf=>?_⟩
    rw[hRy]
    clear hRy
    refine cut1 λRy hRy=>?_
    walk_at "rd"
    have hlp:l≠p:=λz=>by rw[z,hl] at hlf;cases hlf
    refine rh af (uR hat.1 (by simp;omega)) ?_
    have hset:(List.map (λl=>V.str (S l)) (List.map (λk=>[k]) b)).set at0.toNat (V.str (S [sgn (mixN c 103 % 94+7 * (0+(i:Int))) 94]))=(((g i).map λk=>[k]).map λl=>V.str (S l)):=by
     rw[<-hg]
     simp only[List.map_set]
    have hgl:(g i).length<=24:=by rw[<-hg];simp only[List.length_set];omega
    rw[hset,wg,hRy]
    clear hRy
    walk_at "rd"
    have s2:Same H' (upd H' l (.lst (((g i).map λk=>[k]).map λl=>V.str (S l)))):=Same.upd hlf
    refine⟨.inl ⟨_,.inl (.inl (s2 _ _ hl))⟩,[],rfl,_,.inl (.inl af),?_,?_⟩
    ·rw[lX,List.length_map]
     exact Nat.le_trans (show(g i).length+_<=100 by simp;omega) (by decide)
    ·rw[kf]
     refine⟨_,s2 _ _ hl,Nat.lt_of_le_of_lt (show _<=36 by simp;omega) (by decide),?_,af.trans ?_⟩
     ·exact c'.trans ((Chg.of_same s2).trans (Chg.upd (by simp) (jw (s2 _ _ hl))))
     ·rw[List.range_succ,List.map_append,List.map_append]
      rfl
   ·rintro σ H' ⟨c',hl,v1,v2,rfl⟩
    walk_at "rd"
    refine q p H' ((List.range m).map g) (s1.free hp) (λb0 o hb=>?_) ?_ (by simp) ?_
    ·have hb1:=s1 _ _ hb
     exact c'.keep _ _ ((Same.upd hp) _ _ hb1) (n1 (az hb1 hp))
    ·rw[hl]
     unfold tx
     simp
    ·intro l hl
     obtain⟨k,_,rfl⟩:=List.mem_map.mp hl
     rw[<-hg]
     exact AJ (by omega) (by omega) hba (uP _)
theorem pI (T:Txt w K mg a):FnOk P w K mg base CX0 1 a.f_l_laid_over a.d_l_laid_over ["_law_one","_law_other"] B1:=by
 refine T.dQ.F.ok dh (λvs H Q E h=>?_) (λcdv A outer s H vs Q E hr h=>?_)
 ·obtain⟨x,y,rfl,_⟩:=h
  rfl
 ·obtain⟨x,y,rfl,q⟩:=h
  refine⟨_,(ag (av (i:=2) dh.nd rfl (Or.inl rfl) ah)
   (ag (bS PassesOwn.never rfl (aW (K:=K) (aU (aa ah (aa ah (aa ah (aa ah (aa ah (aa ah (aa ah (aa ah ae)))))))))) (aN (i:=3) dh.nd rfl (Or.inl rfl)) (ai (aS (aM (dB (K:=K) (hU hr)) (ax bg (ax qM (pv 0) (pv 3)) ah) (ax bg (ax qM (pv 1) (pv 3)) ah) (nomark _)) (ai (av (i:=2) dh.nd rfl (Or.inl rfl) (ax (ay (K:=K)) (pv 2) (pv 3)))) aD)))
   (ai (ar (pv 2))))),?_⟩
  walk_at "rd"
  refine⟨by decide,λp hp=>cv (.inl (.inl af)) ?_⟩
  refine dA (xs:=([1,2,4,8,16,32,64,128]:List Int).map V.int) (λi σ H'=>H'=upd H p (.lst (([1,2,4,8,16,32,64,128]:List Int).map V.int))/\∃v,σ=[some (.int x),some (.int y),some (.int (laidOn x y (([1,2,4,8,16,32,64,128]:List Int).take i))),v]) ⟨rfl,none,rfl⟩ ?_ ?_ ?_
  ·rintro i σ H' _ ⟨rfl,v,rfl⟩
   exact .inl (.inl af)
  ·rintro i z σ H' hz ⟨rfl,v,rfl⟩
   obtain⟨u,hu,hu0,rfl⟩:∃u:Int,([1,2,4,8,16,32,64,128]:List Int)[i]?=some u/\(0 < u/\u<=128)/\z=.int u:=by
    rw[List.getElem?_map] at hz
    cases e:([1,2,4,8,16,32,64,128]:List Int)[i]? with
    | none=>rw[e] at hz;cases hz
    | some u=>
     rw[e] at hz
     refine⟨u,rfl,?_,(Option.some.inj hz).symm⟩
     have:=List.mem_of_getElem? e
     simp at this
     omega
   walk_at "rd"
   have hs:=tw x y hu
   refine⟨hu0.1,by omega,hu0.1,by omega,?_⟩
   refine ite2 (λh=>?_) (λh=>?_)
   ·rw[hs,if_pos h]
   ·rw[hs,if_neg h]
  ·rintro σ H' ⟨rfl,v,rfl⟩
   walk_at "rd"
   exact q _ (Same.upd hp)
theorem uy (T:Txt w K mg a):FnOk P w K mg base CX0 2 a.f_l_spread a.d_l_spread ["_law_key"] vc:=by
 refine T.ix.F.ok dZ (λvs H Q E h=>?_) (λcdv A outer s H vs Q E hr h=>?_)
 ·obtain⟨l,rfl,_⟩:=h
  rfl
 ·obtain⟨l,rfl,q⟩:=h
  refine⟨_,(ag (av (i:=1) dZ.nd rfl (Or.inl rfl) ah)
   (ag (bS PassesOwn.never rfl (aW (K:=K) (pv 0)) (aN (i:=2) dZ.nd rfl (Or.inl rfl)) (ai (av (i:=1) dZ.nd rfl (Or.inl rfl) (ax bg (ax (ay (K:=K)) (ax hV ah (pv 1)) (aw jv (by rfl) T.w4 boot_ord (aa (pv 2) ae))) ah))))
   (ag (av (i:=3) dZ.nd rfl (Or.inl rfl) (ax qM (pv 1) ah))
   (ai (ar (ax (ay (K:=K)) (ax hV ah (pv 3)) (ak (pI T) (hr.mono (by decide)) rfl T.dQ.m T.dQ.F.kp T.dQ.b .nil pass0 (aa (ax bg (pv 1) ah) (aa (pv 3) ae))))))))),?_⟩
  walk_at "rd"
  refine n5 (λi σ H'=>H'=H/\∃v,σ=[some (.str (S l)),some (.int (K02.foldN (l.take i))),v,none]) ⟨rfl,none,rfl⟩ ?_ ?_
  ·rintro i c σ H' hc ⟨rfl,v,rfl⟩
   walk_at "rd"
   rw[va hc]
  ·rintro σ H' ⟨rfl,v,rfl⟩
   walk_at "rd"
   have e:l.take (S l).cps.size=l:=by simp
   rw[e]
   exact q
theorem zq (T:Txt w K mg a):FnOk P w K mg base CX0 2 a.f_l_word a.d_l_word ["_law_cell"] yM:=by
 refine T.lF.F.ok jD (λvs H Q E h=>?_) (λcdv A outer s H vs Q E hr h=>?_)
 ·obtain⟨c,rfl,_⟩:=h
  rfl
 ·obtain⟨c,rfl,q⟩:=h
  refine⟨_,(ag (av (i:=1) jD.nd rfl (Or.inl rfl) (ax bg (ak (aP T) (hr.mono (by decide)) rfl T.ao.m T.ao.F.kp T.ao.b .nil pass0 (aa (pv 0) (aa ah ae))) ah))
   (ag (aS (aM lR (pv 1) ah (nomark _)) (ai (ar qK)) aD)
   (ag (av (i:=2) jD.nd rfl (Or.inl rfl) (ax bg (ak (aP T) (hr.mono (by decide)) rfl T.ao.m T.ao.F.kp T.ao.b .nil pass0 (aa (pv 0) (aa ah ae))) ah))
   (ag (aS (aM (gk (K:=K) (hU hr)) (pv 1) ah (nomark _)) (ai (av (i:=2) jD.nd rfl (Or.inl rfl) (ax (ay (K:=K)) ah (pv 2)))) aD)
   (ai (ar (cn (K:=K) PySem.F.plainAttrs_str PySem.F.slot_str_join PySem.F.type_str_join (iS (K:=K)) aK (aa (bL ["_law_cell","_law_way","_law_size"] ["_law_cell","_law_way","_law_size"] (defScope pe) (by exact⟨rfl,s!"d",s!"d",s!"d",s!"d",s!"d",s!"d",s!"d",s!"d"⟩) (dz rfl T.dR (aa (pv 2) ae)) (λC₁ s₁ H₁ f₁=>(ak (mH T) (hr.mono (by decide)) rfl T.cN.m T.cN.F.kp T.cN.b .nil pass0 (aa (ak (aP T) (hr.mono (by decide)) rfl T.ao.m T.ao.F.kp T.ao.b .nil pass0 (aa (pv 1) (aa (ax (ay (K:=K)) ah (pv 0)) ae))) (aa ah ae))))) ae)))))))),?_⟩
  walk_at "rd"
  refine ite2 (λ_=>q H none (Same.refl _) rfl (λw hw=>by cases hw)) (λ_=>ite2 (λ_=>⟨by omega,by omega,word71 (c:=c) (by omega) q λi H' Qe qe=>?_⟩) (λ_=>⟨by omega,by omega,word71 (c:=c) (by omega) q λi H' Qe qe=>?_⟩))
  ·walk_at "rd"
   exact qe
  ·walk_at "rd"
   exact qe
theorem rY (T:Txt w K mg a):FnOk P w K mg base CX0 3 a.f_l_shelves a.d_l_shelves ["_law_cell"] rK:=by
 refine T.fV.F.ok d7 (λvs H Q E h=>?_) (λcdv A outer s H vs Q E hr h=>?_)
 ·obtain⟨c,rfl,_⟩:=h
  rfl
 ·obtain⟨c,rfl,q⟩:=h
  refine⟨_,(ag (av (i:=1) d7.nd rfl (Or.inl rfl) (aU ae))
   (ag (bS PassesOwn.never rfl (hJ rfl T.fX (aa (ak (kF T) (hr.mono (by decide)) rfl T.cf.m T.cf.F.kp T.cf.b .nil pass0 (aa (pv 0) (aa (ax (ay (K:=K)) ah (ax bg (ak (aP T) (hr.mono (by decide)) rfl T.ao.m T.ao.F.kp T.ao.b .nil pass0 (aa (pv 0) (aa ah ae))) ah)) ae))) ae)) (hG (K:=K) (n:=2) rfl (bj (aN (i:=2) d7.nd rfl (Or.inl rfl)) (bj (aN (i:=3) d7.nd rfl (Or.inl rfl)) gS))) (ai (aH (cn (K:=K) PySem.F.plainAttrs_list PySem.F.slot_list_append PySem.F.type_list_append b9 (pv 1) (aa (bC (aa (pv 3) (aa (ax (ay (K:=K)) ah (ax bg (ak (aP T) (hr.mono (by decide)) rfl T.ao.m T.ao.F.kp T.ao.b .nil pass0 (aa (pv 0) (aa (ax (ay (K:=K)) ah (pv 2)) ae))) ah)) (aa (aB (aq (K:=K) (hU1 hr)) (aU (aa aK (aa aK ae))) (ax bg (ak (aP T) (hr.mono (by decide)) rfl T.ao.m T.ao.F.kp T.ao.b .nil pass0 (aa (pv 0) (aa (ax (ay (K:=K)) ah (pv 2)) ae))) ah) (λ_ _=>rfl)) ae)))) ae)))))
   (ai (ar (pv 1))))),?_⟩
  walk_at "rd"
  obtain⟨m,hm⟩:∃m:Nat,1+mixN c 1 % 3=m:=⟨(1+mixN c 1 % 3).toNat,by omega⟩
  have hm5:n71 c=m:=by unfold n71;omega
  refine⟨by decide,λp hp=>⟨m,hm,by omega,by omega,λD H1 hD s1 h1=>⟨⟨_,.inl (.inl h1)⟩,?_⟩⟩⟩
  have a1:=s1 _ _ (show upd H p (.lst []) p=some (.lst []) from af)
  have s01:Same H H1:=(Same.upd hp).trans s1
  have nDp:D≠p:=λz=>by rw[z,af] at hD;cases hD
  have hD0:H D=none:=aY (Same.upd hp) hD
  refine lW (xs:=(names5 c m).map λl=>V.str (S l)) (λi σ H'=>(Chg [p] H1 H'/\∃ts,H' p=some (.lst (ts.map V.ref))/\TupsAt H' ts (((List.range i).map (shf71 c)).map Shf.v))/\∃v3 v4,σ=[some (V.int c),some (V.ref p),v3,v4]) ⟨⟨Chg.refl _,[],a1,.nil⟩,none,none,rfl⟩ (λi σ H' _ ⟨⟨c',_⟩,_⟩=>.inl (.inl (c'.keep _ _ h1 (n1 nDp)))) ?_ ?_
  ·rintro i x Tp σ H' hx hT ⟨⟨c',ts,hts,htt⟩,v3,v4,rfl⟩
   rw[List.getElem?_map] at hx
   obtain⟨nm,hnm,rfl⟩:=Option.map_eq_some_iff.mp hx
   have him:i < m:=by
    have:=(List.getElem?_eq_some_iff.mp hnm).1
    unfold names5 at this
    simpa using this
   rw[vd c m i him] at hnm
   cases hnm
   have sT:Same H' (upd H' Tp (.tup [.int (i:Nat),.str (S (nm5 c i))])):=Same.upd hT
   have aT:upd H' Tp (.tup [.int (i:Nat),.str (S (nm5 c i))]) Tp=some (.tup [.int (i:Nat),.str (S (nm5 c i))]):=af
   generalize upd H' Tp (.tup [.int (i:Nat),.str (S (nm5 c i))])=H2 at sT aT ⊢
   refine⟨Tp,_,rfl,.inl (.inl aT),rfl,?_⟩
   walk_at "rd"
   refine⟨.inl ⟨_,.inl (.inl (sT _ _ hts))⟩,by decide,λq1 hq1=>?_⟩
   have s3:Same H2 (upd H2 q1 (.lst [V.str (Str.ofString "table"),V.str (Str.ofString "stream")])):=Same.upd hq1
   have a3:upd H2 q1 (.lst [V.str (Str.ofString "table"),V.str (Str.ofString "stream")]) q1=some (.lst [V.str (Str.ofString "table"),V.str (Str.ofString "stream")]):=af
   generalize upd H2 q1 (.lst [V.str (Str.ofString "table"),V.str (Str.ofString "stream")])=H3 at s3 a3 ⊢
   have ek:atI [V.str (Str.ofString "table"),V.str (Str.ofString "stream")] (mixN c (5+(i:Int)) % 2)=some (.str (shf71 c i).kind):=by
    rcases(show mixN c (5+(i:Int)) % 2=0\/mixN c (5+(i:Int)) % 2=1 by omega) with e | e
    ·rw[e,show(shf71 c i).kind=kTab by show(if mixN c (5+(i:Int)) % 2=0 then kTab else kStr)=kTab;rw[if_pos e]];rfl
    ·rw[e,show(shf71 c i).kind=kStr by show(if mixN c (5+(i:Int)) % 2=0 then kTab else kStr)=kStr;rw[if_neg (by omega)]];rfl
   refine bw (.inl (.inl a3)) ek ?_
   have s13:=sT.trans s3
   have hts3:=s13 _ _ hts
   have htt3:=htt.chg (A:=[]) (Chg.of_same s13)
   have er:(1:Int)+mixN c (2+(i:Int)) % 4=((shf71 c i).rows:Nat):=by show _=(((1+mixN c (2+(i:Int)) % 4).toNat:Nat):Int);omega
   rw[er]
   refine⟨by decide,λt ht=>?_⟩
   obtain⟨z1,z2,ts',z3,z4⟩:=qk (r:=(shf71 c i).v) (c'.trans (Chg.of_same s13)) hts3 htt3 ht
   have tl:=htt.length
   rw[List.length_map,List.length_map,List.length_range] at tl
   refine⟨_,z1,by rw[List.length_map,tl];exact Nat.lt_of_lt_of_le (show i < 37 by omega) (by decide),z2,ts',z3,?_⟩
   rw[List.range_succ,List.map_append,List.map_append]
   exact z4
  ·rintro σ H' ⟨⟨c',ts,hts,htt⟩,v3,v4,rfl⟩
   rw[List.length_map,show(names5 c m).length=m by unfold names5;simp] at htt
   walk_at "rd"
   refine q p H' hp (λb o hb=>c'.keep _ _ (s01 _ _ hb) (n1 (az hb hp))) ⟨ts,hts,?_⟩
   unfold xs71
   rw[hm5]
   exact htt
theorem A7 (T:Txt w K mg a):FnOk P w K mg base CX0 9 a.f_l_put a.d_l_put ["_law_cellar","_law_sender","_law_number","_law_letter_here"] (yL (kk5 a)):=by
 refine T.nM.F.ok AU (λvs H Q E h=>?_) (λcdv A outer s H vs Q E hr h=>?_)
 ·obtain⟨A,Z,M,n,shf,key,wo,num,lt,rfl,_⟩:=h
  rfl
 ·obtain⟨A0,Z,M,n,shf,key,wo,num,lt,rfl,hlt,hC,hP,hq⟩:=h
  refine⟨_,(ag (aS (nP (uz (aB (aq (K:=K) (hU1 hr)) (pv 3) ah (λ_ _=>rfl)))) (ai (ar (aF (pv 0) T.aG T.d9 (dS T) (hr.mono (by decide)) T.pN T.pO passv0 (aa (pv 1) (aa ah (aa (pv 2) (aa (aB (aq (K:=K) (hU1 hr)) (pv 3) ah (λ_ _=>rfl)) (aa (aB (aq (K:=K) (hU1 hr)) (pv 3) ah (λ_ _=>rfl)) ae)))))))) aD)
   (ai (ar (aF (pv 0) T.aG T.d9 (dS T) (hr.mono (by decide)) T.gy T.gz passv0 (aa (pv 1) (aa ah (aa (pv 2) (aa (aB (aq (K:=K) (hU1 hr)) (pv 3) ah (λ_ _=>rfl)) (aa (aB (aq (K:=K) (hU1 hr)) (pv 3) ah (λ_ _=>rfl)) (aa (aB (aq (K:=K) (hU1 hr)) (pv 3) ah (λ_ _=>rfl)) ae)))))))))),?_⟩
  have l1:SqT K H lt [.str (S shf),.str (S key),wV wo]:=.inl (.inl hlt)
  walk_at "rd"
  obtain⟨dxc,hce⟩:=hC.cel
  refine aQ l1 rfl ?_
  cases wo with
  | none=>
   rw[if_pos (show wV none=V.non from rfl)]
   exact⟨dxc,_,hce,rfl,aQ l1 rfl (aQ l1 rfl ⟨A0,Z,M,n,shf,key,none,num,rfl,hC,hP,.inr (.inr hq)⟩)⟩
  | some w0=>
   rw[if_neg (show ¬wV (some w0)=V.non from λz=>by cases z)]
   exact⟨dxc,_,hce,rfl,aQ l1 rfl (aQ l1 rfl (aQ l1 rfl ⟨A0,Z,M,n,shf,key,some w0,num,rfl,hC,hP,.inr (.inr hq)⟩))⟩
theorem zr (T:Txt w K mg a):FnOk P w K mg base CX0 2 a.f_l_spot a.d_l_spot ["_law_found","_law_row","_law_place"] yN:=by
 refine T.lG.F.ok yV (λvs H Q E h=>?_) (λcdv A outer s H vs Q E hr h=>?_)
 ·obtain⟨u,i,j,r,p,rfl,_⟩:=h
  rfl
 ·obtain⟨u,i,j,r,p,rfl,hu,q⟩:=h
  refine⟨_,(ag (aS (PW.pt (mM (ck (aR (K:=K) (aw (aJ (K:=K)) (by rfl) T.a9 boot_isinstance (aa (pv 0) (aa (cZ (v:=.ty "tuple") rfl T.rR boot_tuple rfl) ae))) (by intro _;rfl))) (iM (aM (dB (K:=K) (hU hr)) (aw (aO (K:=K)) (by rfl) T.cF boot_len (aa (pv 0) ae)) ah (nomark _))))) (ai (ar d6)) aD)
   (ai (ar (dy (ak (iA T) (hr.mono (by decide)) rfl T.bt.m T.bt.F.kp T.bt.b .nil pass0 (aa (aB (aq (K:=K) (hU1 hr)) (pv 0) ah (λ_ _=>rfl)) (aa (pv 1) ae))) (fZ (ak (iA T) (hr.mono (by decide)) rfl T.bt.m T.bt.F.kp T.bt.b .nil pass0 (aa (aB (aq (K:=K) (hU1 hr)) (pv 0) ah (λ_ _=>rfl)) (aa (pv 2) ae)))))))),?_⟩
  walk_at "rd"
  have hT:SqT K H u [.int i,.int j]:=.inl (.inl hu)
  rw[gj hu]
  walk_at "rd"
  refine Ab hT ?_
  walk_at "rd"
  refine aQ hT rfl ⟨i,rfl,ite2 (λe=>aQ hT rfl ⟨j,rfl,?_⟩) (λe=>?_)⟩
  ·rw[decide_eq_true e,Bool.true_and] at q
   exact q
  ·rw[decide_eq_false e,Bool.false_and] at q
   exact q
theorem mK (T:Txt w K mg a):FnOk P w K mg base CX0 2 a.f_l_page a.d_l_page ["_law_found","_law_due"] yO:=by
 refine T.cO.F.ok qF (λvs H Q E h=>?_) (λcdv A outer s H vs Q E hr h=>?_)
 ·obtain⟨D1,D2,f,x,y,rfl,_⟩:=h
  rfl
 ·obtain⟨D1,D2,f,x,y,rfl,h1,h2,ho,hl,q⟩:=h
  refine⟨_,(ag (aS (PW.pt (mM (ck (aR (K:=K) (aw (aJ (K:=K)) (by rfl) T.a9 boot_isinstance (aa (pv 0) (aa (cZ (v:=.ty "list") rfl T.gA boot_list rfl) ae))) (by intro _;rfl))) (iM (aM (dB (K:=K) (hU hr)) (pv 0) (pv 1) (nomark _))))) (ai (ar d6)) aD)
   (ag (bS PassesOwn.never rfl (aW (K:=K) (pv 0)) (aN (i:=2) qF.nd rfl (Or.inl rfl)) (ai (aS (PW.pt (mM (ck (aR (K:=K) (aw (aJ (K:=K)) (by rfl) T.a9 boot_isinstance (aa (pv 2) (aa (cZ (v:=.ty "tuple") rfl T.rR boot_tuple rfl) ae))) (by intro _;rfl))) (iM (ck (aR (K:=K) (ak (iA T) (hr.mono (by decide)) rfl T.bt.m T.bt.F.kp T.bt.b .nil pass0 (aa (aB (aq (K:=K) (hU1 hr)) (pv 2) ah (λ_ _=>rfl)) (aa (aB (aq (K:=K) (hU1 hr)) (pv 2) ah (λ_ _=>rfl)) ae))) (by intro _;rfl)))))) (ai (ar d6)) aD)))
   (ai (ar d6)))),?_⟩
  obtain⟨ts,e1,t1⟩:=id h1
  have sub:∀r∈((l71 f).drop x).take y,r∈l71 f:=λr hr=>List.mem_of_mem_drop (List.mem_of_mem_take hr)
  walk_at "rd"
  rw[kL e1]
  walk_at "rd"
  refine lZ (h1.den λr hr=>tZ f r (sub r hr)) (h2.den λr hr=>tZ f r (sub r hr)) (BP λr hr=>Ee ho r (sub r hr)) rfl ?_
  walk_at "rd"
  refine cv (.inl (.inl e1)) (dA (xs:=ts.map V.ref) (λi σ H'=>H'=H/\∃v,σ=[some (V.ref D1),some (V.ref D2),v]) ⟨rfl,none,rfl⟩ (λi σ H' _ h=>by rw[h.1];exact .inl (.inl e1)) ?_ ?_)
  ·rintro i v0 σ H' hx ⟨rfl,v,rfl⟩
   rw[List.getElem?_map] at hx
   obtain⟨t,hti,rfl⟩:=Option.map_eq_some_iff.mp hx
   obtain⟨xs,hxs,ht⟩:=t1.get hti
   have hm:=sub xs (List.mem_of_getElem? hxs)
   unfold l71 at hm
   obtain⟨j,_,rfl⟩:=List.mem_map.mp hm
   have hT:SqT K H' t [.int (j:Int),.str (S (f.getD j ([],none)).1),wV (f.getD j ([],none)).2]:=.inl (.inl ht)
   walk_at "rd"
   rw[gj ht]
   walk_at "rd"
   refine aQ (v:=.int (j:Int)) hT rfl ?_
   walk_at "rd"
   refine aQ (v:=.int (j:Int)) hT rfl ⟨_,rfl,?_⟩
   rw[if_neg (by simp)]
  ·rintro σ H' ⟨rfl,v,rfl⟩
   walk_at "rd"
   exact q _ (Same.refl _)
theorem lM (T:Txt w K mg a):FnOk P w K mg base CX0 9 a.f_l_nothing a.d_l_nothing ["_law_cellar","_law_shelf","_law_sender","_law_row"] (rJ (kk5 a)):=by
 refine T.cC.F.ok bW (λvs H Q E h=>?_) (λcdv A outer s H vs Q E hr h=>?_)
 ·obtain⟨A,Z,M,shf,n,z,r,rfl,_⟩:=h
  rfl
 ·obtain⟨A0,Z,M,shf,n,z,r,rfl,hC,hn,hs,hr1,hr2,hz,q⟩:=h
  refine⟨_,(ag (av (i:=4) bW.nd rfl (Or.inl rfl) qK)
   (ag (av (i:=5) bW.nd rfl (Or.inl rfl) qK)
   (ag (Ao (ai (aH (aF (pv 0) T.aG T.d9 (dS T) (hr.mono (by decide)) T.gy T.gz passv0 (aa (pv 2) (aa ah (aa ah (aa (pv 1) (aa aK (aa aK ae)))))))))
   (wI (wH (wG (pv 0) T.aG T.d9 (dS T) (hr.mono (by decide)) T.gy T.gz (aa (pv 2) (aa ah (aa ah (aa (pv 1) (aa aK (aa aK ae)))))))))
   (CU (i:=6) rfl T.gM bW.nd rfl rfl (λea=>(ai (av (i:=4) bW.nd rfl (Or.inl rfl) (tf (K:=K) (pv 6) rfl))))
   An))
   (ag (Ao (ai (aH (aF (pv 0) T.aG T.cM (cD T) (hr.mono (by decide)) T.fc T.fe passv0 (aa (pv 3) (aa ah ae)))))
   (wI (wH (wG (pv 0) T.aG T.cM (cD T) (hr.mono (by decide)) T.fc T.fe (aa (pv 3) (aa ah ae)))))
   (CU (i:=6) rfl T.gM bW.nd rfl rfl (λea=>(ai (av (i:=5) bW.nd rfl (Or.inl rfl) (tf (K:=K) (pv 6) rfl))))
   An))
   (ai (ar (aU (aa (pv 4) (aa (pv 5) ae))))))))),?_⟩
  refine cut3 λRz hRz=>?_
  walk_at "rd"
  rw[show Str.ofString "a"=S [97] by decide +kernel,show Str.ofString "b"=S [98] by decide +kernel]
  obtain⟨dxc,hce⟩:=hC.cel
  have hP:Put71 n shf [97] (some [98]) 1:=⟨hn,hs,by unfold keyOk;decide +kernel,mU (by decide) (by decide),λw hw=>by cases hw;decide,by decide⟩
  right
  refine⟨XG H a.C_NoSuch [("name",.str (S z))],⟨dxc,_,hce,rfl,A0,Z,M,n,shf,[97],some [98],1,rfl,hC,hP,?_⟩,λC dx H1 ea g he=>?_⟩
  ·rcases hz with⟨h1,rfl⟩ | ⟨h1,h2,rfl⟩
   ·exact .inl ⟨h1,Ap⟩
   ·exact .inr (.inl ⟨h1,h2,Ap⟩)
  obtain⟨hc,sm,hX,_⟩:=g
  rcases hX with⟨_,h0⟩ | ⟨d,rfl,ed⟩
  ·cases h0
  cases hc
  have nd:d≠ea:=λz=>by rw[z,he] at ed;cases ed
  have s1:=sm.trans (Same.upd (o:=xh ea a.C_NoSuch (some d)) he)
  have e1:upd H1 ea (xh ea a.C_NoSuch (some d)) d=_:=(aj nd).trans ed
  have e2:upd H1 ea (xh ea a.C_NoSuch (some d)) ea=_:=af
  generalize upd H1 ea (xh ea a.C_NoSuch (some d))=H2 at s1 e1 e2 ⊢
  have C2:=hC.same s1
  obtain⟨dx2,hce2⟩:=C2.cel
  refine⟨T.gQ,_,d,e2,_,e1,T.gP,T.fk,_,rfl,?_⟩
  walk_at "nx"
  refine .inr ⟨XG H2 a.C_NoSuch [("name",.int (r:Int))],⟨dx2,_,hce2,rfl,A0,Z,M,r,0,10,rfl,C2,by decide,by decide,by decide,.inr ⟨hr1,by omega,Ap⟩⟩,λC dx H3 eb g he3=>?_⟩
  obtain⟨hc,sm3,hX,_⟩:=g
  rcases hX with⟨_,h0⟩ | ⟨d3,rfl,ed3⟩
  ·cases h0
  cases hc
  have nd3:d3≠eb:=λz=>by rw[z,he3] at ed3;cases ed3
  have s3:=s1.trans (sm3.trans (Same.upd (o:=xh eb a.C_NoSuch (some d3)) he3))
  refine⟨T.gQ,_,d3,af,_,(aj nd3).trans ed3,T.gP,T.fk,_,rfl,?_⟩
  walk_at "ls"
  exact⟨by decide,λp hp=>q p _ (aY s3 hp) (s3.trans (Same.upd hp)) af⟩
theorem we (T:Txt w K mg a):FnOk P w K mg base CX0 9 a.f_l_pages a.d_l_pages ["_law_cellar","_law_row","_law_letters","_law_most"] (vB (kk5 a)):=by
 refine T.jL.F.ok kq (λvs H Q E h=>?_) (λcdv A outer s H vs Q E hr h=>?_)
 ·obtain⟨A,Z,M,r,p,i,most,f,rfl,_⟩:=h
  rfl
 ·obtain⟨A0,Z,M,r,p,i,most,f,rfl,hC,hp,hm,ho,hl,h1,h2,q⟩:=h
  refine⟨_,(ag (aS (PW.pt (mM (ck (aR (K:=K) (ak (mK T) (hr.mono (by decide)) rfl T.cO.m T.cO.F.kp T.cO.b .nil pass0 (aa (aF (pv 0) T.aG T.cM (cD T) (hr.mono (by decide)) T.fc T.fe passv0 (aa (pv 1) (aa ah ae))) (aa (iP (kM (K:=K)) (pv 2) qR (gX ah)) ae))) (by intro _;rfl))) (iM (ck (aR (K:=K) (ak (iA T) (hr.mono (by decide)) rfl T.bt.m T.bt.F.kp T.bt.b .nil pass0 (aa (aF (pv 0) T.aG T.dv.m (kE T) (hr.mono (by decide)) T.dv.b .nil passv0 (aa (pv 1) ae)) (aa (aw (aO (K:=K)) (by rfl) T.cF boot_len (aa (pv 2) ae)) ae))) (by intro _;rfl)))))) (ai (ar d6)) aD)
   (ag (bS PassesOwn.never rfl (yH rfl T.dR (aa ah (aa (ax (ay (K:=K)) (aw (aO (K:=K)) (by rfl) T.cF boot_len (aa (pv 2) ae)) ah) (aa (pv 3) ae)))) (aN (i:=4) kq.nd rfl (Or.inl rfl)) (ag (av (i:=5) kq.nd rfl (Or.inl rfl) (aF (pv 0) T.aG T.cM (cD T) (hr.mono (by decide)) T.jh T.ji passv0 (aa (pv 1) (aa (pv 4) (aa (pv 3) ae)))))
   (ag (aS (ck (aR (K:=K) (ak (mK T) (hr.mono (by decide)) rfl T.cO.m T.cO.F.kp T.cO.b .nil pass0 (aa (pv 5) (aa (iP (kM (K:=K)) (pv 2) (gX (pv 4)) (gX (ax (ay (K:=K)) (pv 4) (pv 3)))) ae))) (by intro _;rfl))) (ai (ar d6)) aD)
   (ai (aH (cn (K:=K) PySem.F.plainAttrs_list PySem.F.slot_list_append PySem.F.type_list_append b9 (pv 5) (aa (bC (aa ah (aa aK (aa aK ae)))) ae)))))))
   (ai (ar (ak (mK T) (hr.mono (by decide)) rfl T.cO.m T.cO.F.kp T.cO.b .nil pass0 (aa (aF (pv 0) T.aG T.cM (cD T) (hr.mono (by decide)) T.jh T.ji passv0 (aa (pv 1) (aa (ax (ay (K:=K)) (aw (aO (K:=K)) (by rfl) T.cF boot_len (aa (pv 2) ae)) ah) (aa (pv 3) ae)))) (aa (aU ae) ae))))))),?_⟩
  walk_at "c1"
  obtain⟨dxc,hce⟩:=hC.cel
  obtain⟨ts,ep,tp⟩:=id hp
  have htl:(ts.map V.ref).length=f.length:=by rw[List.length_map,tp.length,k4]
  have ml:(rw71 f).last<=100000:=by show(f.length:Int)<=100000;omega
  refine⟨dxc,_,hce,rfl,A0,Z,M,i,0,10,rfl,hC,by decide,by decide,by decide,.inl ⟨_,hm,ml,Int.le_refl _,λD1 H1 hD1 s1 hL1=>?_⟩⟩
  rw[seen71] at hL1
  refine n6 (.inl (.inl (s1 _ _ ep))) λsl hsl=>?_
  rw[show(some (10:Int))=some ((10:Nat):Int) from rfl,sV]
  have s2:=Same.upd (o:=.lst ((ts.map V.ref).take 10)) hsl
  refine⟨D1,rfl,sl,rfl,f,0,10,hL1.same s2,LTups.cut 0 10 (tp.chg (A:=[]) (Chg.of_same (s1.trans s2))) af,ho,hl,λH3 s3=>?_⟩
  have s03:=s1.trans (s2.trans s3)
  have C3:=hC.same s03
  obtain⟨dx3,hce3⟩:=C3.cel
  refine⟨dx3,_,hce3,rfl,A0,rfl,Z,M,i,rfl,C3,_,hm,λH4 s4=>cm (.inl (.inl ((s03.trans s4) _ _ ep))) ⟨_,rfl,?_⟩⟩
  have s04:=s03.trans s4
  rw[htl,if_neg (by simp[rw71])]
  walk_at "nx"
  refine cm (.inl (.inl (s04 _ _ ep))) ?_
  rw[htl]
  walk_at "rd"
  refine⟨by omega,by omega,by omega,by omega,tY (λk σ H'=>Same H H'/\∃v4 v5,σ=[some (V.ref A0.c),some (V.int (i:Int)),some (V.ref p),some (V.int (most:Int)),v4,v5]) ⟨s04,none,none,rfl⟩ ?_ ?_⟩
  ·rintro k σ H5 hk ⟨s05,v4,v5,rfl⟩
   have hin:=Ce (by omega) (by omega) hk
   obtain⟨st,hst⟩:∃st:Nat,0+(k:Int) * (most:Int)=(st:Int):=⟨k * most,by simp⟩
   rw[hst]
   refine cut1 λRy hRy=>?_
   walk_at "rd"
   have C5:=hC.same s05
   obtain⟨dx5,hce5⟩:=C5.cel
   refine⟨dx5,_,hce5,rfl,A0,Z,M,i,st,most,rfl,C5,by omega,h1,by omega,.inl ⟨_,hm,ml,by show(0:Int)<=st;omega,λD2 H6 hD2 s6 hL6=>?_⟩⟩
   rw[seen71] at hL6
   have s06:=s05.trans s6
   rw[hRy]
   clear hRy
   refine cut1 λRy hRy=>?_
   walk_at "rd"
   refine n6 (.inl (.inl (s06 _ _ ep))) λsl hsl=>?_
   rw[show(some ((st:Int)+(most:Int)))=some ((st+most:Nat):Int) by rw[Int.natCast_add],sW]
   have s7:=Same.upd (o:=.lst (((ts.map V.ref).drop st).take most)) hsl
   obtain⟨ts6,e6,t6⟩:=id hL6
   have tl6:ts6.length<=100:=by
    rw[t6.length,List.length_take,List.length_drop,k4]
    omega
   refine⟨sl,rfl,f,st,most,hL6.same s7,LTups.cut st most (tp.chg (A:=[]) (Chg.of_same (s06.trans s7))) af,ho,hl,λH8 s8=>?_⟩
   have e8:=(s7.trans s8) _ _ e6
   rw[hRy]
   clear hRy
   walk_at "rd"
   refine⟨.inl ⟨_,.inl (.inl e8)⟩,by decide,λpt hpt=>⟨_,(aj (λz=>by rw[z,hpt] at e8;cases e8)).trans e8,Nat.lt_of_le_of_lt (show(ts6.map V.ref).length<=100 by rw[List.length_map];exact tl6) (by decide),?_⟩⟩
   exact Same.wr ((s06.trans (s7.trans s8)).trans (Same.upd hpt)) (aY s05 hD2)
  ·rintro σ H5 ⟨s05,v4,v5,rfl⟩
   show Rz { nx:=λx H'=>Q V.non H',rt:=Q } _ _
   walk_at "ls"
   have C5:=hC.same s05
   obtain⟨dx5,hce5⟩:=C5.cel
   refine⟨dx5,_,hce5,rfl,cm (.inl (.inl (s05 _ _ ep))) ?_⟩
   rw[htl]
   walk_at "rd"
   refine⟨A0,Z,M,i,f.length+7,most,rfl,C5,by omega,h1,by omega,.inl ⟨_,hm,ml,by show(0:Int)<=((f.length+7:Nat):Int);omega,λD2 H6 hD2 s6 hL6=>⟨by decide,λp6 hp6=>?_⟩⟩⟩
   rw[seen71] at hL6
   have en:((l71 f).drop (f.length+7)).take most=[]:=by rw[List.drop_eq_nil_of_le (by rw[k4];omega),List.take_nil]
   have s7:=Same.upd (o:=.lst []) hp6
   exact⟨D2,rfl,f,f.length+7,most,hL6.same s7,by rw[en];exact⟨[],af,.nil⟩,ho,hl,λH7 s8=>q H7 (s05.trans (s6.trans (s7.trans s8)))⟩
local macro_rules | `(tactic| walk_at "rd")=>rdM "tM mv oF yA tP yK AM AN yJ"
theorem En (T:Txt w K mg a):FnOk P w K mg base CX0 11 a.f_law a.d_law ["_law_script"] (uQ K):=by
 refine T.CZ.F.ok bI (λvs H Q E h=>?_) (λcdv A outer s H vs Q E hr h=>?_)
 ·obtain⟨p,ns,rfl,_⟩:=h
  rfl
 ·obtain⟨p,ns,rfl,hS,hlen,q⟩:=h
  refine⟨_,(ag (av (i:=1) bI.nd rfl (Or.inl rfl) (ak (iz T) (hr.mono (by decide)) rfl T.bq.m T.bq.F.kp T.bq.b .nil pass0 (aa (pv 0) (aa ah ae))))
   (ag (av (i:=2) bI.nd rfl (Or.inl rfl) (ak (rY T) (hr.mono (by decide)) rfl T.fV.m T.fV.F.kp T.fV.b .nil pass0 (aa (pv 1) ae)))
   (ag (av (i:=3) bI.nd rfl (Or.inl rfl) (qP T.AX (kD T) (hr.mono (by decide)) rfl T.yW T.fU.b .nil pass0 (aa (bD (cR (K:=K)) rfl T.gA boot_list (aa (pv 2) ae)) ae)))
   (ag (av (i:=4) bI.nd rfl (Or.inl rfl) (ak (kF T) (hr.mono (by decide)) rfl T.cf.m T.cf.F.kp T.cf.b .nil pass0 (aa (ak (iz T) (hr.mono (by decide)) rfl T.bq.m T.bq.F.kp T.bq.b .nil pass0 (aa (pv 0) (aa ah ae))) (aa ah ae))))
   (ag (aS (PW.pt (mM (aM (dB (K:=K) (hU hr)) (aF (pv 3) T.aG T.cL.m (jn T) (hr.mono (by decide)) T.cL.b .nil pass0 (aa (aB (aq (K:=K) (hU1 hr)) (pv 4) ah (λ_ _=>rfl)) ae)) (bC (aa ah (aa ah ae))) (nomark _)) (iM (aM (dB (K:=K) (hU hr)) (aF (pv 3) T.aG T.cL.m (jn T) (hr.mono (by decide)) T.cL.b .nil pass0 (aa (aB (aq (K:=K) (hU1 hr)) (pv 4) ah (λ_ _=>rfl)) ae)) (bC (aa ah (aa ah ae))) (nomark _))))) (ai (ar d6)) aD)
   (ag (av (i:=5) bI.nd rfl (Or.inl rfl) (ak (zp T) (hr.mono (by decide)) rfl T.lE.m T.lE.F.kp T.lE.b .nil pass0 (aa (ak (iz T) (hr.mono (by decide)) rfl T.bq.m T.bq.F.kp T.bq.b .nil pass0 (aa (pv 0) (aa ah ae))) (aa ah ae))))
   (ag (rf (i:=6) ["_law_script","_law_cell","_law_shelves_here","_law_cellar","_law_senders","_law_keys_here","_law_rows","_law_numbers","_law_each","_law_at","_law_shelf","_law_key","_law_word_here","_law_ahead","_law_row","_law_letter_here","_law_found","_law_letters","_law_last"] ["_law_script","_law_cell","_law_shelves_here","_law_cellar","_law_senders","_law_keys_here","_law_rows","_law_numbers","_law_each","_law_at","_law_shelf","_law_key","_law_word_here","_law_ahead","_law_row","_law_letter_here","_law_found","_law_letters","_law_last"] (defScope um) (by exact⟨rfl,s!"d",s!"d",s!"d",s!"d",s!"d",s!"d",s!"d",s!"d"⟩) (dz rfl T.dR (aa (aw (lS (K:=K)) (by rfl) T.A6 boot_sum (aa (bL ["_law_script","_law_cell","_law_shelves_here","_law_cellar","_law_senders","_law_keys_here","_law_rows","_law_numbers","_law_each","_law_at","_law_shelf","_law_key","_law_word_here","_law_ahead","_law_row","_law_letter_here","_law_found","_law_letters","_law_last"] ["_law_script","_law_cell","_law_shelves_here","_law_cellar","_law_senders","_law_keys_here","_law_rows","_law_numbers","_law_each","_law_at","_law_shelf","_law_key","_law_word_here","_law_ahead","_law_row","_law_letter_here","_law_found","_law_letters","_law_last"] (defScope um) (by exact⟨rfl,s!"d",s!"d",s!"d",s!"d",s!"d",s!"d",s!"d",s!"d"⟩) (aW (K:=K) (pv 2)) (λC₁ s₁ H₁ f₁=>(aB (aq (K:=K) (hU1 hr)) (pv 0) ah (λ_ _=>rfl)))) ae)) ae)) (λC₁ s₁ H₁ f₁=>(aU ae)) bI.nd)
   (ag (av (i:=7) bI.nd rfl (Or.inl rfl) (aU (aa ah (aa ah ae))))
   (ag (bS PassesOwn.never rfl (aW (K:=K) (iP (kM (K:=K)) (pv 0) (gX ah) (gX ah))) (aN (i:=8) bI.nd rfl (Or.inl rfl)) (ag (av (i:=9) bI.nd rfl (Or.inl rfl) (ax bg (ak (aP T) (hr.mono (by decide)) rfl T.ao.m T.ao.F.kp T.ao.b .nil pass0 (aa (pv 8) (aa ah ae))) ah))
   (ag (av (i:=10) bI.nd rfl (Or.inl rfl) (ax bg (ak (aP T) (hr.mono (by decide)) rfl T.ao.m T.ao.F.kp T.ao.b .nil pass0 (aa (pv 8) (aa ah ae))) (aw (aO (K:=K)) (by rfl) T.cF boot_len (aa (pv 2) ae))))
   (ag (av (i:=11) bI.nd rfl (Or.inl rfl) (aB (aq (K:=K) (hU1 hr)) (pv 5) (ax bg (ak (aP T) (hr.mono (by decide)) rfl T.ao.m T.ao.F.kp T.ao.b .nil pass0 (aa (pv 8) (aa ah ae))) ah) (λ_ _=>rfl)))
   (ag (av (i:=12) bI.nd rfl (Or.inl rfl) (ak (zq T) (hr.mono (by decide)) rfl T.lF.m T.lF.F.kp T.lF.b .nil pass0 (aa (pv 8) ae)))
   (ag (av (i:=13) bI.nd rfl (Or.inl rfl) (aw (lS (K:=K)) (by rfl) T.A6 boot_sum (aa (bL ["_law_script","_law_cell","_law_shelves_here","_law_cellar","_law_senders","_law_keys_here","_law_rows","_law_numbers","_law_each","_law_at","_law_shelf","_law_key","_law_word_here","_law_ahead","_law_row","_law_letter_here","_law_found","_law_letters","_law_last"] ["_law_script","_law_cell","_law_shelves_here","_law_cellar","_law_senders","_law_keys_here","_law_rows","_law_numbers","_law_each","_law_at","_law_shelf","_law_key","_law_word_here","_law_ahead","_law_row","_law_letter_here","_law_found","_law_letters","_law_last"] (defScope um) (by exact⟨rfl,s!"d",s!"d",s!"d",s!"d",s!"d",s!"d",s!"d",s!"d"⟩) (aW (K:=K) (iP (kM (K:=K)) (pv 2) qR (gX (pv 10)))) (λC₁ s₁ H₁ f₁=>(aB (aq (K:=K) (hU1 hr)) (pv 0) ah (λ_ _=>rfl)))) ae)))
   (ag (av (i:=14) bI.nd rfl (Or.inl rfl) (ax (ay (K:=K)) (pv 13) (ax bg (ak (uy T) (hr.mono (by decide)) rfl T.ix.m T.ix.F.kp T.ix.b .nil pass0 (aa (pv 11) ae)) (aB (aq (K:=K) (hU1 hr)) (aB (aq (K:=K) (hU1 hr)) (pv 2) (pv 10) (λ_ _=>rfl)) ah (λ_ _=>rfl)))))
   (ag (gh (ax (ay (K:=K)) (aB (aq (K:=K) (hU1 hr)) (pv 7) (pv 9) (λ_ _=>rfl)) ah) (gb (pv 7) (pv 9) (dJ (hU1 hr))))
   (ag (av (i:=15) bI.nd rfl (Or.inl rfl) (bC (aa (aB (aq (K:=K) (hU1 hr)) (aB (aq (K:=K) (hU1 hr)) (pv 2) (pv 10) (λ_ _=>rfl)) ah (λ_ _=>rfl)) (aa (pv 11) (aa (pv 12) ae)))))
   (ag (av (i:=16) bI.nd rfl (Or.inl rfl) (ak (A7 T) (hr.mono (by decide)) rfl T.nM.m T.nM.F.kp T.nM.b .nil pass0 (aa (pv 3) (aa (aB (aq (K:=K) (hU1 hr)) (pv 4) (pv 9) (λ_ _=>rfl)) (aa (aB (aq (K:=K) (hU1 hr)) (pv 7) (pv 9) (λ_ _=>rfl)) (aa (pv 15) ae))))))
   (ag (aS (ck (aR (K:=K) (ak (zr T) (hr.mono (by decide)) rfl T.lG.m T.lG.F.kp T.lG.b .nil pass0 (aa (pv 16) (aa (pv 14) (aa (aw (aO (K:=K)) (by rfl) T.cF boot_len (aa (aB (aq (K:=K) (hU1 hr)) (pv 6) (pv 14) (λ_ _=>rfl)) ae)) ae)))) (by intro _;rfl))) (ai (ar d6)) aD)
   (ai (aH (cn (K:=K) PySem.F.plainAttrs_list PySem.F.slot_list_append PySem.F.type_list_append b9 (aB (aq (K:=K) (hU1 hr)) (pv 6) (pv 14) (λ_ _=>rfl)) (aa (bC (aa (aw (aO (K:=K)) (by rfl) T.cF boot_len (aa (aB (aq (K:=K) (hU1 hr)) (pv 6) (pv 14) (λ_ _=>rfl)) ae)) (aa (pv 11) (aa (pv 12) ae)))) ae)))))))))))))))
   (ag (bS PassesOwn.never rfl (hJ rfl T.fX (aa (pv 6) ae)) (hG (K:=K) (n:=2) rfl (bj (aN (i:=14) bI.nd rfl (Or.inl rfl)) (bj (aN (i:=17) bI.nd rfl (Or.inl rfl)) gS))) (ai (aS (ck (aR (K:=K) (ak (we T) (hr.mono (by decide)) rfl T.jL.m T.jL.F.kp T.jL.b .nil pass0 (aa (pv 3) (aa (pv 14) (aa (pv 17) (aa (ax (ay (K:=K)) ah (ax bg (ak (aP T) (hr.mono (by decide)) rfl T.ao.m T.ao.F.kp T.ao.b .nil pass0 (aa (pv 1) (aa (ax (ay (K:=K)) ah (pv 14)) ae))) ah)) ae))))) (by intro _;rfl))) (ai (ar d6)) aD)))
   (ag (av (i:=18) bI.nd rfl (Or.inl rfl) (aB (aq (K:=K) (hU1 hr)) (ak (kF T) (hr.mono (by decide)) rfl T.cf.m T.cf.F.kp T.cf.b .nil pass0 (aa (pv 1) (aa ah ae))) ah (λ_ _=>rfl)))
   (ag (av (i:=14) bI.nd rfl (Or.inl rfl) (aw (aO (K:=K)) (by rfl) T.cF boot_len (aa (pv 6) ae)))
   (ag (aS (aM (dB (K:=K) (hU hr)) (ak (lM T) (hr.mono (by decide)) rfl T.cC.m T.cC.F.kp T.cC.b .nil pass0 (aa (pv 3) (aa (pv 18) (aa (aB (aq (K:=K) (hU1 hr)) (pv 4) ah (λ_ _=>rfl)) (aa (pv 14) ae))))) (aU (aa (pv 18) (aa (pv 14) ae))) (nomark _)) (ai (ar d6)) aD)
   (ai (ar (jq (gk (K:=K) (hU hr)) (ak (lM T) (hr.mono (by decide)) rfl T.cC.m T.cC.F.kp T.cC.b .nil pass0 (aa (pv 3) (aa (aB (aq (K:=K) (hU1 hr)) (aB (aq (K:=K) (hU1 hr)) (pv 2) ah (λ_ _=>rfl)) ah (λ_ _=>rfl)) (aa (aB (aq (K:=K) (hU1 hr)) (pv 4) ah (λ_ _=>rfl)) (aa (ax (ay (K:=K)) (pv 14) ah) ae))))) (aU (aa (aB (aq (K:=K) (hU1 hr)) (pv 4) ah (λ_ _=>rfl)) (aa (ax (ay (K:=K)) (pv 14) ah) ae))) (nomark _))))))))))))))))),?_⟩
  walk_at "c2"
  refine⟨ns,hS,λsl H1 hsl s1 hL1=>?_⟩
  generalize ns.getD 0 0=c at hL1 ⊢
  walk_at "nx"
  obtain⟨ts1,e1,t1⟩:=id hL1
  refine ju (.inl (.inl (.inl e1))) λsl2 hsl2=>?_
  have s2:=Same.upd (o:=.lst (ts1.map V.ref)) hsl2
  have hL2:LTups (upd H1 sl2 (.lst (ts1.map V.ref))) sl2 ((xs71 c).map Shf.v):=⟨ts1,af,t1.chg (A:=[]) (Chg.of_same s2)⟩
  have hLs:=hL1.same s2
  generalize upd H1 sl2 (.lst (ts1.map V.ref))=H2 at s2 hL2 hLs ⊢
  clear hL1 e1 t1 ts1
  have okx:=Cf c
  have n3:=vA c
  refine λcl dxc hcl hdxc ndxc=>⟨dxc,sl2,rfl,af,xs71 c,hL2.same ((Same.upd hdxc).trans (Same.upd (by rw[aj (Ne.symm ndxc)];exact hcl))),okx,by rw[dX];omega,λA0 Z0 H3 ls hA0 frs c3 C3 hls=>?_⟩
  walk_at "nx"
  have fr2:∀b∈A0.fix,H2 b=none:=λb hb=>by
   rcases frs b hb with h | h
   ·rw[h];exact hcl
   ·exact(br h).1
  have s3:Same H2 H3:=cY hcl hdxc c3
  have s03:Same H H3:=s1.trans (s2.trans s3)
  refine⟨ns,s03.seq hS,3,rfl,by decide,by decide,λnl H4 hnl s4 e4=>?_⟩
  generalize ns.getD 1 0=d at e4 ⊢
  have en:(names5 d 3).map (λl=>V.str (S l))=[.str (S (nm5 d 0)),.str (S (nm5 d 1)),.str (S (nm5 d 2))]:=rfl
  rw[en] at e4
  subst hA0
  have nl5:nl∉A0.fix:=C3.notin hnl
  have hLs4:=hLs.same (s3.trans s4)
  have C4:=C3.same s4
  obtain⟨dx4,hc4⟩:=C4.cel
  generalize hM0:CM.mk (xs71 c) (List.replicate (startOf (xs71 c) (xs71 c).length) row0) send0 ls=M0 at C4
  have m1:M0.xs=xs71 c:=by rw[<-hM0]
  have m2:M0.Ms=List.replicate (startOf (xs71 c) (xs71 c).length) row0:=by rw[<-hM0]
  have m3:M0.S=send0:=by rw[<-hM0]
  have m4:M0.ls.length=1:=by rw[<-hM0];exact hls
  have okt:∀x∈[V.int 1,V.int 0],okV x:=λx hx=>by
   simp only[List.mem_cons,List.not_mem_nil,or_false] at hx
   rcases hx with rfl | rfl<;>trivial
  have ne01:¬S (nm5 d 1)=S (nm5 d 0):=λz=>absurd (jy (c:=d) (by decide) (by decide) (nZ z)) (by decide)
  have ne02:¬S (nm5 d 2)=S (nm5 d 0):=λz=>absurd (jy (c:=d) (by decide) (by decide) (nZ z)) (by decide)
  have ne12:¬S (nm5 d 2)=S (nm5 d 1):=λz=>absurd (jy (c:=d) (by decide) (by decide) (nZ z)) (by decide)
  walk_at "nx"
  refine⟨dx4,_,hc4,rfl,bw (.inl (.inl e4)) rfl ⟨A0,rfl,Z0,M0,nm5 d 0,rfl,C4,dW d 0,1,by rw[m3];rfl,by decide,by omega,by rw[m3];decide,(by rw[m3];rfl),λu0 H5 ls1 c5 C5 hl1 eu0=>⟨by decide,λp5 hp5=>?_⟩⟩⟩
  have s6:=Same.upd (o:=.tup [.int 1,.int 0]) hp5
  rw[m3] at eu0
  refine tupNe (t:=[.int 1,.int 0]) (s6 _ _ eu0) af rfl okt ⟨false,rfl,?_⟩
  rw[if_neg (by decide)]
  generalize upd H5 p5 (.tup [.int 1,.int 0])=H6 at s6 ⊢
  have C6:=C5.same s6
  have e6:=s6 _ _ (c5.keep _ _ e4 nl5)
  obtain⟨dx6,hc6⟩:=C6.cel
  have L1:((M0.wr ls1).hail (S (nm5 d 0))).S.L (S (nm5 d 1))=none:=by
   show(if S (nm5 d 1)=S (nm5 d 0) then some ((M0.S.L (S (nm5 d 0))).getD 0+1) else M0.S.L (S (nm5 d 1)))=none
   rw[if_neg ne01,m3]
   rfl
  have hl1':ls1.length=2:=by have:ls1.length=M0.ls.length+1:=hl1;omega
  refine⟨dx6,_,hc6,rfl,bw (.inl (.inl e6)) rfl ⟨A0,rfl,Z0,_,nm5 d 1,rfl,C6,dW d 1,1,by rw[L1];rfl,by decide,by show ls1.length<=4000;omega,by show M0.S.sz+1<=100000;rw[m3];decide,L1,λu1 H7 ls2 c7 C7 hl2 eu1=>⟨by decide,λp7 hp7=>?_⟩⟩⟩
  have s8:=Same.upd (o:=.tup [.int 1,.int 0]) hp7
  rw[L1] at eu1
  refine tupNe (t:=[.int 1,.int 0]) (s8 _ _ eu1) af rfl okt ⟨false,rfl,?_⟩
  rw[if_neg (by decide)]
  generalize upd H7 p7 (.tup [.int 1,.int 0])=H8 at s8 ⊢
  have C8:=C7.same s8
  have hl2':ls2.length=3:=by have:ls2.length=ls1.length+1:=hl2;omega
  have c48:Chg A0.fix H4 H8:=c5.trans ((Chg.of_same s6).trans (c7.trans (Chg.of_same s8)))
  generalize hM2:((((M0.wr ls1).hail (S (nm5 d 0))).wr ls2).hail (S (nm5 d 1)))=M2 at C8
  clear C4 C5 C6 C7 hc4 hc6
  walk_at "nx"
  have scr8:Scr K H A0.fix p (ns.map V.int):=Scr.of hS λb hb=>aY (s1.trans s2) (fr2 b hb)
  have c08:Chg A0.fix H H8:=(Chg.of_same (s03.trans s4)).trans c48
  refine⟨⟨ns,(scr8.chg c08).sq⟩,6,rfl,by decide,λkl H9 ks hkl s9 eks hksl hkso=>?_⟩
  walk_at "nx"
  have nsl:sl∉A0.fix:=λz=>by
   obtain⟨_,e,_⟩:=hLs
   have:=fr2 sl z
   rw[e] at this;cases this
  have hLs9:=(hLs4.chg c48 nsl).same s9
  have x6:(xs71 c).length<=6:=by rw[dX];omega
  have st54:=ia (λy hy=>(okx.each y hy).2.1.2) (xs71 c).length
  refine sum71 hLs9 x6 (λt H' Qe x ht qe=>?_) λH10 s10=>⟨_,rfl,by omega,by omega,?_⟩
  ·walk_at "rd"
   exact aQ (.inl (.inl ht)) rfl qe
  rw[Int.toNat_natCast]
  refine kR (Nat.le_trans (show startOf (xs71 c) (xs71 c).length<=54 by omega) (by decide)) (λD i ys H'=>∃rl,ListsMade H10 H' D ys i rl) (λD hD=>⟨[],ListsMade.zero hD⟩) (λD i ys H' _ ⟨rl,h⟩=>⟨h.lst,by rw[h.eq,List.length_map,h.lr];exact Nat.le_refl _⟩) (λD i ys H' hD hi ⟨rl,h⟩ Qe qe=>?_) (λR ys H11 hR ⟨rl,h⟩=>?_)
  ·walk_at "rd"
   refine⟨by decide,λr hr=>?_⟩
   obtain⟨a1,a2⟩:=h.succ hr
   exact qe _ _ a1 ⟨_,a2⟩
  walk_at "nx"
  refine⟨by decide,λN hN=>?_⟩
  have s12:=Same.upd (o:=.lst [.int 0,.int 0]) hN
  have F12:=(h.fr.add h.same.liv hN s12.liv ⟨_,af⟩)
  have eN:upd H11 N (.lst [.int 0,.int 0]) N=some (.lst [.int 0,.int 0]):=af
  generalize upd H11 N (.lst [.int 0,.int 0])=H12 at s12 F12 eN ⊢
  have s812:=s9.trans (s10.trans (h.same.trans s12))
  have FW:L2.Fr H10 H12 (R::N::rl):=F12.perm (i5 λb=>by simp only[List.count_cons];omega)
  have s1012:Same H10 H12:=h.same.trans s12
  have C12:CeAt (kk5 a) H12 A0 ((R::N::rl)++Z0) M2:=(C8.same (s9.trans s10)).addZ s1012 _ FW.no FW.yes
  have W12:W71 (kk5 a) H12 A0 ((R::N::rl)++Z0) M2 R N rl (List.replicate (startOf (xs71 c) (xs71 c).length) []) (λ_=>0) c d 0:=by
   refine⟨C12,?_,λi r f h1 h2=>?_,eN,FW.nd,λb hb=>(C8.same (s9.trans s10)).notin (FW.no b hb),λb hb=>List.mem_append_left _ hb,?_,?_,?_,?_,?_,?_,?_,?_,λ_ _=>Nat.le_refl _,?_,?_⟩
   ·rw[s12 _ _ h.lst,h.eq]
   ·have:=List.mem_of_getElem? h2
    rw[List.eq_of_mem_replicate this]
    exact⟨[],s12 _ _ (h.emp r (List.mem_of_getElem? h1)),.nil⟩
   ·rw[<-hM2];exact m1
   ·rw[h.lr,List.length_replicate]
   ·rw[<-hM2]
    show M0.Ms=_
    rw[m2,List.map_replicate,AO]
   ·intro f hf x hx
    rw[List.eq_of_mem_replicate hf] at hx
    cases hx
   ·intro f hf
    rw[List.eq_of_mem_replicate hf]
    exact Nat.le_refl _
   ·intro i hi
    rw[<-hM2]
    rcases(show i=0\/i=1 by omega) with rfl | rfl
    ·show(if S (nm5 d 0)=S (nm5 d 1) then _ else if S (nm5 d 0)=S (nm5 d 0) then some ((M0.S.L (S (nm5 d 0))).getD 0+1) else M0.S.L (S (nm5 d 0)))=some 1
     rw[if_neg (Ne.symm ne01),if_pos rfl,m3]
     rfl
    ·show(if S (nm5 d 1)=S (nm5 d 1) then some ((((M0.wr ls1).hail (S (nm5 d 0))).S.L (S (nm5 d 1))).getD 0+1) else _)=some 1
     rw[if_pos rfl,L1]
     rfl
   ·rw[<-hM2]
    show(if S (nm5 d 2)=S (nm5 d 1) then _ else if S (nm5 d 2)=S (nm5 d 0) then _ else M0.S.L (S (nm5 d 2)))=none
    rw[if_neg ne12,if_neg ne02,m3]
    rfl
   ·intro i hi
    rw[<-hM2]
    rcases(show i=0\/i=1 by omega) with rfl | rfl
    ·show(if S (nm5 d 0)=S (nm5 d 1) then _ else if S (nm5 d 0)=S (nm5 d 0) then(if (M0.S.L (S (nm5 d 0))).getD 0=0 then 0 else M0.S.T (S (nm5 d 0))) else M0.S.T (S (nm5 d 0)))=((0:Nat):Int)
     rw[if_neg (Ne.symm ne01),if_pos rfl,m3]
     rfl
    ·show(if S (nm5 d 1)=S (nm5 d 1) then(if (((M0.wr ls1).hail (S (nm5 d 0))).S.L (S (nm5 d 1))).getD 0=0 then 0 else _) else _)=((0:Nat):Int)
     rw[if_pos rfl,L1]
     rfl
   ·rw[<-hM2];show ls2.length<=3+0;omega
   ·rw[<-hM2];show M0.S.sz+1+1<=3+0;rw[m3];decide
  rw[hRz]
  clear hRz
  refine cut1 λRz hRz=>?_
  walk_at "rd"
  have inF:∀b∈(R::N::rl)++A0.fix,H b=none:=λb hb=>by
   rcases List.mem_append.mp hb with z | z
   ·have h10:=FW.no b z
    have h8:=aY (s9.trans s10) h10
    have nA:b∉A0.fix:=(C8.same (s9.trans s10)).notin h10
    cases e:H b with
    | none=>rfl
    | some o=>rw[c08.keep _ _ e nA] at h8;cases h8
   ·exact aY (s1.trans s2) (fr2 b z)
  have cH:Chg ((R::N::rl)++A0.fix) H H12:=(c08.mono λb hb=>List.mem_append_right _ hb).trans (Chg.of_same s812)
  have scr:Scr K H ((R::N::rl)++A0.fix) p (ns.map V.int):=Scr.of hS inF
  refine n6 (scr.chg cH).sq λp1 hp1=>cv (.inl (.inl af)) ?_
  generalize hcs:cutV (ns.map V.int) (some 3) (some 60)=cs
  have hcl':cs.length<=57:=by
   rw[<-hcs,show(some (3:Int))=some ((3:Nat):Int) from rfl,show(some (60:Int))=some ((3+57:Nat):Int) from rfl,sW,List.length_take]
   omega
  have hci:∀x∈cs,∃c,x=V.int c:=λx hx=>by
   rw[<-hcs] at hx
   obtain⟨c,_,rfl⟩:=List.mem_map.mp (List.mem_of_mem_drop (List.mem_of_mem_take hx))
   exact⟨c,rfl⟩
  have s13:=Same.upd (o:=.lst cs) hp1
  have ep1:upd H12 p1 (.lst cs) p1=some (.lst cs):=af
  generalize upd H12 p1 (.lst cs)=H13 at s13 ep1 ⊢
  have W13:=W12.same s13
  have np1:p1∉(R::N::rl)++A0.fix:=λz=>by
   rcases List.mem_append.mp z with h | h
   ·obtain⟨o,e⟩:=FW.yes p1 h
    rw[hp1] at e;cases e
   ·exact C12.notin hp1 h
  have nwA:∀{b:Addr} {o:HO},b∉A0.fix->H10 b=some o->b∉(R::N::rl)++A0.fix:=λ{b o} hb e z=>by
   rcases List.mem_append.mp z with h | h
   ·rw[FW.no b h] at e;cases e
   ·exact hb h
  obtain⟨tsl,esl,tts⟩:=id hLs9
  have e4':=(s9.trans s10) _ _ (c48.keep _ _ e4 nl5)
  have nsl':=nwA nsl (s10 _ _ esl)
  have nnl':=nwA nl5 e4'
  have nkl':kl∉(R::N::rl)++A0.fix:=nwA (C8.notin hkl) (s10 _ _ eks)
  have s1013:=s1012.trans s13
  have esl13:=s1013 _ _ (s10 _ _ esl)
  have enl13:=s1013 _ _ e4'
  have eks13:=s1013 _ _ (s10 _ _ eks)
  have hLs13:=hLs9.same (s10.trans s1013)
  have htsl:(tsl.map V.ref).length=n71 c:=by rw[List.length_map,tts.length,List.length_map,dX]
  refine dA (xs:=cs) (λi σ H'=>(∃M fs n,W71 (kk5 a) H' A0 ((R::N::rl)++Z0) M R N rl fs n c d i)/\Chg ((R::N::rl)++A0.fix) H13 H'/\∃v8 v9 v10 v11 v12 v13 v14 v15 v16 v17 v18,σ=[some (V.ref p),some (V.int c),some (V.ref sl),some (V.ref A0.c),some (V.ref nl),some (V.ref kl),some (V.ref R),some (V.ref N),v8,v9,v10,v11,v12,v13,v14,v15,v16,v17,v18])
   ⟨⟨_,_,_,W13⟩,Chg.refl _,_,_,_,_,_,_,_,_,_,_,_,rfl⟩ (λi σ H' _ h=>.inl (.inl (h.2.1.keep _ _ ep1 np1))) ?_ ?_
  ·rintro i x σ H14 hx ⟨⟨M,fs,n,Wi⟩,ci,v8,v9,v10,v11,v12,v13,v14,v15,v16,v17,v18,rfl⟩
   obtain⟨e,rfl⟩:=hci x (List.mem_of_getElem? hx)
   have hi:=(List.getElem?_eq_some_iff.mp hx).1
   refine cut2 λRy hRy=>?_
   walk_at "rd"
   have esl14:=ci.keep _ _ esl13 nsl'
   have tts14:TupsAt H14 tsl ((xs71 c).map Shf.v):=(tts.chg (A:=[]) (Chg.of_same (s10.trans s1013))).chg ci
   refine cm (.inl (.inl esl14)) ⟨_,rfl,by rw[htsl];omega,?_⟩
   rw[htsl]
   have hk1:=Int.emod_nonneg (mixN e 11) (show(n71 c:Int)≠0 by omega)
   have hk2:=Int.emod_lt_of_pos (mixN e 11) (show(0:Int) < n71 c by omega)
   obtain⟨kk,hkk⟩:∃kk:Nat,mixN e 11 % (n71 c:Int)=kk:=⟨(mixN e 11 % (n71 c:Int)).toNat,by omega⟩
   rw[hkk] at hk1 hk2 ⊢
   rw[hRy]
   clear hRy
   refine cut2 λRy hRy=>?_
   walk_at "rd"
   have hkx:(mixN e 12 % 6).toNat < ks.length:=by omega
   have hat:atI (tx ks) (mixN e 12 % 6)=some (V.str (S ks[(mixN e 12 % 6).toNat])):=bZ (by omega) (by unfold tx;rw[List.getElem?_map,List.getElem?_eq_getElem hkx];rfl)
   have hkok:=hkso _ (List.getElem_mem hkx)
   generalize ks[(mixN e 12 % 6).toNat]=key at hat hkok
   refine bw (.inl (.inl (ci.keep _ _ eks13 nkl'))) hat λH15 wo s15 hwo hwl=>?_
   rw[hRy]
   clear hRy
   refine cut1 λRy hRy=>?_
   walk_at "rd"
   refine n6 (.inl (.inl (s15 _ _ esl14))) λsq hsq=>?_
   rw[sV]
   have s16:=Same.upd (o:=.lst ((tsl.map V.ref).take kk)) hsq
   have hLq:LTups (upd H15 sq (.lst ((tsl.map V.ref).take kk))) sq (((xs71 c).take kk).map Shf.v):=by
    have:=LTups.cut 0 kk (tts14.chg (A:=[]) (Chg.of_same (s15.trans s16))) af
    rw[List.drop_zero] at this
    rw[List.map_take]
    exact this
   generalize upd H15 sq (.lst ((tsl.map V.ref).take kk))=H16 at s16 hLq ⊢
   refine sum71 hLq (by rw[List.length_take];omega) (λt H' Qe x ht qe=>?_) λH17 s17=>?_
   ·walk_at "rd"
    exact aQ (.inl (.inl ht)) rfl qe
   rw[rL]
   have s1417:=s15.trans (s16.trans s17)
   have W17:=Wi.same s1417
   have ci17:=ci.trans (Chg.of_same s1417)
   have esl17:=s1417 _ _ esl14
   have tts17:TupsAt H17 tsl ((xs71 c).map Shf.v):=tts14.chg (A:=[]) (Chg.of_same s1417)
   clear hLq hsq sq H15 s15 s16 s17 H16 s1417 Wi ci tts14 esl14
   rw[hRy]
   clear hRy
   refine cut3 λRy hRy=>?_
   walk_at "rd"
   intro H18 s18
   obtain⟨x,hx,hxr⟩:∃x,(xs71 c)[kk]?=some x/\1<=x.rows:=by
    have hl:kk < (xs71 c).length:=by rw[dX];omega
    exact⟨_,List.getElem?_eq_getElem hl,(okx.each _ (List.getElem_mem hl)).2.1.1⟩
   have hxn:nameOk x.name:=by
    have:=(okx.each x (List.mem_of_getElem? hx)).1
    unfold nameOk formV
    simp only[bQ,Bool.and_eq_true,decide_eq_true_eq]
    exact⟨by omega,by omega,by simpa [S] using this.2.2⟩
   have hkl:kk < tsl.length:=by rw[List.length_map] at htsl;omega
   obtain⟨tk,htk⟩:∃tk,tsl[kk]?=some tk:=⟨_,List.getElem?_eq_getElem hkl⟩
   obtain⟨zs,hz1,hz2⟩:=tts17.get htk
   rw[List.getElem?_map,hx] at hz1
   cases hz1
   have atk:atI (tsl.map V.ref) (kk:Int)=some (V.ref tk):=bZ (by omega) (by rw[Int.toNat_natCast,List.getElem?_map,htk];rfl)
   refine bw (v:=.ref tk) (.inl (.inl (s18 _ _ esl17))) atk (aQ (v:=.int x.rows) (.inl (.inl (s18 _ _ hz2))) rfl ⟨_,rfl,by omega,?_⟩)
   obtain⟨j,hj,hj2⟩:∃j:Nat,mixN e 10 % 2=j/\j < 2:=⟨(mixN e 10 % 2).toNat,by omega,by omega⟩
   rw[hj,AS hxr]
   have W18:=W17.same s18
   have atn:atI [V.int (n 0:Int),V.int (n 1:Int)] (j:Int)=some (V.int (n j:Int)):=by
    rcases(show j=0\/j=1 by omega) with rfl | rfl<;>rfl
   refine bw (v:=.int (n j:Int)) (.inl (.inl W18.hN)) atn ?_
   walk_at "rd"
   refine rh W18.hN (uR (by omega) (by simp;omega)) ?_
   rw[Int.toNat_natCast,show[V.int (n 0:Int),V.int (n 1:Int)].set j (V.int ((n j:Int)+1))=[V.int ((if 0=j then n j+1 else n 0:Nat):Int),V.int ((if 1=j then n j+1 else n 1:Nat):Int)] by
    rcases(show j=0\/j=1 by omega) with rfl | rfl<;>rfl]
   have c19:Chg [N] H18 (upd H18 N (.lst [V.int ((if 0=j then n j+1 else n 0:Nat):Int),V.int ((if 1=j then n j+1 else n 1:Nat):Int)])):=Chg.upd (by simp) (λxs z=>by rw[W18.hN] at z;cases z)
   have eN19:upd H18 N (.lst [V.int ((if 0=j then n j+1 else n 0:Nat):Int),V.int ((if 1=j then n j+1 else n 1:Nat):Int)]) N=_:=af
   generalize upd H18 N (.lst [V.int ((if 0=j then n j+1 else n 0:Nat):Int),V.int ((if 1=j then n j+1 else n 1:Nat):Int)])=H19 at c19 eN19 ⊢
   have nNs:sl∉[N]:=λz=>nsl' (by rw[List.mem_singleton.mp z];simp)
   have etk19:=c19.tup _ _ (s18 _ _ hz2)
   refine bw (v:=.ref tk) (.inl (.inl (c19.keep _ _ (s18 _ _ esl17) nNs))) atk (aQ (v:=.str (S x.name)) (.inl (.inl etk19)) rfl ⟨by decide,λlt hlt=>?_⟩)
   have s20:=Same.upd (o:=.tup [.str (S x.name),.str (S key),wV wo]) hlt
   have elt:upd H19 lt (.tup [.str (S x.name),.str (S key),wV wo]) lt=_:=af
   generalize upd H19 lt (.tup [.str (S x.name),.str (S key),wV wo])=H20 at s20 elt ⊢
   have C20:CeAt (kk5 a) H20 A0 ((R::N::rl)++Z0) M:=(W18.ce.chg c19 (λb hb=>by rw[List.mem_singleton.mp hb];exact W18.nf N (by simp)) (λb hb=>.inl (by rw[List.mem_singleton.mp hb];exact W18.zz N (by simp))) (λb hb=>by rw[List.mem_singleton.mp hb];exact⟨_,eN19⟩)).same s20
   have hlt1:rowNo (xs71 c) kk x key < fs.length:=by
    have:=C20.st.lenm
    have h2:=C20.st.len
    rw[W18.ms,List.length_map] at this
    rw[W18.xs] at h2
    have:=AR (key:=key) hx hxr
    omega
   generalize hi0:rowNo (xs71 c) kk x key=i0 at hlt1 ⊢
   obtain⟨f,hf⟩:∃f,fs[i0]?=some f:=⟨_,List.getElem?_eq_getElem hlt1⟩
   obtain⟨r,hrr⟩:∃r,rl[i0]?=some r:=⟨_,List.getElem?_eq_getElem (by rw[W18.lr];exact hlt1)⟩
   have hfl:=W18.fl f (List.mem_of_getElem? hf)
   have hnl:=W18.nl j hj2
   have hls:=W18.ls
   have hsz:=W18.sz
   rw[hRy]
   clear hRy
   refine cut1 λRy hRy=>?_
   walk_at "rd"
   have nNn:nl∉[N]:=λz=>nnl' (by rw[List.mem_singleton.mp z];simp)
   have enl20:=s20 _ _ (c19.keep _ _ (s18 _ _ (ci17.keep _ _ enl13 nnl')) nNn)
   have eN20:=s20 _ _ eN19
   have atl:atI [V.str (S (nm5 d 0)),V.str (S (nm5 d 1)),V.str (S (nm5 d 2))] (j:Int)=some (V.str (S (nm5 d j))):=by
    rcases(show j=0\/j=1 by omega) with rfl | rfl<;>rfl
   have atn2:atI [V.int ((if 0=j then n j+1 else n 0:Nat):Int),V.int ((if 1=j then n j+1 else n 1:Nat):Int)] (j:Int)=some (V.int ((n j+1:Nat):Int)):=by
    rcases(show j=0\/j=1 by omega) with rfl | rfl<;>rfl
   refine bw (v:=.str (S (nm5 d j))) (.inl (.inl enl20)) atl (bw (v:=.int ((n j+1:Nat):Int)) (.inl (.inl eN20)) atn2 ⟨A0,rfl,_,M,nm5 d j,rfl,x.name,key,wo,n j+1,rfl,elt,C20,⟨dW d j,hxn,hkok,hwo,hwl,by omega,by omega⟩,W18.L j hj2,by rw[W18.Tn j hj2];omega,kk,x,by rw[W18.xs];exact hx,rfl,i0,by rw[W18.xs,hi0],f.length,rw71 f,by rw[W18.ms,List.getElem?_map,hf];rfl,rfl,by omega,by omega,by omega,λu H21 ls' c21 C21 hl21 eu=>?_⟩)
   rw[hRy]
   clear hRy
   refine cut1 λRy hRy=>?_
   walk_at "rd"
   have nd:=W18.nd
   rw[List.nodup_cons,List.nodup_cons] at nd
   have mr:=List.mem_of_getElem? hrr
   have nRN:R∉[N]:=λz=>nd.1 (by rw[List.mem_singleton.mp z];simp)
   have nrN:r∉[N]:=λz=>nd.2.1 (by rw[<-List.mem_singleton.mp z];exact mr)
   have eR21:=c21.keep _ _ (s20 _ _ (c19.keep _ _ W18.hR nRN)) (W18.nf R (by simp))
   have hr21:=(((W18.hr i0 r f hrr hf).chg c19 nrN).same s20).chg c21 (W18.nf r (by simp[mr]))
   obtain⟨tr,er,ttr⟩:=id hr21
   have trl:(tr.map V.ref).length=f.length:=by rw[List.length_map,ttr.length,k4]
   have atr:atI (rl.map V.ref) (i0:Int)=some (V.ref r):=bZ (by omega) (by rw[Int.toNat_natCast,List.getElem?_map,hrr];rfl)
   refine bw (v:=.ref r) (.inl (.inl eR21)) atr (cm (.inl (.inl er)) ⟨_,_,_,rfl,eu,?_⟩)
   rw[trl,if_neg (by simp)]
   rw[hRy]
   clear hRy
   walk_at "rd"
   refine bw (v:=.ref r) (.inl (.inl eR21)) atr ⟨.inl ⟨_,.inl (.inl er)⟩,bw (v:=.ref r) (.inl (.inl eR21)) atr (cm (.inl (.inl er)) ⟨by decide,λpt hpt=>?_⟩)⟩
   rw[trl]
   obtain⟨z1,z2,ts',z3,z4⟩:=qk (r:=[.int (f.length:Int),.str (S key),wV wo]) (Chg.refl H21) er ttr hpt
   refine⟨r,rfl,_,z1,Nat.lt_of_le_of_lt (show(tr.map V.ref).length<=100 by omega) (by decide),?_⟩
   generalize upd (upd H21 pt (.tup [.int (f.length:Int),.str (S key),wV wo])) r (.lst (tr.map V.ref++[.ref pt]))=H23 at z2 z3 z4 ⊢
   have g:Chg (N::r::A0.fix) H18 H23:=(c19.mono (by simp)).trans ((Chg.of_same s20).trans ((c21.mono λb hb=>by simp[hb]).trans (z2.mono (by simp))))
   have C23:=C21.chg z2 (λb hb=>by rw[List.mem_singleton.mp hb];exact W18.nf r (by simp[mr])) (λb hb=>.inl (by rw[List.mem_singleton.mp hb];exact W18.zz r (by simp[mr]))) (λb hb=>by rw[List.mem_singleton.mp hb];exact⟨_,z3⟩)
   have eN23:=z2.keep _ _ (c21.keep _ _ eN20 (W18.nf N (by simp))) (λz=>nd.2.1 (by rw[List.mem_singleton.mp z];exact mr))
   refine⟨⟨_,_,_,W18.step hj2 hf hrr g C23 hl21 eN23 (by rw[Ci];exact⟨ts',z3,z4⟩) ⟨hkok,hwo,hwl⟩⟩,?_⟩
   refine ci17.trans ((Chg.of_same s18).trans (g.mono λb hb=>?_))
   simp only[List.mem_cons,List.mem_append] at hb ⊢
   rcases hb with rfl | rfl | h
   ·simp
   ·simp[mr]
   ·simp[h]
  ·rintro σ H14 ⟨⟨M,fs,n,Wi⟩,ci,v8,v9,v10,v11,v12,v13,v14,v15,v16,v17,v18,rfl⟩
   rw[hRz]
   clear hRz
   refine cut1 λRz hRz=>?_
   walk_at "rd"
   rw[hRz]
   clear hRz
   refine cut1 λRz hRz=>?_
   walk_at "rd"
   refine⟨⟨_,.inl (.inl Wi.hR)⟩,lW (xs:=rl.map V.ref) (λk σ H'=>Same H14 H'/\∃v8 v9 v10 v11 v12 v13 v14 v15 v16 v17 v18,σ=[some (V.ref p),some (V.int c),some (V.ref sl),some (V.ref A0.c),some (V.ref nl),some (V.ref kl),some (V.ref R),some (V.ref N),v8,v9,v10,v11,v12,v13,v14,v15,v16,v17,v18])
    ⟨Same.refl _,_,_,_,_,_,_,_,_,_,_,_,rfl⟩ (λk σ H' _ h=>.inl (.inl (h.1 _ _ Wi.hR))) ?_ ?_⟩
   ·rintro k x Tp σ H15 hx hT ⟨s15,v8,v9,v10,v11,v12,v13,v14,v15,v16,v17,v18,rfl⟩
    rw[List.getElem?_map] at hx
    obtain⟨r,hrk,rfl⟩:=Option.map_eq_some_iff.mp hx
    have sT:=Same.upd (o:=.tup [.int (k:Int),.ref r]) hT
    have aT:upd H15 Tp (.tup [.int (k:Int),.ref r]) Tp=_:=af
    generalize upd H15 Tp (.tup [.int (k:Int),.ref r])=H16 at sT aT ⊢
    refine⟨Tp,_,rfl,.inl (.inl aT),rfl,?_⟩
    walk_at "rd"
    have W16:=Wi.same (s15.trans sT)
    have hkl:k < fs.length:=by rw[<-Wi.lr];exact(List.getElem?_eq_some_iff.mp hrk).1
    obtain⟨f,hf⟩:∃f,fs[k]?=some f:=⟨_,List.getElem?_eq_getElem hkl⟩
    have mf:=List.mem_of_getElem? hf
    have hfl:=Wi.fl f mf
    obtain⟨mo,hmo,hm1,hm2⟩:∃mo:Nat,1+mixN c (20+(k:Int)) % 12=(mo:Int)/\1<=mo/\mo<=12:=⟨(1+mixN c (20+(k:Int)) % 12).toNat,by omega,by omega,by omega⟩
    exact⟨A0,rfl,_,M,r,k,rfl,rfl,mo,hmo,W16.ce,f,W16.hr k r f hrk hf,by rw[Wi.ms,List.getElem?_map,hf];rfl,Wi.ok f mf,by omega,hm1,hm2,λH17 s17=>s15.trans (sT.trans s17)⟩
   ·rintro σ H15 ⟨s15,v8,v9,v10,v11,v12,v13,v14,v15,v16,v17,v18,rfl⟩
    rw[hRz]
    clear hRz
    walk_at "rd"
    have cw:=ci.trans (Chg.of_same s15)
    have W15:=Wi.same s15
    have esl15:=cw.keep _ _ esl13 nsl'
    have enl15:=cw.keep _ _ enl13 nnl'
    have tts15:TupsAt H15 tsl ((xs71 c).map Shf.v):=(tts.chg (A:=[]) (Chg.of_same (s10.trans s1013))).chg cw
    have rsl:A0.rs.length=rl.length:=by
     have:=W15.ce.st.lenm
     rw[W15.ms,List.length_map] at this
     rw[W15.lr];omega
    have rl54:=kZ W15.ce.st
    rw[W15.xs,dX] at rl54
    refine⟨4,rfl,by decide,by decide,λD H16 hD s16 eD=>bw (v:=.str (S (nm5 c 3))) (.inl (.inl eD)) rfl (cm (.inl (.inl (s16 _ _ W15.hR))) (bw (v:=.str (S (nm5 d 0))) (.inl (.inl (s16 _ _ enl15))) rfl ⟨A0,rfl,_,M,nm5 c 3,rfl,nm5 d 0,rfl,nm5 c 3,rl.length,by rw[List.length_map],W15.ce.same s16,dW d 0,dW c 3,by omega,by omega,.inr ⟨by rw[W15.L 0 (by decide)];rfl,by rw[W15.xs];exact Cg c,rfl⟩,λD2 H17 hD2 s17 e17=>⟨by decide,λp17 hp17=>?_⟩⟩))⟩
    rw[List.length_map]
    have s18:=Same.upd (o:=.lst [.str (S (nm5 c 3)),.int (rl.length:Int)]) hp17
    refine lstNe (t:=[.str (S (nm5 c 3)),.int (rl.length:Int)]) (s18 _ _ e17) af rfl (ok2 (dW c 3)) ⟨false,rfl,?_⟩
    rw[if_neg (by decide)]
    generalize upd H17 p17 (.lst [.str (S (nm5 c 3)),.int (rl.length:Int)])=H18 at s18 ⊢
    have s1518:=s16.trans (s17.trans s18)
    obtain⟨x,hx⟩:∃x,(xs71 c)[0]?=some x:=⟨_,List.getElem?_eq_getElem (by rw[dX];omega)⟩
    have hxn:nameOk x.name:=by
     have:=(okx.each x (List.mem_of_getElem? hx)).1
     unfold nameOk formV
     simp only[bQ,Bool.and_eq_true,decide_eq_true_eq]
     exact⟨by omega,by omega,by simpa [S] using this.2.2⟩
    obtain⟨tk,htk⟩:∃tk,tsl[0]?=some tk:=⟨_,List.getElem?_eq_getElem (by rw[List.length_map] at htsl;omega)⟩
    obtain⟨zs,hz1,hz2⟩:=tts15.get htk
    rw[List.getElem?_map,hx] at hz1
    cases hz1
    have atk:atI (tsl.map V.ref) (0:Int)=some (V.ref tk):=bZ (by omega) (by rw[List.getElem?_map];exact congrArg (Option.map V.ref) htk)
    refine bw (v:=.ref tk) (.inl (.inl (s1518 _ _ esl15))) atk (aQ (v:=.str (S x.name)) (.inl (.inl (s1518 _ _ hz2))) rfl (bw (v:=.str (S (nm5 d 2))) (.inl (.inl (s1518 _ _ enl15))) rfl ?_))
    walk_at "rd"
    refine⟨A0,rfl,_,M,nm5 d 2,rl.length+3,by rw[Int.natCast_add];rfl,W15.ce.same s1518,dW d 2,hxn,by omega,by omega,.inl ⟨W15.L2,rfl⟩,λD3 H19 hD3 s19 e19=>bw (v:=.str (S (nm5 d 2))) (.inl (.inl ((s1518.trans s19) _ _ enl15))) rfl ⟨by decide,λp19 hp19=>?_⟩⟩
    rw[Int.natCast_add] at e19
    have s20:=Same.upd (o:=.lst [.str (S (nm5 d 2)),.int ((rl.length:Int)+3)]) hp19
    exact lstEq (t:=[.str (S (nm5 d 2)),.int ((rl.length:Int)+3)]) (s20 _ _ e19) af rfl (ok2 (dW d 2)) (q _)
end
theorem walk {l:W.OpenLaw}{q:Program}{loose:List Str}{XP:(Str->Option Value)->Heap->Prop}{YP:World->Heap->Prop}{d:DefRec}{K:Params->W.Frag}(hn:l.most=some 63)(hdf:d.params.defaults=[])
  (hY:∀(w:World) (h:Heap),YP w h->(K w.params).In h)
  (F:∀(w:World) (mg:Str->Option Value) (fa:Addr) (h:Heap),(K w.params).In h->h.Ns mainGlobals mg->mg d.name=some (.ref fa)->
   ∃fd:FuncData,(∀(s:Shared) (u:Value),BindsTo s fd ⟨[u],[]⟩ [("_law_script",u)])/\∀base:Heap,(K w.params).In base->base.Ns mainGlobals mg->FnOk l.prog w (K w.params) mg base CX0 11 fa fd ["_law_script"] (uQ (K w.params))) :
  W.WalkO q loose XP YP l.row.toRowW d [] (λf vs=>PySem.call f vs):=
 L2.Bq (n:=63) (k:=11) (x:="_law_script") (CX:=λ_=>CX0) (sp:=λw=>uQ (K w.params)) hn (by decide) hdf ⟨rfl,by decide,by decide⟩ hY F (λ_ _ a ns hl _ hS=>⟨a,ns,rfl,hS,hl,λ_=>rfl⟩) λ_ _ _ _ _ z=>z
end K71
open PySem PySem.W PyProof.Rows
set_option maxHeartbeats 0 in
theorem PySem.Challenge.cw_lettercell_k71_letters_put_and_read_holds : PySem.Challenge.rw_lettercell_k71_letters_put_and_read.Holds := by
 refine hdW.2 ?_
 dsimp only[hdW]
 k_fill
 refine K71.walk (l:=PySem.Challenge.rw_lettercell_k71_letters_put_and_read) rfl rfl (λw h Y=>W.kIn_of Y) ?F
 case F=>
  intro w mg fa h KX G hmg
  have T:∃t,K71.Txt w (L2.KOf KX) mg t:=by
   dsimp only[L2.KOf]
   refine' ⟨.mk,⟨(W.mg_of KX G ?h0),(W.mg_of KX G ?h1),(W.mg_of KX G ?h2),(W.mg_of KX G ?h3),(W.mg_of KX G ?h4),(W.mg_of KX G ?h5),(W.mg_of KX G ?h6),(W.mg_of KX G ?h7),(W.mg_of KX G ?h8),(W.mg_of KX G ?h9),(W.mg_of KX G ?h10),(W.mg_of KX G ?h11),(W.mg_of KX G ?h12),(W.mg_of KX G ?h13),(W.mg_of KX G ?h14),⟨?h15,?h16,?h17,?h18⟩,⟨?h19,?h20,?h21,?h22⟩,⟨?h23,?h24,?h25,?h26⟩,⟨?h27,?h28,?h29,?h30⟩,⟨?h31,?h32,?h33,?h34⟩,⟨?h35,?h36,?h37,?h38⟩,⟨?h39,?h40,?h41,?h42⟩,⟨?h43,?h44,?h45,?h46⟩,?h47,?h48,?h49,?h50,?h51,?h52,?h53,?h54,?h55,?h56,?h57,?h58,L2.fB ?h59 ?h60 ?h61 (λ_ _ _ _ _ _=>(L2.el2 λ_ _=>rfl)),L2.fB ?h62 ?h63 ?h64 (λ_ _ _ _ _ _=>(L2.el2 λ_ _=>rfl)),L2.fB ?h65 ?h66 ?h67 (λ_ _ _ _ _ _=>(L2.el2 λ_ _=>rfl)),L2.fB ?h68 ?h69 ?h70 (λ_ _ _ _ _ _=>(L2.el2 λ_ _=>rfl)),L2.fB ?h71 ?h72 ?h73 (λ_ _ _ _ _ _=>(L2.el2 λ_ _=>rfl)),L2.fB ?h74 ?h75 ?h76 (λ_ _ _ _ _ _=>(L2.el3 λ_ _ _=>rfl)),L2.aI KX G ?h77 ?h78 ?h79 ?h80 (λ_ _ _ _ _ _=>(L2.el1 λ_=>rfl)),L2.aI KX G ?h81 ?h82 ?h83 ?h84 (λ_ _ _ _ _ _=>(L2.el1 λ_=>rfl)),L2.aI KX G ?h85 ?h86 ?h87 ?h88 (λ_ _ _ _ _ _=>(L2.el1 λ_=>rfl)),L2.aI KX G ?h89 ?h90 ?h91 ?h92 (λ_ _ _ _ _ _=>(L2.el2 λ_ _=>rfl)),L2.aI KX G ?h93 ?h94 ?h95 ?h96 (λ_ _ _ _ _ _=>(L2.el1 λ_=>rfl)),L2.aI KX G ?h97 ?h98 ?h99 ?h100 (λ_ _ _ _ _ _=>(L2.el1 λ_=>rfl)),L2.aI KX G ?h101 ?h102 ?h103 ?h104 (λ_ _ _ _ _ _=>(L2.el2 λ_ _=>rfl)),L2.aI KX G ?h105 ?h106 ?h107 ?h108 (λ_ _ _ _ _ _=>(L2.el2 λ_ _=>rfl)),L2.aI KX G ?h109 ?h110 ?h111 ?h112 (λ_ _ _ _ _ _=>(L2.el1 λ_=>rfl)),L2.aI KX G ?h113 ?h114 ?h115 ?h116 (λ_ _ _ _ _ _=>(L2.el1 λ_=>rfl)),L2.aI KX G ?h117 ?h118 ?h119 ?h120 (λ_ _ _ _ _ _=>(L2.el2 λ_ _=>rfl)),L2.aI KX G ?h121 ?h122 ?h123 ?h124 (λ_ _ _ _ _ _=>(L2.el2 λ_ _=>rfl)),L2.aI KX G ?h125 ?h126 ?h127 ?h128 (λ_ _ _ _ _ _=>(L2.el2 λ_ _=>rfl)),L2.aI KX G ?h129 ?h130 ?h131 ?h132 (λ_ _ _ _ _ _=>(L2.el3 λ_ _ _=>rfl)),L2.aI KX G ?h133 ?h134 ?h135 ?h136 (λ_ _ _ _ _ _=>(L2.el1 λ_=>rfl)),L2.aI KX G ?h137 ?h138 ?h139 ?h140 (λ_ _ _ _ _ _=>(L2.el1 λ_=>rfl)),L2.aI KX G ?h141 ?h142 ?h143 ?h144 (λ_ _ _ _ _ _=>(L2.el1 λ_=>rfl)),L2.aI KX G ?h145 ?h146 ?h147 ?h148 (λ_ _ _ _ _ _=>(L2.el1 λ_=>rfl)),L2.aI KX G ?h149 ?h150 ?h151 ?h152 (λ_ _ _ _ _ _=>(L2.el3 λ_ _ _=>rfl)),L2.aI KX G ?h153 ?h154 ?h155 ?h156 (λ_ _ _ _ _ _=>(L2.el1 λ_=>rfl)),L2.aI KX G ?h157 ?h158 ?h159 ?h160 (λ_ _ _ _ _ _=>(L2.el2 λ_ _=>rfl)),L2.aI KX G ?h161 ?h162 ?h163 ?h164 (λ_ _ _ _ _ _=>(L2.el1 λ_=>rfl)),L2.aI KX G ?h165 ?h166 ?h167 ?h168 (λ_ _ _ _ _ _=>(L2.el1 λ_=>rfl)),L2.aI KX G ?h169 ?h170 ?h171 ?h172 (λ_ _ _ _ _ _=>(L2.el2 λ_ _=>rfl)),L2.aI KX G ?h173 ?h174 ?h175 ?h176 (λ_ _ _ _ _ _=>(L2.el1 λ_=>rfl)),L2.aI KX G ?h177 ?h178 ?h179 ?h180 (λ_ _ _ _ _ _=>(L2.el2 λ_ _=>rfl)),L2.aI KX G ?h181 ?h182 ?h183 ?h184 (λ_ _ _ _ _ _=>(L2.el2 λ_ _=>rfl)),L2.aI KX G ?h185 ?h186 ?h187 ?h188 (λ_ _ _ _ _ _=>(L2.el2 λ_ _=>rfl)),L2.aI KX G ?h189 ?h190 ?h191 ?h192 (λ_ _ _ _ _ _=>(L2.el7 λ_ _ _ _ _ _ _=>rfl)),L2.aI KX G ?h193 ?h194 ?h195 ?h196 (λ_ _ _ _ _ _=>(L2.el5 λ_ _ _ _ _=>rfl)),L2.fB ?h197 ?h198 ?h199 (λ_ _ _ _ _ _=>(L2.el1 λ_=>rfl)),L2.cp ?h200 ?h201 ?h202 ?h203 ?h204 (λ_ _ _ _ _ _=>(L2.el2 λ_ _=>rfl)),L2.fB ?h205 ?h206 ?h207 (λ_ _ _ _ _ _=>(L2.el1 λ_=>rfl)),L2.cp ?h208 ?h209 ?h210 ?h211 ?h212 (λ_ _ _ _ _ _=>(L2.el2 λ_ _=>rfl)),L2.cp ?h213 ?h214 ?h215 ?h216 ?h217 (λ_ _ _ _ _ _=>(L2.el2 λ_ _=>rfl)),L2.cp ?h218 ?h219 ?h220 ?h221 ?h222 (λ_ _ _ _ _ _=>(L2.el4 λ_ _ _ _=>rfl)),L2.cp ?h223 ?h224 ?h225 ?h226 ?h227 (λ_ _ _ _ _ _=>(L2.el1 λ_=>rfl)),L2.aI KX G ?h228 ?h229 ?h230 ?h231 (λ_ _ _ _ _ _=>(L2.el2 λ_ _=>rfl)),L2.aI KX G ?h232 ?h233 ?h234 ?h235 (λ_ _ _ _ _ _=>(L2.el2 λ_ _=>rfl)),L2.aI KX G ?h236 ?h237 ?h238 ?h239 (λ_ _ _ _ _ _=>(L2.el5 λ_ _ _ _ _=>rfl)),L2.aI KX G ?h240 ?h241 ?h242 ?h243 (λ_ _ _ _ _ _=>(L2.el3 λ_ _ _=>rfl)),L2.aI KX G ?h244 ?h245 ?h246 ?h247 (λ_ _ _ _ _ _=>(L2.el3 λ_ _ _=>rfl)),L2.aI KX G ?h248 ?h249 ?h250 ?h251 (λ_ _ _ _ _ _=>(L2.el2 λ_ _=>rfl)),L2.fB ?h252 ?h253 ?h254 (λ_ _ _ _ _ _=>(L2.el1 λ_=>rfl)),⟨?aRow_add,?iRow_add,?kRow_add⟩,L2.da (items:=[L2.iT 0]) ?lRow_add ?cRow_add ?kRow_add ?dRow_add,L2.FunD.binds [] 4 rfl (L2.da (items:=[L2.iT 0]) ?lRow_add ?cRow_add ?kRow_add ?dRow_add) (λ_ _ _ _ _ _ _=>(L2.el4 λ_ _ _ _=>⟨_,rfl,rfl⟩)),L2.FunD.binds [L2.iT 0] 3 rfl (L2.da (items:=[L2.iT 0]) ?lRow_add ?cRow_add ?kRow_add ?dRow_add) (λ_ _ _ _ _ _ _=>(L2.el3 λ_ _ _=>⟨_,rfl,rfl⟩)),(.cons L2.relT .nil),L2.cp ?h261 ?h262 ?h263 ?h264 ?h265 (λ_ _ _ _ _ _=>(L2.el2 λ_ _=>rfl)),L2.cp ?h266 ?h267 ?h268 ?h269 ?h270 (λ_ _ _ _ _ _=>(L2.el4 λ_ _ _ _=>rfl)),L2.aI KX G ?h271 ?h272 ?h273 ?h274 (λ_ _ _ _ _ _=>(L2.el1 λ_=>rfl)),L2.aI KX G ?h275 ?h276 ?h277 ?h278 (λ_ _ _ _ _ _=>(L2.el1 λ_=>rfl)),L2.aI KX G ?h279 ?h280 ?h281 ?h282 (λ_ _ _ _ _ _=>(L2.el1 λ_=>rfl)),L2.fB ?h283 ?h284 ?h285 (λ_ _ _ _ _ _=>(L2.el2 λ_ _=>rfl)),L2.cp ?h286 ?h287 ?h288 ?h289 ?h290 (λ_ _ _ _ _ _=>(L2.el1 λ_=>rfl)),L2.cp ?h291 ?h292 ?h293 ?h294 ?h295 (λ_ _ _ _ _ _=>(L2.el1 λ_=>rfl)),L2.cp ?h296 ?h297 ?h298 ?h299 ?h300 (λ_ _ _ _ _ _=>(L2.el2 λ_ _=>rfl)),L2.cp ?h301 ?h302 ?h303 ?h304 ?h305 (λ_ _ _ _ _ _=>(L2.el2 λ_ _=>rfl)),L2.cp ?h306 ?h307 ?h308 ?h309 ?h310 (λ_ _ _ _ _ _=>(L2.el2 λ_ _=>rfl)),L2.cp ?h311 ?h312 ?h313 ?h314 ?h315 (λ_ _ _ _ _ _=>(L2.el3 λ_ _ _=>rfl)),L2.fB ?h316 ?h317 ?h318 (λ_ _ _ _ _ _=>(L2.el1 λ_=>rfl)),L2.cp ?h319 ?h320 ?h321 ?h322 ?h323 (λ_ _ _ _ _ _=>(L2.el2 λ_ _=>rfl)),L2.cp ?h324 ?h325 ?h326 ?h327 ?h328 (λ_ _ _ _ _ _=>(L2.el2 λ_ _=>rfl)),L2.cp ?h329 ?h330 ?h331 ?h332 ?h333 (λ_ _ _ _ _ _=>(L2.el3 λ_ _ _=>rfl)),L2.cp ?h334 ?h335 ?h336 ?h337 ?h338 (λ_ _ _ _ _ _=>(L2.el3 λ_ _ _=>rfl)),L2.cp ?h339 ?h340 ?h341 ?h342 ?h343 (λ_ _ _ _ _ _=>(L2.el5 λ_ _ _ _ _=>rfl)),L2.cp ?h344 ?h345 ?h346 ?h347 ?h348 (λ_ _ _ _ _ _=>(L2.el2 λ_ _=>rfl)),L2.cp ?h349 ?h350 ?h351 ?h352 ?h353 (λ_ _ _ _ _ _=>(L2.el2 λ_ _=>rfl)),L2.fB ?h354 ?h355 ?h356 (λ_ _ _ _ _ _=>(L2.el1 λ_=>rfl)),L2.fB ?h357 ?h358 ?h359 (λ_ _ _ _ _ _=>(L2.el2 λ_ _=>rfl)),L2.cp ?h360 ?h361 ?h362 ?h363 ?h364 (λ_ _ _ _ _ _=>(L2.el2 λ_ _=>rfl)),L2.fB ?h365 ?h366 ?h367 (λ_ _ _ _ _ _=>(L2.el2 λ_ _=>rfl)),L2.cp ?h368 ?h369 ?h370 ?h371 ?h372 (λ_ _ _ _ _ _=>(L2.el2 λ_ _=>rfl)),L2.cp ?h373 ?h374 ?h375 ?h376 ?h377 (λ_ _ _ _ _ _=>(L2.el2 λ_ _=>rfl)),⟨?aCellar_put,?iCellar_put,?kCellar_put⟩,L2.da (items:=[.none,L2.iT 0]) ?lCellar_put ?cCellar_put ?kCellar_put ?dCellar_put,L2.FunD.binds [] 8 rfl (L2.da (items:=[.none,L2.iT 0]) ?lCellar_put ?cCellar_put ?kCellar_put ?dCellar_put) (λ_ _ _ _ _ _ _=>(L2.el8 λ_ _ _ _ _ _ _ _=>⟨_,rfl,rfl⟩)),L2.FunD.binds [L2.iT 0] 7 rfl (L2.da (items:=[.none,L2.iT 0]) ?lCellar_put ?cCellar_put ?kCellar_put ?dCellar_put) (λ_ _ _ _ _ _ _=>(L2.el7 λ_ _ _ _ _ _ _=>⟨_,rfl,rfl⟩)),(.cons L2.relT .nil),L2.FunD.binds [.none,L2.iT 0] 6 rfl (L2.da (items:=[.none,L2.iT 0]) ?lCellar_put ?cCellar_put ?kCellar_put ?dCellar_put) (λ_ _ _ _ _ _ _=>(L2.el6 λ_ _ _ _ _ _=>⟨_,rfl,rfl⟩)),(.cons rfl (.cons L2.relT .nil)),⟨?aCellar_read,?iCellar_read,?kCellar_read⟩,L2.da (items:=[L2.iT 10,.bool true]) ?lCellar_read ?cCellar_read ?kCellar_read ?dCellar_read,L2.FunD.binds [] 5 rfl (L2.da (items:=[L2.iT 10,.bool true]) ?lCellar_read ?cCellar_read ?kCellar_read ?dCellar_read) (λ_ _ _ _ _ _ _=>(L2.el5 λ_ _ _ _ _=>⟨_,rfl,rfl⟩)),L2.FunD.binds [.bool true] 4 rfl (L2.da (items:=[L2.iT 10,.bool true]) ?lCellar_read ?cCellar_read ?kCellar_read ?dCellar_read) (λ_ _ _ _ _ _ _=>(L2.el4 λ_ _ _ _=>⟨_,rfl,rfl⟩)),(.cons rfl .nil),L2.FunD.binds [L2.iT 10,.bool true] 3 rfl (L2.da (items:=[L2.iT 10,.bool true]) ?lCellar_read ?cCellar_read ?kCellar_read ?dCellar_read) (λ_ _ _ _ _ _ _=>(L2.el3 λ_ _ _=>⟨_,rfl,rfl⟩)),(.cons L2.relT (.cons rfl .nil)),L2.cp ?h390 ?h391 ?h392 ?h393 ?h394 (λ_ _ _ _ _ _=>(L2.el2 λ_ _=>rfl)),L2.aI KX G ?h395 ?h396 ?h397 ?h398 (λ_ _ _ _ _ _=>(L2.el2 λ_ _=>rfl)),L2.aI KX G ?h399 ?h400 ?h401 ?h402 (λ_ _ _ _ _ _=>(L2.el2 λ_ _=>rfl)),L2.aI KX G ?h403 ?h404 ?h405 ?h406 (λ_ _ _ _ _ _=>(L2.el2 λ_ _=>rfl)),L2.aI KX G ?h407 ?h408 ?h409 ?h410 (λ_ _ _ _ _ _=>(L2.el2 λ_ _=>rfl)),L2.aI KX G ?h411 ?h412 ?h413 ?h414 (λ_ _ _ _ _ _=>(L2.el1 λ_=>rfl)),L2.aI KX G ?h415 ?h416 ?h417 ?h418 (λ_ _ _ _ _ _=>(L2.el1 λ_=>rfl)),L2.aI KX G ?h419 ?h420 ?h421 ?h422 (λ_ _ _ _ _ _=>(L2.el2 λ_ _=>rfl)),L2.aI KX G ?h423 ?h424 ?h425 ?h426 (λ_ _ _ _ _ _=>(L2.el2 λ_ _=>rfl)),L2.aI KX G ?h427 ?h428 ?h429 ?h430 (λ_ _ _ _ _ _=>(L2.el1 λ_=>rfl)),L2.aI KX G ?h431 ?h432 ?h433 ?h434 (λ_ _ _ _ _ _=>(L2.el2 λ_ _=>rfl)),L2.aI KX G ?h435 ?h436 ?h437 ?h438 (λ_ _ _ _ _ _=>(L2.el1 λ_=>rfl)),L2.aI KX G ?h439 ?h440 ?h441 ?h442 (λ_ _ _ _ _ _=>(L2.el4 λ_ _ _ _=>rfl)),L2.aI KX G ?h443 ?h444 ?h445 ?h446 (λ_ _ _ _ _ _=>(L2.el3 λ_ _ _=>rfl)),L2.aI KX G ?h447 ?h448 ?h449 ?h450 (λ_ _ _ _ _ _=>(L2.el2 λ_ _=>rfl)),L2.aI KX G ?h451 ?h452 ?h453 ?h454 (λ_ _ _ _ _ _=>(L2.el4 λ_ _ _ _=>rfl)),L2.aI KX G ?h455 ?h456 ?h457 ?h458 (λ_ _ _ _ _ _=>(L2.el4 λ_ _ _ _=>rfl)),L2.aI KX G ?h459 ?h460 ?h461 ?h462 (λ_ _ _ _ _ _=>(L2.el1 λ_=>rfl)),⟨?h463,?h464,?h465,?h466⟩,?h467,?h468,⟨?h469,?h470,?h471,?h472⟩,?h473,⟨?h474,?h475,?h476,?h477⟩,?h478,?h479,?h480,?h481,⟨?h482,?h483,?h484,?h485⟩,?h486,⟨?h487,?h488,?h489,?h490⟩,?h491,?h492,?h493,⟨?h494,?h495,?h496,?h497⟩,?h498,?h499,⟨?h500,?h501,?h502,?h503⟩,?h504,?h505,⟨?h506,?h507,?h508,?h509⟩,?h510,?h511,?h512,?h513,?h514,?h515,?h516,⟨?h517,?h518,?h519,?h520,?h521,?h522⟩,?h523,?h524,⟨?h525,?h526,?h527,?h528,?h529,?h530⟩,?h531,?h532,⟨?h533,?h534,?h535,?h536,?h537,?h538⟩,?h539,?h540,⟨?h541,?h542,?h543,?h544,?h545,?h546⟩,?h547,?h548,?h549,⟨?h550,?h551,?h552,?h553,?h554,?h555⟩,?h556,?h557,⟨?h558,?h559,?h560,?h561,?h562,?h563⟩,?h564,?h565,⟨?h566,?h567,?h568,?h569,?h570,?h571⟩,?h572,?h573,W.mg_none_of KX G ?h574,W.mg_none_of KX G ?h575,W.mg_none_of KX G ?h576,W.mg_none_of KX G ?h577,W.mg_none_of KX G ?h578,W.mg_none_of KX G ?h579,W.mg_none_of KX G ?h580,W.mg_none_of KX G ?h581,W.mg_none_of KX G ?h582,W.mg_none_of KX G ?h583,W.mg_none_of KX G ?h584,W.mg_none_of KX G ?h585,W.mg_none_of KX G ?h586,W.mg_none_of KX G ?h587,W.mg_none_of KX G ?h588,W.mg_none_of KX G ?h589,W.mg_none_of KX G ?h590,L2.jY (W.mg_of KX G ?h591),L2.CW (W.mg_of KX G ?h592) ?h593 ?h594 (L2.jA ?h595 rfl (L2.jA ?h596 rfl L2.tK)),L2.jY (W.mg_of KX G ?h597),L2.CY (W.mg_of KX G ?h598) (.cons L2.relT (.cons L2.relT .nil)) (show 2<=PySem.sizeLine by decide) ?h599,L2.jY (W.mg_of KX G ?h600),L2.jY (W.mg_of KX G ?h601),L2.jY (W.mg_of KX G ?h602),L2.CW (W.mg_of KX G ?h603) ?h604 ?h605 (L2.jA ?h606 rfl (L2.jA ?h607 rfl L2.tK)),L2.jY (W.mg_of KX G ?h608),L2.jY (W.mg_of KX G ?h609),L2.jY (W.mg_of KX G ?h610),L2.jY (W.mg_of KX G ?h611),L2.CY (W.mg_of KX G ?h612) (.cons L2.relT (.cons L2.relT (.cons L2.relT (.cons L2.relT (.cons L2.relT (.cons L2.relT .nil)))))) (show 6<=PySem.sizeLine by decide) ?h613,L2.jY (W.mg_of KX G ?h614),λ_ _=>.of_eq rfl,L2.vD (.cons L2.relT (.cons L2.relT (.cons L2.relT (.cons L2.relT (.cons L2.relT (.cons L2.relT (.cons L2.relT .nil))))))) (show 7<=PySem.sizeLine by decide) ?h615,L2.vD (.cons L2.relT (.cons L2.relT .nil)) (show 2<=PySem.sizeLine by decide) ?h616⟩⟩
   case h0 | h1 | h2 | h3 | h4 | h5 | h6 | h7 | h8 | h9 | h10 | h11 | h12 | h13 | h14 | h15 | h16 | h17 | h18 | h19 | h20 | h21 | h22 | h23 | h24 | h25 | h26 | h27 | h28 | h29 | h30 | h31 | h32 | h33 | h34 | h35 | h36 | h37 | h38 | h39 | h40 | h41 | h42 | h43 | h44 | h45 | h46 | h47 | h48 | h49 | h50 | h51 | h52 | h53 | h54 | h55 | h56 | h57 | h58 | h59 | h60 | h61 | h62 | h63 | h64 | h65 | h66 | h67 | h68 | h69 | h70 | h71 | h72 | h73 | h74 | h75 | h76 | h77 | h78 | h79 | h80 | h81 | h82 | h83 | h84 | h85 | h86 | h87 | h88 | h89 | h90 | h91 | h92 | h93 | h94 | h95 | h96 | h97 | h98 | h99 | h100 | h101 | h102 | h103 | h104 | h105 | h106 | h107 | h108 | h109 | h110 | h111 | h112 | h113 | h114 | h115 | h116 | h117 | h118 | h119 | h120 | h121 | h122 | h123 | h124 | h125 | h126 | h127 | h128 | h129 | h130 | h131 | h132 | h133 | h134 | h135 | h136 | h137 | h138 | h139 | h140 | h141 | h142 | h143 | h144 | h145 | h146 | h147 | h148 | h149 | h150 | h151 | h152 | h153 | h154 | h155 | h156 | h157 | h158 | h159 | h160 | h161 | h162 | h163 | h164 | h165 | h166 | h167 | h168 | h169 | h170 | h171 | h172 | h173 | h174 | h175 | h176 | h177 | h178 | h179 | h180 | h181 | h182 | h183 | h184 | h185 | h186 | h187 | h188 | h189 | h190 | h191 | h192 | h193 | h194 | h195 | h196 | h197 | h198 | h199 | h200 | h201 | h202 | h203 | h204 | h205 | h206 | h207 | h208 | h209 | h210 | h211 | h212 | h213 | h214 | h215 | h216 | h217 | h218 | h219 | h220 | h221 | h222 | h223 | h224 | h225 | h226 | h227 | h228 | h229 | h230 | h231 | h232 | h233 | h234 | h235 | h236 | h237 | h238 | h239 | h240 | h241 | h242 | h243 | h244 | h245 | h246 | h247 | h248 | h249 | h250 | h251 | h252 | h253 | h254 | aRow_add | iRow_add | lRow_add | cRow_add | kRow_add | dRow_add | h261 | h262 | h263 | h264 | h265 | h266 | h267 | h268 | h269 | h270 | h271 | h272 | h273 | h274 | h275 | h276 | h277 | h278 | h279 | h280 | h281 | h282 | h283 | h284 | h285 | h286 | h287 | h288 | h289 | h290 | h291 | h292 | h293 | h294 | h295 | h296 | h297 | h298 | h299 | h300 | h301 | h302 | h303 | h304 | h305 | h306 | h307 | h308 | h309 | h310 | h311 | h312 | h313 | h314 | h315 | h316 | h317 | h318 | h319 | h320 | h321 | h322 | h323 | h324 | h325 | h326 | h327 | h328 | h329 | h330 | h331 | h332 | h333 | h334 | h335 | h336 | h337 | h338 | h339 | h340 | h341 | h342 | h343 | h344 | h345 | h346 | h347 | h348 | h349 | h350 | h351 | h352 | h353 | h354 | h355 | h356 | h357 | h358 | h359 | h360 | h361 | h362 | h363 | h364 | h365 | h366 | h367 | h368 | h369 | h370 | h371 | h372 | h373 | h374 | h375 | h376 | h377 | aCellar_put | iCellar_put | lCellar_put | cCellar_put | kCellar_put | dCellar_put | aCellar_read | iCellar_read | lCellar_read | cCellar_read | kCellar_read | dCellar_read | h390 | h391 | h392 | h393 | h394 | h395 | h396 | h397 | h398 | h399 | h400 | h401 | h402 | h403 | h404 | h405 | h406 | h407 | h408 | h409 | h410 | h411 | h412 | h413 | h414 | h415 | h416 | h417 | h418 | h419 | h420 | h421 | h422 | h423 | h424 | h425 | h426 | h427 | h428 | h429 | h430 | h431 | h432 | h433 | h434 | h435 | h436 | h437 | h438 | h439 | h440 | h441 | h442 | h443 | h444 | h445 | h446 | h447 | h448 | h449 | h450 | h451 | h452 | h453 | h454 | h455 | h456 | h457 | h458 | h459 | h460 | h461 | h462 | h463 | h464 | h465 | h466 | h467 | h468 | h469 | h470 | h471 | h472 | h473 | h474 | h475 | h476 | h477 | h478 | h479 | h480 | h481 | h482 | h483 | h484 | h485 | h486 | h487 | h488 | h489 | h490 | h491 | h492 | h493 | h494 | h495 | h496 | h497 | h498 | h499 | h500 | h501 | h502 | h503 | h504 | h505 | h506 | h507 | h508 | h509 | h510 | h511 | h512 | h513 | h514 | h515 | h516=>((try dsimp only);show _=_;k_is)
   case h517=>((try dsimp only);show _=_;kernel_rfl)
   case h518 | h519 | h520 | h521 | h522 | h523=>((try dsimp only);show _=_;k_is)
   case h524 | h525=>((try dsimp only);show _=_;kernel_rfl)
   case h526 | h527 | h528 | h529 | h530 | h531=>((try dsimp only);show _=_;k_is)
   case h532 | h533=>((try dsimp only);show _=_;kernel_rfl)
   case h534 | h535 | h536 | h537 | h538 | h539=>((try dsimp only);show _=_;k_is)
   case h540 | h541=>((try dsimp only);show _=_;kernel_rfl)
   case h542 | h543 | h544 | h545 | h546 | h547 | h548=>((try dsimp only);show _=_;k_is)
   case h549 | h550=>((try dsimp only);show _=_;kernel_rfl)
   case h551 | h552 | h553 | h554 | h555 | h556=>((try dsimp only);show _=_;k_is)
   case h557 | h558=>((try dsimp only);show _=_;kernel_rfl)
   case h559 | h560 | h561 | h562 | h563 | h564=>((try dsimp only);show _=_;k_is)
   case h565 | h566=>((try dsimp only);show _=_;kernel_rfl)
   case h567 | h568 | h569 | h570 | h571 | h572=>((try dsimp only);show _=_;k_is)
   case h573=>((try dsimp only);show _=_;kernel_rfl)
   case h574 | h575 | h576 | h577 | h578 | h579 | h580 | h581 | h582 | h583 | h584 | h585 | h586 | h587 | h588 | h589 | h590 | h591 | h592 | h593=>((try dsimp only);show _=_;k_is)
   case h594=>repeat (first | exact L2.StrEnts.nil | refine L2.StrEnts.cons ?_)
   case h595 | h596=>rfl
   case h597 | h598 | h599 | h600 | h601 | h602 | h603 | h604=>((try dsimp only);show _=_;k_is)
   case h605=>repeat (first | exact L2.StrEnts.nil | refine L2.StrEnts.cons ?_)
   case h606 | h607=>rfl
   case h608 | h609 | h610 | h611 | h612 | h613 | h614 | h615 | h616=>((try dsimp only);show _=_;k_is)
  obtain⟨t,T⟩:=T
  have e0:=hmg.symm.trans T.CZ.m
  cases e0
  exact⟨_,T.El,λbase kb nb=>K71.En T⟩
#print axioms PySem.Challenge.cw_lettercell_k71_letters_put_and_read_holds
