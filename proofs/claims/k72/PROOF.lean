import PyProof.Rows.All
import OpenK.KLine
import Wide.FinOn
import KE.BitLaws
import KE.IntTextLaws
import KE.KDictList
import KE.KDictOf
import KE.KDictSum
import KE.KEqDict
import KE.KFromBytes
import KE.KIntText
import KE.KIsAll
import KE.KItem
import KE.KPairComp
import KE.KRevIter
import KE.KTryMore
import KE.KxBytes
import KE.LcSums
import OpenK.KRaise
import PyProof.EqAt
import PyProof.EqKinds
import PyProof.TupleCall
import PyProof.StationsW
import PyProof.ExcBaseAll.ValueError
import PyProof.ExcInit
import PyProof.InstStoreFacts
import PyProof.NsDelKeeps
import PyProof.StrLawsReplace
import PyProof.StrLawsTight
import PyProof.StrReplace2
import PyProof.Rows.StrIntSpec
import PyProof.EnumMake
import PyProof.Rows.CallKwBuiltin
import PyProof.TupleIter
import PySem.Challenge.RW_lettercell_k72_numbers_sent_again
section
open PySem PySem.W PyProof.Rows
set_option Elab.async false
set_option linter.all false
set_option maxRecDepth 1000000
open Lean in
local macro_rules | `(command| #print $l:str) => do
  let "shut" :: n :: p :: ss := l.getString.splitOn " " | Macro.throwUnsupported
  let hs := (`looseL).hash :: ((List.range n.toNat!).map fun i => ((`hdW).str s!"o_{i}").hash) ++ (ss.map fun s => ((`hdW).str s).hash) ++ ["pw_", "rw_"].map fun s => ((`PySem.Challenge).str (s ++ p)).hash
  let ds ← hs.toArray.mapM fun h => `(Parser.Term.letRecDecl| $(mkIdent (.mkSimple s!"tw{h}")):ident : True := trivial)
  `(command| theorem $(mkIdent `PySem.W.Fast) : True := trivial where $[$ds:letRecDecl];*)
#print "shut 2621 lettercell_k72_numbers_sent_again tree_47 tree_77 tree_92 tree_114 tree_136 tree_151 tree_173 tree_195 tree_217 tree_232 tree_254 tree_276 tree_291 tree_313 tree_335 tree_350 tree_372 tree_394 tree_416 tree_464 tree_488 tree_575 tree_668 tree_684 tree_687 tree_753 tree_837 tree_923 tree_977 tree_1001 tree_1106 tree_1189 tree_1215 tree_1348 tree_1432 tree_1479 tree_1613 tree_1698 tree_1703 tree_1769 tree_1790 tree_1860 tree_1861 tree_1934 tree_1935 tree_2013 tree_2036 tree_2104 tree_2105 tree_2356 tree_2437 tree_2529 tree_2614 heap_39 heap_46 heap_2615 sts_49 sts_78 sts_93 sts_115 sts_137 sts_152 sts_174 sts_196 sts_218 sts_233 sts_255 sts_277 sts_292 sts_314 sts_336 sts_351 sts_373 sts_395 sts_417 sts_465 sts_491 sts_576 sts_669 sts_685 sts_690 sts_754 sts_838 sts_924 sts_978 sts_1002 sts_1193 sts_1216 sts_1436 sts_1480 sts_1702 sts_1704 sts_1770 sts_1791 sts_1861 sts_1863 sts_1935 sts_1937 sts_2014 sts_2037 sts_2105 sts_2107 sts_2533 view_39 env_41"
noncomputable def qL : Program := { PySem.Challenge.pw_lettercell_k72_numbers_sent_again with main := { PySem.Challenge.pw_lettercell_k72_numbers_sent_again.main with body := PySem.Challenge.pw_lettercell_k72_numbers_sent_again.main.body.drop (PySem.Challenge.pw_lettercell_k72_numbers_sent_again.main.body.length - 1) } }
def looseL : List Str := [Str.ofString "_wall", Str.ofString "floor_by", Str.ofString "CellarError", Str.ofString "BadWord", Str.ofString "NoSuch", Str.ofString "Doubled", Str.ofString "SenderError", Str.ofString "Fenced", Str.ofString "Gap", Str.ofString "TooOld", Str.ofString "LoanError", Str.ofString "Late", Str.ofString "Twice", Str.ofString "DeedError", Str.ofString "Busy", Str.ofString "NoDeed", Str.ofString "RowError", Str.ofString "WrongKind", Str.ofString "Needed", Str.ofString "Gone", Str.ofString "Beyond", Str.ofString "guarded", Str.ofString "joined", Str.ofString "sum_of", Str.ofString "line_of", Str.ofString "PARTS", Str.ofString "TEXTS", Str.ofString "word_text", Str.ofString "owner_text", Str.ofString "text_of", Str.ofString "event_of", Str.ofString "body_for", Str.ofString "body_for_shelves", Str.ofString "hail_happens", Str.ofString "put_happens", Str.ofString "begin_happens", Str.ofString "pledge_happens", Str.ofString "close_happens", Str.ofString "drop_happens", Str.ofString "found_happens", Str.ofString "enter_happens", Str.ofString "leave_happens", Str.ofString "deal_happens", Str.ofString "aside_happens", Str.ofString "lend_happens", Str.ofString "answer_happens", Str.ofString "back_happens", Str.ofString "turn_happens", Str.ofString "attach_happens", Str.ofString "advance_happens", Str.ofString "detach_happens", Str.ofString "away_happens", Str.ofString "drawn_happens", Str.ofString "cut_happens", Str.ofString "HAPPENINGS", Str.ofString "happen", Str.ofString "NAME_SIGNS", Str.ofString "NAME_MOST", Str.ofString "KEY_MOST", Str.ofString "WORD_MOST", Str.ofString "PER_CENT", Str.ofString "is_text", Str.ofString "is_sign", Str.ofString "is_name", Str.ofString "is_key", Str.ofString "is_word", Str.ofString "is_whole", Str.ofString "spread", Str.ofString "row_in", Str.ofString "GREATEST", Str.ofString "TURNS_MOST", Str.ofString "LETTERS_MOST", Str.ofString "TRIES_MOST", Str.ofString "WIDTH_MOST", Str.ofString "check_names", Str.ofString "check_wholes", Str.ofString "check_letter", Str.ofString "check_truth", Str.ofString "check_there", Str.ofString "check_group", Str.ofString "check_group_row", Str.ofString "check_kind", Str.ofString "asked_row", Str.ofString "asked_sender", Str.ofString "asked_reader", Str.ofString "hail_act", Str.ofString "put_act", Str.ofString "begin_act", Str.ofString "pledge_act", Str.ofString "close_act", Str.ofString "drop_act", Str.ofString "found_act", Str.ofString "dealt_act", Str.ofString "enter_act", Str.ofString "leave_act", Str.ofString "loan_act", Str.ofString "attach_act", Str.ofString "detach_act", Str.ofString "advance_act", Str.ofString "cut_act", Str.ofString "read_from", Str.ofString "Book", Str.ofString "rows_had", Str.ofString "shares", Str.ofString "rows_kept", Str.ofString "dealt", Str.ofString "moved", Str.ofString "Dealing", Str.ofString "Deed", Str.ofString "Deeds", Str.ofString "is_beneath", Str.ofString "row_not_beneath", Str.ofString "lower", Str.ofString "lower_once", Str.ofString "lowered", Str.ofString "fronts", Str.ofString "Lending", Str.ofString "KINDS", Str.ofString "SHELVES_MOST", Str.ofString "ROWS_MOST", Str.ofString "Row", Str.ofString "is_kind", Str.ofString "is_shelf", Str.ofString "are_shelves", Str.ofString "Shelves", Str.ofString "SPOTS_KEPT", Str.ofString "Senders", Str.ofString "Readers", Str.ofString "Group", Str.ofString "State", Str.ofString "Cellar", Str.ofString "_law_cell_at", Str.ofString "_law_mixed", Str.ofString "_law_sign", Str.ofString "_law_letter", Str.ofString "_law_names", Str.ofString "_law_keys", Str.ofString "_law_whole", Str.ofString "_law_put", Str.ofString "_law_due", Str.ofString "_law_turned", Str.ofString "_law_step"]
theorem chunk_eq {α β γ : Type} {f : α → γ} {g : β → γ} {a : List α} {b : List β} (n : Nat) (h1 : (a.take n).map f = (b.take n).map g) (h2 : (a.drop n).map f = (b.drop n).map g) : a.map f = b.map g := by
  rw [← List.take_append_drop n a, ← List.take_append_drop n b, List.map_append, List.map_append, h1, h2]
local macro_rules
  | `(tactic| refine $t:term) => do
    let a := t.raw
    unless a.getKind == ``Lean.Parser.Term.app do Lean.Macro.throwUnsupported
    let args := a[1].getArgs
    let nameOf (x : Lean.Syntax) : Option Lean.Name := if x.getKind == ``Lean.Parser.Term.namedArgument then some x[1].getId.eraseMacroScopes else none
    let some i := args.findIdx? (nameOf · == some `Yf) | Lean.Macro.throwUnsupported
    let some j := args.findIdx? (nameOf · == some `Ya) | Lean.Macro.throwUnsupported
    let obs : Lean.Term := ⟨args[i]![3]⟩
    let H ← match obs with | `(Hook.obs ($f:ident $k $as $e)) => pure (some (k, as, e)) | `($p:ident ($f:ident $k $as $e)) => pure (some (k, as, e)) | _ => pure none
    let some (k, as, e) := H | Lean.Macro.throwUnsupported
    let rec mk (d : Nat) (leaf : Lean.Term → Lean.MacroM Lean.Term) (x : Lean.Term) : Lean.MacroM Lean.Term := do
      match d with
      | 0 => leaf x
      | d + 1 =>
        let n := Lean.Syntax.mkNumLit (toString (16 * 2 ^ d))
        let l ← mk d leaf (← `(List.take $n $x))
        let r ← mk d leaf (← `(List.drop $n $x))
        `((Prod.mk $l $r))
    let rec pr (d : Nat) (h : Lean.Term) : Lean.MacroM Lean.Term := do
      match d with
      | 0 => pure h
      | d + 1 =>
        let n := Lean.Syntax.mkNumLit (toString (16 * 2 ^ d))
        let l ← pr d (← `(congrArg Prod.fst $h))
        let r ← pr d (← `(congrArg Prod.snd $h))
        `((chunk_eq $n $l $r))
    let dep := 7
    let o ← mk dep (fun x => `(List.map (Shared.heap s).get? $x)) as
    let v ← mk dep (fun x => `(List.map (fun p => some (Prod.snd p)) $x)) (← `($k (World.params w)))
    let p ← pr dep (← `(y))
    let yf ← `(fun (s : Shared) => $o)
    let ya ← `(fun (w : World) => $v)
    let ofT ← `((fun w s y => InK.of $e w s $p))
    let mut out := args
    out := out.set! i ((args[i]!).setArg 3 yf)
    out := out.set! j ((args[j]!).setArg 3 ya)
    let isOf (x : Lean.Syntax) : Bool := match (⟨x⟩ : Lean.Term) with | `(($p:ident $_h)) => p.getId.eraseMacroScopes.toString.endsWith "Hook.of" | `(($p:ident $_h $_b)) => false | _ => false
    let some iq := args.findIdx? (nameOf · == some `q) | Lean.Macro.throwError "no q"
    let some il := args.findIdx? (nameOf · == some `loose) | Lean.Macro.throwError "no loose"
    let qOld := args[iq]![3]
    let lOld := args[il]![3]
    let rep (x : Lean.Syntax) : Lean.Syntax := Id.run (x.replaceM fun y => pure (if y == qOld then some (Lean.mkIdent `qL).raw else if y == lOld then some (Lean.mkIdent `looseL).raw else none))
    out := out.map rep
    let some m := out.findIdx? isOf | Lean.Macro.throwError "no Hook.of"
    out := out.set! m ofT
    out := out.set! (out.size - 1) (Lean.mkIdent `hWalk).raw
    let t' : Lean.Term := ⟨a.setArg 1 (a[1].setArgs out)⟩
    `(tactic| refine $t')
set_option maxHeartbeats 0 in
noncomputable def hdW : PSigma fun P : Prop => (P → PySem.Challenge.rw_lettercell_k72_numbers_sent_again.Holds) := ⟨_, fun hWalk => by
  w_on; o_law; k_head; (case hw => w_witness2)⟩
end
set_option genSizeOf false
set_option bootstrap.genMatcherCode false
set_option Elab.async false
set_option linter.all false
set_option maxHeartbeats 4000000
set_option maxRecDepth 100000
open Lean in
local macro_rules | `(s!$x:interpolatedStr) => do
  let some t := x.raw[0].isInterpolatedStrLit? | Macro.throwUnsupported
  match t with
  | "d" => `(by decide +kernel)
  | "f" => `(⟨rfl, rfl, rfl, by decide +kernel, rfl, by decide +kernel, by decide +kernel⟩)
  | _ => Macro.throwUnsupported
theorem ow01{p0 p1:Prop}{G:Prop}(k:p0->p1->G):(p0/\p1)->G:=fun h=>k h.1 h.2
theorem ow21{t0 t1:Type}{p0 p1:t0->t1->Prop}{G:Prop}(k:∀x0,∀x1,p0 x0 x1->p1 x0 x1->G):(∃x0 x1,p0 x0 x1/\p1 x0 x1)->G:=fun h=>h.elim fun x0 g0=>g0.elim fun x1 g1=>k x0 x1 g1.1 g1.2
theorem ow11{t0:Type}{p0 p1:t0->Prop}{G:Prop}(k:∀x0,p0 x0->p1 x0->G):(∃x0,p0 x0/\p1 x0)->G:=fun h=>h.elim fun x0 g0=>k x0 g0.1 g0.2
theorem ow02{p0 p1 p2:Prop}{G:Prop}(k:p0->p1->p2->G):(p0/\p1/\p2)->G:=fun h=>k h.1 h.2.1 h.2.2
theorem ow31{t0 t1 t2:Type}{p0 p1:t0->t1->t2->Prop}{G:Prop}(k:∀x0,∀x1,∀x2,p0 x0 x1 x2->p1 x0 x1 x2->G):(∃x0 x1 x2,p0 x0 x1 x2/\p1 x0 x1 x2)->G:=fun h=>h.elim fun x0 g0=>g0.elim fun x1 g1=>g1.elim fun x2 g2=>k x0 x1 x2 g2.1 g2.2
theorem ow41{t0 t1 t2 t3:Type}{p0 p1:t0->t1->t2->t3->Prop}{G:Prop}(k:∀x0,∀x1,∀x2,∀x3,p0 x0 x1 x2 x3->p1 x0 x1 x2 x3->G):(∃x0 x1 x2 x3,p0 x0 x1 x2 x3/\p1 x0 x1 x2 x3)->G:=fun h=>h.elim fun x0 g0=>g0.elim fun x1 g1=>g1.elim fun x2 g2=>g2.elim fun x3 g3=>k x0 x1 x2 x3 g3.1 g3.2
theorem ow04{p0 p1 p2 p3 p4:Prop}{G:Prop}(k:p0->p1->p2->p3->p4->G):(p0/\p1/\p2/\p3/\p4)->G:=fun h=>k h.1 h.2.1 h.2.2.1 h.2.2.2.1 h.2.2.2.2
theorem ow30{t0 t1 t2:Type}{p0:t0->t1->t2->Prop}{G:Prop}(k:∀x0,∀x1,∀x2,p0 x0 x1 x2->G):(∃x0 x1 x2,p0 x0 x1 x2)->G:=fun h=>h.elim fun x0 g0=>g0.elim fun x1 g1=>g1.elim fun x2 g2=>k x0 x1 x2 g2
theorem ow32{t0 t1 t2:Type}{p0 p1 p2:t0->t1->t2->Prop}{G:Prop}(k:∀x0,∀x1,∀x2,p0 x0 x1 x2->p1 x0 x1 x2->p2 x0 x1 x2->G):(∃x0 x1 x2,p0 x0 x1 x2/\p1 x0 x1 x2/\p2 x0 x1 x2)->G:=fun h=>h.elim fun x0 g0=>g0.elim fun x1 g1=>g1.elim fun x2 g2=>k x0 x1 x2 g2.1 g2.2.1 g2.2.2
theorem ow23{t0 t1:Type}{p0 p1 p2 p3:t0->t1->Prop}{G:Prop}(k:∀x0,∀x1,p0 x0 x1->p1 x0 x1->p2 x0 x1->p3 x0 x1->G):(∃x0 x1,p0 x0 x1/\p1 x0 x1/\p2 x0 x1/\p3 x0 x1)->G:=fun h=>h.elim fun x0 g0=>g0.elim fun x1 g1=>k x0 x1 g1.1 g1.2.1 g1.2.2.1 g1.2.2.2
theorem ow12{t0:Type}{p0 p1 p2:t0->Prop}{G:Prop}(k:∀x0,p0 x0->p1 x0->p2 x0->G):(∃x0,p0 x0/\p1 x0/\p2 x0)->G:=fun h=>h.elim fun x0 g0=>k x0 g0.1 g0.2.1 g0.2.2
theorem ow13{t0:Type}{p0 p1 p2 p3:t0->Prop}{G:Prop}(k:∀x0,p0 x0->p1 x0->p2 x0->p3 x0->G):(∃x0,p0 x0/\p1 x0/\p2 x0/\p3 x0)->G:=fun h=>h.elim fun x0 g0=>k x0 g0.1 g0.2.1 g0.2.2.1 g0.2.2.2
theorem ow22{t0 t1:Type}{p0 p1 p2:t0->t1->Prop}{G:Prop}(k:∀x0,∀x1,p0 x0 x1->p1 x0 x1->p2 x0 x1->G):(∃x0 x1,p0 x0 x1/\p1 x0 x1/\p2 x0 x1)->G:=fun h=>h.elim fun x0 g0=>g0.elim fun x1 g1=>k x0 x1 g1.1 g1.2.1 g1.2.2
theorem ow24{t0 t1:Type}{p0 p1 p2 p3 p4:t0->t1->Prop}{G:Prop}(k:∀x0,∀x1,p0 x0 x1->p1 x0 x1->p2 x0 x1->p3 x0 x1->p4 x0 x1->G):(∃x0 x1,p0 x0 x1/\p1 x0 x1/\p2 x0 x1/\p3 x0 x1/\p4 x0 x1)->G:=fun h=>h.elim fun x0 g0=>g0.elim fun x1 g1=>k x0 x1 g1.1 g1.2.1 g1.2.2.1 g1.2.2.2.1 g1.2.2.2.2
theorem ow10{t0:Type}{p0:t0->Prop}{G:Prop}(k:∀x0,p0 x0->G):(∃x0,p0 x0)->G:=fun h=>h.elim fun x0 g0=>k x0 g0
theorem ow34{t0 t1 t2:Type}{p0 p1 p2 p3 p4:t0->t1->t2->Prop}{G:Prop}(k:∀x0,∀x1,∀x2,p0 x0 x1 x2->p1 x0 x1 x2->p2 x0 x1 x2->p3 x0 x1 x2->p4 x0 x1 x2->G):(∃x0 x1 x2,p0 x0 x1 x2/\p1 x0 x1 x2/\p2 x0 x1 x2/\p3 x0 x1 x2/\p4 x0 x1 x2)->G:=fun h=>h.elim fun x0 g0=>g0.elim fun x1 g1=>g1.elim fun x2 g2=>k x0 x1 x2 g2.1 g2.2.1 g2.2.2.1 g2.2.2.2.1 g2.2.2.2.2
theorem ow33{t0 t1 t2:Type}{p0 p1 p2 p3:t0->t1->t2->Prop}{G:Prop}(k:∀x0,∀x1,∀x2,p0 x0 x1 x2->p1 x0 x1 x2->p2 x0 x1 x2->p3 x0 x1 x2->G):(∃x0 x1 x2,p0 x0 x1 x2/\p1 x0 x1 x2/\p2 x0 x1 x2/\p3 x0 x1 x2)->G:=fun h=>h.elim fun x0 g0=>g0.elim fun x1 g1=>g1.elim fun x2 g2=>k x0 x1 x2 g2.1 g2.2.1 g2.2.2.1 g2.2.2.2
theorem ow44{t0 t1 t2 t3:Type}{p0 p1 p2 p3 p4:t0->t1->t2->t3->Prop}{G:Prop}(k:∀x0,∀x1,∀x2,∀x3,p0 x0 x1 x2 x3->p1 x0 x1 x2 x3->p2 x0 x1 x2 x3->p3 x0 x1 x2 x3->p4 x0 x1 x2 x3->G):(∃x0 x1 x2 x3,p0 x0 x1 x2 x3/\p1 x0 x1 x2 x3/\p2 x0 x1 x2 x3/\p3 x0 x1 x2 x3/\p4 x0 x1 x2 x3)->G:=fun h=>h.elim fun x0 g0=>g0.elim fun x1 g1=>g1.elim fun x2 g2=>g2.elim fun x3 g3=>k x0 x1 x2 x3 g3.1 g3.2.1 g3.2.2.1 g3.2.2.2.1 g3.2.2.2.2
theorem ow05{p0 p1 p2 p3 p4 p5:Prop}{G:Prop}(k:p0->p1->p2->p3->p4->p5->G):(p0/\p1/\p2/\p3/\p4/\p5)->G:=fun h=>k h.1 h.2.1 h.2.2.1 h.2.2.2.1 h.2.2.2.2.1 h.2.2.2.2.2
theorem ow60{t0 t1 t2 t3 t4 t5:Type}{p0:t0->t1->t2->t3->t4->t5->Prop}{G:Prop}(k:∀x0,∀x1,∀x2,∀x3,∀x4,∀x5,p0 x0 x1 x2 x3 x4 x5->G):(∃x0 x1 x2 x3 x4 x5,p0 x0 x1 x2 x3 x4 x5)->G:=fun h=>h.elim fun x0 g0=>g0.elim fun x1 g1=>g1.elim fun x2 g2=>g2.elim fun x3 g3=>g3.elim fun x4 g4=>g4.elim fun x5 g5=>k x0 x1 x2 x3 x4 x5 g5
theorem ow43{t0 t1 t2 t3:Type}{p0 p1 p2 p3:t0->t1->t2->t3->Prop}{G:Prop}(k:∀x0,∀x1,∀x2,∀x3,p0 x0 x1 x2 x3->p1 x0 x1 x2 x3->p2 x0 x1 x2 x3->p3 x0 x1 x2 x3->G):(∃x0 x1 x2 x3,p0 x0 x1 x2 x3/\p1 x0 x1 x2 x3/\p2 x0 x1 x2 x3/\p3 x0 x1 x2 x3)->G:=fun h=>h.elim fun x0 g0=>g0.elim fun x1 g1=>g1.elim fun x2 g2=>g2.elim fun x3 g3=>k x0 x1 x2 x3 g3.1 g3.2.1 g3.2.2.1 g3.2.2.2
theorem iw21{t0 t1:Type}{p0 p1:t0->t1->Prop}(x0:t0)(x1:t1)(h0:p0 x0 x1)(h1:p1 x0 x1):∃x0 x1,p0 x0 x1/\p1 x0 x1:=⟨x0,x1,h0,h1⟩
theorem iw11{t0:Type}{p0 p1:t0->Prop}(x0:t0)(h0:p0 x0)(h1:p1 x0):∃x0,p0 x0/\p1 x0:=⟨x0,h0,h1⟩
theorem iw31{t0 t1 t2:Type}{p0 p1:t0->t1->t2->Prop}(x0:t0)(x1:t1)(x2:t2)(h0:p0 x0 x1 x2)(h1:p1 x0 x1 x2):∃x0 x1 x2,p0 x0 x1 x2/\p1 x0 x1 x2:=⟨x0,x1,x2,h0,h1⟩
theorem iw30{t0 t1 t2:Type}{p0:t0->t1->t2->Prop}(x0:t0)(x1:t1)(x2:t2)(h0:p0 x0 x1 x2):∃x0 x1 x2,p0 x0 x1 x2:=⟨x0,x1,x2,h0⟩
theorem iw23{t0 t1:Type}{p0 p1 p2 p3:t0->t1->Prop}(x0:t0)(x1:t1)(h0:p0 x0 x1)(h1:p1 x0 x1)(h2:p2 x0 x1)(h3:p3 x0 x1):∃x0 x1,p0 x0 x1/\p1 x0 x1/\p2 x0 x1/\p3 x0 x1:=⟨x0,x1,h0,h1,h2,h3⟩
theorem iw22{t0 t1:Type}{p0 p1 p2:t0->t1->Prop}(x0:t0)(x1:t1)(h0:p0 x0 x1)(h1:p1 x0 x1)(h2:p2 x0 x1):∃x0 x1,p0 x0 x1/\p1 x0 x1/\p2 x0 x1:=⟨x0,x1,h0,h1,h2⟩
theorem iw12{t0:Type}{p0 p1 p2:t0->Prop}(x0:t0)(h0:p0 x0)(h1:p1 x0)(h2:p2 x0):∃x0,p0 x0/\p1 x0/\p2 x0:=⟨x0,h0,h1,h2⟩
theorem iw10{t0:Type}{p0:t0->Prop}(x0:t0)(h0:p0 x0):∃x0,p0 x0:=⟨x0,h0⟩
theorem iw32{t0 t1 t2:Type}{p0 p1 p2:t0->t1->t2->Prop}(x0:t0)(x1:t1)(x2:t2)(h0:p0 x0 x1 x2)(h1:p1 x0 x1 x2)(h2:p2 x0 x1 x2):∃x0 x1 x2,p0 x0 x1 x2/\p1 x0 x1 x2/\p2 x0 x1 x2:=⟨x0,x1,x2,h0,h1,h2⟩
theorem iw24{t0 t1:Type}{p0 p1 p2 p3 p4:t0->t1->Prop}(x0:t0)(x1:t1)(h0:p0 x0 x1)(h1:p1 x0 x1)(h2:p2 x0 x1)(h3:p3 x0 x1)(h4:p4 x0 x1):∃x0 x1,p0 x0 x1/\p1 x0 x1/\p2 x0 x1/\p3 x0 x1/\p4 x0 x1:=⟨x0,x1,h0,h1,h2,h3,h4⟩
theorem iw55{t0 t1 t2 t3 t4:Type}{p0 p1 p2 p3 p4 p5:t0->t1->t2->t3->t4->Prop}(x0:t0)(x1:t1)(x2:t2)(x3:t3)(x4:t4)(h0:p0 x0 x1 x2 x3 x4)(h1:p1 x0 x1 x2 x3 x4)(h2:p2 x0 x1 x2 x3 x4)(h3:p3 x0 x1 x2 x3 x4)(h4:p4 x0 x1 x2 x3 x4)(h5:p5 x0 x1 x2 x3 x4):∃x0 x1 x2 x3 x4,p0 x0 x1 x2 x3 x4/\p1 x0 x1 x2 x3 x4/\p2 x0 x1 x2 x3 x4/\p3 x0 x1 x2 x3 x4/\p4 x0 x1 x2 x3 x4/\p5 x0 x1 x2 x3 x4:=⟨x0,x1,x2,x3,x4,h0,h1,h2,h3,h4,h5⟩
theorem iw33{t0 t1 t2:Type}{p0 p1 p2 p3:t0->t1->t2->Prop}(x0:t0)(x1:t1)(x2:t2)(h0:p0 x0 x1 x2)(h1:p1 x0 x1 x2)(h2:p2 x0 x1 x2)(h3:p3 x0 x1 x2):∃x0 x1 x2,p0 x0 x1 x2/\p1 x0 x1 x2/\p2 x0 x1 x2/\p3 x0 x1 x2:=⟨x0,x1,x2,h0,h1,h2,h3⟩
theorem iw13{t0:Type}{p0 p1 p2 p3:t0->Prop}(x0:t0)(h0:p0 x0)(h1:p1 x0)(h2:p2 x0)(h3:p3 x0):∃x0,p0 x0/\p1 x0/\p2 x0/\p3 x0:=⟨x0,h0,h1,h2,h3⟩
theorem iw14{t0:Type}{p0 p1 p2 p3 p4:t0->Prop}(x0:t0)(h0:p0 x0)(h1:p1 x0)(h2:p2 x0)(h3:p3 x0)(h4:p4 x0):∃x0,p0 x0/\p1 x0/\p2 x0/\p3 x0/\p4 x0:=⟨x0,h0,h1,h2,h3,h4⟩
theorem iw34{t0 t1 t2:Type}{p0 p1 p2 p3 p4:t0->t1->t2->Prop}(x0:t0)(x1:t1)(x2:t2)(h0:p0 x0 x1 x2)(h1:p1 x0 x1 x2)(h2:p2 x0 x1 x2)(h3:p3 x0 x1 x2)(h4:p4 x0 x1 x2):∃x0 x1 x2,p0 x0 x1 x2/\p1 x0 x1 x2/\p2 x0 x1 x2/\p3 x0 x1 x2/\p4 x0 x1 x2:=⟨x0,x1,x2,h0,h1,h2,h3,h4⟩
theorem iw20{t0 t1:Type}{p0:t0->t1->Prop}(x0:t0)(x1:t1)(h0:p0 x0 x1):∃x0 x1,p0 x0 x1:=⟨x0,x1,h0⟩
theorem iw60{t0 t1 t2 t3 t4 t5:Type}{p0:t0->t1->t2->t3->t4->t5->Prop}(x0:t0)(x1:t1)(x2:t2)(x3:t3)(x4:t4)(x5:t5)(h0:p0 x0 x1 x2 x3 x4 x5):∃x0 x1 x2 x3 x4 x5,p0 x0 x1 x2 x3 x4 x5:=⟨x0,x1,x2,x3,x4,x5,h0⟩
theorem iw44{t0 t1 t2 t3:Type}{p0 p1 p2 p3 p4:t0->t1->t2->t3->Prop}(x0:t0)(x1:t1)(x2:t2)(x3:t3)(h0:p0 x0 x1 x2 x3)(h1:p1 x0 x1 x2 x3)(h2:p2 x0 x1 x2 x3)(h3:p3 x0 x1 x2 x3)(h4:p4 x0 x1 x2 x3):∃x0 x1 x2 x3,p0 x0 x1 x2 x3/\p1 x0 x1 x2 x3/\p2 x0 x1 x2 x3/\p3 x0 x1 x2 x3/\p4 x0 x1 x2 x3:=⟨x0,x1,x2,x3,h0,h1,h2,h3,h4⟩
theorem iw15{t0:Type}{p0 p1 p2 p3 p4 p5:t0->Prop}(x0:t0)(h0:p0 x0)(h1:p1 x0)(h2:p2 x0)(h3:p3 x0)(h4:p4 x0)(h5:p5 x0):∃x0,p0 x0/\p1 x0/\p2 x0/\p3 x0/\p4 x0/\p5 x0:=⟨x0,h0,h1,h2,h3,h4,h5⟩
theorem iw51{t0 t1 t2 t3 t4:Type}{p0 p1:t0->t1->t2->t3->t4->Prop}(x0:t0)(x1:t1)(x2:t2)(x3:t3)(x4:t4)(h0:p0 x0 x1 x2 x3 x4)(h1:p1 x0 x1 x2 x3 x4):∃x0 x1 x2 x3 x4,p0 x0 x1 x2 x3 x4/\p1 x0 x1 x2 x3 x4:=⟨x0,x1,x2,x3,x4,h0,h1⟩
theorem pw11{t0:Type}{p0 p1:t0->Prop}{G:Prop}(h:∃x0,p0 x0/\p1 x0)(k:∀x0,p0 x0->p1 x0->G):G:=h.elim fun x0 g0=>k x0 g0.1 g0.2
theorem pw01{p0 p1:Prop}{G:Prop}(h:p0/\p1)(k:p0->p1->G):G:=k h.1 h.2
theorem pw21{t0 t1:Type}{p0 p1:t0->t1->Prop}{G:Prop}(h:∃x0 x1,p0 x0 x1/\p1 x0 x1)(k:∀x0,∀x1,p0 x0 x1->p1 x0 x1->G):G:=h.elim fun x0 g0=>g0.elim fun x1 g1=>k x0 x1 g1.1 g1.2
theorem pw04{p0 p1 p2 p3 p4:Prop}{G:Prop}(h:p0/\p1/\p2/\p3/\p4)(k:p0->p1->p2->p3->p4->G):G:=k h.1 h.2.1 h.2.2.1 h.2.2.2.1 h.2.2.2.2
theorem pw31{t0 t1 t2:Type}{p0 p1:t0->t1->t2->Prop}{G:Prop}(h:∃x0 x1 x2,p0 x0 x1 x2/\p1 x0 x1 x2)(k:∀x0,∀x1,∀x2,p0 x0 x1 x2->p1 x0 x1 x2->G):G:=h.elim fun x0 g0=>g0.elim fun x1 g1=>g1.elim fun x2 g2=>k x0 x1 x2 g2.1 g2.2
theorem pw12{t0:Type}{p0 p1 p2:t0->Prop}{G:Prop}(h:∃x0,p0 x0/\p1 x0/\p2 x0)(k:∀x0,p0 x0->p1 x0->p2 x0->G):G:=h.elim fun x0 g0=>k x0 g0.1 g0.2.1 g0.2.2
theorem pw05{p0 p1 p2 p3 p4 p5:Prop}{G:Prop}(h:p0/\p1/\p2/\p3/\p4/\p5)(k:p0->p1->p2->p3->p4->p5->G):G:=k h.1 h.2.1 h.2.2.1 h.2.2.2.1 h.2.2.2.2.1 h.2.2.2.2.2
theorem pw02{p0 p1 p2:Prop}{G:Prop}(h:p0/\p1/\p2)(k:p0->p1->p2->G):G:=k h.1 h.2.1 h.2.2
theorem pw22{t0 t1:Type}{p0 p1 p2:t0->t1->Prop}{G:Prop}(h:∃x0 x1,p0 x0 x1/\p1 x0 x1/\p2 x0 x1)(k:∀x0,∀x1,p0 x0 x1->p1 x0 x1->p2 x0 x1->G):G:=h.elim fun x0 g0=>g0.elim fun x1 g1=>k x0 x1 g1.1 g1.2.1 g1.2.2
theorem pw20{t0 t1:Type}{p0:t0->t1->Prop}{G:Prop}(h:∃x0 x1,p0 x0 x1)(k:∀x0,∀x1,p0 x0 x1->G):G:=h.elim fun x0 g0=>g0.elim fun x1 g1=>k x0 x1 g1
theorem pw32{t0 t1 t2:Type}{p0 p1 p2:t0->t1->t2->Prop}{G:Prop}(h:∃x0 x1 x2,p0 x0 x1 x2/\p1 x0 x1 x2/\p2 x0 x1 x2)(k:∀x0,∀x1,∀x2,p0 x0 x1 x2->p1 x0 x1 x2->p2 x0 x1 x2->G):G:=h.elim fun x0 g0=>g0.elim fun x1 g1=>g1.elim fun x2 g2=>k x0 x1 x2 g2.1 g2.2.1 g2.2.2
theorem pw13{t0:Type}{p0 p1 p2 p3:t0->Prop}{G:Prop}(h:∃x0,p0 x0/\p1 x0/\p2 x0/\p3 x0)(k:∀x0,p0 x0->p1 x0->p2 x0->p3 x0->G):G:=h.elim fun x0 g0=>k x0 g0.1 g0.2.1 g0.2.2.1 g0.2.2.2
theorem pw23{t0 t1:Type}{p0 p1 p2 p3:t0->t1->Prop}{G:Prop}(h:∃x0 x1,p0 x0 x1/\p1 x0 x1/\p2 x0 x1/\p3 x0 x1)(k:∀x0,∀x1,p0 x0 x1->p1 x0 x1->p2 x0 x1->p3 x0 x1->G):G:=h.elim fun x0 g0=>g0.elim fun x1 g1=>k x0 x1 g1.1 g1.2.1 g1.2.2.1 g1.2.2.2
theorem pw41{t0 t1 t2 t3:Type}{p0 p1:t0->t1->t2->t3->Prop}{G:Prop}(h:∃x0 x1 x2 x3,p0 x0 x1 x2 x3/\p1 x0 x1 x2 x3)(k:∀x0,∀x1,∀x2,∀x3,p0 x0 x1 x2 x3->p1 x0 x1 x2 x3->G):G:=h.elim fun x0 g0=>g0.elim fun x1 g1=>g1.elim fun x2 g2=>g2.elim fun x3 g3=>k x0 x1 x2 x3 g3.1 g3.2
theorem pw34{t0 t1 t2:Type}{p0 p1 p2 p3 p4:t0->t1->t2->Prop}{G:Prop}(h:∃x0 x1 x2,p0 x0 x1 x2/\p1 x0 x1 x2/\p2 x0 x1 x2/\p3 x0 x1 x2/\p4 x0 x1 x2)(k:∀x0,∀x1,∀x2,p0 x0 x1 x2->p1 x0 x1 x2->p2 x0 x1 x2->p3 x0 x1 x2->p4 x0 x1 x2->G):G:=h.elim fun x0 g0=>g0.elim fun x1 g1=>g1.elim fun x2 g2=>k x0 x1 x2 g2.1 g2.2.1 g2.2.2.1 g2.2.2.2.1 g2.2.2.2.2
theorem pw60{t0 t1 t2 t3 t4 t5:Type}{p0:t0->t1->t2->t3->t4->t5->Prop}{G:Prop}(h:∃x0 x1 x2 x3 x4 x5,p0 x0 x1 x2 x3 x4 x5)(k:∀x0,∀x1,∀x2,∀x3,∀x4,∀x5,p0 x0 x1 x2 x3 x4 x5->G):G:=h.elim fun x0 g0=>g0.elim fun x1 g1=>g1.elim fun x2 g2=>g2.elim fun x3 g3=>g3.elim fun x4 g4=>g4.elim fun x5 g5=>k x0 x1 x2 x3 x4 x5 g5
theorem pw30{t0 t1 t2:Type}{p0:t0->t1->t2->Prop}{G:Prop}(h:∃x0 x1 x2,p0 x0 x1 x2)(k:∀x0,∀x1,∀x2,p0 x0 x1 x2->G):G:=h.elim fun x0 g0=>g0.elim fun x1 g1=>g1.elim fun x2 g2=>k x0 x1 x2 g2
theorem pw44{t0 t1 t2 t3:Type}{p0 p1 p2 p3 p4:t0->t1->t2->t3->Prop}{G:Prop}(h:∃x0 x1 x2 x3,p0 x0 x1 x2 x3/\p1 x0 x1 x2 x3/\p2 x0 x1 x2 x3/\p3 x0 x1 x2 x3/\p4 x0 x1 x2 x3)(k:∀x0,∀x1,∀x2,∀x3,p0 x0 x1 x2 x3->p1 x0 x1 x2 x3->p2 x0 x1 x2 x3->p3 x0 x1 x2 x3->p4 x0 x1 x2 x3->G):G:=h.elim fun x0 g0=>g0.elim fun x1 g1=>g1.elim fun x2 g2=>g2.elim fun x3 g3=>k x0 x1 x2 x3 g3.1 g3.2.1 g3.2.2.1 g3.2.2.2.1 g3.2.2.2.2
theorem pw24{t0 t1:Type}{p0 p1 p2 p3 p4:t0->t1->Prop}{G:Prop}(h:∃x0 x1,p0 x0 x1/\p1 x0 x1/\p2 x0 x1/\p3 x0 x1/\p4 x0 x1)(k:∀x0,∀x1,p0 x0 x1->p1 x0 x1->p2 x0 x1->p3 x0 x1->p4 x0 x1->G):G:=h.elim fun x0 g0=>g0.elim fun x1 g1=>k x0 x1 g1.1 g1.2.1 g1.2.2.1 g1.2.2.2.1 g1.2.2.2.2
theorem pw10{t0:Type}{p0:t0->Prop}{G:Prop}(h:∃x0,p0 x0)(k:∀x0,p0 x0->G):G:=h.elim fun x0 g0=>k x0 g0
namespace L2
theorem dft0 (h:True:=by first | exact .inl rfl | exact .inr rfl | assumption):True:=h
theorem dft1 (h:True:=by decide):True:=h
theorem dft2 (h:True:=by first | exact nobehind _ (by decide) (by decide) | rfl):True:=h
theorem dft3 (h:True:=by rfl):True:=h
theorem dft4 (h:True:=by intro _;rfl):True:=h
theorem dft5 (h:True:=by with_unfolding_all rfl):True:=h
theorem dft6 (h:True:=by first | exact Or.inl rfl | exact Or.inr (Or.inl rfl) | exact Or.inr (Or.inr rfl)):True:=h
end L2
namespace L2
open PySem PySem.Spec PyProof.Rows
noncomputable abbrev Key:=Sum Int Str
noncomputable def keyIs:Key->Value->Bool
 | .inl k,v=>Value.isInt k v
 | .inr x,v=>Value.isStrOf x v
noncomputable def keyH (w:World):Key->Int
 | .inl k=>hashInt k
 | .inr x=>hashStr w x
theorem bD:∀{k:Key} {v:Value},keyIs k v=true->(∃i t,k=Sum.inl i/\v=Value.int i t)\/(∃x t,k=Sum.inr x/\v=Value.str x t)
 | .inl i,v,h=>by
  obtain⟨t,e⟩:=Value.isInt_shape (k:=i) (v:=v) h;exact .inl (iw21 i t rfl e)
 | .inr x,v,h=>by
  obtain⟨t,e⟩:=Value.isStrOf_shape (x:=x) (v:=v) h;exact .inr (iw21 x t rfl e)
theorem xK (i:Int)(t:Tok):keyIs (.inl i) (.int i t)=true:=by simp[keyIs,Value.isInt]
theorem xM (x:Str)(t:Tok):keyIs (.inr x) (.str x t)=true:=by simp[keyIs,Value.isStrOf]
theorem Du (a b:Int):decide ((Sum.inl a:Key)=Sum.inl b)=(a == b):=by
 by_cases e:a=b
 ·subst e;simp
 ·have h:¬(Sum.inl a:Key)=Sum.inl b:=λq=>e (Sum.inl.inj q)
  rw[decide_eq_false h];exact(beq_eq_false_iff_ne.mpr e).symm
theorem Dv (a b:Str):decide ((Sum.inr a:Key)=Sum.inr b)=decide (a=b):=by
 by_cases e:a=b
 ·subst e;simp
 ·have h:¬(Sum.inr a:Key)=Sum.inr b:=λq=>e (Sum.inr.inj q)
  rw[decide_eq_false h,decide_eq_false e]
theorem Dw (a:Int)(b:Str):decide ((Sum.inl a:Key)=Sum.inr b)=false:=decide_eq_false (λq=>nomatch q)
theorem Dx (a:Str)(b:Int):decide ((Sum.inr a:Key)=Sum.inl b)=false:=decide_eq_false (λq=>nomatch q)
noncomputable def mixKind (prog:Program)(w:World):PySem.KeyKind prog w Key where
 is:=keyIs
 hash:=keyH w
 inj:=λv a b ha hb=>by
  rcases bD ha with⟨i,t,rfl,rfl⟩ | ⟨x,t,rfl,rfl⟩
  ·rcases bD hb with⟨j,u,rfl,e⟩ | ⟨y,u,rfl,e⟩
   ·injection e with e1 _;rw[e1]
   ·exact nomatch e
  ·rcases bD hb with⟨j,u,rfl,e⟩ | ⟨y,u,rfl,e⟩
   ·exact nomatch e
   ·injection e with e1 _;rw[e1]
 byValue:=λk v h=>by
  rcases bD h with⟨i,t,rfl,rfl⟩ | ⟨x,t,rfl,rfl⟩<;>rfl
 pyHash:=λhv h=>by
  rcases bD hv with⟨i,t,rfl,rfl⟩ | ⟨x,t,rfl,rfl⟩
  ·exact wpAny_pyHash_int h
  ·exact wpAny_pyHash_str h
 eqBool:=λhu hv h=>by
  rcases bD hu with⟨i,t,rfl,rfl⟩ | ⟨x,t,rfl,rfl⟩
  ·rcases bD hv with⟨j,u,rfl,rfl⟩ | ⟨y,u,rfl,rfl⟩
   ·rw[Du] at h;exact wpAny_eqBool_int h
   ·rw[Dw] at h;exact SeqAt.EqAt.int_str i t y u _ _ _ _ h
  ·rcases bD hv with⟨j,u,rfl,rfl⟩ | ⟨y,u,rfl,rfl⟩
   ·rw[Dx] at h;exact SeqAt.EqAt.str_int x t j u _ _ _ _ h
   ·rw[Dv] at h;exact wpAny_eqBool_str h
 «strs»:=λk x t v h=>by
  rcases bD h with⟨i,u,rfl,e⟩ | ⟨y,u,rfl,e⟩
  ·exact nomatch e
  ·injection e with e1 _
   subst e1;cases v<;>rfl
theorem sX (prog:Program)(w:World)(i:Int)(t:Tok):(mixKind prog w).is (.inl i) (.int i t)=true:=xK i t
theorem mP (prog:Program)(w:World)(x:Str)(t:Tok):(mixKind prog w).is (.inr x) (.str x t)=true:=xM x t
inductive V where
 | non | bl (b:Bool) | int (i:Int) | str (x:Str) | byt (b:Array UInt8) | flt (b:UInt64) | ref (a:Addr) | ty (n:String)
 deriving DecidableEq
noncomputable def RelV:V->Value->Prop
 | .non,u=>u=Value.none
 | .bl b,u=>u=Value.bool b
 | .int i,u=>∃t,u=Value.int i t
 | .str x,u=>∃t,u=Value.str x t
 | .byt b,u=>∃t,u=Value.bytes b t
 | .flt b,u=>∃t,u=Value.float b t
 | .ref a,u=>u=Value.ref a
 | .ty n,u=>u=Value.type n
noncomputable abbrev Vals:List V->List Value->Prop:=Paired RelV
theorem Vals.length {xs:List V}{us:List Value}(r:Vals xs us):xs.length=us.length:=Paired.length r
theorem Vals.get:∀{xs:List V} {us:List Value} {i:Nat} {x:V},Vals xs us->xs[i]?=some x->∃u,us[i]?=some u/\RelV x u
 | _,_,_,_,.nil,e=>by simp at e
 | _,_,0,_,.cons r _,e=>by simp at e;subst e;exact(iw11 _ rfl r)
 | _,_,i+1,x,.cons _ t,e=>by
  (refine pw11 (Vals.get (i:=i) (x:=x) t (by simpa using e)) λu h1 h2=>?_);exact(iw11 u (by simpa using h1) h2)
theorem Vals.set {x:V}{u:Value}(r:RelV x u):∀{xs:List V} {us:List Value} (i:Nat),Vals xs us->Vals (xs.set i x) (us.set i u)
 | _,_,_,.nil=>.nil
 | _,_,0,.cons _ t=>.cons r t
 | _,_,i+1,.cons q t=>.cons q (Vals.set r i t)
theorem Vals.append:∀{xs ys:List V} {us ws:List Value},Vals xs us->Vals ys ws->Vals (xs++ys) (us++ws)
 | _,_,_,_,.nil,s=>s
 | _,_,_,_,.cons r t,s=>.cons r (Vals.append t s)
theorem Vals.take:∀{xs:List V} {us:List Value} (n:Nat),Vals xs us->Vals (xs.take n) (us.take n)
 | _,_,0,_=>.nil
 | _,_,_+1,.nil=>.nil
 | _,_,n+1,.cons r t=>.cons r (Vals.take n t)
theorem Vals.drop:∀{xs:List V} {us:List Value} (n:Nat),Vals xs us->Vals (xs.drop n) (us.drop n)
 | _,_,0,r=>r
 | _,_,_+1,.nil=>.nil
 | _,_,n+1,.cons _ t=>Vals.drop n t
noncomputable def RelO:Option V->Option Value->Prop
 | some v,some u=>RelV v u
 | none,none=>True
 | _,_=>False
noncomputable def KV {κ:Type}:List (κ×V)->List (κ×Value)->Prop:=Paired λ(p:κ×V) (q:κ×Value)=>p.1=q.1/\RelV p.2 q.2
noncomputable def kV:Key->V
 | .inl i=>.int i
 | .inr x=>.str x
inductive HO where
 /-- a list -/
 | lst (xs:List V)
 /-- a tuple (never changes) -/
 | tup (xs:List V)
 /-- a dict whose keys are ints and texts;one whose keys are tuples of ints and texts (the empty one is both) -/
 | dK (kvs:List (Key×V)) | dT (kvs:List (List Key×V))
 /-- a set of ints: its members,its size -/
 | set (S:Int->Bool) (n:Nat)
 /-- an instance of the class at C,its dict at dx,its attributes -/
 | ins (C dx:Addr) (fs:List (Str×V))
 /-- the dict of the instance at x -/
 | own (x:Addr)
 /-- the dict of an exception -/
 | xd (fs:List (Str×V))
 /-- a bound method,f of x -/
 | met (f x:Addr)
 /-- a range object lo,lo+1,.. below hi -/
 | rng (lo hi:Int)
 /-- a thing that is known to the object (the script;a dict while a loop walks it): read,never written while it is so -/
 | frz (o:Obj) (u:HO)
 /-- a code object's table -/
 | tbl (ps:Array Value)
 /-- any other thing,by what is true of its one object (a def of one's own: SetO a S n:=HO.ext λh=>..) -/
 | ext (φ:Heap->Prop)
noncomputable abbrev Hp:=Addr->Option HO
noncomputable def upd (H:Hp)(a:Addr)(o:HO):Hp:=λb=>if b=a then some o else H b
theorem ae {H:Hp}{a:Addr}{o:HO}:upd H a o a=some o:=by unfold upd;rw[if_pos rfl]
theorem aj {H:Hp}{a b:Addr}{o:HO}(h:b≠a):upd H a o b=H b:=by unfold upd;rw[if_neg h]
theorem wW {H:Hp}{a:Addr}{o u:HO}:upd (upd H a o) a u=upd H a u:=by
 funext b;unfold upd;split<;>rfl
theorem ie {H:Hp}{a b:Addr}{o u:HO}(h:H a=some o)(h':H b=some u)(d:o≠u):a≠b:=by
 intro e;subst e;rw[h] at h';exact d (Option.some.inj h')
theorem ay {H:Hp}{a b:Addr}{o:HO}(h:H a=some o)(h':H b=none):a≠b:=by
 intro e;subst e;rw[h] at h';cases h'
section
variable (P:Program) (w:World)
noncomputable def ObjOk (H:Hp)(h:Heap)(a:Addr):HO->Prop
 | .lst xs=>xs.length<=sizeLine/\∃(its:List Value) (n:Nat),Vals xs its/\h.get? a=some { cls:=.type "list",data:=.seq its.toArray n }
 | .tup xs=>xs.length<=sizeLine/\∃its:List Value,Vals xs its/\IsTup h a its.toArray
 | .dK kvs=>kvs.length<=sizeLine/\(a == sysModules)=false/\∃vs,KV kvs vs/\h.DictOf (mixKind P w) a vs
 | .dT kvs=>kvs.length<=sizeLine/\(a == sysModules)=false/\∃xs:List (List Key×Addr×Value),
   Paired (λ(p:List Key×V) (q:List Key×Addr×Value)=>p.1=q.1/\H q.2.1=some (.tup (p.1.map kV))/\RelV p.2 q.2.2) kvs xs/\
   ∃o es ep,h.get? a=some o/\o.ExactDict/\o.data=.dict es ep/\es.toList=xs.map (entryOfKey (tupleKind (mixKind P w)))/\(xs.map (·.1)).Nodup
 | .set S n=>h.SetOf (intKind P w) a S n
 | .ins C dx fs=>H dx=some (.own a)/\fs.length<=1000/\dx≠a/\h.get? a=some (W.instObj C dx)/\
   ∃mA,h.Ns1 dx mA/\(∀f,RelO (fs.lookup f) (mA f))/\PySem.Within mA (fs.map (·.1))
 | .own _=>∃o,h.get? a=some o
 | .xd fs=>∃mA,h.Ns1 a mA/\∀f,RelO (fs.lookup f) (mA f)
 | .rng lo hi=>∃t u v,h.get? a=some { cls:=.type "range",data:=.fields #[.int lo t,.int hi u,.int 1 v] }
 | .frz o u=>h.get? a=some o/\ObjOk H h a u
 | .tbl ps=>h.get? a=some { cls:=.none,data:=.fields ps }
 | .met f x=>h.get? a=some (W.methodObj (.ref f) (.ref x))
 | .ext φ=>φ h/\(∃o,h.get? a=some o)/\∀h1 h2:Heap,φ h1->(∀o,h1.get? a=some o->h2.get? a=some o)->φ h2
noncomputable def HOk (H:Hp)(h:Heap):Prop:=∀a o,H a=some o->ObjOk P w H h a o
end
section
variable {P:Program} {w:World} {H H':Hp} {h h':Heap} {a:Addr} {o:HO}
theorem ObjOk.lt (x:ObjOk P w H h a o):a < h.objs.size:=by
 cases o with
 | lst xs=>(revert x;refine ow01 λ_=>ow21 λ_ _ _ e=>?_);exact Heap.lt_size e
 | tup xs=>(revert x;refine ow01 λ_=>ow11 λ_ _ p=>?_);exact p.lt
 | dK kvs=>(revert x;refine ow02 λ_ _=>ow11 λ_ _=>ow31 λo _ _ e _=>?_);exact Heap.lt_size e
 | dT kvs=>(revert x;refine ow02 λ_ _=>ow11 λ_ _=>ow31 λo _ _ e _=>?_);exact Heap.lt_size e
 | set S n=>(revert x;refine ow41 λo _ _ _ e _=>?_);exact Heap.lt_size e
 | ins C dx fs=>(revert x;refine ow04 λ_ _ _ e _=>?_);exact Heap.lt_size e
 | own y=>obtain⟨_,e⟩:=x;exact Heap.lt_size e
 | xd fs=>(revert x;refine ow11 λ_ zz1 _=>?_;obtain ⟨_,_,_,e,_⟩:=zz1);exact Heap.lt_size e
 | rng lo hi=>(revert x;refine ow30 λ_ _ _ e=>?_);exact Heap.lt_size e
 | frz ob u=>obtain⟨e,_⟩:=x;exact Heap.lt_size e
 | tbl ps=>exact Heap.lt_size (show h.get? a=some _ from x)
 | met f y=>exact Heap.lt_size (show h.get? a=some _ from x)
 | ext φ=>(revert x;refine ow02 λ_ zz1 _=>?_;obtain ⟨_,e⟩:=zz1);exact Heap.lt_size e
theorem Paired.mapP {α β:Type}{F G:α->β->Prop}:∀{l₁:List α} {l₂:List β},Paired F l₁ l₂->(∀a b,F a b->G a b)->Paired G l₁ l₂
 | _,_,.nil,_=>.nil
 | _,_,.cons r t,f=>.cons (f _ _ r) (Paired.mapP t f)
theorem ObjOk.stay (x:ObjOk P w H h a o)(k:∀b u,(b=a\/H b=some (.own a))->h.get? b=some u->h'.get? b=some u)
  (ho:∀b,H b=some (.own a)->H' b=some (.own a)) (ht:∀b xs,H b=some (.tup xs)->H' b=some (.tup xs)):ObjOk P w H' h' a o:=by
 induction o with
 | lst xs=>(revert x;refine ow01 λz=>ow21 λits n r e=>?_);exact⟨z,(iw21 its n r (k _ _ (.inl rfl) e))⟩
 | tup xs=>(revert x;refine ow01 λz=>ow11 λits r=>ow11 λob e c=>?_);exact⟨z,(iw11 its r (iw11 ob (k _ _ (.inl rfl) e) c))⟩
 | dK kvs=>(revert x;refine ow02 λz y=>ow11 λvs r=>ow31 λob es ep e c=>?_);exact⟨z,y,(iw11 vs r (iw31 ob es ep (k _ _ (.inl rfl) e) c))⟩
 | dT kvs=>
  (revert x;refine ow02 λz y=>ow11 λxs r=>ow31 λob es ep e c=>?_);exact⟨z,y,(iw11 xs (Paired.mapP r λp q z=>⟨z.1,ht _ _ z.2.1,z.2.2⟩) (iw31 ob es ep (k _ _ (.inl rfl) e) c))⟩
 | set S n=>(revert x;refine ow41 λob es ep t e c=>?_);exact(iw30 ob es ep (iw11 t (k _ _ (.inl rfl) e) c))
 | ins C dx fs=>
  (revert x;refine ow04 λd z ne e=>ow11 λmA zz1 r=>?_;obtain ⟨od,es,ep,e2,c⟩:=zz1);exact⟨ho _ d,z,ne,k _ _ (.inl rfl) e,(iw11 mA (iw31 od es ep (k _ _ (.inr d) e2) c) r)⟩
 | own y=>obtain⟨ob,e⟩:=x;exact⟨ob,k _ _ (.inl rfl) e⟩
 | xd fs=>(revert x;refine ow11 λmA zz1 r=>?_;obtain ⟨od,es,ep,e,c⟩:=zz1);exact(iw11 mA (iw31 od es ep (k _ _ (.inl rfl) e) c) r)
 | rng lo hi=>(revert x;refine ow30 λt u v e=>?_);exact(iw30 t u v (k _ _ (.inl rfl) e))
 | frz ob u ih=>obtain⟨e,q⟩:=x;exact⟨k _ _ (.inl rfl) e,ih q⟩
 | tbl ps=>
  have e:h.get? a=some { cls:=.none,data:=.fields ps }:=x;show h'.get? a=some { cls:=.none,data:=.fields ps };exact k a _ (.inl rfl) e
 | met f y=>
  have e:h.get? a=some (W.methodObj (.ref f) (.ref y)):=x;show h'.get? a=some (W.methodObj (.ref f) (.ref y));exact k a _ (.inl rfl) e
 | ext φ=>(revert x;refine ow02 λp zz1 st=>?_;obtain ⟨o,e⟩:=zz1);exact⟨st _ _ p λo q=>k _ _ (.inl rfl) q,⟨o,k _ _ (.inl rfl) e⟩,st⟩
theorem HOk.lt (x:HOk P w H h)(e:H a=some o):a < h.objs.size:=(x a o e).lt
theorem HOk.fresh (x:HOk P w H h)(e:h.objs.size<=a):H a=none:=by
 cases q:H a with
 | none=>rfl
 | some u=>exact absurd (Nat.lt_of_lt_of_le (x.lt q) e) (Nat.lt_irrefl _)
theorem HOk.kept (x:HOk P w H h)(k:∀b u,h.get? b=some u->h'.get? b=some u):HOk P w H h':=λa o e=>
 (x a o e).stay (λb u _ q=>k b u q) (λ_ q=>q) λ_ _ q=>q
theorem HOk.laid (x:HOk P w H h)(k:∀b u,h.get? b=some u->h'.get? b=some u)(hp:h.objs.size<=a)(new:ObjOk P w (upd H a o) h' a o):HOk P w (upd H a o) h':=λb u e=>by
 have hn:=x.fresh hp
 by_cases hb:b=a
 ·subst hb;rw[ae] at e;cases e;exact new
 ·rw[aj hb] at e
  exact(x b u e).stay (λc v _ q=>k c v q) (λc q=>by rw[aj (ay q hn)];exact q) λc xs q=>by rw[aj (ay q hn)];exact q
end
noncomputable def Rd (H:Hp)(a:Addr)(u:HO):Prop:=H a=some u\/∃o,H a=some (.frz o u)
theorem Rd.ok {P:Program}{w:World}{H:Hp}{h:Heap}{a:Addr}{u:HO}(r:Rd H a u)(x:HOk P w H h):ObjOk P w H h a u:=by
 rcases r with r | ⟨o,r⟩
 ·exact x a u r
 ·obtain⟨_,q⟩:=x a _ r
  exact q
noncomputable def Mut:Option HO->Prop
 | some (.lst _)=>True
 | some (.dK _)=>True
 | some (.dT _)=>True
 | some (.set _ _)=>True
 | some (.ins _ _ _)=>True
 | some (.ext _)=>True
 | _=>False
section
variable {P:Program} {w:World} {H:Hp} {h h':Heap} {x e:Addr} {o':HO}
theorem HOk.write (ok:HOk P w H h)(mu:Mut (H x))(he:e=x\/H e=some (.own x))(k:∀b u,b≠e->h.get? b=some u->h'.get? b=some u)(heo:∃u,h'.get? e=some u)
  (new:ObjOk P w (upd H x o') h' x o'):HOk P w (upd H x o') h':=λb u q=>by
 have nown:∀c y,H c=some (.own y)->c≠x:=λc y r z=>by subst z;rw[r] at mu;exact mu
 have ntup:∀c xs,H c=some (.tup xs)->c≠x:=λc xs r z=>by subst z;rw[r] at mu;exact mu
 by_cases hb:b=x
 ·subst hb;rw[ae] at q;cases q;exact new
 ·rw[aj hb] at q
  by_cases hbe:b=e
  ·have q':H b=some (.own x):=by
    rcases he with z | z
    ·exact absurd (hbe.trans z) hb
    ·rw[hbe];exact z
   rw[q] at q';cases q';obtain⟨v,hv⟩:=heo;exact⟨v,by rw[hbe];exact hv⟩
  ·refine(ok b u q).stay (λc v hc r=>k c v ?_ r) (λc r=>by rw[aj (nown c b r)];exact r) λc xs r=>by rw[aj (ntup c xs r)];exact r
   rcases hc with rfl | hc
   ·exact hbe
   ·rintro rfl
    rcases he with z | z
    ·exact nown c b hc z
    ·rw[hc] at z;cases z;exact hb rfl
end
structure Un (fs ex:List Addr)(H H':Hp)(h h':Heap):Prop where
 keep:∀b o,h.get? b=some o->H b=none->b∉fs->b∉ex->h'.get? b=some o
 slot:∀b o,h.get? b=some o->H b=none->b∈fs->b∉ex->∃sl,h'.get? b=some { o with slots:=sl }
 free:∀b o,h.get? b=some o->H b=none->b∉ex->H' b=none
 there:∀b o,h.get? b=some o->b∉ex->∃o',h'.get? b=some o'
 tups:∀b xs,H b=some (.tup xs)->H' b=some (.tup xs)
 frzs:∀b o u,H b=some (.frz o u)->H' b=some (.frz o u)
 tbls:∀b ps,H b=some (.tbl ps)->∃more,H' b=some (.tbl (ps++more))
section
variable {fs fs' ex ex':List Addr} {H H1 H2:Hp} {h h1 h2 h':Heap} {a x e:Addr} {o:HO}
theorem Un.any (u:Un fs ex H H1 h h1){b:Addr}{ob:Obj}(q:h.get? b=some ob)(n:H b=none)(hx:b∉ex):∃sl,h1.get? b=some { ob with slots:=sl }:=by
 by_cases hb:b∈fs
 ·exact u.slot b ob q n hb hx
 ·exact⟨ob.slots,u.keep b ob q n hb hx⟩
theorem Un.kept (k:∀b u,h.get? b=some u->h'.get? b=some u):Un fs ex H H h h':=
 ⟨λb ob q _ _ _=>k b ob q,λb ob q _ _ _=>⟨ob.slots,k b ob q⟩,λ_ _ _ n _=>n,λb ob q _=>⟨ob,k b ob q⟩,λ_ _ q=>q,λ_ _ _ q=>q,λ_ ps q=>⟨#[],by rw[q];simp⟩⟩
theorem Un.refl:Un fs ex H H h h:=Un.kept λ_ _ q=>q
theorem Un.laid (k:∀b u,h.get? b=some u->h'.get? b=some u)(hp:h.objs.size<=a)(hn:H a=none):Un fs ex H (upd H a o) h h' where
 keep:=λb u q _ _ _=>k b u q
 slot:=λb u q _ _ _=>⟨u.slots,k b u q⟩
 free:=λb u q n _=>by rw[aj (Nat.ne_of_lt (Nat.lt_of_lt_of_le (Heap.lt_size q) hp))];exact n
 there:=λb u q _=>⟨u,k b u q⟩
 tups:=λb xs q=>by rw[aj (ay q hn)];exact q
 frzs:=λb u xs q=>by rw[aj (ay q hn)];exact q
 tbls:=λb ps q=>⟨#[],by rw[aj (ay q hn),q];simp⟩
theorem Un.write (mu:Mut (H x))(he:e=x\/H e=some (.own x))(k:∀b u,b≠e->h.get? b=some u->h'.get? b=some u)(heo:∃u,h'.get? e=some u):Un fs ex H (upd H x o) h h':=by
 have hx:∀b,H b=none->b≠x:=λb n z=>by subst z;rw[n] at mu;exact mu
 have hb:∀b,H b=none->b≠e:=λb n z=>by
  subst z;rcases he with r | r
  ·exact hx b n r
  ·rw[n] at r;cases r
 have hm:∀b u,H b=some u->¬Mut (some u)->b≠x:=λb u q nm z=>by subst z;rw[q] at mu;exact nm mu
 refine⟨λb u q n _ _=>k b u (hb b n) q,λb u q n _ _=>⟨u.slots,k b u (hb b n) q⟩,λb u q n _=>by rw[aj (hx b n)];exact n,λb u q _=>?_,
  λb xs q=>by rw[aj (hm b _ q λz=>z)];exact q,λb u xs q=>by rw[aj (hm b _ q λz=>z)];exact q,λb ps q=>⟨#[],by rw[aj (hm b _ q λz=>z),q];simp⟩⟩
 by_cases hbe:b=e
 ·subst hbe;exact heo
 ·exact⟨u,k b u hbe q⟩
end
noncomputable def trk (h:Heap)(H:Hp):List Addr:=(List.range h.objs.size).filter λa=>(H a).isSome
noncomputable def hidT (h:Heap)(H:Hp):Heap:=W.hideAll h (trk h H)
theorem xN (h:Heap)(H:Hp):(hidT h H).objs.size=h.objs.size:=W.hideAll_size _ _
theorem zT {h:Heap}{H:Hp}{b:Addr}{o:Obj}(e:h.get? b=some o)(n:H b=none):(hidT h H).get? b=some o:=
 W.hideAll_get _ e λhm=>by
  have q:(H b).isSome=true:=(List.mem_filter.mp hm).2;rw[n] at q;simp at q
theorem BC {h:Heap}{H:Hp}{b:Addr}{o:Obj}(e:(hidT h H).get? b=some o):h.get? b=some o/\H b=none:=by
 have e':h.get? b=some o:=W.of_hideAll (trk h H) e;refine⟨e',?_⟩;cases q:H b with
 | none=>rfl
 | some x=>
  have hm:b∈trk h H:=List.mem_filter.mpr ⟨List.mem_range.mpr (Heap.lt_size e'),by simp[q]⟩;have z:(hidT h H).get? b=none:=W.hideAll_none (trk h H) hm;rw[z] at e;cases e
structure Mod (K:W.Frag)(mg:Str->Option Value)(base:Heap):Prop where
 kin:K.In base
 glob:base.Ns mainGlobals mg
 blt:∃mb,base.Ns builtinsNs mb/\∀x:Str,x ≠ "__name__" -> mb x=bootBuiltins x
 nolimit:base.NoLimit
structure Cx where
 prog:Program
 w:World
 K:W.Frag
 mg:Str->Option Value
 base:Heap
 A:Around
 N:List Str
 s₀:Shared
 H₀:Hp
 env:Env
 outer:List Env
 stack:List Env
 ex:List Addr
 fn:Str->Bool
 calm:Bool
 pn:List (Addr×Obj)
 xe:Value->Shared->Prop
noncomputable def frs (l:List Env):List Addr:=l.filterMap (·.frame)
noncomputable abbrev Cx.fs (X:Cx):List Addr:=frs X.outer
noncomputable def Vis (sc:Scope)(x:Str):Prop:=sc.names.lookup x=some .local\/sc.names.lookup x=some .cell\/sc.names.lookup x=some .free
noncomputable def Loc (sc:Scope)(x:Str):Prop:=sc.names.lookup x=some .local\/sc.names.lookup x=some .cell
noncomputable def Look (env:Env)(h:Heap)(m:Str->Option Value)(x:Str)(u:Value):Prop:=
 (env.kindOf x=some .local/\m x=some u)\/((env.kindOf x=some .cell\/env.kindOf x=some .free)/\∃c,env.cells.lookup x=some c/\h.IsCell c (some u))
structure Cx.Ok (X:Cx):Prop where
 mod:Mod X.K X.mg X.base
 kind:X.env.scope.kind=.function
 glob:X.env.globals=mainGlobals
 blt:X.env.builtins=builtinsNs
 above:X.s₀.heap.objs.size<=X.env.locals
 inj:∀x y c,X.env.cells.lookup x=some c->X.env.cells.lookup y=some c->x=y
 has:∀x,(X.env.kindOf x=some .cell\/X.env.kindOf x=some .free)->∃c,X.env.cells.lookup x=some c
 cab:∀x c,X.fn x=true->X.env.cells.lookup x=some c->X.s₀.heap.objs.size<=c
 hd:X.calm=true->X.A.handled=none
 frames:X.A.frames=some X.stack
 stk:X.stack=X.outer\/(X.stack=X.env::X.outer/\X.env.frame=some X.env.locals)
 exf:∀b∈X.ex,b≠X.env.locals/\∀x c,X.env.cells.lookup x=some c->c≠b
 bs:∀b o,X.base.get? b=some o->X.s₀.heap.get? b=some o/\X.H₀ b=none
 bsz:X.base.objs.size<=X.s₀.heap.objs.size
 noex:∀b o,X.base.get? b=some o->b∉X.ex
 exfs:∀b∈X.ex,b∉X.fs
 funs:X.s₀.heap.FunFrames X.base X.outer
 frf:∀b∈X.fs,X.H₀ b=none
structure Inv (X:Cx)(pins:List (Addr×Obj))(σ:List (Option V))(H:Hp)(s:Shared):Prop where
 ok:X.Ok
 os:s.os=X.s₀.os
 bare:AllBare s.gens
 base:Un X.fs X.ex X.H₀ H X.s₀.heap s.heap
 loc:∃m,s.heap.Ns X.env.locals m/\∀(i:Nat) (x:Str) (v:V),X.N[i]?=some x->σ[i]?=some (some v)->Vis X.env.scope x->∃u,RelV v u/\Look X.env s.heap m x u
 cell:∀x c,X.env.cells.lookup x=some c->∃v,s.heap.IsCell c v
 free:H X.env.locals=none
 freeC:∀x c,X.env.cells.lookup x=some c->H c=none
 pin:∀p∈X.pn++pins,s.heap.get? p.1=some p.2/\H p.1=none/\p.1≠X.env.locals/\p.1∉X.fs/\∀v,p.2.data≠.cell v
 hok:HOk X.prog X.w H s.heap
 len:σ.length=X.N.length
section
variable {X:Cx} {pins:List (Addr×Obj)} {σ:List (Option V)} {H H':Hp} {s:Shared} {h':Heap}
theorem Cx.Ok.nofr (ok:X.Ok){b:Addr}{o:Obj}(e:X.base.get? b=some o):b∉X.fs:=λhb=>by
 have:=(ok.funs.mem hb).1;rw[e] at this;cases this
theorem Inv.bs (I:Inv X pins σ H s):∀b o,X.base.get? b=some o->s.heap.get? b=some o/\H b=none:=λb o e=>
 ⟨I.base.keep b o (I.ok.bs b o e).1 (I.ok.bs b o e).2 (I.ok.nofr e) (I.ok.noex b o e),I.base.free b o (I.ok.bs b o e).1 (I.ok.bs b o e).2 (I.ok.noex b o e)⟩
theorem Inv.bk (I:Inv X pins σ H s):∀b o,X.base.get? b=some o->s.heap.get? b=some o:=λb o e=>(I.bs b o e).1
theorem Inv.mod (I:Inv X pins σ H s):Mod X.K X.mg X.base:=I.ok.mod
theorem Inv.kIn (I:Inv X pins σ H s):X.K.In s.heap:=I.ok.mod.kin.keeps I.bk
theorem Inv.lt (I:Inv X pins σ H s):X.env.locals < s.heap.objs.size:=let ⟨_,hn,_⟩:=I.loc;hn.lt
theorem Inv.sz (I:Inv X pins σ H s):X.s₀.heap.objs.size<=s.heap.objs.size:=Nat.le_trans I.ok.above (Nat.le_of_lt I.lt)
theorem Inv.nofs (I:Inv X pins σ H s){a:Addr}(h:s.heap.objs.size<=a):a∉X.fs:=λhb=>by
 (refine pw01 (I.ok.funs.mem hb) λ_=>ow11 λo ho _=>?_);exact absurd (Nat.lt_of_lt_of_le (Heap.lt_size ho) (Nat.le_trans I.sz h)) (Nat.lt_irrefl _)
theorem Inv.cne (I:Inv X pins σ H s):∀x c,X.env.cells.lookup x=some c->c≠X.env.locals:=λx c e z=>by
 (refine pw21 (I.cell x c e) λv o ho hd=>?_);(refine pw11 I.loc λm zz1 _=>?_;obtain ⟨o',es,ep,ho',hd',_⟩:=zz1);rw[z,ho'] at ho;cases ho;rw[hd'] at hd;cases hd
theorem Inv.funs (I:Inv X pins σ H s):s.heap.FunFrames X.base X.outer:=by
 have all:∀(l:List Env),(∀b∈frs l,b∈X.fs)->X.s₀.heap.FunFrames X.base l->s.heap.FunFrames X.base l:=by
  intro l
  induction l with
  | nil=>intro _ _;trivial
  | cons env r ih=>
   intro hs hl;(revert hl;refine ow02 λhk zz1 hr=>?_;obtain ⟨L,o,hf,hn,ho,hd⟩:=zz1);have hL:L∈X.fs:=hs L (by unfold frs;rw[List.filterMap_cons,hf];exact List.mem_cons_self);obtain⟨sl,e⟩:=I.base.slot L o ho (I.ok.frf L hL) hL λz=>I.ok.exfs L z hL;exact⟨hk,(iw23 L _ hf hn e hd),ih (λb hb=>hs b (by unfold frs;rw[List.filterMap_cons,hf];exact List.mem_cons_of_mem _ hb)) hr⟩
 exact all X.outer (λ_ hb=>hb) I.ok.funs
theorem Inv.stack (I:Inv X pins σ H s):s.heap.FunFrames X.base X.stack:=by
 rcases I.ok.stk with e | ⟨e,hf⟩
 ·rw[e];exact I.funs
 ·rw[e]
  (refine pw11 I.loc λm hn _=>?_);refine .cons (by rw[I.ok.kind];decide) hf hn ?_ I.funs;exact Heap.get?_none_of_le (Nat.le_trans I.ok.bsz I.ok.above)
theorem Inv.stkSub (I:Inv X pins σ H s):∀b∈frs X.stack,b∈X.env.locals::X.fs:=λb hb=>by
 rcases I.ok.stk with e | ⟨e,hf⟩
 ·rw[e] at hb;exact List.mem_cons_of_mem _ hb
 ·rw[e] at hb
  unfold frs at hb;rw[List.filterMap_cons,hf] at hb;exact hb
theorem Inv.stkFree (I:Inv X pins σ H s):∀b∈frs X.stack,H b=none:=λb hb=>by
 rcases List.mem_cons.mp (I.stkSub b hb) with e | hb
 ·rw[e];exact I.free
 ·(refine pw01 (I.ok.funs.mem hb) λ_=>ow11 λo ho _=>?_)
  exact I.base.free b o ho (I.ok.frf b hb) λz=>I.ok.exfs b z hb
theorem Inv.step {g':Array GenState}{t':Nat}{d':Drawn}{ch:List Addr}(I:Inv X pins σ H s)
  (hch:∀b∈ch,(b∈X.ex\/X.s₀.heap.objs.size<=b)/\b≠X.env.locals/\(∀x c,X.env.cells.lookup x=some c->c≠b)/\∀p∈X.pn++pins,p.1≠b)
  (keep:∀b o,b≠X.env.locals->b∉X.fs->b∉ch->s.heap.get? b=some o->H b=none->h'.get? b=some o)
  (slot:∀b o,b≠X.env.locals->b∈X.fs->b∉ch->s.heap.get? b=some o->H b=none->∃sl,h'.get? b=some { o with slots:=sl }) (free:∀b o,b∉ch->s.heap.get? b=some o->H b=none->H' b=none)
  (there:∀b o,b∉ch->s.heap.get? b=some o->∃o',h'.get? b=some o')
  (tups:∀b xs,H b=some (.tup xs)->H' b=some (.tup xs)) (frzs:∀b o u,H b=some (.frz o u)->H' b=some (.frz o u)) (tbls:∀b ps,H b=some (.tbl ps)->∃more,H' b=some (.tbl (ps++more)))
  (ns:∀m,s.heap.Ns X.env.locals m->h'.Ns X.env.locals m) (hok:HOk X.prog X.w H' h') (hg:AllBare g') :
  Inv X pins σ H' { s with heap:=h',gens:=g',drawn:=d',toks:=t' }:=by
 have neL:∀b o,X.s₀.heap.get? b=some o->b≠X.env.locals:=λb o e=>Nat.ne_of_lt (Nat.lt_of_lt_of_le (Heap.lt_size e) I.ok.above);have neC:∀b o,X.s₀.heap.get? b=some o->b∉X.ex->b∉ch:=λb o e hx hb=>by
  rcases(hch b hb).1 with z | z
  ·exact hx z
  ·exact absurd (Nat.lt_of_lt_of_le (Heap.lt_size e) z) (Nat.lt_irrefl _)
 have cellK:∀x c,X.env.cells.lookup x=some c->∀v,s.heap.IsCell c v->h'.IsCell c v:=λx c e v zz=>pw11 zz λo ho hd=>by
  have nch:c∉ch:=λz=>(hch c z).2.2.1 x c e rfl
  by_cases hc:c∈X.fs
  ·obtain⟨sl,q⟩:=slot c o (I.cne x c e) hc nch ho (I.freeC x c e)
   exact(iw11 _ q hd)
  ·exact(iw11 o (keep c o (I.cne x c e) hc nch ho (I.freeC x c e)) hd)
 refine⟨I.ok,I.os,hg,⟨λb o e n hb hx=>?_,λb o e n hb hx=>?_,λb o e n hx=>?_,λb o e hx=>?_,λb xs e=>tups b xs (I.base.tups b xs e),λb o xs e=>frzs b o xs (I.base.frzs b o xs e),λb ps e=>?_⟩,?_,λx c e=>?_,?_,λx c e=>?_,λp hp=>?_,hok,I.len⟩
 ·exact keep b o (neL b o e) hb (neC b o e hx) (I.base.keep b o e n hb hx) (I.base.free b o e n hx)
 ·obtain⟨sl,e1⟩:=I.base.slot b o e n hb hx
  obtain⟨sl',e2⟩:=slot b _ (neL b o e) hb (neC b o e hx) e1 (I.base.free b o e n hx);exact⟨sl',e2⟩
 ·obtain⟨o',e1⟩:=I.base.there b o e hx
  exact free b o' (neC b o e hx) e1 (I.base.free b o e n hx)
 ·obtain⟨o',e1⟩:=I.base.there b o e hx
  exact there b o' (neC b o e hx) e1
 ·obtain⟨m1,e1⟩:=I.base.tbls b ps e
  obtain⟨m2,e2⟩:=tbls b _ e1;exact⟨m1++m2,by rw[e2,Array.append_assoc]⟩
 ·(refine pw11 I.loc λm hn hl=>?_)
  refine(iw11 m (ns m hn) (λi x v e1 e2 e3=>?_));(refine pw11 (hl i x v e1 e2 e3) λu r l=>?_);refine(iw11 u r ?_);rcases l with l | ⟨k,c,e,z⟩
  ·exact .inl l
  ·exact .inr ⟨k,(iw11 c e (cellK x c e _ z))⟩
 ·obtain⟨v,z⟩:=I.cell x c e
  exact⟨v,cellK x c e v z⟩
 ·(refine pw11 I.loc λm zz1 _=>?_;obtain ⟨o,_,_,ho,_⟩:=zz1)
  exact free _ o (λz=>(hch _ z).2.1 rfl) ho I.free
 ·(refine pw21 (I.cell x c e) λv o ho hd=>?_)
  exact free c o (λz=>(hch c z).2.2.1 x c e rfl) ho (I.freeC x c e)
 ·(refine pw04 (I.pin p hp) λe n ne nf d=>?_)
  have nch:p.1∉ch:=λz=>(hch p.1 z).2.2.2 p hp rfl;exact⟨keep p.1 p.2 ne nf nch e n,free p.1 p.2 nch e n,ne,nf,d⟩
theorem Inv.un {t':Nat}(I:Inv X pins σ H s)(u:Un X.fs [] H H' s.heap h')(hok:HOk X.prog X.w H' h'):Inv X pins σ H' { s with heap:=h',toks:=t' }:=by
 (refine pw11 (id I.loc) λm zz1 _=>?_;obtain ⟨o,es,ep,ho,r⟩:=zz1);obtain⟨sl,hL⟩:=u.any ho I.free (by simp)
 exact I.step (g':=s.gens) (d':=s.drawn) (ch:=[]) (λ_ z=>nomatch z) (λb o _ hb _ e n=>u.keep b o e n hb (by simp)) (λb o _ hb _ e n=>u.slot b o e n hb (by simp)) (λb o _ e n=>u.free b o e n (by simp)) (λb o _ e=>u.there b o e (by simp)) u.tups u.frzs u.tbls (λm' hm=>by
  (revert hm;refine ow31 λo' es' ep' ho' r'=>?_);rw[ho] at ho';cases ho'
  exact(iw31 _ es' ep' hL r')) hok I.bare
theorem Inv.call {g':Array GenState}{t':Nat}{d':Drawn}{ch:List Addr}(I:Inv X pins σ H s)(u:Un (frs X.stack) ch H H' s.heap h')(hok:HOk X.prog X.w H' h')(hg:AllBare g')
  (hch:∀b∈ch,(b∈X.ex\/X.s₀.heap.objs.size<=b)/\b≠X.env.locals/\(∀x c,X.env.cells.lookup x=some c->c≠b)/\∀p∈X.pn++pins,p.1≠b) :
  Inv X pins σ H' { s with heap:=h',gens:=g',drawn:=d',toks:=t' }:=by
 (refine pw11 (id I.loc) λm zz1 _=>?_;obtain ⟨o,es,ep,ho,r⟩:=zz1);obtain⟨sl,hL⟩:=u.any ho I.free λz=>(hch _ z).2.1 rfl
 exact I.step (ch:=ch) hch (λb o hL hb hc e n=>u.keep b o e n (λz=>(List.mem_cons.mp (I.stkSub b z)).elim hL hb) hc) (λb o _ _ hc e n=>u.any e n hc) (λb o hc e n=>u.free b o e n hc) (λb o hc e=>u.there b o e hc) u.tups u.frzs u.tbls (λm' hm=>by
  (revert hm;refine ow31 λo' es' ep' ho' r'=>?_);rw[ho] at ho';cases ho'
  exact(iw31 _ es' ep' hL r')) hok hg
theorem Inv.turned {t':Nat}{it:Addr}(I:Inv X pins σ H s)(k:∀b o,b≠it->s.heap.get? b=some o->h'.get? b=some o)(hn:H it=none)(hL:it≠X.env.locals)
  (h1:it∈X.ex\/X.s₀.heap.objs.size<=it) (h2:∀x c,X.env.cells.lookup x=some c->c≠it) (h3:∀p∈X.pn++pins,p.1≠it):Inv X pins σ H { s with heap:=h',toks:=t' }:=by
 have nit:∀b u,H b=some u->b≠it:=λb u e z=>by rw[z,hn] at e;cases e
 refine I.step (g':=s.gens) (d':=s.drawn) (ch:=[it]) (λb hb=>?_) (λb o _ _ hc e _=>k b o (λz=>hc (by simp[z])) e) (λb o _ _ hc e _=>⟨o.slots,k b o (λz=>hc (by simp[z])) e⟩) (λ_ _ _ _ n=>n)
  (λb o hc e=>⟨o,k b o (λz=>hc (by simp[z])) e⟩) (λ_ _ e=>e) (λ_ _ _ e=>e) (λb ps e=>⟨#[],by rw[e];simp⟩) (λm hm=>?_) (λb u e=>?_) I.bare
 ·have e:b=it:=by simpa using hb
  subst e;exact⟨h1,hL,h2,h3⟩
 ·(revert hm;refine ow31 λo es ep ho r=>?_)
  exact(iw31 o es ep (k _ o (Ne.symm hL) ho) r)
 ·refine(I.hok b u e).stay (λc v hc q=>k c v ?_ q) (λ_ q=>q) λ_ _ q=>q
  rcases hc with z | z
  ·rw[z];exact nit b u e
  ·exact nit c _ z
theorem Inv.tok (I:Inv X pins σ H s)(t:Nat):Inv X pins σ H { s with toks:=t }:=I.un (h':=s.heap) (t':=t) Un.refl I.hok
theorem Inv.kept {t':Nat}(I:Inv X pins σ H s)(k:∀b u,s.heap.get? b=some u->h'.get? b=some u):Inv X pins σ H { s with heap:=h',toks:=t' }:=I.un (Un.kept k) (I.hok.kept k)
theorem Inv.laid {a:Addr}{o:HO}{t':Nat}(I:Inv X pins σ H s)(k:∀b u,s.heap.get? b=some u->h'.get? b=some u)(hp:s.heap.objs.size<=a)(new:ObjOk X.prog X.w (upd H a o) h' a o) :
  Inv X pins σ (upd H a o) { s with heap:=h',toks:=t' }:=I.un (Un.laid k hp (I.hok.fresh hp)) (I.hok.laid k hp new)
theorem Inv.write {x e:Addr}{o:HO}{t':Nat}(I:Inv X pins σ H s)(mu:Mut (H x))(he:e=x\/H e=some (.own x))(k:∀b u,b≠e->s.heap.get? b=some u->h'.get? b=some u)(heo:∃u,h'.get? e=some u)
  (new:ObjOk X.prog X.w (upd H x o) h' x o):Inv X pins σ (upd H x o) { s with heap:=h',toks:=t' }:=I.un (Un.write mu he k heo) (I.hok.write mu he k heo new)
theorem Inv.wX {pins':List (Addr×Obj)}(I:Inv X pins σ H s)(h:∀p∈pins',s.heap.get? p.1=some p.2/\H p.1=none/\p.1≠X.env.locals/\p.1∉X.fs/\∀v,p.2.data≠.cell v):Inv X pins' σ H s:=
 ⟨I.ok,I.os,I.bare,I.base,I.loc,I.cell,I.free,I.freeC,λp hp=>(List.mem_append.mp hp).elim (λz=>I.pin p (List.mem_append_left _ z)) (h p),I.hok,I.len⟩
theorem n6 {N:List Str}(hN:N.Nodup){i j:Nat}{x:Str}(a:N[i]?=some x)(b:N[j]?=some x):i=j:=by
 obtain⟨h1,e1⟩:=List.getElem?_eq_some_iff.mp a;obtain⟨h2,e2⟩:=List.getElem?_eq_some_iff.mp b;exact(List.getElem_inj hN).mp (e1.trans e2.symm)
theorem qo {M:Model}{A:Around}{E:Value->Shared->Prop}{i:Nat}{x:Str}{v:V}{u:Value}{Q:Unit->Shared->Prop}(I:Inv X pins σ H s)(hN:X.N.Nodup)(hi:X.N[i]?=some x)(hx:Loc X.env.scope x)(r:RelV v u)
  (h:∀s',Inv X pins (σ.set i (some v)) H s'->(∃a,Heap.SameBut a s.heap s'.heap/\(a=X.env.locals\/X.env.cells.lookup x=some a))->Q () s') (hf:autoParam (X.fn x=true\/X.env.scope.names.lookup x=some .local) L2.dft0._auto_1):wpAny M A (storeName X.env x u) Q E s:=by
 (refine pw11 (id I.loc) λm hn hl=>?_);have hcls:(X.env.scope.kind == .class || (X.env.scope.kind == .module && X.env.locals != X.env.globals))=false:=by rw[I.ok.kind];rfl
 have hiσ:i < σ.length:=by rw[I.len];exact(List.getElem?_eq_some_iff.mp hi).1
 have cne:=I.cne;have tracked:∀{a:Addr} {h':Heap},(∃o,s.heap.get? a=some o/\H a=none)->Heap.SameBut a s.heap h'->HOk X.prog X.w H h':=λ{a h'} ha hs b ob e=>by
  (revert ha;refine ow11 λ_ _ hfree=>?_);refine(I.hok b ob e).stay (λc w' hc q=>(hs.2 c ?_).trans q) (λ_ q=>q) λ_ _ q=>q
  rintro rfl
  rcases hc with rfl | hc
  ·rw[hfree] at e;cases e
  ·rw[hfree] at hc;cases hc
 rcases hx with hk | hk
 ·refine wpAny_storeName_local hk hn (λh' hn' hs=>?_) hcls
  (refine pw31 (id hn) λoL _ _ hoL _=>?_);refine h _ ⟨I.ok,I.os,I.bare,⟨λb o e n hb hx=>?_,λb o e n hb hx=>?_,I.base.free,λb o e hx=>?_,I.base.tups,I.base.frzs,I.base.tbls⟩,(iw11 _ hn' (λj y v' e1 e2 e3=>?_)),λy c e=>?_,I.free,I.freeC,λp hp=>?_,tracked (iw11 oL hoL I.free) hs,by simpa using I.len⟩ (iw11 _ hs (.inl rfl))
  ·exact(hs.2 b (Nat.ne_of_lt (Nat.lt_of_lt_of_le (Heap.lt_size e) I.ok.above))).trans (I.base.keep b o e n hb hx)
  ·obtain⟨sl,e1⟩:=I.base.slot b o e n hb hx
   exact⟨sl,(hs.2 b (Nat.ne_of_lt (Nat.lt_of_lt_of_le (Heap.lt_size e) I.ok.above))).trans e1⟩
  ·obtain⟨o',e1⟩:=I.base.there b o e hx
   exact⟨o',(hs.2 b (Nat.ne_of_lt (Nat.lt_of_lt_of_le (Heap.lt_size e) I.ok.above))).trans e1⟩
  ·by_cases hj:j=i
   ·subst hj
    rw[hi] at e1;cases e1;rw[List.getElem?_set_self hiσ] at e2;cases e2;exact(iw11 u r (.inl ⟨hk,by simp⟩))
   ·rw[List.getElem?_set_ne (Ne.symm hj)] at e2
    (refine pw11 (hl j y v' e1 e2 e3) λu' r' q=>?_);refine(iw11 u' r' ?_);rcases q with⟨k,e⟩ | ⟨k,c,e,z⟩
    ·refine .inl ⟨k,?_⟩
     have:y≠x:=λe=>hj (n6 hN e1 (e▸hi));simp[this,e]
    ·exact .inr ⟨k,(iw11 c e (z.sameBut hs (cne y c e)))⟩
  ·obtain⟨w',z⟩:=I.cell y c e
   exact⟨w',z.sameBut hs (cne y c e)⟩
  ·(refine pw04 (I.pin p hp) λe n ne nf d=>?_)
   exact⟨(hs.2 p.1 ne).trans e,n,ne,nf,d⟩
 ·have hfn:X.fn x=true:=by
   rcases hf with z | z
   ·exact z
   ·rw[z] at hk;cases hk
  obtain⟨c,hc⟩:=I.ok.has x (.inl hk);obtain⟨w',z⟩:=I.cell x c hc;refine wpAny_storeName_cell I.ok.kind hk hc z (λh' hc' hs=>?_);(refine pw11 (id z) λoc hoc hocd=>?_);refine h { s with heap:=h' } ⟨I.ok,I.os,I.bare,⟨λb o e n hb hx=>?_,λb o e n hb hx=>?_,I.base.free,λb o e hx=>?_,I.base.tups,I.base.frzs,I.base.tbls⟩,(iw11 m (hn.sameBut hs (Ne.symm (cne x c hc))) (λj y v' e1 e2 e3=>?_)),λy c' e=>?_,I.free,I.freeC,λp hp=>?_,tracked (iw11 oc hoc (I.freeC x c hc)) hs,by simpa using I.len⟩ (iw11 c hs (.inr hc))
  ·exact(hs.2 b (Nat.ne_of_lt (Nat.lt_of_lt_of_le (Heap.lt_size e) (I.ok.cab x c hfn hc)))).trans (I.base.keep b o e n hb hx)
  ·obtain⟨sl,e1⟩:=I.base.slot b o e n hb hx
   exact⟨sl,(hs.2 b (Nat.ne_of_lt (Nat.lt_of_lt_of_le (Heap.lt_size e) (I.ok.cab x c hfn hc)))).trans e1⟩
  ·obtain⟨o',e1⟩:=I.base.there b o e hx
   exact⟨o',(hs.2 b (Nat.ne_of_lt (Nat.lt_of_lt_of_le (Heap.lt_size e) (I.ok.cab x c hfn hc)))).trans e1⟩
  ·by_cases hj:j=i
   ·subst hj
    rw[hi] at e1;cases e1;rw[List.getElem?_set_self hiσ] at e2;cases e2;exact(iw11 u r (.inr ⟨.inl hk,(iw11 c hc hc')⟩))
   ·rw[List.getElem?_set_ne (Ne.symm hj)] at e2
    (refine pw11 (hl j y v' e1 e2 e3) λu' r' q=>?_);refine(iw11 u' r' ?_);rcases q with q | ⟨k,c',e,z'⟩
    ·exact .inl q
    ·refine .inr ⟨k,(iw11 c' e (z'.sameBut hs ?_))⟩
     rintro rfl
     exact hj (n6 hN e1 (I.ok.inj _ _ _ e hc▸hi))
  ·by_cases hcc:c'=c
   ·subst hcc;exact⟨_,hc'⟩
   ·obtain⟨w2,z2⟩:=I.cell y c' e
    exact⟨w2,z2.sameBut hs hcc⟩
  ·(refine pw04 (I.pin p hp) λe n ne nf d=>?_)
   refine⟨(hs.2 p.1 ?_).trans e,n,ne,nf,d⟩;intro q;rw[q,hoc] at e;have q':oc=p.2:=Option.some.inj e;exact d w' (by rw[<-q'];exact hocd)
theorem kC {M:Model}{A:Around}{E:Value->Shared->Prop}{i:Nat}{x:Str}{v:V}{u:Value}{Q:Unit->Shared->Prop}(I:Inv X pins σ H s)(hN:X.N.Nodup)(hi:X.N[i]?=some x)(hx:Loc X.env.scope x)(r:RelV v u)
  (h:∀s',Inv X pins (σ.set i (some v)) H s'->Q () s') (hf:autoParam (X.fn x=true\/X.env.scope.names.lookup x=some .local) L2.dft0._auto_1):wpAny M A (storeName X.env x u) Q E s:=
 qo I hN hi hx r (λs' I' _=>h s' I') hf
theorem Inv.call' {s':Shared}{ch:List Addr}(I:Inv X pins σ H s)(ho:s'.os=s.os)(u:Un (frs X.stack) ch H H' s.heap s'.heap)(hok:HOk X.prog X.w H' s'.heap)(hg:AllBare s'.gens)
  (hch:∀b∈ch,(b∈X.ex\/X.s₀.heap.objs.size<=b)/\b≠X.env.locals/\(∀x c,X.env.cells.lookup x=some c->c≠b)/\∀p∈X.pn++pins,p.1≠b):Inv X pins σ H' s':=by
 obtain⟨h',g',d',t',o'⟩:=s';have e:o'=s.os:=ho;subst e;exact I.call (g':=g') (t':=t') (d':=d') u hok hg hch
end
noncomputable abbrev XK:=Value->Option Addr->Hp->Prop
noncomputable abbrev St:=List (Option V)
noncomputable abbrev VK:=V->Hp->Prop
noncomputable abbrev TE:=St->Hp->VK->Prop
noncomputable abbrev TT:=St->Hp->(Bool->Hp->Prop)->Prop
noncomputable abbrev TA:=St->Hp->(List V->Hp->Prop)->Prop
structure Ends where
 nx:St->Hp->Prop
 rt:VK
 bk:St->Hp->Prop:=λ_ _=>False
 ct:St->Hp->Prop:=λ_ _=>False
noncomputable abbrev TS:=Ends->St->Hp->Prop
noncomputable def EP (X:Cx)(pins:List (Addr×Obj))(σ:St)(Q:VK)(u:Value)(s':Shared):Prop:=∃v H',Inv X pins σ H' s'/\RelV v u/\Q v H'
noncomputable def TP (X:Cx)(pins:List (Addr×Obj))(σ:St)(Q:Bool->Hp->Prop)(b:Bool)(s':Shared):Prop:=∃H',Inv X pins σ H' s'/\Q b H'
noncomputable def AP (X:Cx)(pins:List (Addr×Obj))(σ:St)(Q:List V->Hp->Prop)(us:List Value)(s':Shared):Prop:=∃vs H',Inv X pins σ H' s'/\Vals vs us/\Q vs H'
noncomputable def SP (X:Cx)(pins:List (Addr×Obj))(D:Ends)(f:Flow)(s':Shared):Prop:=
 match f with
 | .next=>∃σ' H',Inv X pins σ' H' s'/\D.nx σ' H'
 | .brk=>∃σ' H',Inv X pins σ' H' s'/\D.bk σ' H'
 | .cont=>∃σ' H',Inv X pins σ' H' s'/\D.ct σ' H'
 | .ret u=>∃v σ' H',Inv X pins σ' H' s'/\RelV v u/\D.rt v H'
noncomputable def PE (X:Cx)(e:Expr)(t:TE):Prop:=
 ∀(pins:List (Addr×Obj)) (s:Shared) (σ:St) (H:Hp) (Q:VK),Inv X pins σ H s->t σ H Q->wpAny (model X.prog X.w) X.A (eval e X.env) (EP X pins σ Q) X.xe s
noncomputable def PT (X:Cx)(e:Expr)(t:TT):Prop:=
 ∀(pins:List (Addr×Obj)) (s:Shared) (σ:St) (H:Hp) (Q:Bool->Hp->Prop),Inv X pins σ H s->t σ H Q->wpAny (model X.prog X.w) X.A (isTrue e X.env (eval e X.env)) (TP X pins σ Q) X.xe s
noncomputable def PW (X:Cx)(e:Expr)(t:TT):Prop:=
 ∀(whole:Sem Value) (pins:List (Addr×Obj)) (s:Shared) (σ:St) (H:Hp) (Q:Bool->Hp->Prop),Inv X pins σ H s->t σ H Q->wpAny (model X.prog X.w) X.A (isTrue e X.env whole) (TP X pins σ Q) X.xe s
theorem PW.pt {X:Cx}{e:Expr}{t:TT}(h:PW X e t):PT X e t:=h _
noncomputable def PA (X:Cx)(es:List Expr)(t:TA):Prop:=
 ∀(pos:Pos) (pins:List (Addr×Obj)) (s:Shared) (σ:St) (H:Hp) (Q:List V->Hp->Prop),Inv X pins σ H s->t σ H Q->wpAny (model X.prog X.w) X.A (spliced (backTo pos (starEach es X.env))) (AP X pins σ Q) X.xe s
noncomputable def PS (X:Cx)(st:Stmt)(t:TS):Prop:=
 ∀(pins:List (Addr×Obj)) (s:Shared) (σ:St) (H:Hp) (D:Ends),Inv X pins σ H s->t D σ H->wpAny (model X.prog X.w) X.A (exec st X.env) (SP X pins D) X.xe s
noncomputable def PSs (X:Cx)(st:List Stmt)(t:TS):Prop:=
 ∀(pins:List (Addr×Obj)) (s:Shared) (σ:St) (H:Hp) (D:Ends),Inv X pins σ H s->t D σ H->wpAny (model X.prog X.w) X.A (execs st X.env) (SP X pins D) X.xe s
theorem thn {α:Type}{t:Sem α}{Q Q':α->Shared->Prop}{M:Model}{A:Around}{E:Value->Shared->Prop}{s:Shared}(h:wpAny M A t Q E s)(hQ:∀a s,Q a s->Q' a s):wpAny M A t Q' E s:=wpAny_mono h hQ λ_ _ x=>x
theorem thnE {t:Sem Value}{X:Cx}{pins:List (Addr×Obj)}{σ:St}{Q:VK}{Q':Value->Shared->Prop}{M:Model}{A:Around}{E:Value->Shared->Prop}{s:Shared}(h:wpAny M A t (EP X pins σ Q) E s)(hQ:∀u s' v H',Inv X pins σ H' s'->RelV v u->Q v H'->Q' u s'):wpAny M A t Q' E s:=wpAny_mono h (λu s' zz=>pw22 zz λv H' I r q=>hQ u s' v H' I r q) λ_ _ x=>x
theorem thnA {t:Sem (List Value)}{X:Cx}{pins:List (Addr×Obj)}{σ:St}{Q:List V->Hp->Prop}{Q':List Value->Shared->Prop}{M:Model}{A:Around}{E:Value->Shared->Prop}{s:Shared}(h:wpAny M A t (AP X pins σ Q) E s)(hQ:∀u s' v H',Inv X pins σ H' s'->Vals v u->Q v H'->Q' u s'):wpAny M A t Q' E s:=wpAny_mono h (λu s' zz=>pw22 zz λv H' I r q=>hQ u s' v H' I r q) λ_ _ x=>x
section
variable {X:Cx}
noncomputable def onR (x:V)(R:Addr->Prop):Prop:=match x with | .ref a=>R a | _=>False
theorem onRr {a:Addr}{R:Addr->Prop}:onR (.ref a) R=R a:=rfl
theorem onRx {x:V}{R:Addr->Prop}:onR x R=∃a,x=.ref a/\R a:=by
 cases x<;>simp[onR]
theorem rn {x:V}{R:Addr->Prop}(h:onR x R):∃a,x=.ref a/\R a:=onRx▸h
noncomputable def onB (x:V)(R:Bool->Prop):Prop:=match x with | .bl a=>R a | _=>False
theorem onBb {a:Bool}{R:Bool->Prop}:onB (.bl a) R=R a:=rfl
theorem onBx {x:V}{R:Bool->Prop}:onB x R=∃a,x=.bl a/\R a:=by
 cases x<;>simp[onB]
theorem n8 {x:V}{R:Bool->Prop}(h:onB x R):∃a,x=.bl a/\R a:=onBx▸h
theorem mapC {α β:Type _}{f:α->β}{a:α}{l:List α}:List.map f (a::l)=f a::List.map f l:=rfl
theorem mapN {α β:Type _}{f:α->β}:List.map f []=[]:=rfl
noncomputable def tVar:Nat->St->Hp->VK->Prop
 | 0,some v::_,H,Q=>Q v H
 | 0,none::_,_,_=>False
 | n+1,_::r,H,Q=>tVar n r H Q
 | _,[],_,_=>False
theorem tV0 {v:V}{r:St}{H:Hp}{Q:VK}:tVar 0 (some v::r) H Q=Q v H:=rfl
theorem tVs {n:Nat}{x:Option V}{r:St}{H:Hp}{Q:VK}:tVar (n+1) (x::r) H Q=tVar n r H Q:=rfl
theorem wY:∀{i:Nat} {σ:St} {H:Hp} {Q:VK},tVar i σ H Q->∃v,σ[i]?=some (some v)/\Q v H
 | 0,some v::_,_,_,h=>(iw11 v rfl h)
 | 0,none::_,_,_,h=>h.elim
 | n+1,_::r,_,_,h=>let ⟨v,e,q⟩:=wY (i:=n) (σ:=r) h;(iw11 v (by simpa using e) q)
 | 0,[],_,_,h=>h.elim
 | _+1,[],_,_,h=>h.elim
noncomputable def tC (v:V):TE:=λ_ H Q=>Q v H
theorem Dy {i:Nat}{x:Str}{pos:Pos}(hN:X.N[i]?=some x)(hv:Vis X.env.scope x)(hd:autoParam ((x == ("__debug__":Str))=false) L2.dft1._auto_1)(hcd:autoParam ((x == ("__classdict__":Str))=false) L2.dft1._auto_1):PE X (.Name x pos) (tVar i):=by
 intro pins s σ H Q I h;(refine pw11 (wY h) λv e h=>?_);(refine pw11 I.loc λm hn hl=>?_);(refine pw11 (hl i x v hN e hv) λu r l=>?_);have fin:EP X pins σ Q u s:=(iw22 v H I r h)
 rcases l with⟨hk,hm⟩ | ⟨hk,c,hc,hcell⟩
 ·exact wpAny_Name (wpAny_loadName_local I.ok.kind hk hn hm fin) hd
 ·rcases hk with hk | hk
  ·exact wpAny_Name (wpAny_loadName_cell I.ok.kind hk hc hcell fin) hd
  ·exact wpAny_Name (wpAny_loadName_free I.ok.kind hk hc hcell fin hcd) hd
theorem ah {i j pos}:PE X (.Constant (.int i) j pos) (tC (.int i)):=λ_ _ _ H _ I h=>wpAny_Constant_int (iw22 (.int i) H (I.tok _) ⟨_,rfl⟩ h)
theorem iA {b j pos}:PE X (.Constant (.bool b) j pos) (tC (.bl b)):=λ_ _ _ H _ I h=>Constant_bool (iw22 (.bl b) H I rfl h)
theorem uZ {j pos}:PE X (.Constant .none j pos) (tC .non):=λ_ _ _ H _ I h=>Constant_none (iw22 (.non) H I rfl h)
theorem az {x j pos}:PE X (.Constant (.str x) j pos) (tC (.str x)):=λ_ _ _ H _ I h=>Calls.Constant_str (iw22 (.str x) H (I.tok _) ⟨_,rfl⟩ h)
noncomputable def Gl (X:Cx)(x:Str):Prop:=X.env.kindOf x=some .globalImplicit
theorem jd {E:Value->Shared->Prop}{pins:List (Addr×Obj)}{s:Shared}{σ:St}{H:Hp}{x:Str}{u:Value}{pos:Pos}{Q:Value->Shared->Prop}(I:Inv X pins σ H s)(hg:Gl X x)(hm:X.mg x=some u)(h:Q u s)
  (hd:autoParam ((x == ("__debug__":Str))=false) L2.dft1._auto_1):wpAny (model X.prog X.w) X.A (eval (.Name x pos) X.env) Q E s:=
 Calls.Name_function_global I.ok.kind hg (Calls.loadGlobal_global (by rw[I.ok.glob];exact I.mod.glob.keeps I.bk) hm h) hd
theorem dP {E:Value->Shared->Prop}{pins:List (Addr×Obj)}{s:Shared}{σ:St}{H:Hp}{x:Str}{u:Value}{pos:Pos}{Q:Value->Shared->Prop}(I:Inv X pins σ H s)(hg:Gl X x)(hm:X.mg x=none)(hv:bootBuiltins x=some u)(h:Q u s)
  (hn:autoParam (x ≠ "__name__") L2.dft1._auto_1) (hd:autoParam ((x == ("__debug__":Str))=false) L2.dft1._auto_1):wpAny (model X.prog X.w) X.A (eval (.Name x pos) X.env) Q E s:=by
 (refine pw11 I.mod.blt λmb h1 h2=>?_);exact Calls.Name_function_global I.ok.kind hg (Calls.loadGlobal_builtin (by rw[I.ok.glob];exact I.mod.glob.keeps I.bk) hm (by rw[I.ok.blt];exact h1.keeps I.bk) ((h2 x hn).trans hv) h) hd
theorem rq {x:Str}{v:V}{u:Value}{pos:Pos}(hg:Gl X x)(hm:X.mg x=some u)(r:RelV v u)(hd:autoParam ((x == ("__debug__":Str))=false) L2.dft1._auto_1):PE X (.Name x pos) (tC v):=
 λ_ _ _ H _ I h=>jd I hg hm (iw22 v H I r h) hd
theorem dE {x:Str}{v:V}{u:Value}{pos:Pos}(hg:Gl X x)(hm:X.mg x=none)(hv:bootBuiltins x=some u)(r:RelV v u)(hn:autoParam (x ≠ "__name__") L2.dft1._auto_1)(hd:autoParam ((x == ("__debug__":Str))=false) L2.dft1._auto_1):PE X (.Name x pos) (tC v):=
 λ_ _ _ H _ I h=>dP I hg hm hv (iw22 v H I r h) hn hd
variable {a b:Expr} {ta tb:TE} {pos:Pos}
noncomputable def PC (X:Cx)(op:CmpOp)(a b:Expr)(t:TE):Prop:=
 ∀(pins:List (Addr×Obj)) (s:Shared) (σ:St) (H:Hp) (Q:VK),Inv X pins σ H s->t σ H Q->
  wpAny (model X.prog X.w) X.A (eval a X.env) (λv s₁=>wpAny (model X.prog X.w) X.A (eval b X.env) (λu s₂=>wpAny (model X.prog X.w) X.A (compareOp op v u) (EP X pins σ Q) X.xe s₂) X.xe s₁) X.xe s
theorem nobehind (b:Expr){op:CmpOp}(h:op≠.In)(h2:op≠.NotIn):behindInMarks op b=false:=by
 have e1:(op == CmpOp.In)=false:=by cases op<;>first | rfl | exact absurd rfl h
 have e2:(op == CmpOp.NotIn)=false:=by cases op<;>first | rfl | exact absurd rfl h2
 cases b<;>simp[behindInMarks,e1,e2]
noncomputable def tIsN (ta:TE):TE:=λσ H Q=>ta σ H λx H1=>Q (.bl (decide (x=.non))) H1
noncomputable def tNotN (ta:TE):TE:=λσ H Q=>ta σ H λx H1=>Q (.bl (!decide (x=.non))) H1
theorem RelV.sY {x:V}{v:Value}(r:RelV x v):(v == Value.none)=decide (x=.non):=by
 cases x with
 | non=>cases r;rfl
 | bl _=>cases r;rfl
 | int _=>obtain⟨t,rfl⟩:=r;rfl
 | str _=>obtain⟨t,rfl⟩:=r;rfl
 | byt _=>obtain⟨t,rfl⟩:=r;rfl
 | flt _=>obtain⟨t,rfl⟩:=r;rfl
 | ref _=>cases r;rfl
 | ty _=>cases r;rfl
theorem zU {j pos'}(ha:PE X a ta):PC X .Is a (.Constant .none j pos') (tIsN ta):=by
 intro pins s σ H Q I h;refine thnE (ha pins s σ H _ I h) λv s1 x H1 I1 r1 q1=>?_;exact Constant_none (is_none_gen (iw22 (.bl _) H1 I1 (by rw[r1.sY];rfl) q1))
theorem rA {j pos'}(ha:PE X a ta):PC X .IsNot a (.Constant .none j pos') (tNotN ta):=by
 intro pins s σ H Q I h;refine thnE (ha pins s σ H _ I h) λv s1 x H1 I1 r1 q1=>?_;exact Constant_none (isnot_none_gen (iw22 (.bl _) H1 I1 (by rw[r1.sY];rfl) q1))
noncomputable def tB (t:TE):TT:=λσ H Q=>t σ H λx H1=>∃c,x=.bl c/\Q c H1
theorem n9 {op:CmpOp}{t:TE}(h:PC X op a b t)(h1:autoParam (behindInMarks op b=false) L2.dft2._auto_1):PT X (.Compare a [op] [b] pos) (tB t):=by
 intro pins s σ H Q I hw;refine wpAny_isTrue_Compare1 (thn (h pins s σ H _ I hw) λv s1 h1=>thn h1 λu s2 h2=>thn h2 λc s3 zz=>pw22 zz λx H1 I1 r1 q1=>?_) h1;(revert q1;refine ow11 λd zz1 q=>?_;subst zz1);cases r1;exact wpAny_truthy_bool (iw11 H1 I1 q)
variable {tA tB':TT} {rest:List Expr}
noncomputable def tAnd (t u:TT):TT:=λσ H Q=>t σ H λc H1=>if c=true then u σ H1 Q else Q false H1
noncomputable def tOr (t u:TT):TT:=λσ H Q=>t σ H λc H1=>if c=true then Q true H1 else u σ H1 Q
noncomputable def tNot (t:TT):TT:=λσ H Q=>t σ H λc H1=>Q (!c) H1
theorem rB (ha:PT X a tA):PW X (.BoolOp .And [a] pos) tA:=by
 intro wh pins s σ H Q I h;refine isTrue_and (thn (ha pins s σ H Q I h) λc s1 e=>?_);cases c with
 | true=>exact isTrue_and_nil e
 | false=>exact e
theorem jZ (ha:PT X a tA):PW X (.BoolOp .Or [a] pos) tA:=by
 intro wh pins s σ H Q I h;refine isTrue_or (thn (ha pins s σ H Q I h) λc s1 e=>?_);cases c with
 | false=>exact isTrue_or_nil e
 | true=>exact e
theorem u4 (ha:PT X a tA)(hb:PW X (.BoolOp .And (b::rest) pos) tB'):PW X (.BoolOp .And (a::b::rest) pos) (tAnd tA tB'):=by
 intro wh pins s σ H Q I h;refine isTrue_and (thn (ha pins s σ H _ I h) λc s1 zz=>pw11 zz λH1 I1 q1=>?_);cases c with
 | true=>exact hb wh pins s1 σ H1 Q I1 q1
 | false=>exact(iw11 H1 I1 q1)
theorem mQ (ha:PT X a tA)(hb:PW X (.BoolOp .Or (b::rest) pos) tB'):PW X (.BoolOp .Or (a::b::rest) pos) (tOr tA tB'):=by
 intro wh pins s σ H Q I h;refine isTrue_or (thn (ha pins s σ H _ I h) λc s1 zz=>pw11 zz λH1 I1 q1=>?_);cases c with
 | true=>exact(iw11 H1 I1 q1)
 | false=>exact hb wh pins s1 σ H1 Q I1 q1
theorem dk (ha:PT X a tA):PT X (.UnaryOp .Not a pos) (tNot tA):=by
 intro pins s σ H Q I h;exact isTrue_not (ha pins s σ H (λc H1=>Q (!c) H1) I h)
noncomputable def tAndV (ta tb:TE):TE:=λσ H Q=>ta σ H λx H1=>∃c,x=.bl c/\if c=true then tb σ H1 Q else Q (.bl false) H1
noncomputable def tOrV (ta tb:TE):TE:=λσ H Q=>ta σ H λx H1=>∃c,x=.bl c/\if c=true then Q (.bl true) H1 else tb σ H1 Q
noncomputable def tNotV (ta:TE):TE:=λσ H Q=>ta σ H λx H1=>∃c,x=.bl c/\Q (.bl (!c)) H1
theorem fZ {op}{t:TE}(h:PE X a t):PE X (.BoolOp op [a] pos) t:=λpins s σ H Q I hw=>BoolOp_one (h pins s σ H Q I hw)
theorem dm (ha:PE X a ta)(hb:PE X (.BoolOp .And (b::rest) pos) tb):PE X (.BoolOp .And (a::b::rest) pos) (tAndV ta tb):=by
 intro pins s σ H Q I h;refine BoolOp_and (thnE (ha pins s σ H _ I h) λv s1 x H1 I1 r1 q1=>?_);(revert q1;refine ow11 λc zz1 q1=>?_;subst zz1);cases r1;refine wpAny_truthy_bool ?_;cases c with
 | true=>exact hb pins s1 σ H1 Q I1 q1
 | false=>exact(iw22 (.bl false) H1 I1 rfl q1)
theorem zV (ha:PE X a ta):PE X (.UnaryOp .Not a pos) (tNotV ta):=by
 intro pins s σ H Q I h;refine UnaryOp_ (thnE (ha pins s σ H _ I h) λv s1 x H1 I1 r1 q1=>?_);(revert q1;refine ow11 λc zz1 q1=>?_;subst zz1);cases r1;exact not_of (wpAny_truthy_bool (iw22 (.bl (!c)) H1 I1 rfl q1))
noncomputable def tIf (t:TT)(ta tb:TE):TE:=λσ H Q=>t σ H λc H1=>if c=true then ta σ H1 Q else tb σ H1 Q
theorem og {c:Expr}(hc:PT X c tA)(ha:PE X a ta)(hb:PE X b tb):PE X (.IfExp c a b pos) (tIf tA ta tb):=by
 intro pins s σ H Q I h;refine wpAny_IfExp (thn (hc pins s σ H _ I h) λd s1 zz=>pw11 zz λH1 I1 q1=>?_);cases d with
 | true=>exact ha pins s1 σ H1 Q I1 q1
 | false=>exact hb pins s1 σ H1 Q I1 q1
end
noncomputable def SqL (K:W.Frag)(H:Hp)(a:Addr)(xs:List V):Prop:=
 Rd H a (.lst xs)\/
  ∃(o:Obj) (its:Array Value) (n:Nat),K.lookup a=some o/\o.cls=.type "list" /\ o.dict=none/\o.data=.seq its n/\its.size<=sizeLine/\Vals xs its.toList
noncomputable def SqT (K:W.Frag)(H:Hp)(a:Addr)(xs:List V):Prop:=
 Rd H a (.tup xs)\/
  ∃(o:Obj) (its:Array Value) (n:Nat),K.lookup a=some o/\o.cls=.type "tuple" /\ o.data=.seq its n/\its.size<=sizeLine/\Vals xs its.toList
noncomputable def absV:Value->Option V
 | .none=>some .non
 | .bool b=>some (.bl b)
 | .int i _=>some (.int i)
 | .str x _=>some (.str x)
 | .bytes b _=>some (.byt b)
 | .float b _=>some (.flt b)
 | .ref a=>some (.ref a)
 | .type n=>some (.ty n)
 | _=>none
theorem RelV.abs {x:V}{u:Value}(r:RelV x u):absV u=some x:=by
 cases x with
 | non=>cases r;rfl
 | bl _=>cases r;rfl
 | int _=>obtain⟨t,rfl⟩:=r;rfl
 | str _=>obtain⟨t,rfl⟩:=r;rfl
 | byt _=>obtain⟨t,rfl⟩:=r;rfl
 | flt _=>obtain⟨t,rfl⟩:=r;rfl
 | ref _=>cases r;rfl
 | ty _=>cases r;rfl
theorem RelV.inj {x y:V}{u:Value}(r:RelV x u)(q:RelV y u):x=y:=Option.some.inj (r.abs.symm.trans q.abs)
theorem Vals.inj:∀{xs ys:List V} {us:List Value},Vals xs us->Vals ys us->xs=ys
 | _,_,_,.nil,.nil=>rfl
 | _,_,_,.cons r t,.cons r' t'=>by rw[r.inj r',Vals.inj t t']
section
variable {X:Cx} {pins:List (Addr×Obj)} {σ:St} {H:Hp} {s:Shared} {a:Addr} {xs ys:List V}
theorem SqT.of {K:W.Frag}(h:H a=some (.tup xs)):SqT K H a xs:=.inl (.inl h)
theorem Inv.list (I:Inv X pins σ H s)(h:SqL X.K H a xs):∃its:List Value,Vals xs its/\PlainL s.heap a its.toArray/\xs.length<=sizeLine:=by
 rcases h with h | ⟨o,its,n,hk,hc,hd,hs,hz,r⟩
 ·(refine pw01 (h.ok I.hok) λz=>ow21 λits n r e=>?_)
  exact(iw12 its r (iw23 _ n e rfl rfl rfl) z)
 ·refine(iw12 its.toList r (iw23 o n (I.kIn a o hk) hc hd (by simpa using hs)) ?_)
  have e:=r.length;simp only[Array.length_toList] at e;omega
theorem Inv.tuple (I:Inv X pins σ H s)(h:SqT X.K H a xs):∃its:List Value,Vals xs its/\IsTup s.heap a its.toArray/\xs.length<=sizeLine:=by
 rcases h with h | ⟨o,its,n,hk,hc,hs,hz,r⟩
 ·(refine pw01 (h.ok I.hok) λz=>ow11 λits r p=>?_)
  exact(iw12 its r p z)
 ·refine(iw12 its.toList r (iw12 o (I.kIn a o hk) hc (iw10 n (by simpa using hs))) ?_)
  have e:=r.length;simp only[Array.length_toList] at e;omega
theorem Inv.gv (I:Inv X pins σ H s)(h:SqL X.K H a xs)(h':SqL X.K H a ys):xs=ys:=by
 (refine pw12 (I.list h) λits r zz1 _=>?_;obtain ⟨o,n,e,_,_,d⟩:=zz1);(refine pw12 (I.list h') λits' r' zz1 _=>?_;obtain ⟨o',n',e',_,_,d'⟩:=zz1);rw[e] at e';cases e';rw[d] at d';injection d' with d1 _;have:its=its':=by simpa using congrArg Array.toList d1
 subst this;exact r.inj r'
theorem Inv.qp (I:Inv X pins σ H s)(h:SqT X.K H a xs)(h':SqT X.K H a ys):xs=ys:=by
 (refine pw12 (I.tuple h) λits r zz1 _=>?_;obtain ⟨o,e,_,n,d⟩:=zz1);(refine pw12 (I.tuple h') λits' r' zz1 _=>?_;obtain ⟨o',e',_,n',d'⟩:=zz1);rw[e] at e';cases e';rw[d] at d';injection d' with d1 _;have:its=its':=by simpa using congrArg Array.toList d1
 subst this;exact r.inj r'
end
noncomputable abbrev Cx.wish (X:Cx)(E:Value->Shared->Prop):Cx:={ X with xe:=E }
noncomputable abbrev Cx.nox (X:Cx):Cx:=X.wish λ_ _=>False
theorem Cx.Ok.wish {X:Cx}(ok:X.Ok)(E:Value->Shared->Prop):(X.wish E).Ok:=
 ⟨ok.mod,ok.kind,ok.glob,ok.blt,ok.above,ok.inj,ok.has,ok.cab,ok.hd,ok.frames,ok.stk,ok.exf,ok.bs,ok.bsz,ok.noex,ok.exfs,ok.funs,ok.frf⟩
theorem Cx.Ok.unwish {X:Cx}{E:Value->Shared->Prop}(ok:(X.wish E).Ok):X.Ok:=
 ⟨ok.mod,ok.kind,ok.glob,ok.blt,ok.above,ok.inj,ok.has,ok.cab,ok.hd,ok.frames,ok.stk,ok.exf,ok.bs,ok.bsz,ok.noex,ok.exfs,ok.funs,ok.frf⟩
section
variable {X:Cx} {pins:List (Addr×Obj)} {σ:St} {H:Hp} {s:Shared} {E:Value->Shared->Prop}
theorem Inv.wish (I:Inv X pins σ H s)(E:Value->Shared->Prop):Inv (X.wish E) pins σ H s:=⟨I.ok.wish E,I.os,I.bare,I.base,I.loc,I.cell,I.free,I.freeC,I.pin,I.hok,I.len⟩
theorem Inv.unwish (I:Inv (X.wish E) pins σ H s):Inv X pins σ H s:=⟨I.ok.unwish,I.os,I.bare,I.base,I.loc,I.cell,I.free,I.freeC,I.pin,I.hok,I.len⟩
theorem SP.unwish {D:Ends}{f:Flow}{s':Shared}(h:SP (X.wish E) pins D f s'):SP X pins D f s':=by
 cases f with
 | next=>(revert h;refine ow21 λσ' H' I q=>?_);exact(iw21 σ' H' I.unwish q)
 | brk=>(revert h;refine ow21 λσ' H' I q=>?_);exact(iw21 σ' H' I.unwish q)
 | cont=>(revert h;refine ow21 λσ' H' I q=>?_);exact(iw21 σ' H' I.unwish q)
 | ret u=>(revert h;refine ow32 λv σ' H' I r q=>?_);exact(iw32 v σ' H' I.unwish r q)
theorem PT.nox {e:Expr}{t:TT}(h:PT X.nox e t):PT X e t:=λpins s σ H Q I hw=>
 wpAny_mono (h pins s σ H Q (I.wish _) hw) (λ_ _ zz=>pw11 zz λH' I' q=>(iw11 H' I'.unwish q)) λ_ _ z=>False.elim z
theorem PSs.nox {st:List Stmt}{t:TS}(h:PSs X.nox st t):PSs X st t:=λpins s σ H D I hw=>
 wpAny_mono (h pins s σ H D (I.wish _) hw) (λ_ _ q=>q.unwish) λ_ _ z=>False.elim z
end
section
variable {X:Cx} {st:Stmt} {rest:List Stmt} {t u:TS} {e:Expr} {te:TE} {pos:Pos}
noncomputable def tNext:TS:=λD σ H=>D.nx σ H
noncomputable def tSeq (t u:TS):TS:=λD σ H=>t { D with nx:=u D } σ H
theorem aC:PSs X [] tNext:=λ_ _ σ H _ I h=>wpAny_execs_nil (iw21 σ H I h)
theorem ag (h1:PS X st t)(h2:PSs X rest u):PSs X (st::rest) (tSeq t u):=by
 intro pins s σ H D I h;refine wpAny_execs_cons (thn (h1 pins s σ H { D with nx:=u D } I h) λf s1 q=>?_);cases f with
 | next=>
  (revert q;refine ow21 λσ' H' I' q=>?_);exact h2 pins s1 σ' H' D I' q
 | ret v=>exact q
 | brk=>exact q
 | cont=>exact q
theorem ai (h1:PS X st t):PSs X [st] t:=by
 intro pins s σ H D I h;refine wpAny_execs_cons (thn (h1 pins s σ H D I h) λf s1 q=>?_);cases f with
 | next=>exact wpAny_execs_nil q
 | ret v=>exact q
 | brk=>exact q
 | cont=>exact q
noncomputable def tBreak:TS:=λD σ H=>D.bk σ H
noncomputable def tCont:TS:=λD σ H=>D.ct σ H
theorem zW:PS X (.Break pos) tBreak:=λ_ _ σ H _ I h=>wpAny_Break (iw21 σ H I h)
theorem Inv.quiet {pins:List (Addr×Obj)}{σ:St}{H:Hp}{s:Shared}(I:Inv X pins σ H s):interactive X.env=false:=by simp[interactive,I.ok.kind]
noncomputable def tDrop (te:TE):TS:=λD σ H=>te σ H λ_ H1=>D.nx σ H1
theorem aK (he:PE X e te)(hs:autoParam (swapsWith e none pos.line X.env=pure false) L2.dft3._auto_1):PS X (.Expr e pos) (tDrop te):=by
 intro pins s σ H D I h;exact wpAny_Expr_any (thnE (he pins s σ H _ I h) λv s1 x H1 I1 r1 q1=>(iw21 σ H1 I1 q1)) I.quiet hs
noncomputable def tRet (te:TE):TS:=λD σ H=>te σ H D.rt
theorem ar (he:PE X e te):PS X (.Return (some e) pos) (tRet te):=by
 intro pins s σ H D I h;exact wpAny_Return_some (thnE (he pins s σ H _ I h) λv s1 x H1 I1 r1 q1=>(iw32 x σ H1 I1 r1 q1))
noncomputable def tRetN:TS:=λD _ H=>D.rt .non H
noncomputable def tIfS (c:TT)(t u:TS):TS:=λD σ H=>c σ H λb H1=>if b=true then t D σ H1 else u D σ H1
theorem aQ {c:Expr}{a b:List Stmt}{tc:TT}(hc:PT X c tc)(ha:PSs X a t)(hb:PSs X b u):PS X (.If c a b pos) (tIfS tc t u):=by
 intro pins s σ H D I h;refine wpAny_If (thn (hc pins s σ H _ I h) λd s1 zz=>pw11 zz λH1 I1 q1=>?_);cases d with
 | true=>exact ha pins s1 σ H1 D I1 q1
 | false=>exact hb pins s1 σ H1 D I1 q1
noncomputable def tNever:TS:=λ_ _ _=>False
theorem sZ:PS X st tNever:=λ_ _ _ _ _ _ h=>h.elim
theorem cO {sts:List Stmt}:PSs X sts tNever:=λ_ _ _ _ _ _ h=>h.elim
end
noncomputable abbrev TG:=V->St->Hp->(St->Hp->Prop)->Prop
noncomputable abbrev TGs:=List V->St->Hp->(St->Hp->Prop)->Prop
noncomputable def PG (X:Cx)(target:Expr)(t:TG):Prop:=
 ∀(pins:List (Addr×Obj)) (s:Shared) (σ:St) (H:Hp) (v:V) (u:Value) (Q:St->Hp->Prop),Inv X pins σ H s->RelV v u->t v σ H Q->
  wpAny (model X.prog X.w) X.A (assign target X.env u) (λ_ s'=>∃σ' H',Inv X pins σ' H' s'/\Q σ' H') X.xe s
noncomputable def PGs (X:Cx)(ts:List Expr)(t:TGs):Prop:=
 ∀(pins:List (Addr×Obj)) (s:Shared) (σ:St) (H:Hp) (vs:List V) (us:List Value) (Q:St->Hp->Prop),Inv X pins σ H s->Vals vs us->t vs σ H Q->
  wpAny (model X.prog X.w) X.A (assignInOrder ((assignEach ts X.env).map (·.2)) us) (λ_ s'=>∃σ' H',Inv X pins σ' H' s'/\Q σ' H') X.xe s
noncomputable abbrev TSet:=V->V->V->Hp->(Hp->Prop)->Prop
noncomputable def PSet (X:Cx)(t:TSet):Prop:=
 ∀(pins:List (Addr×Obj)) (s:Shared) (σ:St) (H:Hp) (o i v:V) (ov iv u:Value) (Q:Hp->Prop),Inv X pins σ H s->RelV o ov->RelV i iv->RelV v u->t o i v H Q->
  wpAny (model X.prog X.w) X.A (setItem ov iv u) (λ_ s'=>∃H',Inv X pins σ H' s'/\Q H') X.xe s
noncomputable abbrev TIp:=V->V->Hp->VK->Prop
noncomputable def PIp (X:Cx)(op:Operator)(t:TIp):Prop:=
 ∀(pins:List (Addr×Obj)) (s:Shared) (σ:St) (H:Hp) (x y:V) (v u:Value) (Q:VK),Inv X pins σ H s->RelV x v->RelV y u->t x y H Q->
  wpAny (model X.prog X.w) X.A (inplaceOp op v u) (EP X pins σ Q) X.xe s
section
variable {X:Cx} {pos:Pos}
noncomputable def gName (i:Nat):TG:=λv σ H Q=>Q (σ.set i (some v)) H
theorem aU {i:Nat}{x:Str}(hN:X.N.Nodup)(hi:X.N[i]?=some x)(hx:Loc X.env.scope x)(hf:autoParam (X.fn x=true\/X.env.scope.names.lookup x=some .local) L2.dft0._auto_1):PG X (.Name x pos) (gName i):=by
 intro pins s σ H v u Q I r h;exact wpAny_assign_Name (kC I hN hi hx r (λs' I'=>(iw21 _ H I' h)) hf)
noncomputable def gNil:TGs:=λvs σ H Q=>vs=[]/\Q σ H
noncomputable def gCons (t:TG)(u:TGs):TGs:=λvs σ H Q=>∃v r,vs=v::r/\t v σ H λσ' H'=>u r σ' H' Q
theorem je:PGs X [] gNil:=by
 intro pins s σ H vs us Q I r h;obtain⟨e,h⟩:=h;subst e;cases r;exact assignInOrder_nil (iw21 σ H I h)
theorem bh {e:Expr}{es:List Expr}{t:TG}{u:TGs}(h1:PG X e t)(h2:PGs X es u)
  (hs:autoParam ((assignEach (e::es) X.env).map (·.2)=assign e X.env::(assignEach es X.env).map (·.2)) L2.dft3._auto_1):PGs X (e::es) (gCons t u):=by
 intro pins s σ H vs us Q I r h;(revert h;refine ow21 λv vr e1 h=>?_);subst e1;cases r with
 | cons r rr=>
  rw[hs];refine assignInOrder_cons (thn (h1 pins s σ H _ _ _ I r h) λ_ s1 zz=>pw21 zz λσ1 H1 I1 q1=>?_);exact h2 pins s1 σ1 H1 _ _ Q I1 rr q1
noncomputable def gTup (K:W.Frag)(n:Nat)(t:TGs):TG:=λv σ H Q=>∃a xs,v=.ref a/\SqT K H a xs/\xs.length=n/\t xs σ H Q
theorem Dz {es:List Expr}{k:Nat}{t:TGs}{n:Nat}(hc:X.calm=true)(h:PGs X es t)
  (hn:autoParam ((assignEach es X.env).length=n) L2.dft3._auto_1) (hst:autoParam ((assignEach es X.env).findIdx? (·.1)=none) L2.dft3._auto_1):PG X (.Tuple es k pos) (gTup X.K n t):=by
 intro pins s σ H v u Q I r hw;(revert hw;refine ow23 λa xs e1 hq hl hw=>?_);subst e1;cases r;(refine pw12 (I.tuple hq) λits rv ht hz=>?_);refine assign_Tuple_tuple (I.ok.hd hc) ht (by simp[hn,<-hl,rv.length]) hst λh' hx=>?_;have I1:Inv X pins σ H { s with heap:=h' }:=I.kept (t':=s.toks) λb o e=>hx b o (Nat.ne_of_lt (Heap.lt_size e)) e;exact h pins _ σ H xs _ Q I1 (by simpa using rv) hw
noncomputable def gSub (to ti:TE)(t:TSet):TG:=λv σ H Q=>to σ H λo H1=>ti σ H1 λi H2=>t o i v H2 λH3=>Q σ H3
theorem d6 {o i:Expr}{to ti:TE}{t:TSet}(ho:PE X o to)(hi:PE X i ti)(hs:PSet X t)
  (ha:autoParam (∀v,assign (.Subscript o i pos) X.env v=(do
   let ov <-holding [v] (eval o X.env)
   let iv <-holding [v,ov] (eval i X.env)
   standAt pos
   holding [v,ov,iv] (setItem ov iv v)
   release [v,ov,iv] [])) L2.dft4._auto_1):PG X (.Subscript o i pos) (gSub to ti t):=by
 intro pins s σ H v u Q I r h;rw[ha];refine wpAny_bind (wpAny_holding (thnE (ho pins s σ H _ I h) λov s1 x H1 I1 r1 q1=>?_));refine wpAny_bind (wpAny_holding (thnE (hi pins s1 σ H1 _ I1 q1) λiv s2 y H2 I2 r2 q2=>?_));refine wpAny_bind (wpAny_standAt (wpAny_bind (wpAny_holding (thn (hs pins s2 σ H2 x y v ov iv u _ I2 r1 r2 r q2) λ_ s3 zz=>pw11 zz λH3 I3 q3=>?_))));exact wpAny_release (iw21 σ H3 I3 q3)
noncomputable def tAsg (te:TE)(g:TG):TS:=λD σ H=>te σ H λx H1=>g x σ H1 D.nx
theorem dQ {tg e:Expr}{te:TE}{g:TG}(he:PE X e te)(hg:PG X tg g)(hs:autoParam (swapsWithSole [tg] e pos.line X.env=pure false) L2.dft3._auto_1)(hw:autoParam (swappedStores [tg] e X.env=pure none) L2.dft3._auto_1)
  (h1:autoParam ((assignEach [tg] X.env).map (·.2)=[assign tg X.env]) L2.dft3._auto_1):PS X (.Assign [tg] e pos) (tAsg te g):=by
 intro pins s σ H D I h;refine wpAny_Assign_stores (thnE (he pins s σ H _ I h) λv s1 x H1 I1 r1 q1=>?_) hs hw;rw[h1];exact thn (hg pins s1 σ H1 x v _ I1 r1 q1) λ_ s2 q=>q
theorem aw {i:Nat}{x:Str}{e:Expr}{te:TE}{pos':Pos}(hN:X.N.Nodup)(hi:X.N[i]?=some x)(hx:Loc X.env.scope x)(he:PE X e te)(hs:autoParam (swapsWith e (some (.Name x pos')) pos.line X.env=pure false) L2.dft3._auto_1)(hf:autoParam (X.fn x=true\/X.env.scope.names.lookup x=some .local) L2.dft0._auto_1) :
  PS X (.Assign [.Name x pos'] e pos) (tAsg te (gName i)):=by
 intro pins s σ H D I h;refine wpAny_Assign_Name (thnE (he pins s σ H _ I h) λv s1 y H1 I1 r1 q1=>?_) hs;exact kC I1 hN hi hx r1 (λs2 I2=>(iw21 _ H1 I2 q1)) hf
noncomputable def tAug (i:Nat)(te:TE)(ti:TIp):TS:=λD σ H=>∃x,σ[i]?=some (some x)/\te σ H λy H1=>ti x y H1 λz H2=>D.nx (σ.set i (some z)) H2
theorem zX {i:Nat}{x:Str}{e:Expr}{te:TE}{op:Operator}{ti:TIp}{pos':Pos}(hN:X.N.Nodup)(hi:X.N[i]?=some x)(hx:Loc X.env.scope x)(he:PE X e te)(ho:PIp X op ti)(hf:autoParam (X.fn x=true\/X.env.scope.names.lookup x=some .local) L2.dft0._auto_1) :
  PS X (.AugAssign (.Name x pos') op e pos) (tAug i te ti):=by
 intro pins s σ H D I h;(revert h;refine ow11 λv e1 h=>?_);(refine pw11 I.loc λm hn hl=>?_);have vis:Vis X.env.scope x:=by rcases hx with k | k;exact .inl k;exact .inr (.inl k)
 (refine pw11 (hl i x v hi e1 vis) λu r l=>?_);refine wpAny_AugAssign_Name ?_;have go:wpAny (model X.prog X.w) X.A (eval e X.env) (λw s₂=>wpAny (model X.prog X.w) X.A (inplaceOp op u w) (λr s₃=>wpAny (model X.prog X.w) X.A (storeName X.env x r) (λ_=>SP X pins D .next) X.xe s₃) X.xe s₂) X.xe s:=by
  refine thnE (he pins s σ H _ I h) λw s1 y H1 I1 r1 q1=>?_;refine thnE (ho pins s1 σ H1 v y u w _ I1 r r1 q1) λz s2 zv H2 I2 r2 q2=>?_;exact kC I2 hN hi hx r2 (λs3 I3=>(iw21 _ H2 I3 q2)) hf
 rcases l with⟨hk,hm⟩ | ⟨hk,c,hc,hcell⟩
 ·exact wpAny_loadName_local I.ok.kind hk hn hm go
 ·rcases hk with hk | hk
  ·exact wpAny_loadName_cell I.ok.kind hk hc hcell go
  ·rcases hx with k | k
   ·have:X.env.scope.names.lookup x=some .free:=hk
    rw[k] at this;cases this
   ·have:X.env.scope.names.lookup x=some .free:=hk
    rw[k] at this;cases this
end
section
variable {X:Cx} {pos:Pos}
noncomputable def tWhile (c:TT)(tb:TS):TS:=λD σ H=>∃W:Nat->St->Hp->Prop,(∃m,W m σ H)/\∀m σ H,W m σ H->
 c σ H λb H1=>if b=true then ∃N:St->Hp->Prop,(∀σ' H',N σ' H'->∃m',m' < m/\W m' σ' H')/\tb { D with nx:=N,ct:=N,bk:=D.nx } σ H1 else D.nx σ H1
theorem zY {c:Expr}{body:List Stmt}{tc:TT}{tb:TS}(hp:PassesOwn (model X.prog X.w) X.A X.env X.xe)(hc:PT X c tc)(hb:PSs X body tb):PS X (.While c body [] pos) (tWhile tc tb):=by
 intro pins s σ H D I h;(revert h;refine ow11 λW zz1 turn=>?_;obtain ⟨m0,w0⟩:=zz1);refine wpAny_While (codeAny_whileLoop (λn s'=>∃σ' H',Inv X pins σ' H' s'/\W n σ' H') ?_ m0 (iw21 σ H I w0))
 rintro n s1 ⟨σ1,H1,I1,w1⟩
 refine wpAny_passesOwn hp (thn (hc pins s1 σ1 H1 _ I1 (turn n σ1 H1 w1)) λb s2 zz=>pw11 zz λH2 I2 q2=>?_);cases b with
 | true=>
  (revert q2;refine ow11 λN hN q2=>?_);rw[if_pos rfl];refine wpAny_passesOwn hp (thn (hb pins s2 σ1 H2 _ I2 q2) λf s3 q3=>?_);cases f with
  | next=>
   (revert q3;refine ow21 λσ3 H3 I3 n3=>?_);(refine pw11 (hN σ3 H3 n3) λm' hm w3=>?_);exact(iw11 m' hm (iw21 σ3 H3 I3 w3))
  | cont=>
   (revert q3;refine ow21 λσ3 H3 I3 n3=>?_);(refine pw11 (hN σ3 H3 n3) λm' hm w3=>?_);exact(iw11 m' hm (iw21 σ3 H3 I3 w3))
  | brk=>exact q3
  | ret v=>exact q3
 | false=>
  rw[if_neg Bool.false_ne_true];exact wpAny_execs_nil (iw21 σ1 H2 I2 q2)
end
structure It where
 go:Nat->Hp->Prop
 yld:Nat->Hp->V->Hp->Prop
 stop:Nat->Hp->Prop
noncomputable def FpOk (X:Cx)(pins:List (Addr×Obj))(H:Hp)(b:Addr):Prop:=
 H b=none/\b≠X.env.locals/\b∉X.fs/\(b∈X.ex\/X.s₀.heap.objs.size<=b)/\(∀x c,X.env.cells.lookup x=some c->c≠b)/\∀p∈X.pn++pins,p.1≠b
theorem Inv.fpOk {X:Cx}{pins:List (Addr×Obj)}{σ:St}{H H':Hp}{s:Shared}{b:Addr}(I:Inv X pins σ H s)(hb:s.heap.objs.size<=b)(hn:H' b=none):FpOk X pins H' b:=by
 refine⟨hn,Nat.ne_of_gt (Nat.lt_of_lt_of_le I.lt hb),I.nofs hb,.inr (Nat.le_trans I.sz hb),λx c e z=>?_,λp hp z=>?_⟩
 ·obtain⟨v,q⟩:=I.cell x c e
  exact absurd (Nat.lt_of_lt_of_le q.lt (by rw[z];exact hb)) (Nat.lt_irrefl _)
 ·exact absurd (Nat.lt_of_lt_of_le (Heap.lt_size (I.pin p hp).1) (by rw[z];exact hb)) (Nat.lt_irrefl _)
structure Turn (P:Program)(w:World)(K:W.Frag)(tg:Expr)(J:It)(fp:List Addr)(it:Addr)(tn:Nat->Heap->Prop):Prop where
 mem:it∈fp
 obj:∀i h,tn i h->∀b∈fp,∃o,h.get? b=some o/\∀v,o.data≠.cell v
 keep:∀i h h',tn i h->(∀b∈fp,∀o,h.get? b=some o->h'.get? b=some o)->tn i h'
 item:∀(X:Cx),X.prog=P->X.w=w->X.K=K->X.calm=true->∀(i:Nat) (pins:List (Addr×Obj)) (s:Shared) (σ:St) (H:Hp) (E:Value->Shared->Prop),Inv X pins σ H s->(∀b∈fp,FpOk X pins H b)->tn i s.heap->J.go i H->
  wpAny (model P w) X.A (pyNext (.ref it)) (λr s1=>∃u,r=some u/\
   wpAny (model P w) X.A (letOwnedTupleGo tg (.ref it) u) (λ_ s2=>∃x H',Inv X pins σ H' s2/\RelV x u/\J.yld i H x H'/\tn (i+1) s2.heap/\∀b∈fp,H' b=none) E s1) E s
 done:∀(X:Cx),X.prog=P->X.w=w->X.K=K->X.calm=true->∀(i:Nat) (pins:List (Addr×Obj)) (s:Shared) (σ:St) (H:Hp) (E:Value->Shared->Prop),Inv X pins σ H s->(∀b∈fp,FpOk X pins H b)->tn i s.heap->J.stop i H->
  wpAny (model P w) X.A (pyNext (.ref it)) (λr s1=>r=none/\Inv X pins σ H s1) E s
 self:∀(A:Around) (i:Nat) (s:Shared) (Q:Value->Shared->Prop) (E:Value->Shared->Prop),tn i s.heap->Q (.ref it) s->wpAny (model P w) A (pyIter (.ref it)) Q E s
noncomputable abbrev TI:=St->Hp->(It->Hp->Prop)->Prop
noncomputable def PIE (X:Cx)(pins:List (Addr×Obj))(σ:St)(tg:Expr)(R:It->Hp->Prop)(itv:Value)(s2:Shared):Prop:=
 ∃(it:Addr) (fp:List Addr) (tn:Nat->Heap->Prop) (J:It) (H':Hp),itv=.ref it/\Inv X pins σ H' s2/\Turn X.prog X.w X.K tg J fp it tn/\tn 0 s2.heap/\(∀b∈fp,FpOk X pins H' b)/\R J H'
noncomputable def PI (X:Cx)(tg iter:Expr)(wi:TI):Prop:=
 ∀(pins:List (Addr×Obj)) (s:Shared) (σ:St) (H:Hp) (R:It->Hp->Prop),Inv X pins σ H s->wi σ H R->
  wpAny (model X.prog X.w) X.A (eval iter X.env) (λv s1=>wpAny (model X.prog X.w) X.A (pyIter v) (PIE X pins σ tg R) X.xe s1) X.xe s
theorem wZ {M:Model}{A:Around}{E:Value->Shared->Prop}{s:Shared}{tg:Expr}{it:Addr}{u:Value}{o:Obj}{n:String}{vs:Array Value}{Q:Unit->Shared->Prop}(ho:s.heap.get? it=some o)(hc:o.cls=.type n)(hd:o.data=.fields vs)
  (hn:["enumerate","zip","dict_itemiterator","dict_reverseitemiterator","odict_iterator","itertools.zip_longest","itertools.pairwise"].contains n=false) (hQ:Q () s):wpAny M A (letOwnedTupleGo tg (.ref it) u) Q E s:=by
 unfold letOwnedTupleGo;cases tg<;>first
  | exact wpAny_pure hQ
  | (cases u<;>first
    | exact wpAny_pure hQ
    | (refine wpAny_bind (wpAny_load ho ?_)
       rw[hc,hd];show wpAny M A (if (["enumerate","zip","dict_itemiterator","dict_reverseitemiterator","odict_iterator","itertools.zip_longest","itertools.pairwise"].contains n && vs[0]? == some (rawInt _))=true then _ else _) Q E s;rw[if_neg (by intro h;rw[hn,Bool.false_and] at h;cases h)]
       exact wpAny_pure hQ))
noncomputable def Itl (K:W.Frag)(a:Addr):It:=
 ⟨λi H=>∃xs x,SqL K H a xs/\xs[i]?=some x,λi H x H'=>H'=H/\∀xs,SqL K H a xs->xs[i]?=some x,λi H=>∃xs,SqL K H a xs/\xs.length<=i⟩
noncomputable def Itt (K:W.Frag)(a:Addr):It:=
 ⟨λi H=>∃xs x,SqT K H a xs/\xs[i]?=some x,λi H x H'=>H'=H/\∀xs,SqT K H a xs->xs[i]?=some x,λi H=>∃xs,SqT K H a xs/\xs.length<=i⟩
noncomputable def Itr (lo:Int)(n:Nat):It:=⟨λi _=>i < n,λi H x H'=>H'=H/\x=.int (lo+i),λi _=>n<=i⟩
theorem xO {P:Program}{w:World}{K:W.Frag}{tg:Expr}(a it:Addr):Turn P w K tg (Itl K a) [it] it (λi h=>h.IsListIter it a i) where
 mem:=by simp
 obj:=λi h st b hb=>by
  have e:b=it:=by simpa using hb
  subst e;(revert st;refine ow12 λo e c d=>?_);exact(iw11 o e (λv z=>by rw[d] at z;cases z))
 keep:=λi h h' st k=>st.at λo e=>k it (by simp) o e
 item:=by
  intro X hP hw hK hc i pins s σ H E I hf st hg;subst hP hw hK;(revert hg;refine ow21 λxs x hq hx=>?_);(refine pw12 (I.list hq) λits rv p hz=>?_);(refine pw11 (rv.get hx) λu hu ru=>?_);(refine pw05 (hf it (by simp)) λf0 f1 f2 f3 f4 f5=>?_);refine wpAny_pyNext_list_item st p.isList (x:=u) (by simpa using hu) λh' st' sb=>?_;have I1:Inv X pins σ H { s with heap:=h' }:=I.turned (t':=s.toks) (λb o hb e=>(sb.2 b hb).trans e) f0 f1 f3 f4 f5;(refine pw12 (id st') λo e c d=>?_);exact(iw11 u rfl (wZ (s:={ s with heap:=h' }) e c d (by decide) (iw24 x H I1 ru ⟨rfl,λys hy=>by rw[I.gv hy hq];exact hx⟩ st' (λb hb=>(hf b hb).1))))
 done:=by
  intro X hP hw hK hc i pins s σ H E I hf st hg;subst hP hw hK;(revert hg;refine ow11 λxs hq hx=>?_);(refine pw12 (I.list hq) λits rv p hz=>?_);(refine pw05 (hf it (by simp)) λf0 f1 f2 f3 f4 f5=>?_);have hl:=rv.length;exact wpAny_pyNext_list_end (I.ok.hd hc) st p.isList (by simp;omega) λh' eb=>⟨rfl,I.turned (t':=s.toks) (λb o hb e=>eb b o hb e) f0 f1 f3 f4 f5⟩
 self:=λ_ _ _ _ _ st h=>wpAny_pyIter_listiter st h
theorem u5 {P:Program}{w:World}{K:W.Frag}{tg:Expr}(a it:Addr):Turn P w K tg (Itt K a) [it] it (λi h=>h.IsTupleIter it a i) where
 mem:=by simp
 obj:=λi h st b hb=>by
  have e:b=it:=by simpa using hb
  subst e;(revert st;refine ow12 λo e c d=>?_);exact(iw11 o e (λv z=>by rw[d] at z;cases z))
 keep:=λi h h' st k=>st.at λo e=>k it (by simp) o e
 item:=by
  intro X hP hw hK hc i pins s σ H E I hf st hg;subst hP hw hK;(revert hg;refine ow21 λxs x hq hx=>?_);(refine pw12 (I.tuple hq) λits rv p hz=>?_);(refine pw11 (rv.get hx) λu hu ru=>?_);(refine pw05 (hf it (by simp)) λf0 f1 f2 f3 f4 f5=>?_);refine wpAny_pyNext_tuple_item st (show s.heap.IsTuple a its.toArray from p) (x:=u) (by simpa using hu) λh' st' sb=>?_;have I1:Inv X pins σ H { s with heap:=h' }:=I.turned (t':=s.toks) (λb o hb e=>(sb.2 b hb).trans e) f0 f1 f3 f4 f5;(refine pw12 (id st') λo e c d=>?_);exact(iw11 u rfl (wZ (s:={ s with heap:=h' }) e c d (by decide) (iw24 x H I1 ru ⟨rfl,λys hy=>by rw[I.qp hy hq];exact hx⟩ st' (λb hb=>(hf b hb).1))))
 done:=by
  intro X hP hw hK hc i pins s σ H E I hf st hg;subst hP hw hK;(revert hg;refine ow11 λxs hq hx=>?_);(refine pw12 (I.tuple hq) λits rv p hz=>?_);(refine pw05 (hf it (by simp)) λf0 f1 f2 f3 f4 f5=>?_);have hl:=rv.length;exact wpAny_pyNext_tuple_end (I.ok.hd hc) st (show s.heap.IsTuple a its.toArray from p) (by simp;omega) λh' eb=>⟨rfl,I.turned (t':=s.toks) (λb o hb e=>eb b o hb e) f0 f1 f3 f4 f5⟩
 self:=λ_ _ _ _ _ st h=>wpAny_pyIter_tupleiter st h
theorem u6 {P:Program}{w:World}{K:W.Frag}{tg:Expr}(it:Addr)(lo:Int)(n:Nat):Turn P w K tg (Itr lo n) [it] it (λi h=>IsRangeIter h it (lo+(i:Nat) * 1) ((n:Int) - (i:Nat)) 1) where
 mem:=by simp
 obj:=λi h st b hb=>by
  have e:b=it:=by simpa using hb
  subst e
  exact(iw11 _ st (λv z=>by
   have z':Data.fields _=Data.cell v:=z
   cases z'))
 keep:=λi h h' st k=>k it (by simp) _ st
 item:=by
  intro X hP hw hK hc i pins s σ H E I hf st hg;subst hP hw hK;(refine pw05 (hf it (by simp)) λf0 f1 f2 f3 f4 f5=>?_);have W:=Walks.range (prog:=X.prog) (w:=X.w) (I.ok.hd hc) it lo 1 n;refine W.item i s _ _ hg st λv h' tk hv st' kk=>?_;obtain⟨t,rfl⟩:=hv;have I1:Inv X pins σ H { s with heap:=h',toks:=tk }:=I.turned (λb o hb e=>kk b o (by simpa using hb) e) f0 f1 f3 f4 f5;refine(iw11 _ rfl (wZ (s:={ s with heap:=h',toks:=tk }) (n:="range_iterator") st' rfl rfl (by decide) (iw24 (.int (lo+i)) H I1 ⟨t,?_⟩ ⟨rfl,rfl⟩ st' (λb hb=>(hf b hb).1))));rw[Int.mul_one]
 done:=by
  intro X hP hw hK hc i pins s σ H E I hf st hg;subst hP hw hK;(refine pw05 (hf it (by simp)) λf0 f1 f2 f3 f4 f5=>?_);exact wpAny_pyNext_range_end (I.ok.hd hc) st (by have:n<=i:=hg;omega) λh' eb=>⟨rfl,I.turned (t':=s.toks) (λb o hb e=>eb b o hb e) f0 f1 f3 f4 f5⟩
 self:=λ_ _ _ _ _ st h=>wpAny_pyIter_rangeiter st h
section
variable {X:Cx} {tg:Expr}
theorem tj {pins:List (Addr×Obj)}{σ:St}{H:Hp}{s:Shared}{R:It->Hp->Prop}{E:Value->Shared->Prop}{lo hi:Int}{t u v:Tok}{tk:Nat}(I:Inv X pins σ H s)(h1:-(2 ^ 62)<=lo)(h2:lo < 2 ^ 62)(h3:-(2 ^ 62)<=hi)(h4:hi < 2 ^ 62)
  (q:R (Itr lo (hi - lo).toNat) H):wpAny (model X.prog X.w) X.A (pyIter (.ref s.heap.objs.size)) (PIE X pins σ tg R) E { s with heap:=s.heap.push { cls:=.type "range",data:=.fields #[.int lo t,.int hi u,.int 1 v] },toks:=tk }:=by
 refine wpAny_pyIter_range (IsRange.new ..) (small_one h1 h2 h3 h4) ?_;have I1:Inv X pins σ H { s with heap:=s.heap.push { cls:=.type "range",data:=.fields #[.int lo t,.int hi u,.int 1 v] },toks:=tk }:=I.kept λb o e=>Heap.get?_push_of_some _ e
 refine(iw55 ((s.heap.push { cls:=.type "range",data:=.fields #[.int lo t,.int hi u,.int 1 v] }).objs.size) ([(s.heap.push { cls:=.type "range",data:=.fields #[.int lo t,.int hi u,.int 1 v] }).objs.size]) _ _ H rfl 
  (I1.kept (t':=tk) λb o e=>Heap.get?_push_of_some _ e) (u6 _ lo (hi - lo).toNat) ?_ (λb hb=>?_) q)
 ·have e1:lo+((0:Nat):Int) * 1=lo:=by simp
  have e2:(((hi - lo).toNat:Nat):Int) - ((0:Nat):Int)=Builtin.Range.rangeSize lo hi 1:=by rw[rangeSize_one];split<;>omega
  show IsRangeIter _ _ (lo+((0:Nat):Int) * 1) ((((hi - lo).toNat:Nat):Int) - ((0:Nat):Int)) 1;rw[e1,e2];exact Heap.get?_push_size _ rfl
 ·have e:b=(s.heap.push { cls:=.type "range",data:=.fields #[.int lo t,.int hi u,.int 1 v] }).objs.size:=by simpa using hb
  subst e;exact I1.fpOk (Nat.le_refl _) (I1.hok.fresh (Nat.le_refl _))
noncomputable def iRng1 (ta:TA):TI:=λσ H R=>ta σ H λvs H1=>∃j:Int,vs=[.int j]/\-(2 ^ 62)<=j/\j < 2 ^ 62/\R (Itr 0 j.toNat) H1
noncomputable def iRng2 (ta:TA):TI:=λσ H R=>ta σ H λvs H1=>∃i j:Int,vs=[.int i,.int j]/\(-(2 ^ 62)<=i/\i < 2 ^ 62/\-(2 ^ 62)<=j/\j < 2 ^ 62)/\R (Itr i (j - i).toNat) H1
theorem gw {a:Expr}{ta:TA}{p pos:Pos}(hg:Gl X "range")(hm:X.mg "range"=none)(ha:PA X [a] ta)(hs:autoParam (starEach [a] X.env=[(false,eval a X.env)]) L2.dft3._auto_1):PI X tg (.Call (.Name "range" p) [a] [] pos) (iRng1 ta):=by
 intro pins s σ H R I h;refine Call_ (dP I hg hm boot_range (PyProof.Rows.callWith_type1 (thnA (ha pos pins s σ H _ I h) λus s1 vs H1 I1 r1 q1=>?_) hs rfl));(revert q1;refine ow13 λj e q1 q2 q=>?_);subst e;cases r1 with
 | cons r rr=>
  cases rr;obtain⟨t,rfl⟩:=r;exact call_range_1 (tj I1 (by omega) (by omega) q1 q2 (by simpa using q))
theorem xP {a b:Expr}{ta:TA}{p pos:Pos}(hg:Gl X "range")(hm:X.mg "range"=none)(ha:PA X [a,b] ta)(hs:autoParam (starEach [a,b] X.env=[(false,eval a X.env),(false,eval b X.env)]) L2.dft3._auto_1)(hs2:autoParam (starEach [b] X.env=[(false,eval b X.env)]) L2.dft3._auto_1) :
  PI X tg (.Call (.Name "range" p) [a,b] [] pos) (iRng2 ta):=by
 intro pins s σ H R I h;refine Call_ (dP I hg hm boot_range (PyProof.Rows.callWith_type1 (thnA (ha pos pins s σ H _ I h) λus s1 vs H1 I1 r1 q1=>?_) (by rw[hs,hs2]) (by rw[hs2];rfl)));(revert q1;refine ow22 λi j e zz1 q=>?_;obtain ⟨q1,q2,q3,q4⟩:=zz1);subst e;cases r1 with
 | cons r rr=>
  cases rr with
  | cons r' rr=>
   cases rr;obtain⟨t,rfl⟩:=r;obtain⟨t',rfl⟩:=r';exact call_range_2 (tj I1 q1 q2 q3 q4 q)
noncomputable def tFor (wi:TI)(g:TG)(tb:TS):TS:=λD σ H=>wi σ H λJ H1=>∃W:Nat->Nat->St->Hp->Prop,(∃m,W 0 m σ H1)/\∀i m σ H,W i m σ H->
 (J.stop i H/\D.nx σ H)\/(J.go i H/\∃N:St->Hp->Prop,(∀σ' H',N σ' H'->∃m',m' < m/\W (i+1) m' σ' H')/\∀x H',J.yld i H x H'->g x σ H' λσ2 H2=>tb { D with nx:=N,ct:=N,bk:=D.nx } σ2 H2)
noncomputable def pinsAt (fp:List Addr)(h:Heap):List (Addr×Obj):=fp.filterMap λb=>(h.get? b).map λo=>(b,o)
theorem gM {fp:List Addr}{h:Heap}{b:Addr}{o:Obj}(hb:b∈fp)(e:h.get? b=some o):(b,o)∈pinsAt fp h:=List.mem_filterMap.mpr (iw11 b hb (by rw[e];rfl))
theorem xQ {fp:List Addr}{h:Heap}{p:Addr×Obj}(hp:p∈pinsAt fp h):p.1∈fp/\h.get? p.1=some p.2:=by
 (refine pw11 (List.mem_filterMap.mp hp) λb hb e=>?_);cases q:h.get? b with
 | none=>rw[q] at e;cases e
 | some o=>
  rw[q] at e;have e':(b,o)=p:=Option.some.inj e;subst e';exact⟨hb,q⟩
theorem Inv.pinned {pins:List (Addr×Obj)}{σ:St}{H:Hp}{s:Shared}{fp:List Addr}(I:Inv X pins σ H s)(hf:∀b∈fp,FpOk X pins H b)(ho:∀b∈fp,∃o,s.heap.get? b=some o/\∀v,o.data≠.cell v):Inv X (pins++pinsAt fp s.heap) σ H s:=
 I.wX λp hp=>(List.mem_append.mp hp).elim (λz=>I.pin p (List.mem_append_right _ z)) λz=>by
  obtain⟨hb,e⟩:=xQ z;(refine pw02 (hf p.1 hb) λf0 f1=>ow01 λf2 _=>?_);(refine pw11 (ho p.1 hb) λo e' d=>?_);rw[e] at e';cases e';exact⟨e,f0,f1,f2,d⟩
theorem Inv.unpinned {pins pl:List (Addr×Obj)}{σ:St}{H:Hp}{s:Shared}(I:Inv X (pins++pl) σ H s):Inv X pins σ H s:=I.wX λp hp=>I.pin p (List.mem_append_right _ (List.mem_append_left _ hp))
theorem dn {iter:Expr}{body:List Stmt}{wi:TI}{g:TG}{tb:TS}{pos:Pos}(hp:PassesOwn (model X.prog X.w) X.A X.env X.xe)(hc:X.calm=true)(hi:PI X tg iter wi)(hg:PG X tg g)(hb:PSs X body tb)
  (hs:autoParam (∀x,foldedSetIterable iter X.env x=pure x) L2.dft4._auto_1):PS X (.For tg iter body [] pos) (tFor wi g tb):=by
 intro pins s σ H D I h;refine wpAny_For (thn (hi pins s σ H _ I h) λv s1 h1=>thn h1 λitv s2 h2=>?_) hs;(revert h2;refine ow30 λit fp tn=>ow24 λJ H2 e I2 T st2=>ow01 λf2=>ow11 λW zz1 turn=>?_;obtain ⟨m0,w0⟩:=zz1);subst e;have stat:∀{H':Hp},(∀b∈fp,H' b=none)->∀b∈fp,FpOk X pins H' b:=λhn b hb=>⟨hn b hb,(f2 b hb).2⟩
 refine codeAny_forLoop_any (λn s'=>∃i σ' H',Inv X pins σ' H' s'/\tn i s'.heap/\(∀b∈fp,H' b=none)/\W i n σ' H') ?_ m0 (iw33 0 σ H2 I2 st2 (λb hb=>(f2 b hb).1) w0)
 rintro n s3 ⟨i,σ3,H3,I3,st3,fr3,w3⟩
 rcases turn i n σ3 H3 w3 with⟨stop,qn⟩ | ⟨go,N,hN,step⟩
 ·refine wpAny_passesOwn hp (thn (T.done X rfl rfl rfl hc i pins s3 σ3 H3 X.xe I3 (stat fr3) st3 stop) λr s4 zz=>pw01 zz λhr I4=>?_)
  subst hr;exact wpAny_execs_nil (iw21 σ3 H3 I4 qn)
 ·refine wpAny_passesOwn hp (thn (T.item X rfl rfl rfl hc i pins s3 σ3 H3 X.xe I3 (stat fr3) st3 go) λr s4 zz=>pw11 zz λu hr h4=>?_)
  subst hr;refine wpAny_passesOwn hp (thn h4 λ_ s5 zz=>pw24 zz λx H5 I5 r5 y5 st5 fr5=>?_);have I5':=I5.pinned (stat fr5) (T.obj _ _ st5);refine wpAny_passesOwn hp (thn (hg _ s5 σ3 H5 x u _ I5' r5 (step x H5 y5)) λ_ s6 zz=>pw21 zz λσ6 H6 I6 q6=>?_);refine wpAny_passesOwn hp (thn (hb _ s6 σ6 H6 _ I6 q6) λf s7 q7=>?_);have again:∀{σ7:St} {H7:Hp},Inv X (pins++pinsAt fp s5.heap) σ7 H7 s7->N σ7 H7->∃m,m < n/\∃i σ' H',Inv X pins σ' H' s7/\tn i s7.heap/\(∀b∈fp,H' b=none)/\W i m σ' H':=λ{σ7 H7} I7 n7=>by
   (refine pw11 (hN σ7 H7 n7) λm' hm w7=>?_);refine(iw11 m' hm (iw33 (i+1) σ7 H7 I7.unpinned (T.keep _ _ _ st5 λb hb o e=>(I7.pin (b,o) (List.mem_append_right _ (List.mem_append_right _ (gM hb e)))).1) (λb hb=>?_) w7));(refine pw11 (T.obj _ _ st5 b hb) λo e d=>?_);exact(I7.pin (b,o) (List.mem_append_right _ (List.mem_append_right _ (gM hb e)))).2.1
  cases f with
  | next=>(revert q7;refine ow21 λσ7 H7 I7 n7=>?_);exact again I7 n7
  | cont=>(revert q7;refine ow21 λσ7 H7 I7 n7=>?_);exact again I7 n7
  | brk=>(revert q7;refine ow21 λσ7 H7 I7 q7=>?_);exact(iw21 σ7 H7 I7.unpinned q7)
  | ret v=>(revert q7;refine ow32 λx7 σ7 H7 I7 r7 q7=>?_);exact(iw32 x7 σ7 H7 I7.unpinned r7 q7)
end
theorem zZ {K:W.Frag}{a:Addr}{xs:List V}{g:TG}{tb:TS}{D:Ends}{σ:St}{H:Hp}(Pv:Nat->St->Hp->Prop)(h0:Pv 0 σ H)(hl:∀i σ H,i<=xs.length->Pv i σ H->SqL K H a xs)
  (hs:∀i x σ H,xs[i]?=some x->Pv i σ H->g x σ H λσ2 H2=>tb { D with nx:=Pv (i+1),ct:=Pv (i+1),bk:=D.nx } σ2 H2) (hd:∀σ H,Pv xs.length σ H->D.nx σ H) :
  ∃W:Nat->Nat->St->Hp->Prop,(∃m,W 0 m σ H)/\∀i m σ H,W i m σ H->
   ((Itl K a).stop i H/\D.nx σ H)\/((Itl K a).go i H/\∃N:St->Hp->Prop,(∀σ' H',N σ' H'->∃m',m' < m/\W (i+1) m' σ' H')/\∀x H',(Itl K a).yld i H x H'->g x σ H' λσ2 H2=>tb { D with nx:=N,ct:=N,bk:=D.nx } σ2 H2):=by
 refine(iw11 (λi m σ H=>m=xs.length - i/\i<=xs.length/\Pv i σ H) (iw12 xs.length (by simp) (Nat.zero_le _) h0) ?_)
 rintro i m σ H ⟨rfl,hi,p⟩
 have q:=hl i σ H hi p
 by_cases hlt:i < xs.length
 ·refine .inr ⟨(iw21 xs (xs[i]) q (by simp[hlt])),(iw11 (Pv (i+1)) (λσ' H' p'=>(iw13 (xs.length - (i+1)) (by omega) rfl hlt p')) (λx H' y=>?_))⟩
  obtain⟨e,y⟩:=y;subst e;exact hs i x σ _ (y xs q) p
 ·have e:i=xs.length:=by omega
  subst e;exact .inl ⟨(iw11 xs q (Nat.le_refl _)),hd σ H p⟩
theorem xR {lo:Int}{n:Nat}{g:TG}{tb:TS}{D:Ends}{σ:St}{H:Hp}(Pv:Nat->St->Hp->Prop)(h0:Pv 0 σ H)
  (hs:∀i σ H,i < n->Pv i σ H->g (.int (lo+i)) σ H λσ2 H2=>tb { D with nx:=Pv (i+1),ct:=Pv (i+1),bk:=D.nx } σ2 H2) (hd:∀σ H,Pv n σ H->D.nx σ H) :
  ∃W:Nat->Nat->St->Hp->Prop,(∃m,W 0 m σ H)/\∀i m σ H,W i m σ H->
   ((Itr lo n).stop i H/\D.nx σ H)\/((Itr lo n).go i H/\∃N:St->Hp->Prop,(∀σ' H',N σ' H'->∃m',m' < m/\W (i+1) m' σ' H')/\∀x H',(Itr lo n).yld i H x H'->g x σ H' λσ2 H2=>tb { D with nx:=N,ct:=N,bk:=D.nx } σ2 H2):=by
 refine(iw11 (λi m σ H=>m=n - i/\i<=n/\Pv i σ H) (iw12 n (by simp) (Nat.zero_le _) h0) ?_)
 rintro i m σ H ⟨rfl,hi,p⟩
 by_cases hlt:i < n
 ·refine .inr ⟨hlt,(iw11 (Pv (i+1)) (λσ' H' p'=>(iw13 (n - (i+1)) (by omega) rfl hlt p')) (λx H' y=>?_))⟩
  obtain⟨e,y⟩:=y;subst e y;exact hs i σ _ hlt p
 ·have e:i=n:=by omega
  subst e;exact .inl ⟨Nat.le_refl _,hd σ H p⟩
noncomputable abbrev R2:=V->V->Hp->VK->Prop
noncomputable def OpR (X:Cx)(f:Value->Value->Sem Value)(r:R2):Prop:=
 ∀(pins:List (Addr×Obj)) (s:Shared) (σ:St) (H:Hp) (x y:V) (v u:Value) (Q:VK),Inv X pins σ H s->RelV x v->RelV y u->r x y H Q->
  wpAny (model X.prog X.w) X.A (f v u) (EP X pins σ Q) X.xe s
noncomputable def UnR (X:Cx)(f:Value->Sem Value)(r:V->Hp->VK->Prop):Prop:=
 ∀(pins:List (Addr×Obj)) (s:Shared) (σ:St) (H:Hp) (x:V) (v:Value) (Q:VK),Inv X pins σ H s->RelV x v->r x H Q->
  wpAny (model X.prog X.w) X.A (f v) (EP X pins σ Q) X.xe s
noncomputable def CallR (X:Cx)(f:Value)(r:List V->Hp->VK->Prop):Prop:=
 ∀(pins:List (Addr×Obj)) (s:Shared) (σ:St) (H:Hp) (xs:List V) (us:List Value) (Q:VK),Inv X pins σ H s->Vals xs us->r xs H Q->
  wpAny (model X.prog X.w) X.A (call f us) (EP X pins σ Q) X.xe s
noncomputable def TruR (X:Cx)(r:V->Hp->(Bool->Hp->Prop)->Prop):Prop:=
 ∀(pins:List (Addr×Obj)) (s:Shared) (σ:St) (H:Hp) (x:V) (v:Value) (Q:Bool->Hp->Prop),Inv X pins σ H s->RelV x v->r x H Q->
  wpAny (model X.prog X.w) X.A (truthy v) (TP X pins σ Q) X.xe s
noncomputable def tOp (r:R2)(ta tb:TE):TE:=λσ H Q=>ta σ H λx H1=>tb σ H1 λy H2=>r x y H2 Q
noncomputable def tUn (r:V->Hp->VK->Prop)(ta:TE):TE:=λσ H Q=>ta σ H λx H1=>r x H1 Q
noncomputable def rI (C:Int->Int->Prop)(g:Int->Int->V):R2:=λx y H Q=>∃i j,x=.int i/\y=.int j/\C i j/\Q (g i j) H
noncomputable def rI0 (g:Int->Int->V):R2:=λx y H Q=>∃i j,x=.int i/\y=.int j/\Q (g i j) H
noncomputable def rU (g:Int->V):V->Hp->VK->Prop:=λx H Q=>∃i,x=.int i/\Q (g i) H
section
variable {X:Cx} {a b c:Expr} {ta tb tc:TE} {pos:Pos}
theorem binT (ha:PE X a ta)(hb:PE X b tb){pins:List (Addr×Obj)}{s:Shared}{σ:St}{H:Hp}{R:V->V->Hp->Prop}(I:Inv X pins σ H s)
  (h:ta σ H λx H1=>tb σ H1 λy H2=>R x y H2) {Q:Value->Shared->Prop} {f:Value->Value->Sem Value}
  (hf:∀v u s2 x y H2,Inv X pins σ H2 s2->RelV x v->RelV y u->R x y H2->wpAny (model X.prog X.w) X.A (f v u) Q X.xe s2) :
  wpAny (model X.prog X.w) X.A (eval a X.env) (λv s₁=>wpAny (model X.prog X.w) X.A (eval b X.env) (λu s₂=>wpAny (model X.prog X.w) X.A (f v u) Q X.xe s₂) X.xe s₁) X.xe s:=by
 refine thnE (ha pins s σ H _ I h) λv s1 x H1 I1 r1 q1=>?_;refine thnE (hb pins s1 σ H1 _ I1 q1) λu s2 y H2 I2 r2 q2=>?_;exact hf v u s2 x y H2 I2 r1 r2 q2
theorem aD {op:Operator}{r:R2}(ho:OpR X (binaryOp op) r)(ha:PE X a ta)(hb:PE X b tb):PE X (.BinOp a op b pos) (tOp r ta tb):=by
 intro pins s σ H Q I h;exact wpAny_BinOp (binT ha hb I h λv u s2 x y H2 I2 rx ry q=>ho pins s2 σ H2 x y v u Q I2 rx ry q)
theorem CU {op:UnaryOp}{r:V->Hp->VK->Prop}(ho:UnR X (unaryOp op) r)(ha:PE X a ta):PE X (.UnaryOp op a pos) (tUn r ta):=by
 intro pins s σ H Q I h;exact UnaryOp_ (thnE (ha pins s σ H _ I h) λv s1 x H1 I1 r1 q1=>ho pins s1 σ H1 x v Q I1 r1 q1)
theorem opI {f:Value->Value->Sem Value}{C:Int->Int->Prop}{g:Int->Int->Int}
  (rule:∀(i j:Int) (t u:Tok) (s:Shared) (Q:Value->Shared->Prop) (E:Value->Shared->Prop),C i j->Q (.int (g i j) s.toks) { s with toks:=s.toks+1 }->wpAny (model X.prog X.w) X.A (f (.int i t) (.int j u)) Q E s) :
  OpR X f (rI C λi j=>.int (g i j)):=by
 intro pins s σ H x y v u Q I rx ry h;(revert h;refine ow23 λi j zz1 zz2 hc q=>?_;subst zz1;subst zz2);obtain⟨t,rfl⟩:=rx;obtain⟨t',rfl⟩:=ry;exact rule i j t t' s _ _ hc (iw22 (.int (g i j)) H (I.tok _) ⟨_,rfl⟩ q)
theorem opI0 {f:Value->Value->Sem Value}{g:Int->Int->Int}
  (rule:∀(i j:Int) (t u:Tok) (s:Shared) (Q:Value->Shared->Prop) (E:Value->Shared->Prop),Q (.int (g i j) s.toks) { s with toks:=s.toks+1 }->wpAny (model X.prog X.w) X.A (f (.int i t) (.int j u)) Q E s) :
  OpR X f (rI0 λi j=>.int (g i j)):=by
 intro pins s σ H x y v u Q I rx ry h;(revert h;refine ow22 λi j zz1 zz2 q=>?_;subst zz1;subst zz2);obtain⟨t,rfl⟩:=rx;obtain⟨t',rfl⟩:=ry;exact rule i j t t' s _ _ (iw22 (.int (g i j)) H (I.tok _) ⟨_,rfl⟩ q)
theorem opB0 {f:Value->Value->Sem Value}{g:Int->Int->Bool}
  (rule:∀(i j:Int) (t u:Tok) (s:Shared) (Q:Value->Shared->Prop) (E:Value->Shared->Prop),Q (.bool (g i j)) s->wpAny (model X.prog X.w) X.A (f (.int i t) (.int j u)) Q E s) :
  OpR X f (rI0 λi j=>.bl (g i j)):=by
 intro pins s σ H x y v u Q I rx ry h;(revert h;refine ow22 λi j zz1 zz2 q=>?_;subst zz1;subst zz2);obtain⟨t,rfl⟩:=rx;obtain⟨t',rfl⟩:=ry;exact rule i j t t' s _ _ (iw22 (.bl (g i j)) H I rfl q)
noncomputable def CDiv (i j:Int):Prop:=0 < j/\j < 1073741824
noncomputable def CPow (i j:Int):Prop:=0<=j/\j<=1000000/\i.natAbs < 2 ^ 64
noncomputable def CMul (i j:Int):Prop:=(-(2 ^ 64) < i/\i < 2 ^ 64)\/(-(2 ^ 64) < j/\j < 2 ^ 64)
theorem CMul.ok {i j:Int}(h:CMul i j):IntMulOk i j:=by
 rcases h with⟨h1,h2⟩ | ⟨h1,h2⟩
 ·exact .of_left (intBits_le_64 h1 h2)
 ·exact .of_right (intBits_le_64 h1 h2)
theorem u7 (k:Nat):(0:Int)<=2 ^ k:=by
 rw[two_pow_cast];exact Int.natCast_nonneg _
theorem DA:OpR X (binaryOp .Add) (rI0 λi j=>.int (i+j)):=opI0 λ_ _ _ _ _ _ _ q=>add_int q
theorem iB:OpR X (binaryOp .Sub) (rI0 λi j=>.int (i - j)):=opI0 λ_ _ _ _ _ _ _ q=>sub_int q
theorem DB:OpR X (binaryOp .Mult) (rI CMul λi j=>.int (i * j)):=opI λ_ _ _ _ _ _ _ hc q=>mul_int q hc.ok
theorem bI:OpR X (binaryOp .Mod) (rI (λ_ j=>0 < j) λi j=>.int (i % j)):=opI λi j _ _ _ _ _ hc q=>by
 have h1:(0:Int) < j:=hc;exact mod_int' (by omega) (by rw[Int.fmod_eq_emod_of_nonneg i (by omega)];exact q)
theorem DC:OpR X (binaryOp .LShift) (rI CPow λi j=>.int (i * 2 ^ j.toNat)):=opI λ_ _ _ _ _ _ _ hc q=>lshift_int_small hc.1 hc.2.1 hc.2.2 q
theorem z9:OpR X (binaryOp .RShift) (rI (λ_ j=>0<=j) λi j=>.int (i / 2 ^ j.toNat)):=opI λi j _ _ _ _ _ hc q=>
 rshift_int hc (by rw[Int.fdiv_eq_ediv_of_nonneg i (u7 _)];exact q)
theorem Aa:OpR X (binaryOp .BitAnd) (rI0 λi j=>.int (Builtin.bitAnd i j)):=opI0 λ_ _ _ _ _ _ _ q=>and_int q
theorem EH:OpR X (binaryOp .BitOr) (rI0 λi j=>.int (Builtin.bitOr i j)):=opI0 λ_ _ _ _ _ _ _ q=>or_int q
theorem Ab:OpR X (binaryOp .BitXor) (rI0 λi j=>.int (Builtin.bitXor i j)):=opI0 λ_ _ _ _ _ _ _ q=>xor_int q
theorem BD:OpR X (inplaceOp .Add) (rI0 λi j=>.int (i+j)):=opI0 λ_ _ _ _ _ _ _ q=>iadd_int q
theorem unI {f:Value->Sem Value}{g:Int->Int}
  (rule:∀(i:Int) (t:Tok) (s:Shared) (Q:Value->Shared->Prop) (E:Value->Shared->Prop),Q (.int (g i) s.toks) { s with toks:=s.toks+1 }->wpAny (model X.prog X.w) X.A (f (.int i t)) Q E s) :
  UnR X f (rU λi=>.int (g i)):=by
 intro pins s σ H x v Q I rx h;(revert h;refine ow11 λi zz1 q=>?_;subst zz1);obtain⟨t,rfl⟩:=rx;exact rule i t s _ _ (iw22 (.int (g i)) H (I.tok _) ⟨_,rfl⟩ q)
theorem Ac:UnR X (unaryOp .USub) (rU λi=>.int (-i)):=unI λ_ _ _ _ _ q=>neg_int q
end
noncomputable def scal:V->V->Bool
 | .non,.non=>true | .non,.int _=>true | .int _,.non=>true | .non,.bl _=>true | .bl _,.non=>true | .non,.str _=>true | .str _,.non=>true
 | .int _,.int _=>true | .bl _,.bl _=>true | .str _,.str _=>true | .byt _,.byt _=>true
 | .int _,.str _=>true | .str _,.int _=>true | .bl _,.str _=>true | .str _,.bl _=>true
 | _,_=>false
noncomputable def rEq:R2:=λx y H Q=>scal x y=true/\Q (.bl (decide (x=y))) H
noncomputable def rNe:R2:=λx y H Q=>scal x y=true/\Q (.bl (!decide (x=y))) H
theorem w6 {i j:Int}:decide (V.int i=V.int j)=(i == j):=by
 rw[Bool.eq_iff_iff];simp
theorem Ad {i j:Bool}:decide (V.bl i=V.bl j)=(i == j):=by
 rw[Bool.eq_iff_iff];simp
theorem w8 {i j:Str}:decide (V.str i=V.str j)=(i == j):=by
 rw[Bool.eq_iff_iff];simp
theorem w9 {i j:Array UInt8}:decide (V.byt i=V.byt j)=(i.toList == j.toList):=by
 rw[Bool.eq_iff_iff];cases i;cases j;simp
section
variable {X:Cx} {a b c:Expr} {ta tb tc:TE} {pos:Pos}
theorem aW {pins:List (Addr×Obj)}{σ:St}{H:Hp}{s:Shared}{Q:VK}{k k':Bool}(I:Inv X pins σ H s)(q:Q (.bl k) H)(e:k=k'):EP X pins σ Q (.bool k') s:=by
 subst e;exact(iw22 (.bl k) H I rfl q)
theorem EI:OpR X (compareOp .Eq) rEq:=by
 intro pins s σ H x y v u Q I rx ry h;obtain⟨hs,q⟩:=h;cases x with
 | non=>
  cases rx;cases y with
  | non=>cases ry;exact PySem.EqNone.eq_none_none (aW I q (by simp))
  | bl j=>cases ry;exact PySem.EqNone.eq_none_bool (aW I q (by simp))
  | int j=>obtain⟨t',rfl⟩:=ry;exact PySem.EqNone.eq_none_int (aW I q (by simp))
  | str j=>obtain⟨t',rfl⟩:=ry;exact PySem.EqNone.eq_none_str (aW I q (by simp))
  | _=>exact absurd (show false=true from hs) Bool.false_ne_true
 | bl i=>
  cases rx;cases y with
  | non=>cases ry;exact PySem.EqNone.eq_bool_none (aW I q (by simp))
  | bl j=>cases ry;exact eq_bool (aW I q Ad)
  | str j=>obtain⟨t',rfl⟩:=ry;exact PySem.EqMixed.eq_bool_str (aW I q (by simp))
  | _=>exact absurd (show false=true from hs) Bool.false_ne_true
 | int i=>
  obtain⟨t,rfl⟩:=rx;cases y with
  | non=>cases ry;exact PySem.EqNone.eq_int_none (aW I q (by simp))
  | int j=>obtain⟨t',rfl⟩:=ry;exact eq_int (aW I q w6)
  | str j=>obtain⟨t',rfl⟩:=ry;exact PySem.EqMixed.eq_int_str (aW I q (by simp))
  | _=>exact absurd (show false=true from hs) Bool.false_ne_true
 | str i=>
  obtain⟨t,rfl⟩:=rx;cases y with
  | non=>cases ry;exact PySem.EqNone.eq_str_none (aW I q (by simp))
  | bl j=>cases ry;exact PySem.EqMixed.eq_str_bool (aW I q (by simp))
  | int j=>obtain⟨t',rfl⟩:=ry;exact PySem.EqMixed.eq_str_int (aW I q (by simp))
  | str j=>obtain⟨t',rfl⟩:=ry;exact eq_str (aW I q w8)
  | _=>exact absurd (show false=true from hs) Bool.false_ne_true
 | byt i=>
  obtain⟨t,rfl⟩:=rx;cases y with
  | byt j=>obtain⟨t',rfl⟩:=ry;exact W.eq_bytes (aW I q w9)
  | _=>exact absurd (show false=true from hs) Bool.false_ne_true
 | _=>cases y<;>exact absurd (show false=true from hs) Bool.false_ne_true
theorem EJ:OpR X (compareOp .NotEq) rNe:=by
 intro pins s σ H x y v u Q I rx ry h;obtain⟨hs,q⟩:=h;cases x with
 | non=>
  cases rx;cases y with
  | non=>cases ry;exact PySem.EqNone.ne_none_none (aW I q (by simp))
  | bl j=>cases ry;exact PySem.EqNone.ne_none_bool (aW I q (by simp))
  | int j=>obtain⟨t',rfl⟩:=ry;exact PySem.EqNone.ne_none_int (aW I q (by simp))
  | str j=>obtain⟨t',rfl⟩:=ry;exact PySem.EqNone.ne_none_str (aW I q (by simp))
  | _=>exact absurd (show false=true from hs) Bool.false_ne_true
 | bl i=>
  cases rx;cases y with
  | non=>cases ry;exact PySem.EqNone.ne_bool_none (aW I q (by simp))
  | bl j=>cases ry;exact ne_bool (aW I q (congrArg not Ad))
  | str j=>obtain⟨t',rfl⟩:=ry;exact PySem.EqMixed.ne_bool_str (aW I q (by simp))
  | _=>exact absurd (show false=true from hs) Bool.false_ne_true
 | int i=>
  obtain⟨t,rfl⟩:=rx;cases y with
  | non=>cases ry;exact PySem.EqNone.ne_int_none (aW I q (by simp))
  | int j=>obtain⟨t',rfl⟩:=ry;exact ne_int (aW I q (congrArg not w6))
  | str j=>obtain⟨t',rfl⟩:=ry;exact PySem.EqMixed.ne_int_str (aW I q (by simp))
  | _=>exact absurd (show false=true from hs) Bool.false_ne_true
 | str i=>
  obtain⟨t,rfl⟩:=rx;cases y with
  | non=>cases ry;exact PySem.EqNone.ne_str_none (aW I q (by simp))
  | bl j=>cases ry;exact PySem.EqMixed.ne_str_bool (aW I q (by simp))
  | int j=>obtain⟨t',rfl⟩:=ry;exact PySem.EqMixed.ne_str_int (aW I q (by simp))
  | str j=>obtain⟨t',rfl⟩:=ry;exact ne_str (aW I q (congrArg not w8))
  | _=>exact absurd (show false=true from hs) Bool.false_ne_true
 | byt i=>
  obtain⟨t,rfl⟩:=rx;cases y with
  | byt j=>obtain⟨t',rfl⟩:=ry;exact W.ne_bytes (aW I q (congrArg not w9))
  | _=>exact absurd (show false=true from hs) Bool.false_ne_true
 | _=>cases y<;>exact absurd (show false=true from hs) Bool.false_ne_true
theorem EK:OpR X (compareOp .Lt) (rI0 λi j=>.bl (decide (i < j))):=opB0 λ_ _ _ _ _ _ _ q=>lt_int q
theorem EL:OpR X (compareOp .LtE) (rI0 λi j=>.bl (decide (i<=j))):=opB0 λ_ _ _ _ _ _ _ q=>le_int q
theorem EM:OpR X (compareOp .Gt) (rI0 λi j=>.bl (decide (j < i))):=opB0 λ_ _ _ _ _ _ _ q=>gt_int q
theorem EN:OpR X (compareOp .GtE) (rI0 λi j=>.bl (decide (j<=i))):=opB0 λ_ _ _ _ _ _ _ q=>ge_int q
theorem xS:OpR X (compareOp .In) (λx y H Q=>∃i j,x=.str i/\y=.str j/\Q (.bl (!(Builtin.Str.occurrences j i 0 j.length 1).isEmpty)) H):=by
 intro pins s σ H x y v u Q I rx ry h;(revert h;refine ow22 λi j zz1 zz2 q=>?_;subst zz1;subst zz2);obtain⟨t,rfl⟩:=rx;obtain⟨t',rfl⟩:=ry;exact in_str (aW I q rfl)
theorem OpR.or {f:Value->Value->Sem Value}{r r':R2}(h:OpR X f r)(h':OpR X f r'):OpR X f (λx y H Q=>r x y H Q\/r' x y H Q):=by
 intro pins s σ H x y v u Q I rx ry q;rcases q with q | q
 ·exact h pins s σ H x y v u Q I rx ry q
 ·exact h' pins s σ H x y v u Q I rx ry q
theorem nomark (b:Expr){op:CmpOp}(h:autoParam (op≠.In) L2.dft1._auto_1)(h2:autoParam (op≠.NotIn) L2.dft1._auto_1):behindInMarks op b=false:=by
 have e1:(op == CmpOp.In)=false:=by cases op<;>first | rfl | exact absurd rfl h
 have e2:(op == CmpOp.NotIn)=false:=by cases op<;>first | rfl | exact absurd rfl h2
 cases b<;>simp[behindInMarks,e1,e2]
theorem dF {op:CmpOp}{r:R2}(ho:OpR X (compareOp op) r)(ha:PE X a ta)(hb:PE X b tb)(hm:behindInMarks op b=false):PE X (.Compare a [op] [b] pos) (tOp r ta tb):=by
 intro pins s σ H Q I h;exact wpAny_Compare1 (binT ha hb I h λv u s2 x y H2 I2 rx ry q=>ho pins s2 σ H2 x y v u Q I2 rx ry q) hm
noncomputable def tTest (t:TE):TT:=λσ H Q=>t σ H λx H'=>onB x λk=>Q k H'
theorem aE {op:CmpOp}{r:R2}(ho:OpR X (compareOp op) r)(ha:PE X a ta)(hb:PE X b tb)(hm:behindInMarks op b=false):PT X (.Compare a [op] [b] pos) (tTest (tOp r ta tb)):=by
 intro pins s σ H Q I h
 refine wpAny_isTrue_Compare1 (thnE (ha pins s σ H _ I h) λv s1 x H1 I1 r1 q1=>thnE (hb pins s1 σ H1 _ I1 q1) λu s2 y H2 I2 r2 q2=>
  thnE (ho pins s2 σ H2 x y v u _ I2 r1 r2 q2) λc s3 z H3 I3 r3 q0=>?_) hm
 (refine pw11 (n8 q0) λk e q3=>?_);subst e;cases r3;exact wpAny_truthy_bool (iw11 H3 I3 q3)
noncomputable def tChain (r r':R2)(ta tb tc:TE):TE:=λσ H Q=>ta σ H λx H1=>tb σ H1 λy H2=>r x y H2 λz H3=>onB z λk=>
 (if k=true then tc σ H3 λw' H4=>r' y w' H4 Q else Q (.bl false) H3)
theorem oh {op op':CmpOp}{r r':R2}(ho:OpR X (compareOp op) r)(ho':OpR X (compareOp op') r')(ha:PE X a ta)(hb:PE X b tb)(hc:PE X c tc)
  (hm:autoParam (lastMarks [op,op'] [b,c]=false) L2.dft5._auto_1):PE X (.Compare a [op,op'] [b,c] pos) (tChain r r' ta tb tc):=by
 intro pins s σ H Q I h
 refine Compare_chain (thnE (ha pins s σ H _ I h) λv s1 x H1 I1 r1 q1=>chain_link (thnE (hb pins s1 σ H1 _ I1 q1) λu s2 y H2 I2 r2 q2=>
  thnE (ho pins s2 σ H2 x y v u _ I2 r1 r2 q2) λd s3 z H3 I3 r3 q0=>?_)) hm
 (refine pw11 (n8 q0) λk e q3=>?_);subst e;cases r3;refine wpAny_truthy_bool ?_;cases k with
 | false=>exact ite_ff (iw22 (.bl false) H3 I3 rfl q3)
 | true=>exact ite_tt (chain_last (thnE (hc pins s3 σ H3 _ I3 q3) λw' s4 z' H4 I4 r4 q4=>ho' pins s4 σ H4 y z' u w' Q I4 r2 r4 q4))
theorem tm {op op':CmpOp}{r r':R2}(ho:OpR X (compareOp op) r)(ho':OpR X (compareOp op') r')(ha:PE X a ta)(hb:PE X b tb)(hc:PE X c tc)
  (hm:autoParam (lastMarks [op,op'] [b,c]=false) L2.dft5._auto_1):PT X (.Compare a [op,op'] [b,c] pos) (tTest (tChain r r' ta tb tc)):=by
 intro pins s σ H Q I h
 refine isTrue_chain (thnE (ha pins s σ H _ I h) λv s1 x H1 I1 r1 q1=>test_link (thnE (hb pins s1 σ H1 _ I1 q1) λu s2 y H2 I2 r2 q2=>
  thnE (ho pins s2 σ H2 x y v u _ I2 r1 r2 q2) λd s3 z H3 I3 r3 q0=>?_)) hm
 (refine pw11 (n8 q0) λk e q3=>?_);subst e;cases r3;refine wpAny_truthy_bool ?_;cases k with
 | false=>
  (refine pw11 (n8 (x:=.bl false) (R:=λk=>Q k H3) q3) λk' e' q'=>?_);cases e';exact ite_ff (iw11 H3 I3 q')
 | true=>
  refine ite_tt (test_last (thnE (hc pins s3 σ H3 _ I3 q3) λw' s4 z' H4 I4 r4 q4=>thnE (ho' pins s4 σ H4 y z' u w' _ I4 r2 r4 q4) λd' s5 z2 H5 I5 r5 q0=>?_));(refine pw11 (n8 q0) λk2 e2 q5=>?_);subst e2;cases r5;exact wpAny_truthy_bool (iw11 H5 I5 q5)
noncomputable def TruV (K:W.Frag)(x:V)(H:Hp)(k:Bool):Prop:=
 match x with
 | .non=>k=false
 | .bl b=>k=b
 | .int i=>k=(i != 0)
 | .str y=>y.length<=sizeLine/\k=((y.length:Int) != 0)
 | .byt y=>y.size<=sizeLine/\k=((y.size:Int) != 0)
 | .ref p=>(∃xs,SqL K H p xs/\k=!xs.isEmpty)\/(∃xs,SqT K H p xs/\k=!xs.isEmpty)\/∃kvs,H p=some (.dK kvs)/\k=!kvs.isEmpty
 | _=>False
theorem u9 {κ:Type}{kvs:List (κ×V)}{vs:List (κ×Value)}(r:KV kvs vs):(!vs.isEmpty)=!kvs.isEmpty:=by
 cases r<;>rfl
theorem oi {xs:List V}{its:List Value}(r:Vals xs its):(!its.toArray.isEmpty)=!xs.isEmpty:=by
 cases r<;>simp
theorem line63:(sizeLine:Nat) < 2 ^ 63:=by rw[sizeLine_eq];decide
theorem DD:TruR X (λx H Q=>∃k,TruV X.K x H k/\Q k H):=by
 intro pins s σ H x v Q I rx h;(revert h;refine ow11 λk e q=>?_);have hl:=line63;have hs:sizeLine=16777216:=sizeLine_eq;cases x with
 | non=>
  cases rx;have e':k=false:=e;subst e';exact truthy_none (iw11 H I q)
 | bl b=>
  cases rx;have e':k=b:=e;subst e';exact wpAny_truthy_bool (iw11 H I q)
 | int i=>
  obtain⟨t,rfl⟩:=rx;have e':k=(i != 0):=e;subst e';exact PySem.P.truthy_int (iw11 H I q)
 | str y=>
  obtain⟨t,rfl⟩:=rx;obtain⟨hy,e'⟩:y.length<=sizeLine/\k=((y.length:Int) != 0):=e;subst e';exact PySem.P.truthy_str (by omega) (iw11 H (I.tok _) q)
 | byt y=>
  obtain⟨t,rfl⟩:=rx;obtain⟨hy,e'⟩:y.size<=sizeLine/\k=((y.size:Int) != 0):=e;subst e';exact W.truthy_bytes (by omega) (iw11 H (I.tok _) q)
 | ref p=>
  cases rx;have e':(∃xs,SqL X.K H p xs/\k=!xs.isEmpty)\/(∃xs,SqT X.K H p xs/\k=!xs.isEmpty)\/∃kvs,H p=some (.dK kvs)/\k=!kvs.isEmpty:=e;rcases e' with⟨xs,hx,e'⟩ | ⟨xs,hx,e'⟩ | ⟨kvs,hx,e'⟩
  ·subst e'
   (refine pw12 (I.list hx) λits r pl hz=>?_);have hlen:=r.length;exact wpAny_truthy_list pl.isList (by simp only[List.size_toArray];omega) (iw11 H (I.tok _) (by rw[oi r];exact q))
  ·subst e'
   (refine pw12 (I.tuple hx) λits r pl hz=>?_);have hlen:=r.length;exact truthy_tuple pl (by simp only[List.size_toArray];omega) (iw11 H (I.tok _) (by rw[oi r];exact q))
  ·subst e'
   obtain⟨hz,hS,vs,r,m⟩:kvs.length<=sizeLine/\(p == sysModules)=false/\∃vs,KV kvs vs/\s.heap.DictOf (mixKind X.prog X.w) p vs:=I.hok p _ hx;have hlen:kvs.length=vs.length:=Paired.length r;exact wpAny_truthy_dict hS m (by omega) (iw11 H (I.tok _) (by rw[u9 r];exact q))
 | _=>exact(show False from e).elim
theorem Ae (ha:PE X a ta)(he:∀whole,isTrue a X.env whole=(do let v <-whole;standAt a.pos;holding [v] (truthy v))) :
  PT X a (λσ H Q=>ta σ H λx H'=>∃k,TruV X.K x H' k/\Q k H'):=by
 intro pins s σ H Q I h;exact isTrue_plain (thnE (ha pins s σ H _ I h) λv s1 x H1 I1 r1 q1=>DD pins s1 σ H1 x v Q I1 r1 q1) (he _)
theorem va:OpR X (binaryOp .Add) (λx y H Q=>∃i j,x=.str i/\y=.str j/\i.length+j.length<=sizeLine/\Q (.str (i++j)) H):=by
 intro pins s σ H x y v u Q I rx ry h;(revert h;refine ow23 λi j zz1 zz2 hz q=>?_;subst zz1;subst zz2);obtain⟨t,rfl⟩:=rx;obtain⟨t',rfl⟩:=ry;exact add_str (λt' tk=>(iw22 (.str (i++j)) H (I.tok _) ⟨_,rfl⟩ q)) hz
theorem vals1 {x:V}{us:List Value}(r:Vals [x] us):∃u,us=[u]/\RelV x u:=by
 cases r with
 | cons r1 r2=>cases r2;exact(iw11 _ rfl r1)
theorem vals2 {x y:V}{us:List Value}(r:Vals [x,y] us):∃u w',us=[u,w']/\RelV x u/\RelV y w':=by
 cases r with
 | cons r1 r2=>
  cases r2 with
  | cons r3 r4=>cases r4;exact(iw22 _ _ rfl r1 r3)
theorem xT (hc:X.calm=true):CallR X (.builtin "max") (λxs H Q=>∃i j,xs=[.int i,.int j]/\Q (.int (if j > i then j else i)) H):=by
 intro pins s σ H xs us Q I r h;(revert h;refine ow21 λi j zz1 q=>?_;subst zz1);(refine pw22 (vals2 r) λu w' zz1 zz2 zz3=>?_;subst zz1;obtain ⟨t,rfl⟩:=zz2;obtain ⟨t',rfl⟩:=zz3);refine max_two_ints (I.ok.hd hc) λh' tk k=>(iw22 _ H (I.kept k) ?_ q)
 by_cases hj:j > i
 ·rw[if_pos hj,if_pos hj];exact⟨_,rfl⟩
 ·rw[if_neg hj,if_neg hj];exact⟨_,rfl⟩
theorem xU (hc:X.calm=true):CallR X (.builtin "min") (λxs H Q=>∃i j,xs=[.int i,.int j]/\Q (.int (if j < i then j else i)) H):=by
 intro pins s σ H xs us Q I r h;(revert h;refine ow21 λi j zz1 q=>?_;subst zz1);(refine pw22 (vals2 r) λu w' zz1 zz2 zz3=>?_;subst zz1;obtain ⟨t,rfl⟩:=zz2;obtain ⟨t',rfl⟩:=zz3);refine min_two_ints (I.ok.hd hc) λh' tk k=>(iw22 _ H (I.kept k) ?_ q)
 by_cases hj:j < i
 ·rw[if_pos hj,if_pos hj];exact⟨_,rfl⟩
 ·rw[if_neg hj,if_neg hj];exact⟨_,rfl⟩
theorem rC:CallR X (.type "str") (λxs H Q=>∃i,xs=[.int i]/\i.natAbs.log2 < 1920/\Q (.str (toString i)) H):=by
 intro pins s σ H xs us Q I r h;(revert h;refine ow12 λi zz1 hz q=>?_;subst zz1);(refine pw11 (vals1 r) λu zz1=>ow10 λt zz2=>?_;subst zz1;subst zz2);exact PySem.P.str_of_int hz (iw22 (.str _) H (I.tok _) ⟨_,rfl⟩ q)
theorem Af:CallR X (.builtin "ord") (λxs H Q=>∃x,xs=[.str x]/\x.length=1/\Q (.int (x.cps.getD 0 0:Nat)) H):=by
 intro pins s σ H xs us Q I r h;(revert h;refine ow12 λx zz1 hz q=>?_;subst zz1);(refine pw11 (vals1 r) λu zz1=>ow10 λt zz2=>?_;subst zz1;subst zz2);exact ord_of_one hz (iw22 (.int _) H (I.tok _) ⟨_,rfl⟩ q)
end
structure ObjM (h:Heap)(x dx C:Addr)(mA:Str->Option Value):Prop where
 obj:h.get? x=some (W.instObj C dx)
 ns:h.Ns1 dx mA
 ne:dx≠x
theorem lM {h:Heap}{dx:Addr}{mA:Str->Option Value}(n:h.Ns1 dx mA):∃od,h.get? dx=some od/\∀name,W.lookIn name od=some (mA name):=by
 (revert n;refine ow34 λo es ep ho hd hk _ hm=>?_);refine(iw11 o ho (λname=>?_));have e:=hm name;unfold nsFind findBy at e;rw[<-Array.find?_toList] at e;unfold W.lookIn;rw[hd];dsimp only
 split
 ·rename_i y q
  rw[q] at e;exact congrArg some e
 ·rename_i q
  rw[q] at e;have a:es.toList.any (·.refKey)=false:=by
   rw[List.any_eq_false];intro y hy;(refine pw20 (hk y (Array.mem_toList_iff.mp hy)) λz t hkey=>?_);simp[DictEntry.refKey,hkey]
  have a':¬es.toList.any (·.refKey)=true:=by rw[a];exact Bool.false_ne_true
  rw[if_neg a'];exact congrArg some e
theorem ObjM.look {h:Heap}{x dx C:Addr}{mA:Str->Option Value}(I:ObjM h x dx C mA):∃od,W.InstAt h x (W.instObj C dx) C (some od)/\∀name,W.lookIn name od=some (mA name):=
 let ⟨od,ho,hl⟩:=lM I.ns
 (iw11 od ⟨I.obj,rfl,rfl,ho⟩ hl)
section
variable {prog:Program} {w:World} {A:Around} {E:Value->Shared->Prop} {s:Shared} {K:W.Frag} {x dx C f:Addr} {mA:Str->Option Value} {name:Str} {v:Value}
theorem get_map {expr:Bool}{Q:Value->Shared->Prop}(X:K.In s.heap)(I:ObjM s.heap x dx C mA)(hg:W.plainGet K C name=true)(hh:W.hasDictIn K C=true)
  (ha:W.findIn K (.ref C) name=some none) (hv:mA name=some v) (hv':W.handedIn v=true) (h:Q v { s with toks:=s.toks+1 }) :
  wpAny (model prog w) A (getAttr (.ref x) name expr) Q E s:=by
 (refine pw11 I.look λod J hl=>?_);exact W.get_value X J (W.plainGet_of hg).1 (W.findObj_own hh ha rfl (by rw[hl,hv])) hv' h
theorem Ag {pl:Sem Bool}{Q:Value×List Value->Shared->Prop}(X:K.In s.heap)(I:ObjM s.heap x dx C mA)(hg:W.plainGet K C name=true)
  (hf:W.findIn K (.ref C) name=some (some (.ref f))) (ht:W.isFn K (.ref f)=true) (hv:mA name=none) (h:Q (.ref f,[.ref x]) s) :
  wpAny (model prog w) A (getMethod (.ref x) name pl) Q E s:=by
 (refine pw11 I.look λod J hl=>?_);exact W.method_fn X J (W.plainGet_of hg).1 (W.plainGet_of hg).2 hf (beq_iff_eq.mp ht) (by show(W.lookIn name od).map (·.isSome)=some false;rw[hl,hv];rfl) h
theorem BE {ns:List Str}{Q:Unit->Shared->Prop}(X:K.In s.heap)(I:ObjM s.heap x dx C mA)
  (hs:W.findIn K (.ref C) "__setattr__"=some (some (.builtin "object.__setattr__"))) (hp:W.plainOver K C=true) (ht:W.takerIn K C name=some none) (hh:W.hasDictIn K C=true)
  (hw:PySem.Within mA ns) (hsz:ns.length<=sizeLine)
  (h:∀h',ObjM h' x dx C (λy=>if y=name then some v else mA y)->Heap.SameBut dx s.heap h'->Q () { s with heap:=h',toks:=s.toks+2 }) :
  wpAny (model prog w) A (setAttr (.ref x) name v) Q E s:=by
 (refine pw11 I.look λod J hl=>?_);refine W.set_plain X J hs (W.osa_open (s:={ s with toks:=s.toks+1 }) (r:=none) X J hp ht λb=>?_);(refine pw11 (W.any_some hh) λcd hc hd'=>?_);have hx:s.heap.get? x=some ⟨.ref C,some dx,.plain,#[]⟩:=I.obj;refine wpAny_bind (wpAny_pure (wpAny_bind (wpAny_bind (wpAny_loadPart hx (wpAny_bind (W.Looks.here (s:={ s with toks:=s.toks+1 }) (W.looks_clsIn X hc) ?_))))));rw[hd'];refine wpAny_pure (a:=some dx) (wpAny_bind (wpAny_pure (wpAny_bind ?_)));refine wpAny_nsSet1 (s:={ s with toks:=s.toks+1 }) I.ns λh' hn2 hs2=>?_;(refine pw32 (hn2.count (PySem.Within.cons name v hw)) λoD esD epD hoD hdD hcD=>?_);refine wpAny_bind (wpAny_lookBehind hoD (by rw[hdD];exact pastItsLine_dict (Nat.le_trans hcD (by rw[List.length_cons];omega))) ?_);exact wpAny_pure (h _ ⟨(hs2.2 _ (Ne.symm I.ne)).trans I.obj,hn2,I.ne⟩ hs2)
theorem Ah {R:Result->Shared->Prop}{vs:List Value}{kw:List (Str×Value)}(X:K.In s.heap)(hm:W.makesIn K C=true)
  (hi:W.findIn K (.ref C) "__init__"=some (some (.ref f))) (hf:W.typeIn K (.ref f)=some (.type "function"))
  (h:codeAny (model prog w) (A.under (.builtin "type.__call__" ⟨.ref C::vs,kw⟩)) (.call (.ref f) ⟨.ref (s.heap.objs.size+1)::vs,kw⟩) (W.InitBack (s.heap.objs.size+1) R)
   { s with heap:=(s.heap.push W.emptyDict).push (W.instObj C s.heap.objs.size) }) :
  codeAny (model prog w) A (.call (.ref C) ⟨vs,kw⟩) R s:=by
 obtain⟨hh,g,d,t,os⟩:=s;exact W.make_core (W.makes_of X hm) (W.looks_findIn X hi) (λself=>W.bind_fn X self hf) (.inl rfl) h
end
noncomputable def putF (f:Str)(v:V):List (Str×V)->List (Str×V)
 | []=>[(f,v)]
 | (g,x)::r=>if g=f then(g,v)::r else(g,x)::putF f v r
theorem iC (f g:Str)(v:V):∀fs:List (Str×V),(putF f v fs).lookup g=if g=f then some v else fs.lookup g
 | []=>by
  show List.lookup g [(f,v)]=_
  by_cases h:g=f
  ·have hb:(g == f)=true:=beq_iff_eq.mpr h
   simp only[List.lookup,hb,if_pos h]
  ·have hb:(g == f)=false:=beq_eq_false_iff_ne.mpr h
   simp only[List.lookup,hb,if_neg h]
 | (k,x)::r=>by
  have ih:=iC f g v r;rw[show putF f v ((k,x)::r)=(if k=f then(k,v)::r else(k,x)::putF f v r) from rfl]
  by_cases hk:k=f
  ·rw[if_pos hk]
   by_cases h:g=k
   ·have hb:(g == k)=true:=beq_iff_eq.mpr h
    simp only[List.lookup,hb,if_pos (h.trans hk)]
   ·have hb:(g == k)=false:=beq_eq_false_iff_ne.mpr h
    simp only[List.lookup,hb,if_neg (λe:g=f=>h (e.trans hk.symm))]
  ·rw[if_neg hk]
   by_cases h:g=k
   ·have hb:(g == k)=true:=beq_iff_eq.mpr h
    simp only[List.lookup,hb,if_neg (λe:g=f=>hk (h.symm.trans e))]
   ·have hb:(g == k)=false:=beq_eq_false_iff_ne.mpr h
    simp only[List.lookup,hb];exact ih
theorem lN (f:Str)(v:V):∀fs:List (Str×V),f∈(putF f v fs).map (·.1)/\∀g,g∈fs.map (·.1)->g∈(putF f v fs).map (·.1)
 | []=>⟨by simp[putF],λg h=>by simp at h⟩
 | (k,x)::r=>by
  obtain⟨i1,i2⟩:=lN f v r;rw[show putF f v ((k,x)::r)=(if k=f then(k,v)::r else(k,x)::putF f v r) from rfl]
  by_cases hk:k=f
  ·rw[if_pos hk]
   subst hk;exact⟨by simp,λg h=>by simpa using h⟩
  ·rw[if_neg hk]
   refine⟨?_,λg h=>?_⟩
   ·rw[List.map_cons]
    exact List.mem_cons_of_mem _ i1
   ·rw[List.map_cons] at h ⊢
    rcases List.mem_cons.mp h with e | e
    ·exact List.mem_cons.mpr (.inl e)
    ·exact List.mem_cons_of_mem _ (i2 g e)
theorem mR (f:Str)(v:V):∀fs:List (Str×V),(putF f v fs).length<=fs.length+1
 | []=>by simp[putF]
 | (k,x)::r=>by
  have ih:=mR f v r;rw[show putF f v ((k,x)::r)=(if k=f then(k,v)::r else(k,x)::putF f v r) from rfl]
  by_cases hk:k=f
  ·rw[if_pos hk,List.length_cons,List.length_cons];omega
  ·rw[if_neg hk,List.length_cons,List.length_cons];omega
theorem RelO.some_of {v:V}{o:Option Value}(r:RelO (some v) o):∃u,o=some u/\RelV v u:=by
 cases o with
 | none=>exact(show False from r).elim
 | some u=>exact(iw11 u rfl r)
theorem RelO.none_of {o:Option Value}(r:RelO none o):o=none:=by
 cases o with
 | none=>rfl
 | some u=>exact(show False from r).elim
theorem qq {v:V}{u:Value}(r:RelV v u):W.handedIn u=true:=by
 cases v with
 | non=>cases (show u=Value.none from r);rfl
 | bl b=>cases (show u=Value.bool b from r);rfl
 | int i=>obtain⟨t,e⟩:=(show ∃t,u=Value.int i t from r);cases e;rfl
 | str x=>obtain⟨t,e⟩:=(show ∃t,u=Value.str x t from r);cases e;rfl
 | byt b=>obtain⟨t,e⟩:=(show ∃t,u=Value.bytes b t from r);cases e;rfl
 | flt b=>obtain⟨t,e⟩:=(show ∃t,u=Value.float b t from r);cases e;rfl
 | ref a=>cases (show u=Value.ref a from r);rfl
 | ty n=>cases (show u=Value.type n from r);rfl
section
variable {P:Program} {w:World} {H H':Hp} {h h':Heap} {a C dx:Addr} {fs fs':List (Str×V)}
theorem nO (hok:HOk P w H h)(e:H a=some (.ins C dx fs)):∃mA,ObjM h a dx C mA/\(∀f,RelO (fs.lookup f) (mA f))/\PySem.Within mA (fs.map (·.1))/\fs.length<=1000/\H dx=some (.own a):=by
 (refine pw04 (show ObjOk P w H h a (.ins C dx fs) from hok a _ e) λd z ne ob=>ow12 λmA n r q=>?_);exact(iw14 mA ⟨ob,n,ne⟩ r q z d)
end
structure Cls (K:W.Frag)(C:Addr):Prop where
 pg:W.plainGet K C Str.empty=true
 hd:W.hasDictIn K C=true
 po:W.plainOver K C=true
 sa:W.findIn K (.ref C) "__setattr__"=some (some (.builtin "object.__setattr__"))
theorem Cls.get {K:W.Frag}{C:Addr}(c:Cls K C)(f:Str):W.plainGet K C f=true:=c.pg
noncomputable def NoAttr (K:W.Frag)(C:Addr)(f:Str):Prop:=W.findIn K (.ref C) f=some none
theorem NoAttr.taker {K:W.Frag}{C:Addr}{f:Str}(n:NoAttr K C f):W.takerIn K C f=some none:=by
 unfold W.takerIn;rw[show W.findIn K (.ref C) f=some none from n];rfl
structure Meth (K:W.Frag)(C:Addr)(m:Str)(f:Addr):Prop where
 at_:W.findIn K (.ref C) m=some (some (.ref f))
 fn:W.isFn K (.ref f)=true
 kp:W.keepIn K (.ref f)=true
section
variable {X:Cx} {pins:List (Addr×Obj)} {σ:St} {H:Hp} {s:Shared} {a C dx:Addr} {fs:List (Str×V)} {f:Str} {v:V} {A:Around} {E:Value->Shared->Prop}
theorem vc {b:Bool}{Q:Value->Shared->Prop}(I:Inv X pins σ H s)(e:H a=some (.ins C dx fs))(c:Cls X.K C)(n:NoAttr X.K C f)(l:fs.lookup f=some v)
  (h:∀u s',Inv X pins σ H s'->RelV v u->Q u s'):wpAny (model X.prog X.w) A (getAttr (.ref a) f b) Q E s:=by
 (refine pw13 (nO I.hok e) λmA O r _=>ow01 λ_ _=>?_);(refine pw11 (RelO.some_of (v:=v) (o:=mA f) (by rw[<-l];exact r f)) λu hu ru=>?_);exact get_map I.kIn O (c.get f) c.hd n hu (qq ru) (h u _ (I.tok _) ru)
theorem gN {m:Str}{g:Addr}{pl:Sem Bool}{Q:Value×List Value->Shared->Prop}(I:Inv X pins σ H s)(e:H a=some (.ins C dx fs))(c:Cls X.K C)(k:Meth X.K C m g)(l:fs.lookup m=none)
  (h:Q (.ref g,[.ref a]) s):wpAny (model X.prog X.w) A (getMethod (.ref a) m pl) Q E s:=by
 (refine pw13 (nO I.hok e) λmA O r _=>ow01 λ_ _=>?_);have hn:mA m=none:=RelO.none_of (by rw[<-l];exact r m);exact Ag I.kIn O (c.get m) k.at_ k.fn hn h
theorem vd {y:V}{u:Value}{Q:Unit->Shared->Prop}(I:Inv X pins σ H s)(e:H a=some (.ins C dx fs))(c:Cls X.K C)(n:NoAttr X.K C f)(hl:fs.length < 1000)(ry:RelV y u)
  (h:∀s',Inv X pins σ (upd H a (.ins C dx (putF f y fs))) s'->Q () s'):wpAny (model X.prog X.w) A (setAttr (.ref a) f u) Q E s:=by
 (refine pw13 (nO I.hok e) λmA O r wi=>ow01 λ_ ho=>?_);have hz:(fs.map (·.1)).length<=sizeLine:=by rw[List.length_map,sizeLine_eq];omega
 refine BE I.kIn O c.sa c.po n.taker c.hd wi hz λh' O' sb=>h _ ?_;have hd:∃o,h'.get? dx=some o:=let ⟨o,_,_,e',_⟩:=O'.ns;⟨o,e'⟩;refine I.write (x:=a) (e:=dx) (by rw[e];exact True.intro) (.inr ho) (λb q hb z=>(sb.2 b hb).trans z) hd ?_;refine⟨by rw[aj O.ne];exact ho,?_,O.ne,O'.obj,(iw12 _ O'.ns (λg=>?_) (λg hg=>?_))⟩
 ·have:=mR f y fs;omega
 ·show RelO ((putF f y fs).lookup g) (if g=f then some u else mA g)
  rw[iC]
  by_cases q:g=f
  ·rw[if_pos q,if_pos q];exact ry
  ·rw[if_neg q,if_neg q];exact r g
 ·by_cases q:g=f
  ·rw[q];exact(lN f y fs).1
  ·refine(lN f y fs).2 g (wi g λz=>hg ?_)
   show(if g=f then some u else mA g)=none;rw[if_neg q];exact z
theorem Inv.made (I:Inv X pins σ H s):Inv X pins σ (upd (upd H s.heap.objs.size (.own (s.heap.objs.size+1))) (s.heap.objs.size+1) (.ins C s.heap.objs.size []))
  { s with heap:=(s.heap.push W.emptyDict).push (W.instObj C s.heap.objs.size) }:=by
 have e1:(s.heap.push W.emptyDict).get? s.heap.objs.size=some W.emptyDict:=Heap.get?_push_size s.heap rfl;have e2:((s.heap.push W.emptyDict).push (W.instObj C s.heap.objs.size)).get? (s.heap.objs.size+1)=some (W.instObj C s.heap.objs.size):=by
  have:=Heap.get?_push_size (s.heap.push W.emptyDict) (o:=W.instObj C s.heap.objs.size) rfl
  rwa [Heap.size_push] at this
 have e3:(s.heap.push W.emptyDict).Ns s.heap.objs.size (λ_=>none):=(iw33 W.emptyDict (#[]) _ e1 rfl (λe he=>absurd he (by simp)) (λ_=>rfl))
 have I1:=I.laid (a:=s.heap.objs.size) (o:=.own (s.heap.objs.size+1)) (h':=s.heap.push W.emptyDict) (t':=s.toks) (λb u q=>Heap.get?_push_of_some _ q) (Nat.le_refl _) ⟨_,e1⟩;refine I1.laid (a:=s.heap.objs.size+1) (o:=.ins C s.heap.objs.size []) (t':=s.toks) (λb u q=>Heap.get?_push_of_some _ q) (Nat.le_of_eq (Heap.size_push _ _)) ?_;have ne:s.heap.objs.size≠s.heap.objs.size+1:=Nat.ne_of_lt (Nat.lt_succ_self _);refine⟨by rw[aj ne,ae],Nat.zero_le _,ne,e2,(iw12 (λ_=>none) ((Heap.Ns1.of_empty e3).at λo q=>Heap.get?_push_of_some _ q) (λ_=>True.intro) (λy hy=>absurd rfl hy))⟩
theorem xa {prog:Program}{w:World}{env:Env}{e:Expr}{f:Str}{pos:Pos}{s:Shared}{Q:Value->Shared->Prop}(hb:attributeBase e f env (eval e env)=eval e env)
  (h:wpAny (model prog w) A (eval e env) (λo s₁=>wpAny (model prog w) A (getAttr o f true) Q E s₁) E s):wpAny (model prog w) A (eval (.Attribute e f pos) env) Q E s:=
 Attribute_any_ h (by rw[arm_eval_Attribute,hb])
end
noncomputable def tFld (K:W.Frag)(ta:TE)(f:Str):TE:=λσ H Q=>ta σ H λx H1=>onR x λa=>∃C dx fs,H1 a=some (.ins C dx fs)/\Cls K C/\NoAttr K C f/\∃v,fs.lookup f=some v/\Q v H1
noncomputable def sFld (K:W.Frag)(ta tv:TE)(f:Str):TS:=λD σ H=>tv σ H λy H1=>ta σ H1 λx H2=>onR x λa=>∃C dx fs,H2 a=some (.ins C dx fs)/\Cls K C/\NoAttr K C f/\fs.length < 1000/\
 D.nx σ (upd H2 a (.ins C dx (putF f y fs)))
section
variable {X:Cx} {o e value:Expr} {f:Str} {pos pos' tpos:Pos} {ta tv:TE}
theorem DE (he:PE X e ta)(hb:attributeBase e f X.env (eval e X.env)=eval e X.env):PE X (.Attribute e f pos) (tFld X.K ta f):=by
 intro pins s σ H Q I h;refine xa hb (thnE (he pins s σ H _ I h) λu s1 x H1 I1 rx q0=>?_);(refine pw11 (rn q0) λa ex=>ow33 λC dx fs ea c n=>ow11 λv l q=>?_);subst ex;obtain rfl:u=Value.ref a:=rx;exact vc I1 ea c n l λu' s2 I2 ru=>(iw22 v H1 I2 ru q)
theorem bu (ha:PE X o ta)(hv:PE X value tv)(hs:swapsWith value (some (.Attribute o f pos')) pos.line X.env=pure false):PS X (.Assign [.Attribute o f pos'] value pos) (sFld X.K ta tv f):=by
 intro pins s σ H D I h;refine plainObj_wpAny_Assign_Attribute (thnE (hv pins s σ H _ I h) λu s1 y H1 I1 ry q=>thnE (ha pins s1 σ H1 _ I1 q) λov s2 x H2 I2 rx q0=>?_) hs;(refine pw11 (rn q0) λa ex=>ow34 λC dx fs ea c n l q2=>?_);subst ex;obtain rfl:ov=Value.ref a:=rx;exact vd I2 ea c n l ry λs3 I3=>(iw21 σ _ I3 q2)
theorem CV {pl:Sem Bool}{m:Str}{apos:Pos}{args:List Expr}{pins:List (Addr×Obj)}{s:Shared}{σ:St}{H:Hp}{Q:Value->Shared->Prop}{te:TE}(he:PE X e te)(I:Inv X pins σ H s)
  (h:te σ H λx H1=>∃a C dx fs g,x=.ref a/\H1 a=some (.ins C dx fs)/\Cls X.K C/\Meth X.K C m g/\fs.lookup m=none/\
   ∀s1,Inv X pins σ H1 s1->wpAny (model X.prog X.w) X.A (callWith pos (.ref g) [.ref a] (backTo pos (starEach args X.env)) (backToKw pos (keywordEach [] X.env))) Q X.xe s1)
  (ht:eval (.Call (.Attribute e m apos) args [] pos) X.env=(do
   let ov <-eval e X.env
   standAt apos.atName
   let (f,first) <-holding [ov] (getMethod ov m pl)
   callWith pos f first (backTo pos (starEach args X.env)) (backToKw pos (keywordEach [] X.env)))) :
  wpAny (model X.prog X.w) X.A (eval (.Call (.Attribute e m apos) args [] pos) X.env) Q X.xe s:=by
 refine W.methodCall_KW (pl:=pl) (thn (he pins s σ H _ I h) λu s1 zz=>pw22 zz λx H1 I1 rx=>ow30 λa C dx=>ow24 λfs g ex ea c k=>ow01 λl q=>?_) ht;subst ex;obtain rfl:u=Value.ref a:=rx;exact gN I1 ea c k l (q s1 I1)
end
section
variable {X:Cx} {pins:List (Addr×Obj)} {σ:St} {H:Hp} {s:Shared} {A:Around} {E:Value->Shared->Prop} {Q:Value->Shared->Prop} {c:Value} {b:Bool}
inductive TyOf (K:W.Frag) (H:Hp):V->Value->Prop where
 | non:TyOf K H .non (.type "NoneType")
 | bl (x:Bool):TyOf K H (.bl x) (.type "bool")
 | int (i:Int):TyOf K H (.int i) (.type "int")
 | str (x:Str):TyOf K H (.str x) (.type "str")
 | flt (x:UInt64):TyOf K H (.flt x) (.type "float")
 | lst {a:Addr} {xs:List V} (e:H a=some (.lst xs)):TyOf K H (.ref a) (.type "list")
 | frz {a:Addr} {o:Obj} {xs:List V} (e:H a=some (.frz o (.lst xs))):TyOf K H (.ref a) (.type "list")
 | tup {a:Addr} {xs:List V} (e:H a=some (.tup xs)):TyOf K H (.ref a) (.type "tuple")
 | dK {a:Addr} {kvs:List (Key×V)} (e:H a=some (.dK kvs)):TyOf K H (.ref a) (.type "dict")
 | dT {a:Addr} {kvs:List (List Key×V)} (e:H a=some (.dT kvs)):TyOf K H (.ref a) (.type "dict")
 | ins {a C dx:Addr} {fs:List (Str×V)} (e:H a=some (.ins C dx fs)) (cl:Cls K C) (ha:W.findIn K (.ref C) "__class__"=some (some (.builtin "object.__class__")))
   (hn:W.specialIn K (.builtin "object.__class__") "__get__"=some (some (.builtin "getset_descriptor.__get__"))) (htk:W.takesIn K (.builtin "object.__class__")=some true)
   (hm:W.mroIn K C (.type "object")=some true):TyOf K H (.ref a) (.ref C)
theorem qr {x:V}{u t:Value}(I:Inv X pins σ H s)(rx:RelV x u)(ty:TyOf X.K H x t)(e:W.kitOne X.K t c=some b)(h:∀tk,Q (.bool b) { s with toks:=tk }) :
  wpAny (model X.prog X.w) A (call (.builtin "isinstance") [u,c]) Q E s:=by
 cases ty with
 | non=>cases (show u=Value.none from rx);exact W.kia_one W.kitx_none I.kIn True.intro e (λz=>nomatch z) h
 | bl y=>cases (show u=Value.bool y from rx);exact W.kia_one W.kitx_bool I.kIn True.intro e (λz=>nomatch z) h
 | int i=>obtain⟨t,q⟩:=(show ∃t,u=Value.int i t from rx);cases q;exact W.kia_one W.kitx_int I.kIn True.intro e (λz=>nomatch z) h
 | str y=>obtain⟨t,q⟩:=(show ∃t,u=Value.str y t from rx);cases q;exact W.kia_one W.kitx_str I.kIn True.intro e (λz=>nomatch z) h
 | flt y=>obtain⟨t,q⟩:=(show ∃t,u=Value.float y t from rx);cases q;exact W.kia_one W.kitx_float I.kIn True.intro e (λz=>nomatch z) h
 | @lst a xs ea=>
  cases (show u=Value.ref a from rx);(refine pw01 (show ObjOk X.prog X.w H s.heap a (.lst xs) from I.hok a _ ea) λ_=>ow21 λ_ n _ h1=>?_);exact W.kia_one W.kitx_list I.kIn (iw11 _ h1 rfl) e (λz=>nomatch z) h
 | @frz a ob xs ea=>
  cases (show u=Value.ref a from rx);(refine pw02 (show ObjOk X.prog X.w H s.heap a (.frz ob (.lst xs)) from I.hok a _ ea) λ_ _=>ow21 λ_ n _ h1=>?_);exact W.kia_one W.kitx_list I.kIn (iw11 _ h1 rfl) e (λz=>nomatch z) h
 | @tup a xs ea=>
  cases (show u=Value.ref a from rx);(refine pw01 (show ObjOk X.prog X.w H s.heap a (.tup xs) from I.hok a _ ea) λ_=>ow11 λ_ _ p=>?_);(revert p;refine ow12 λo h1 h2 _=>?_);exact W.kia_one W.kitx_tuple I.kIn (iw11 o h1 h2) e (λz=>nomatch z) h
 | @dK a kvs ea=>
  cases (show u=Value.ref a from rx);(refine pw02 (show ObjOk X.prog X.w H s.heap a (.dK kvs) from I.hok a _ ea) λ_ _=>ow11 λvs _ p=>?_);(revert p;refine ow32 λo es ep h1 h2 _=>?_);exact W.kia_one W.kitx_dict I.kIn (iw11 o h1 h2.1) e (λz=>nomatch z) h
 | @dT a kvs ea=>
  cases (show u=Value.ref a from rx);(refine pw02 (show ObjOk X.prog X.w H s.heap a (.dT kvs) from I.hok a _ ea) λ_ _=>ow11 λxs _=>ow32 λo es ep h1 h2 _=>?_);exact W.kia_one W.kitx_dict I.kIn (iw11 o h1 h2.1) e (λz=>nomatch z) h
 | @ins a C dx fs ea cl ha hn htk hm=>
  cases (show u=Value.ref a from rx);(refine pw11 (nO I.hok ea) λmA O _=>?_);(refine pw11 O.look λod J _=>?_);exact W.kia_one (W.kitx_own (cl.get _) cl.hd ha hn htk hm) I.kIn J e (λz=>nomatch z) h
end
structure Room (k:Nat)(A:Around):Prop where
 hd:A.handled=none
 dp:A.depth+3 * k+5 < recursionLimit
 un:A.units+16 * k+200 < cLine
theorem Room.mono {j k:Nat}{A:Around}(r:Room k A)(h:j<=k):Room j A:=⟨r.hd,by have:=r.dp;omega,by have:=r.un;omega⟩
theorem Room.deeper {k:Nat}{A:Around}(r:Room (k+1) A)(env:Env):Room k (A.deeper env):=
 ⟨r.hd,by have:=r.dp;show A.depth+1+3 * k+5 < _;omega,by have:=r.un;show A.units+3+16 * k+200 < _;omega⟩
theorem ve {A:Around}{C:Addr}{us:List Value}{kw:List (Str×Value)}:(A.under (.builtin "type.__call__" ⟨.ref C::us,kw⟩)).depth=A.depth+1:=by
 first | rfl | simp[Around.under,Code.weight,Code.isCreation,Code.isGuard,Code.isCaller,Code.frames,Code.isFrame,guardIds]
theorem vf {A:Around}{C:Addr}{us:List Value}{kw:List (Str×Value)}:(A.under (.builtin "type.__call__" ⟨.ref C::us,kw⟩)).units=A.units+1:=by
 first | rfl | simp[Around.under,Code.cUnits,Code.frames,Code.isFrame]
theorem Room.make {k:Nat}{A:Around}(r:Room (k+1) A)(C:Addr)(us:List Value)(kw:List (Str×Value)):Room k (A.under (.builtin "type.__call__" ⟨.ref C::us,kw⟩)):=
 ⟨r.hd,by have:=r.dp;rw[ve];omega,by have:=r.un;rw[vf];omega⟩
theorem Room.depth {k:Nat}{A:Around}(r:Room k A):A.depth < recursionLimit:=by have:=r.dp;omega
theorem Room.units {k:Nat}{A:Around}(r:Room k A):A.units+64 < cLine:=by have:=r.un;omega
noncomputable def tNil:TA:=λ_ H Q=>Q [] H
noncomputable def tCons (ta:TE)(tr:TA):TA:=λσ H Q=>ta σ H λx H1=>tr σ H1 λxs H2=>Q (x::xs) H2
section
variable {X:Cx} {e:Expr} {es:List Expr} {te:TE} {t:TA} {pos:Pos}
theorem af:PA X [] tNil:=λ_ _ _ _ H Q I h=>Calls.spliced_nil (iw22 ([]) H I (.nil) h)
theorem aa (ha:PE X e te)(hr:PA X es t)(hs:autoParam (starEach (e::es) X.env=(false,eval e X.env)::starEach es X.env) L2.dft3._auto_1):PA X (e::es) (tCons te t):=by
 intro pos pins s σ H Q I h;rw[hs];show wpAny _ _ (spliced ((false,eval e X.env)::backTo pos (starEach es X.env))) _ _ s;refine Calls.spliced_cons (thnE (ha pins s σ H _ I h) λu s1 x H1 I1 r1 q1=>?_);exact thnA (hr pos pins s1 σ H1 _ I1 q1) λus s2 xs H2 I2 r2 q2=>(iw22 (x::xs) H2 I2 (.cons r1 r2) q2)
noncomputable def tTup (t:TA):TE:=λσ H Q=>t σ H λxs H1=>xs.length<=sizeLine/\∀p,H1 p=none->Q (.ref p) (upd H1 p (.tup xs))
noncomputable def tLst (t:TA):TE:=λσ H Q=>t σ H λxs H1=>xs.length<=sizeLine/\∀p,H1 p=none->Q (.ref p) (upd H1 p (.lst xs))
theorem aR {x1}(h:PA X es t):PE X (.Tuple es x1 pos) (tTup t):=by
 intro pins s σ H Q I hq;refine wpAny_Tuple_spliced (thn (h pos pins s σ H _ I hq) λus s1 zz=>pw23 zz λxs H1 I1 r z q=>⟨by rw[<-r.length];exact z,?_⟩);have hf:H1 s1.heap.objs.size=none:=I1.hok.fresh (Nat.le_refl _);refine(iw22 (.ref s1.heap.objs.size) (upd H1 s1.heap.objs.size (.tup xs)) (I1.laid (t':=s1.toks) (λb u e=>Heap.get?_push_of_some _ e) (Nat.le_refl _) ?_) rfl (q _ hf));exact⟨z,(iw11 us r (iw12 _ (Heap.get?_push_size _ rfl) rfl (iw10 _ rfl)))⟩
theorem aX (h:PA X es t):PE X (.List es pos) (tLst t):=by
 intro pins s σ H Q I hq;refine wpAny_List_spliced (thn (h pos pins s σ H _ I hq) λus s1 zz=>pw23 zz λxs H1 I1 r z q=>⟨by rw[<-r.length];exact z,?_⟩);have hf:H1 s1.heap.objs.size=none:=I1.hok.fresh (Nat.le_refl _);refine(iw22 (.ref s1.heap.objs.size) (upd H1 s1.heap.objs.size (.lst xs)) (I1.laid (t':=s1.toks) (λb u e=>Heap.get?_push_of_some _ e) (Nat.le_refl _) ?_) rfl (q _ hf));exact⟨z,(iw21 us 0 r (Heap.get?_push_size _ rfl))⟩
end
noncomputable abbrev Sp:=List V->Hp->VK->XK->Prop
noncomputable abbrev CXT:=List Env->Hp->Shared->XK->Value->Shared->Prop
structure Env0 (P:Program)(w:World)(K:W.Frag)(mg:Str->Option Value)(base:Heap)(A:Around)(outer:List Env)(s:Shared)(H:Hp):Prop where
 frames:A.frames=some outer
 mod:Mod K mg base
 bs:∀b o,base.get? b=some o->s.heap.get? b=some o/\H b=none
 bsz:base.objs.size<=s.heap.objs.size
 funs:s.heap.FunFrames base outer
 frf:∀b∈frs outer,H b=none
 hok:HOk P w H s.heap
 bare:AllBare s.gens
noncomputable def CE (outer:List Env)(P:Program)(w:World)(H:Hp)(s:Shared)(Q:VK)(u:Value)(s':Shared):Prop:=
 ∃v H',s'.os=s.os/\AllBare s'.gens/\Un (frs outer) [] H H' s.heap s'.heap/\HOk P w H' s'.heap/\RelV v u/\Q v H'
noncomputable def CR (CX:CXT)(outer:List Env)(P:Program)(w:World)(H:Hp)(s:Shared)(Q:VK)(E:XK)(r:Result)(s':Shared):Prop:=
 match r with
 | .ok (.ret u)=>CE outer P w H s Q u s'
 | .ok _=>False
 | .error e=>CX outer H s E e s'
structure FnOk (P:Program)(w:World)(K:W.Frag)(mg:Str->Option Value)(base:Heap)(CX:CXT)(k:Nat)(f:Addr)(fd:FuncData)(ps:List Str)(sp:Sp):Prop where
 len:∀vs H Q E,sp vs H Q E->vs.length=ps.length
 run:∀(A:Around) (outer:List Env) (s:Shared) (H:Hp) (args:Args) (us:List Value) (vs:List V) (Q:VK) (E:XK),Room k A->Env0 P w K mg base A outer s H->BindsTo s fd args (ps.zip us)->Vals vs us->sp vs H Q E->
  codeAny (model P w) A (.call (.ref f) args) (CR CX outer P w H s Q E) s
theorem Env0.make {P:Program}{w:World}{K:W.Frag}{mg:Str->Option Value}{base:Heap}{A:Around}{outer:List Env}{s:Shared}{H:Hp}(e:Env0 P w K mg base A outer s H)(C:Addr)(us:List Value)(kw:List (Str×Value)) :
  Env0 P w K mg base (A.under (.builtin "type.__call__" ⟨.ref C::us,kw⟩)) outer s H:=⟨by first | exact e.frames | (simpa [Around.under,Code.envs,Code.isFrame,pushEnvs] using e.frames),e.mod,e.bs,e.bsz,e.funs,e.frf,e.hok,e.bare⟩
section
variable {X:Cx} {pins:List (Addr×Obj)} {σ:St} {H:Hp} {s s':Shared}
theorem Inv.env0 (I:Inv X pins σ H s):Env0 X.prog X.w X.K X.mg X.base X.A X.stack s H:=
 ⟨I.ok.frames,I.ok.mod,I.bs,Nat.le_trans I.ok.bsz I.sz,I.stack,I.stkFree,I.hok,I.bare⟩
theorem Inv.after {Q:VK}{u:Value}(I:Inv X pins σ H s)(h:CE X.stack X.prog X.w H s Q u s'):EP X pins σ Q u s':=by
 (revert h;refine ow24 λv H' os bare un hok=>ow01 λr q=>?_);obtain⟨hh,g,d,t,os'⟩:=s';obtain rfl:os'=s.os:=os;exact(iw22 v H' (I.call (h':=hh) (g':=g) (d':=d) (t':=t) (ch:=[]) un hok bare (λb z=>absurd z (by simp))) r q)
end
noncomputable def tCall (sp:Sp)(dvs:List V)(E:XK)(t:TA):TE:=λσ H Q=>t σ H λvs H1=>sp (vs++dvs) H1 Q E
noncomputable def tMeth (C:Addr)(m:Str)(sp:Sp)(dvs:List V)(E:XK)(ta:TE)(t:TA):TE:=λσ H Q=>ta σ H λx H1=>onR x λa=>∃dx fs,H1 a=some (.ins C dx fs)/\fs.lookup m=none/\
 t σ H1 λvs H2=>sp (x::(vs++dvs)) H2 Q E
noncomputable def tMake (C:Addr)(sp:Sp)(dvs:List V)(E:XK)(t:TA):TE:=λσ H Q=>t σ H λvs H1=>∀x dx,H1 x=none->H1 dx=none->dx≠x->
 sp (.ref x::(vs++dvs)) (upd (upd H1 dx (.own x)) x (.ins C dx [])) (λv H2=>v=.non/\Q (.ref x) H2) E
noncomputable def Binds (K:W.Frag)(fd:FuncData)(ps:List Str)(ds:List Value):Prop:=
 ∀(s:Shared) (us:List Value),K.In s.heap->(us++ds).length=ps.length->BindsTo s fd ⟨us,[]⟩ (ps.zip (us++ds))
theorem Binds.all {K:W.Frag}{fd:FuncData}{ps:List Str}(h:∀us:List Value,us.length=ps.length->bindArgs fd ⟨us,[]⟩=pure (ps.zip us)):Binds K fd ps []:=λs us _ hl=>by
 rw[List.append_nil] at hl ⊢;exact .of_eq (h us hl)
noncomputable def Passes (CX:CXT)(X:Cx)(E:XK):Prop:=∀(pins:List (Addr×Obj)) (σ:St) (H:Hp) (s:Shared) (e:Value) (s':Shared),Inv X pins σ H s->CX X.stack H s E e s'->X.xe e s'
section
variable {X:Cx} {CX:CXT} {k:Nat} {f C:Addr} {fd:FuncData} {ps:List Str} {sp:Sp} {dvs:List V} {ds:List Value} {E:XK} {x m:Str} {p pos apos:Pos} {e o:Expr} {es:List Expr} {ta:TE} {t:TA}
theorem rD {pins:List (Addr×Obj)}{σ:St}{H:Hp}{s:Shared}{Q:VK}{us:List Value}{vs:List V}(F:FnOk X.prog X.w X.K X.mg X.base CX k f fd ps sp)(hr:Room k X.A)(hb:Binds X.K fd ps ds)(hd:Vals dvs ds)(hx:Passes CX X E)
  (I:Inv X pins σ H s) (r:Vals vs us) (h:sp (vs++dvs) H Q E):wpAny (model X.prog X.w) X.A (call (.ref f) us) (EP X pins σ Q) X.xe s:=by
 have r2:Vals (vs++dvs) (us++ds):=r.append hd;have hl:(us++ds).length=ps.length:=by rw[<-r2.length];exact F.len _ _ _ _ h
 refine wpAny_call (codeAny_mono (F.run X.A X.stack s H ⟨us,[]⟩ (us++ds) (vs++dvs) Q E hr I.env0 (hb s us I.kIn hl) r2 h) λr s' hq=>?_);cases r with
 | error e=>exact hx pins σ H s e s' I hq
 | ok fl=>
  cases fl with
  | ret u=>exact I.after hq
  | next=>exact False.elim hq
  | brk=>exact False.elim hq
  | cont=>exact False.elim hq
theorem aq (F:FnOk X.prog X.w X.K X.mg X.base CX k f fd ps sp)(hr:Room k X.A)(hg:Gl X x)(hm:X.mg x=some (.ref f))(hk:W.keepIn X.K (.ref f)=true)(hb:Binds X.K fd ps ds)(hd:Vals dvs ds)(hx:Passes CX X E)
  (ha:PA X (e::es) t) (hdb:autoParam ((x == ("__debug__":Str))=false) L2.dft1._auto_1) (he:autoParam (starEach (e::es) X.env=(false,eval e X.env)::starEach es X.env) L2.dft3._auto_1) (hpl:autoParam ((backTo pos (starEach es X.env)).any (·.1)=false) L2.dft3._auto_1) :
  PE X (.Call (.Name x p) (e::es) [] pos) (tCall sp dvs E t):=by
 intro pins s σ H Q I h;refine wpAny_Call_Name_kw (jd I hg hm ?_ hdb);refine W.callWith_K (h₀:=X.base) I.ok.mod.kin hk (thnA (ha pos pins s σ H _ I h) λus s1 vs H1 I1 r q=>⟨I1.kIn,?_⟩) he hpl;exact rD F hr hb hd hx I1 r q
theorem aL {pl:Sem Bool}(he:PE X o ta)(c:Cls X.K C)(hm:Meth X.K C m f)(F:FnOk X.prog X.w X.K X.mg X.base CX k f fd ps sp)(hr:Room k X.A)(hb:Binds X.K fd ps ds)(hd:Vals dvs ds)(hx:Passes CX X E)(ha:PA X (e::es) t)
  (hst:autoParam (starEach (e::es) X.env=(false,eval e X.env)::starEach es X.env) L2.dft3._auto_1) (hpl:autoParam ((backTo pos (starEach es X.env)).any (·.1)=false) L2.dft3._auto_1)
  (ht:autoParam (eval (.Call (.Attribute o m apos) (e::es) [] pos) X.env=(do
   let ov <-eval o X.env
   standAt apos.atName
   let (f,first) <-holding [ov] (getMethod ov m pl)
   callWith pos f first (backTo pos (starEach (e::es) X.env)) (backToKw pos (keywordEach [] X.env)))) L2.dft3._auto_1) :
  PE X (.Call (.Attribute o m apos) (e::es) [] pos) (tMeth C m sp dvs E ta t):=by
 intro pins s σ H Q I h;refine W.methodCall_KW (pl:=pl) (thnE (he pins s σ H _ I h) λu s1 x H1 I1 rx q0=>?_) ht;(refine pw11 (rn q0) λa ex=>ow22 λdx fs ea l q=>?_);subst ex;obtain rfl:u=Value.ref a:=rx;refine gN I1 ea c hm l ?_;refine W.callWith_K (first:=[.ref a]) (h₀:=X.base) I.ok.mod.kin hm.kp (thnA (ha pos pins s1 σ H1 _ I1 q) λus s2 vs H2 I2 r q2=>⟨I2.kIn,?_⟩) hst hpl;exact rD (us:=.ref a::us) (vs:=.ref a::vs) F hr hb hd hx I2 (.cons rfl r) q2
theorem d7 {pl:Sem Bool}(he:PE X o ta)(c:Cls X.K C)(hm:Meth X.K C m f)(F:FnOk X.prog X.w X.K X.mg X.base CX k f fd ps sp)(hr:Room k X.A)(hb:Binds X.K fd ps ds)(hd:Vals dvs ds)(hx:Passes CX X E)
  (ht:autoParam (eval (.Call (.Attribute o m apos) [] [] pos) X.env=(do
   let ov <-eval o X.env
   standAt apos.atName
   let (f,first) <-holding [ov] (getMethod ov m pl)
   callWith pos f first (backTo pos (starEach [] X.env)) (backToKw pos (keywordEach [] X.env)))) L2.dft3._auto_1) :
  PE X (.Call (.Attribute o m apos) [] [] pos) (tMeth C m sp dvs E ta tNil):=by
 intro pins s σ H Q I h;refine W.methodCall_KW (pl:=pl) (thnE (he pins s σ H _ I h) λu s1 x H1 I1 rx q0=>?_) ht;(refine pw11 (rn q0) λa ex=>ow22 λdx fs ea l q=>?_);subst ex;obtain rfl:u=Value.ref a:=rx;refine gN I1 ea c hm l ?_;exact W.callWith_K0 (first:=[.ref a]) I1.kIn hm.kp (rD (us:=[.ref a]) (vs:=[.ref a]) F hr hb hd hx I1 (.cons rfl .nil) q)
structure Mk (K:W.Frag)(C f:Addr):Prop where
 makes:W.makesIn K C=true
 init:W.findIn K (.ref C) "__init__"=some (some (.ref f))
 fn:W.isFn K (.ref f)=true
 kp:W.keepIn K (.ref C)=true
theorem tq {pins:List (Addr×Obj)}{σ:St}{H:Hp}{s:Shared}{Q:VK}{us:List Value}{vs:List V}(M:Mk X.K C f)(F:FnOk X.prog X.w X.K X.mg X.base CX k f fd ps sp)(hr:Room (k+1) X.A)(hb:Binds X.K fd ps ds)(hd:Vals dvs ds)
  (hx:Passes CX X E) (I:Inv X pins σ H s) (r:Vals vs us)
  (h:∀x dx,H x=none->H dx=none->dx≠x->sp (.ref x::(vs++dvs)) (upd (upd H dx (.own x)) x (.ins C dx [])) (λv H2=>v=.non/\Q (.ref x) H2) E) :
  wpAny (model X.prog X.w) X.A (call (.ref C) us) (EP X pins σ Q) X.xe s:=by
 have hq:=h (s.heap.objs.size+1) s.heap.objs.size (I.hok.fresh (Nat.le_succ _)) (I.hok.fresh (Nat.le_refl _)) (Nat.ne_of_lt (Nat.lt_succ_self _));have I2:=Inv.made (C:=C) I;have r2:Vals (V.ref (s.heap.objs.size+1)::(vs++dvs)) (Value.ref (s.heap.objs.size+1)::(us++ds)):=.cons rfl (r.append hd);have hl:(Value.ref (s.heap.objs.size+1)::us++ds).length=ps.length:=by
  have e:=r2.length;rw[F.len _ _ _ _ hq] at e;exact e.symm
 refine wpAny_call (Ah (f:=f) I.kIn M.makes M.init (beq_iff_eq.mp M.fn) (codeAny_mono (F.run _ X.stack _ _ ⟨Value.ref (s.heap.objs.size+1)::us,[]⟩ (Value.ref (s.heap.objs.size+1)::(us++ds)) _ _ E (hr.make C us [])
  (I2.env0.make C us []) (hb _ (Value.ref (s.heap.objs.size+1)::us) I2.kIn hl) r2 hq) λr s' hq'=>?_))
 cases r with
 | error e=>exact hx pins σ _ _ e s' I2 hq'
 | ok fl=>
  cases fl with
  | ret u=>
   (refine pw23 (I2.after hq') λv H' I3 rv ev q3=>?_);subst ev;exact⟨rv,(iw22 (V.ref (s.heap.objs.size+1)) H' I3 rfl q3)⟩
  | next=>exact False.elim hq'
  | brk=>exact False.elim hq'
  | cont=>exact False.elim hq'
theorem rE (M:Mk X.K C f)(F:FnOk X.prog X.w X.K X.mg X.base CX k f fd ps sp)(hr:Room (k+1) X.A)(hg:Gl X x)(hm:X.mg x=some (.ref C))(hb:Binds X.K fd ps ds)(hd:Vals dvs ds)(hx:Passes CX X E)
  (ha:PA X (e::es) t) (hdb:autoParam ((x == ("__debug__":Str))=false) L2.dft1._auto_1) (he:autoParam (starEach (e::es) X.env=(false,eval e X.env)::starEach es X.env) L2.dft3._auto_1) (hpl:autoParam ((backTo pos (starEach es X.env)).any (·.1)=false) L2.dft3._auto_1) :
  PE X (.Call (.Name x p) (e::es) [] pos) (tMake C sp dvs E t):=by
 intro pins s σ H Q I h;refine wpAny_Call_Name_kw (jd I hg hm ?_ hdb);refine W.callWith_K (h₀:=X.base) I.ok.mod.kin M.kp (thnA (ha pos pins s σ H _ I h) λus s1 vs H1 I1 r q=>⟨I1.kIn,?_⟩) he hpl;exact tq M F hr hb hd hx I1 r q
theorem iD (M:Mk X.K C f)(F:FnOk X.prog X.w X.K X.mg X.base CX k f fd ps sp)(hr:Room (k+1) X.A)(hg:Gl X x)(hm:X.mg x=some (.ref C))(hb:Binds X.K fd ps ds)(hd:Vals dvs ds)(hx:Passes CX X E)
  (hdb:autoParam ((x == ("__debug__":Str))=false) L2.dft1._auto_1):PE X (.Call (.Name x p) [] [] pos) (tMake C sp dvs E tNil):=by
 intro pins s σ H Q I h;refine wpAny_Call_Name_kw (jd I hg hm ?_ hdb);exact W.callWith_K0 I.kIn M.kp (tq (us:=[]) M F hr hb hd hx I .nil h)
end
section
variable {X:Cx} {CX:CXT} {k:Nat} {f C:Addr} {fd:FuncData} {ps ks:List Str} {sp:Sp} {E:XK} {x m:Str} {p pos apos kpos:Pos} {e o:Expr} {es:List Expr} {kws:List Keyword} {te ta:TE} {t tk:TA} {nm:Option Str}
variable {g:List Value->List Value->List Value} {gV:List V->List V->List V}
end
structure FnScope (N P:List Str)(sc:Scope):Prop where
 kind:sc.kind=.function
 co:sc.isCoroutine=false
 gen:sc.isGenerator=false
 nd:N.Nodup
 pre:N.take P.length=P
 par:∀x∈P,sc.names.lookup x=some .local\/sc.names.lookup x=some .cell
 nofree:∀y∈sc.names,y.2≠.free
theorem qu {kindOf:Str->Option NameKind}{x:Str}:∀{binds:List (Str×Value)} {m:Str->Option Value},(∀v,(x,v)∉binds)->bindL kindOf binds m x=m x
 | [],_,_=>rfl
 | (n,v)::r,m,h=>by
  unfold bindL;rw[qu λw hw=>h w (List.mem_cons_of_mem _ hw)]
  split
  ·have:x≠n:=by rintro rfl;exact h v List.mem_cons_self
   simp[this]
  ·rfl
theorem qv {kindOf:Str->Option NameKind}{x:Str}:∀{binds:List (Str×Value)} {m:Str->Option Value},(∀v,(x,v)∉binds)->bindC kindOf binds m x=m x
 | [],_,_=>rfl
 | (n,v)::r,m,h=>by
  unfold bindC;rw[qv λw hw=>h w (List.mem_cons_of_mem _ hw)]
  split
  ·rfl
  ·have:x≠n:=by rintro rfl;exact h v List.mem_cons_self
   simp[this]
theorem qw {kindOf:Str->Option NameKind}{x:Str}{v:Value}:∀{P:List Str} {vs:List Value} {i:Nat} {m:Str->Option Value},P.Nodup->P[i]?=some x->vs[i]?=some v->kindOf x=some .local->
  bindL kindOf (P.zip vs) m x=some v
 | [],_,_,_,_,h,_,_=>by simp at h
 | _::_,[],_,_,_,_,h,_=>by simp at h
 | p::P,w::vs,0,m,nd,h1,h2,hk=>by
  simp at h1 h2;subst h1;subst h2;show bindL kindOf ((p,w)::P.zip vs) m p=_;unfold bindL;rw[qu λv hv=>(List.nodup_cons.mp nd).1 (List.of_mem_zip hv).1,if_pos hk];simp
 | p::P,w::vs,i+1,m,nd,h1,h2,hk=>by
  show bindL kindOf ((p,w)::P.zip vs) m x=_;unfold bindL;exact qw (i:=i) (List.nodup_cons.mp nd).2 (by simpa using h1) (by simpa using h2) hk
theorem qx {kindOf:Str->Option NameKind}{x:Str}{v:Value}:∀{P:List Str} {vs:List Value} {i:Nat} {m:Str->Option Value},P.Nodup->P[i]?=some x->vs[i]?=some v->kindOf x≠some .local->
  bindC kindOf (P.zip vs) m x=some v
 | [],_,_,_,_,h,_,_=>by simp at h
 | _::_,[],_,_,_,_,h,_=>by simp at h
 | p::P,w::vs,0,m,nd,h1,h2,hk=>by
  simp at h1 h2;subst h1;subst h2;show bindC kindOf ((p,w)::P.zip vs) m p=_;unfold bindC;rw[qv λv hv=>(List.nodup_cons.mp nd).1 (List.of_mem_zip hv).1,if_neg hk];simp
 | p::P,w::vs,i+1,m,nd,h1,h2,hk=>by
  show bindC kindOf ((p,w)::P.zip vs) m x=_;unfold bindC;exact qx (i:=i) (List.nodup_cons.mp nd).2 (by simpa using h1) (by simpa using h2) hk
noncomputable def start (N:List Str)(vs:List V):St:=vs.map some++List.replicate (N.length - vs.length) none
noncomputable def cxOf (CX:CXT)(P:Program)(w:World)(K:W.Frag)(mg:Str->Option Value)(base:Heap)(N:List Str)(qual:Str)(scope:Scope)(f:Addr)(cd:Value)(A:Around)(outer:List Env)(s:Shared)(H:Hp)(E:XK):Cx where
 prog:=P
 w:=w
 K:=K
 mg:=mg
 base:=base
 A:=A.deeper (envOfC qual scope s.heap.objs.size f cd)
 N:=N
 s₀:=s
 H₀:=H
 env:=envOfC qual scope s.heap.objs.size f cd
 outer:=outer
 stack:=envOfC qual scope s.heap.objs.size f cd::outer
 ex:=[]
 calm:=true
 fn:=λ_=>true
 pn:=[]
 xe:=λe s'=>wpAny (model P w) (A.deeper (envOfC qual scope s.heap.objs.size f cd)) (leaving (envOfC qual scope s.heap.objs.size f cd) e) (λ_ s''=>CX outer H s E e s'') (λe' s''=>CX outer H s E e' s'') s'
theorem tu {sc:Scope}{n:Nat}{x:Str}(h:sc.names.lookup x=some .cell):∃c,(cellsFrom n sc.names []).lookup x=some c:=by
 have q:=W.cellsFrom_some sc.names n [] (.inl h);exact Option.isSome_iff_exists.mp q
theorem qy {CX:CXT}{P:Program}{w:World}{K:W.Frag}{mg:Str->Option Value}{base:Heap}{N ps:List Str}{qual:Str}{scope:Scope}{f:Addr}{cd:Value}{A:Around}{outer:List Env}{s s1:Shared}{H:Hp}{E:XK}{us:List Value}{vs:List V}
  (S:FnScope N ps scope) (hd:A.handled=none) (e0:Env0 P w K mg base A outer s H) (hl:vs.length=ps.length) (r:Vals vs us)
  (x:InCallC s s.heap.objs.size (bindL (envOfC qual scope s.heap.objs.size f cd).kindOf (ps.zip us) λ_=>none) (cellsFrom (s.heap.objs.size+1) scope.names []) (bindC (envOfC qual scope s.heap.objs.size f cd).kindOf (ps.zip us) λ_=>none) s1) :
  Inv (cxOf CX P w K mg base N qual scope f cd A outer s H E) [] (start N vs) H s1:=by
 have hpl:ps.length<=N.length:=by have:=congrArg List.length S.pre;rw[List.length_take] at this;omega
 (refine pw21 x.done λh1 tk zz1 hk=>?_;subst zz1);have noA:∀b:Addr,b∉(cxOf CX P w K mg base N qual scope f cd A outer s H E).ex:=λb z=>absurd (show b∈([]:List Addr) from z) (by simp)
 refine⟨⟨e0.mod,S.kind,rfl,rfl,Nat.le_refl _,λy z c h1 h2=>?_,λy hy=>?_,λy c _ h=>?_,λ_=>hd,Around.frames_deeper e0.frames,.inr ⟨rfl,rfl⟩,λb z=>absurd z (noA b),e0.bs,e0.bsz,λb _ _=>noA b,λb z=>absurd z (noA b),e0.funs,e0.frf⟩,
  rfl,e0.bare,Un.kept hk,(iw11 _ x.toInCall.ns (λi y v h1 h2 h3=>?_)),λy c h=>⟨_,x.cell y c h⟩,e0.hok.fresh (Nat.le_refl _),λy c h=>?_,λp hp=>absurd (show p∈([]:List (Addr×Obj)) from hp) (by simp),e0.hok.kept hk,?_⟩
 ·exact name_of_addr x.apart (PySem.mem_of_lookup h1) (PySem.mem_of_lookup h2)
 ·have hy:scope.names.lookup y=some .cell\/scope.names.lookup y=some .free:=hy
  rcases hy with hy | hy
  ·exact tu hy
  ·exact absurd rfl (S.nofree _ (PySem.mem_of_lookup hy))
 ·exact Nat.le_of_lt (x.above y c (PySem.mem_of_lookup h))
 ·have hi:i < vs.length:=by
   unfold start at h2
   by_cases hi:i < vs.length
   ·exact hi
   ·rw[List.getElem?_append_right (by simpa using hi)] at h2
    rw[List.getElem?_replicate] at h2
    split at h2<;>cases h2
  have ha:vs[i]?=some v:=by
   unfold start at h2;rw[List.getElem?_append_left (by simpa using hi),List.getElem?_map] at h2;cases e:vs[i]? with
   | none=>rw[e] at h2;cases h2
   | some a=>rw[e] at h2;cases h2;rfl
  (refine pw11 (r.get ha) λu hu rv=>?_);have hp:ps[i]?=some y:=by
   rw[<-S.pre,List.getElem?_take_of_lt (by omega)];exact h1
  have ndP:ps.Nodup:=by rw[<-S.pre];exact S.nd.sublist (List.take_sublist _ _)
  refine(iw11 u rv ?_);rcases S.par y (List.mem_of_getElem? hp) with k | k
  ·exact .inl ⟨k,qw ndP hp hu k⟩
  ·obtain⟨c,e⟩:=tu (n:=s.heap.objs.size+1) k
   refine .inr ⟨.inl k,(iw11 c e ?_)⟩;have q:=x.cell y c e;rw[qx ndP hp hu (by show scope.names.lookup y≠_;rw[k];decide)] at q;exact q
 ·exact e0.hok.fresh (Nat.le_of_lt (x.above y c (PySem.mem_of_lookup h)))
 ·unfold start
  show _=N.length;rw[List.length_append,List.length_map,List.length_replicate];omega
theorem xb {CX:CXT}{P:Program}{w:World}{K:W.Frag}{mg:Str->Option Value}{base:Heap}{k:Nat}{f:Addr}{name qual:Str}{params:Arguments}{body:List Stmt}{scope:Scope}{dV kV doc pm cdv ct oc:Value}{an od:Option Addr}
  {osl:Array (Option Value)} {N ps:List Str} {sp:Sp} (lk:K.lookup f=some ⟨oc,od,.func (W.fnOf name qual params body scope dV kV doc pm an cdv ct),osl⟩) (hcd:W.codeIn K cdv qual=true) (S:FnScope N ps scope)
  (len:∀vs H Q E,sp vs H Q E->vs.length=ps.length)
  (hbody:∀(A:Around) (outer:List Env) (s:Shared) (H:Hp) (vs:List V) (Q:VK) (E:XK),Room k (A.deeper (envOfC qual scope s.heap.objs.size f cdv))->sp vs H Q E->
   ∃t,PSs (cxOf CX P w K mg base N qual scope f cdv A outer s H E) body t/\t { nx:=λ_ H'=>Q .non H',rt:=Q } (start N vs) H) :
  FnOk P w K mg base CX (k+1) f (W.fnOf name qual params body scope dV kV doc pm an cdv ct) ps sp:=by
 refine⟨len,λA outer s H args us vs Q E hr e0 hb r hsp=>?_⟩;have hl:=len _ _ _ _ hsp;have KX:K.In s.heap:=e0.mod.kin.keeps λb o e=>(e0.bs b o e).1;have lim:s.heap.NoLimit:=e0.mod.nolimit.keeps λb o e=>(e0.bs b o e).1;have hkind:∀y∈ps.zip us,scope.names.lookup y.1=some .local\/(scope.names.lookup y.1=some .cell/\((cellsFrom (s.heap.objs.size+1) scope.names []).lookup y.1).isSome=true):=λ⟨n,v⟩ hy=>by
  rcases S.par n (List.of_mem_zip hy).1 with q | q
  ·exact .inl q
  ·exact .inr ⟨q,W.cellsFrom_some _ _ _ (.inl q)⟩
 refine codeAny_call_function hr.depth (KX _ _ lk) rfl S.co S.gen rfl (W.codeRec_of KX hcd) (hb _ _ _ _ ?_);refine wpAny_newFunctionEnv_cells S.kind hkind λenv he s1 x=>?_;subst he;refine⟨lim.keeps x.toInCall.keep,codeAny_func ?_⟩;(refine pw11 (hbody A outer s H vs Q E (hr.deeper _) hsp) λt ht hq=>?_);have I:Inv (cxOf CX P w K mg base N qual scope f cdv A outer s H E) [] (start N vs) H s1:=qy S hr.hd e0 hl r x;refine wpAny_mono (ht [] s1 (start N vs) H _ I hq) (λfl s' hs=>?_) λe s' hs=>hs;have fin:∀{σ':St} {H':Hp} {v:V} {u:Value},Inv (cxOf CX P w K mg base N qual scope f cdv A outer s H E) [] σ' H' s'->RelV v u->Q v H'->CE outer P w H s Q u s':=
  λ{σ' H' v u} J rv q=>(iw24 v H' J.os J.bare J.base J.hok ⟨rv,q⟩)
 cases fl with
 | ret u=>
  (revert hs;refine ow32 λv σ' H' J rv q=>?_);exact fin J rv q
 | next=>
  (revert hs;refine ow21 λσ' H' J q=>?_);exact fin (v:=V.non) (u:=Value.none) J rfl q
 | brk=>
  (revert hs;refine ow21 λ_ _ _ q=>?_);exact False.elim q
 | cont=>
  (revert hs;refine ow21 λ_ _ _ q=>?_);exact False.elim q
section
variable {X:Cx} {x:Str} {p pos:Pos} {e:Expr} {es:List Expr} {t:TA} {id T:String} {r:List V->Hp->VK->Prop}
noncomputable def tCB (r:List V->Hp->VK->Prop)(t:TA):TE:=λσ H Q=>t σ H λvs H1=>r vs H1 Q
theorem ax (hc:CallR X (.builtin id) r)(hg:Gl X x)(hm:X.mg x=none)(hv:bootBuiltins x=some (.builtin id))(ha:PA X (e::es) t)(hn:autoParam (x ≠ "__name__") L2.dft1._auto_1)(hdb:autoParam ((x == ("__debug__":Str))=false) L2.dft1._auto_1)
  (he:autoParam (starEach (e::es) X.env=(false,eval e X.env)::starEach es X.env) L2.dft3._auto_1) (hpl:autoParam ((backTo pos (starEach es X.env)).any (·.1)=false) L2.dft3._auto_1):PE X (.Call (.Name x p) (e::es) [] pos) (tCB r t):=by
 intro pins s σ H Q I h;refine wpAny_Call_Name_kw (dP I hg hm hv ?_ hn hdb);exact PyProof.Rows.callWith_builtin1 (thnA (ha pos pins s σ H _ I h) λus s1 vs H1 I1 r1 q1=>hc pins s1 σ H1 vs us Q I1 r1 q1) he hpl
theorem bo (hc:CallR X (.type T) r)(hg:Gl X x)(hm:X.mg x=none)(hv:bootBuiltins x=some (.type T))(ha:PA X (e::es) t)(hn:autoParam (x ≠ "__name__") L2.dft1._auto_1)(hdb:autoParam ((x == ("__debug__":Str))=false) L2.dft1._auto_1)
  (he:autoParam (starEach (e::es) X.env=(false,eval e X.env)::starEach es X.env) L2.dft3._auto_1) (hpl:autoParam ((backTo pos (starEach es X.env)).any (·.1)=false) L2.dft3._auto_1):PE X (.Call (.Name x p) (e::es) [] pos) (tCB r t):=by
 intro pins s σ H Q I h;refine wpAny_Call_Name_kw (dP I hg hm hv ?_ hn hdb);exact PyProof.Rows.callWith_type1 (thnA (ha pos pins s σ H _ I h) λus s1 vs H1 I1 r1 q1=>hc pins s1 σ H1 vs us Q I1 r1 q1) he hpl
end
end L2
namespace HT
open PySem PyProof.Rows
section
open PySem.SeqAt
open PySem.AutoSeq1 (wpAny_loadPart')
open PySem.MeetsSeq PySem.MeetsSeq2 PySem.MeetsSeq3
end
section
variable {prog:Program} {w:World} {A:Around} {E:Value->Shared->Prop} {s:Shared}
noncomputable def sIx (n d:Nat):Option Int->Nat
 | none=>d
 | some v=>if v < 0 then(v+(n:Int)).toNat else min v.toNat n
theorem tw (n d:Nat):sIx n d none=d:=rfl
theorem rF (n d k:Nat):sIx n d (some (k:Int))=min k n:=by
 show(if (k:Int) < 0 then((k:Int)+(n:Int)).toNat else min (k:Int).toNat n)=min k n;rw[if_neg (by omega),Int.toNat_natCast]
theorem Ai (n d:Nat)(hd:d<=n)(o:Option Int):sIx n d o<=n:=by
 cases o with
 | none=>exact hd
 | some v=>
  show(if v < 0 then(v+(n:Int)).toNat else min v.toNat n)<=n
  by_cases hv:v < 0
  ·rw[if_pos hv];omega
  ·rw[if_neg hv];exact Nat.min_le_right _ _
end
end HT
namespace L2
open PySem PySem.Spec PyProof.Rows
noncomputable abbrev TO:=St->Hp->(Option Int->Hp->Prop)->Prop
noncomputable def PO (X:Cx)(e:Option Expr)(t:TO):Prop:=
 ∀(pins:List (Addr×Obj)) (s:Shared) (σ:St) (H:Hp) (Q:Option Int->Hp->Prop),Inv X pins σ H s->t σ H Q->
  wpAny (model X.prog X.w) X.A (evalPart e X.env) (λu s'=>∃o H',Inv X pins σ H' s'/\IsPart u o/\Q o H') X.xe s
noncomputable def tNoPart:TO:=λ_ H Q=>Q none H
noncomputable def tPart (t:TE):TO:=λσ H Q=>t σ H λx H1=>∃i,x=.int i/\Q (some i) H1
theorem intsAre_of {ns:List Int}:∀{us:List Value},Vals (ns.map V.int) us->IntsAre us ns:=by
 induction ns with
 | nil=>intro us r;rw[List.map_nil] at r;cases r;exact .nil
 | cons n ns ih=>
  intro us r;rw[List.map_cons] at r;cases r with
  | cons r1 r2=>
   obtain⟨t,e⟩:=r1;subst e;exact .cons n t (ih r2)
section
variable {X:Cx} {e:Expr} {te:TE} {lo hi:Option Expr} {tl th:TO} {pos p2:Pos}
theorem xf:PO X none tNoPart:=by
 intro pins s σ H Q I h;rw[evalPart_none];exact wpAny_pure (iw22 none H I (.none) h)
theorem nP (h:PE X e te):PO X (some e) (tPart te):=by
 intro pins s σ H Q I hw;rw[evalPart_some];refine thnE (h pins s σ H _ I hw) λu s1 x H1 I1 r1 q1=>?_;(revert q1;refine ow11 λi zz1 q=>?_;subst zz1);obtain⟨t,rfl⟩:=r1;exact(iw22 (some i) H1 I1 (.int i t) q)
noncomputable def SlR (X:Cx)(r:V->Option Int->Option Int->Hp->VK->Prop):Prop:=
 ∀(pins:List (Addr×Obj)) (s:Shared) (σ:St) (H:Hp) (x:V) (v vl vu:Value) (lo hi:Option Int) (sl:Addr) (Q:VK),Inv X pins σ H s->RelV x v->s.heap.IsSliceOf sl vl vu .none->IsPart vl lo->IsPart vu hi->r x lo hi H Q->
  ∃T id,typeLookup (.type T) "__getitem__"=pure (some (.builtin id))/\s.TypeIs v T/\wpAny (model X.prog X.w) X.A (getItem v (.ref sl)) (EP X pins σ Q) X.xe s
theorem SlR.or {r r':V->Option Int->Option Int->Hp->VK->Prop}(h:SlR X r)(h':SlR X r'):SlR X (λx lo hi H Q=>r x lo hi H Q\/r' x lo hi H Q):=by
 intro pins s σ H x v vl vu lo hi sl Q I rx hs pl pu q;rcases q with q | q
 ·exact h pins s σ H x v vl vu lo hi sl Q I rx hs pl pu q
 ·exact h' pins s σ H x v vl vu lo hi sl Q I rx hs pl pu q
noncomputable def tSl (r:V->Option Int->Option Int->Hp->VK->Prop)(te:TE)(tl th:TO):TE:=λσ H Q=>te σ H λx H1=>tl σ H1 λl H2=>th σ H2 λu H3=>r x l u H3 Q
theorem oj {r:V->Option Int->Option Int->Hp->VK->Prop}(hr:SlR X r)(he:PE X e te)(hl:PO X lo tl)(hu:PO X hi th):PE X (.Subscript e (.Slice lo hi none p2) pos) (tSl r te tl th):=by
 intro pins s σ H Q I h;refine Subscript_ (thnE (he pins s σ H _ I h) λv s1 x H1 I1 r1 q1=>?_);refine wpAny_Slice (thn (hl pins s1 σ H1 _ I1 q1) λvl s2 zz=>pw22 zz λl H2 I2 pl q2=>thn (hu pins s2 σ H2 _ I2 q2) λvu s3 zz=>pw22 zz λu H3 I3 pu q3=>?_);rw[evalPart_none];refine wpAny_pure ?_;have I4:Inv X pins σ H3 { s3 with heap:=s3.heap.push { cls:=.type "slice",data:=.fields #[vl,vu,.none] } }:=I3.kept (t':=s3.toks) λb ob q=>Heap.get?_push_of_some _ q;(refine pw22 (hr pins { s3 with heap:=s3.heap.push { cls:=.type "slice",data:=.fields #[vl,vu,.none] } } σ H3 x v vl vu l u s3.heap.objs.size Q I4 r1 (Heap.IsSliceOf.new ..) pl pu q3) λT id hT ht hg=>?_);show wpAny (model X.prog X.w) X.A (subscriptTail e (.Slice lo hi none p2) v (.ref s3.heap.objs.size)) (EP X pins σ Q) X.xe { s3 with heap:=s3.heap.push { cls:=.type "slice",data:=.fields #[vl,vu,.none] } };exact tail_any (ops:=[.ref s3.heap.objs.size,v]) ht hT hg (by with_unfolding_all rfl)
noncomputable def cutV (xs:List V)(lo hi:Option Int):List V:=(xs.drop (HT.sIx xs.length 0 lo)).take (HT.sIx xs.length xs.length hi - HT.sIx xs.length 0 lo)
theorem tE (xs:List V)(lo hi:Option Int):(cutV xs lo hi).length<=xs.length:=by
 unfold cutV;rw[List.length_take,List.length_drop];omega
end
noncomputable def ixN (n:Nat)(i:Int):Option Nat:=if 0<=i then(if i < n then some i.toNat else none) else if -(n:Int)<=i then some (i+n).toNat else none
noncomputable def atI {α:Type}(xs:List α)(i:Int):Option α:=(ixN xs.length i).bind λj=>xs[j]?
theorem xg {n:Nat}{i:Int}{j:Nat}(h:ixN n i=some j):seqIndex? i n=some j/\j < n/\-(n:Int)<=i/\i < n:=by
 unfold ixN at h
 by_cases h0:0<=i
 ·rw[if_pos h0] at h
  by_cases h1:i < n
  ·rw[if_pos h1] at h
   have e:i.toNat=j:=Option.some.inj h;exact⟨by rw[seqIndex_of h0 h1,e],by omega,by omega,h1⟩
  ·rw[if_neg h1] at h;cases h
 ·rw[if_neg h0] at h
  by_cases h1:-(n:Int)<=i
  ·rw[if_pos h1] at h
   have e:(i+n).toNat=j:=Option.some.inj h;exact⟨by rw[seqIndex_neg (by omega) h1,e],by omega,h1,by omega⟩
  ·rw[if_neg h1] at h;cases h
theorem rG {α:Type}{xs:List α}{i:Int}{v:α}(h:atI xs i=some v):∃j,seqIndex? i xs.length=some j/\xs[j]?=some v/\j < xs.length/\-(xs.length:Int)<=i/\i < xs.length:=by
 unfold atI at h;cases e:ixN xs.length i with
 | none=>rw[e] at h;cases h
 | some j=>
  rw[e] at h;(refine pw02 (xg e) λh1 h2=>ow01 λh3 h4=>?_);exact(iw14 j h1 h h2 h3 h4)
theorem BF {α:Type}{xs:List α}{j:Nat}{v:α}(h:xs[j]?=some v):atI xs (j:Int)=some v:=by
 have hj:j < xs.length:=(List.getElem?_eq_some_iff.mp h).1;have e:ixN xs.length (j:Int)=some j:=by
  unfold ixN;rw[if_pos (by omega),if_pos (by omega)];simp
 unfold atI;rw[e];exact h
noncomputable def PlainIx (b:Expr):Prop:=∀o i,subscripted b false o i=operate [o,i] (getItem o i)
noncomputable def IxR (X:Cx)(r:R2):Prop:=
 ∀(value slice:Expr) (pins:List (Addr×Obj)) (s:Shared) (σ:St) (H:Hp) (x y:V) (v u:Value) (Q:VK),Inv X pins σ H s->RelV x v->RelV y u->r x y H Q->
  subscripted slice false v u=operate [v,u] (getItem v u)->wpAny (model X.prog X.w) X.A (subscriptTail value slice v u) (EP X pins σ Q) X.xe s
noncomputable def MtR (X:Cx)(id:String)(r:V->List V->Hp->VK->Prop):Prop:=
 ∀(pins:List (Addr×Obj)) (s:Shared) (σ:St) (H:Hp) (x:V) (xs:List V) (v:Value) (us:List Value) (Q:VK),Inv X pins σ H s->RelV x v->Vals xs us->r x xs H Q->
  wpAny (model X.prog X.w) X.A (call (.builtin id) (v::us)) (EP X pins σ Q) X.xe s
section
variable {X:Cx} {a b:Expr} {ta tb:TE} {pos:Pos}
theorem IxR.or {r r':R2}(h:IxR X r)(h':IxR X r'):IxR X (λx y H Q=>r x y H Q\/r' x y H Q):=by
 intro value slice pins s σ H x y v u Q I rx ry q hs;rcases q with q | q
 ·exact h value slice pins s σ H x y v u Q I rx ry q hs
 ·exact h' value slice pins s σ H x y v u Q I rx ry q hs
theorem av {r:R2}(hr:IxR X r)(ha:PE X a ta)(hb:PE X b tb)(hs:PlainIx b):PE X (.Subscript a b pos) (tOp r ta tb):=by
 intro pins s σ H Q I h;exact Subscript_ (binT ha hb I h λv u s2 x y H2 I2 rx ry q=>hr a b pins s2 σ H2 x y v u Q I2 rx ry q (hs _ _))
noncomputable def rIxL (K:W.Frag):R2:=λx y H Q=>∃p xs i v,x=.ref p/\y=.int i/\SqL K H p xs/\atI xs i=some v/\Q v H
noncomputable def rIxT (K:W.Frag):R2:=λx y H Q=>∃p xs i v,x=.ref p/\y=.int i/\SqT K H p xs/\atI xs i=some v/\Q v H
noncomputable def rIxS:R2:=λx y H Q=>∃z i c,x=.str z/\y=.int i/\z.length<=sizeLine/\atI z.cps.toList i=some c/\Q (.str ⟨#[c]⟩) H
theorem BG:IxR X (rIxL X.K):=by
 intro value slice pins s σ H x y v u Q I rx ry h hs;(revert h;refine ow44 λp xs i z zz1 zz2 hq he q=>?_;subst zz1;subst zz2);cases rx;obtain⟨t,rfl⟩:=ry;(refine pw12 (I.list hq) λits r pl hz=>?_);(refine pw13 (rG he) λj h1 h2 h3=>ow01 λh4 h5=>?_);(refine pw11 (r.get h2) λw ew rw'=>?_);have hl:=r.length;have hn:=line63;have fin:EP X pins σ Q w s:=(iw22 z H I rw' q)
 by_cases h0:0<=i
 ·have hj:i.toNat=j:=by
   rw[seqIndex_of h0 h5] at h1;exact Option.some.inj h1
  exact item_listR pl.isList h0 (by omega) (by rw[hj];simpa using ew) fin hs
 ·have hj:(i+(its.toArray.size:Int)).toNat=j:=by
   rw[seqIndex_neg (by omega) h4] at h1;rw[List.size_toArray,<-hl];exact Option.some.inj h1
  exact subscriptTail_builtinR (x:=w) pl.isList.typeIs slot_list_getitem.lookup
   (wpAny_getItem_list_neg (Q:=λr s'=>r=w/\EP X pins σ Q r s') pl.isList (by omega) (by rw[List.size_toArray]<;>omega) (by omega) (by rw[hj];simpa using ew) ⟨rfl,fin⟩) hs
theorem DF:IxR X (rIxT X.K):=by
 intro value slice pins s σ H x y v u Q I rx ry h hs;(revert h;refine ow44 λp xs i z zz1 zz2 hq he q=>?_;subst zz1;subst zz2);cases rx;obtain⟨t,rfl⟩:=ry;(refine pw12 (I.tuple hq) λits r pl hz=>?_);(refine pw13 (rG he) λj h1 h2 h3=>ow01 λh4 h5=>?_);(refine pw11 (r.get h2) λw ew rw'=>?_);have hl:=r.length;have hn:=line63;have fin:EP X pins σ Q w s:=(iw22 z H I rw' q)
 exact subscriptTail_builtinR (x:=w) pl.typeIs slot_tuple_getitem.lookup
  (getItem_tuple (j:=j) (Q:=λr s'=>r=w/\EP X pins σ Q r s') pl (by omega) (by omega) (by rw[List.size_toArray,<-hl];exact h1) (by simpa using ew) ⟨rfl,fin⟩) hs
theorem DG:IxR X rIxS:=by
 intro value slice pins s σ H x y v u Q I rx ry h hs;(revert h;refine ow34 λz i c zz1 zz2 hz he q=>?_;subst zz1;subst zz2);obtain⟨t,rfl⟩:=rx;obtain⟨t',rfl⟩:=ry;(refine pw13 (rG he) λj h1 h2 h3=>ow01 λh4 h5=>?_);have hl:z.cps.toList.length=z.length:=by simp[Str.length]
 rw[hl] at h1 h4 h5;have hn:=line63
 exact tail_any (typeIs_str s z t) slot_str_getitem.lookup (getItem_str (c:=c) (by
  have e1:decide (i < -(2 ^ 63:Int))=false:=decide_eq_false (by omega);have e2:decide (i≥2 ^ 63)=false:=decide_eq_false (by omega)
  rw[e1,e2,Bool.or_false]) (by rw[h1];simpa using h2) (iw22 (.str ⟨#[c]⟩) H (I.tok _) ⟨_,rfl⟩ q)) hs
theorem vg (its:List Value)(n j:Nat)(u:Value):Obj.mapSeq (·.setIfInBounds j u) { cls:=.type "list",data:=.seq its.toArray n }={ cls:=.type "list",data:=.seq (its.set j u).toArray n }:=by
 simp[Obj.mapSeq]
theorem Inv.lst {pins:List (Addr×Obj)}{σ:St}{H:Hp}{s:Shared}{p:Addr}{xs:List V}(I:Inv X pins σ H s)(h:H p=some (.lst xs)) :
  ∃(its:List Value) (n:Nat),Vals xs its/\s.heap.get? p=some { cls:=.type "list",data:=.seq its.toArray n }/\xs.length<=sizeLine:=by
 (refine pw01 (I.hok p _ h) λz=>ow21 λits n r e=>?_);exact(iw22 its n r e z)
theorem Inv.lstUpd {pins:List (Addr×Obj)}{σ:St}{H:Hp}{s:Shared}{p:Addr}{xs ys:List V}{its its':List Value}{n n':Nat}{f:Obj->Obj}(I:Inv X pins σ H s)(h:H p=some (.lst xs))
  (ho:s.heap.get? p=some { cls:=.type "list",data:=.seq its.toArray n }) (hf:f { cls:=.type "list",data:=.seq its.toArray n }={ cls:=.type "list",data:=.seq its'.toArray n' }) (r:Vals ys its') (hz:ys.length<=sizeLine) (t:Nat) :
  Inv X pins σ (upd H p (.lst ys)) { s with heap:=s.heap.update p f,toks:=t }:=by
 have e:(s.heap.update p f).get? p=some { cls:=.type "list",data:=.seq its'.toArray n' }:=by
  rw[Heap.get?_update_self f ho (by rw[hf]<;>rfl),hf]
 refine I.write (x:=p) (e:=p) (by rw[h];trivial) (.inl rfl) (λb u hb q=>(Heap.get?_update_other _ _ (Ne.symm hb)).trans q) ⟨_,e⟩ ?_;exact⟨hz,(iw21 its' n' r e)⟩
noncomputable def rSetL:V->V->V->Hp->(Hp->Prop)->Prop:=λo i v H Q=>∃p xs k j,o=.ref p/\i=.int k/\H p=some (.lst xs)/\ixN xs.length k=some j/\Q (upd H p (.lst (xs.set j v)))
theorem set_list:PSet X rSetL:=by
 intro pins s σ H o i v ov iv u Q I ro ri rv h;(revert h;refine ow44 λp xs k j zz1 zz2 hp hj q=>?_;subst zz1;subst zz2);cases ro;obtain⟨t,rfl⟩:=ri;(refine pw22 (I.lst hp) λits n r ho hz=>?_);(refine pw02 (xg hj) λh1 h2=>ow01 λh3 h4=>?_);have hl:=r.length;have hn:=line63;have I':Inv X pins σ (upd H p (.lst (xs.set j v))) { s with heap:=s.heap.update p (Obj.mapSeq (·.setIfInBounds j u)) }:=
  I.lstUpd hp ho (vg its n j u) (r.set rv j) (by rw[List.length_set];exact hz) s.toks
 by_cases h0:0<=k
 ·have hk:k.toNat=j:=by
   rw[seqIndex_of h0 h4] at h1;exact Option.some.inj h1
  exact W.ki_setAt ho h0 (by omega) (by rw[List.size_toArray,<-hl];exact h4) (by rw[hk];exact(iw11 _ I' q))
 ·have hk:(k+(its.toArray.size:Int)).toNat=j:=by
   rw[seqIndex_neg (by omega) h3] at h1;rw[List.size_toArray,<-hl];exact Option.some.inj h1
  exact W.ki_setBack ho (by omega) (by rw[List.size_toArray,<-hl];exact h3) (by omega) (by rw[hk];exact(iw11 _ I' q))
theorem rH (lo hi:Option Int)(n:Nat):(sliceBounds lo hi none n).1=((HT.sIx n 0 lo:Nat):Int)/\(sliceBounds lo hi none n).2.1=((HT.sIx n n hi:Nat):Int)/\(sliceBounds lo hi none n).2.2=1:=by
 refine⟨?_,?_,rfl⟩
 ·cases lo with
  | none=>simp[sliceBounds,HT.sIx]
  | some i=>
   simp only[sliceBounds,HT.sIx,Option.getD_none,show(1:Int) > 0 by decide,if_true]
   by_cases h:i < 0
   ·simp only[h,if_true]<;>omega
   ·simp only[h,if_false]<;>omega
 ·cases hi with
  | none=>simp[sliceBounds,HT.sIx]
  | some i=>
   simp only[sliceBounds,HT.sIx,Option.getD_none,show(1:Int) > 0 by decide,if_true]
   by_cases h:i < 0
   ·simp only[h,if_true]<;>omega
   ·simp only[h,if_false]<;>omega
theorem pZ (its:List Value)(lo hi:Option Int):slicePick its.toArray lo hi none=((its.drop (HT.sIx its.length 0 lo)).take (HT.sIx its.length its.length hi - HT.sIx its.length 0 lo)).toArray:=by
 (refine pw02 (rH lo hi its.toArray.size) λh1 h2 h3=>?_);unfold slicePick;rw[h1,h2,h3];simp only[sliceRange_one,pick_run,List.size_toArray]<;>rfl
noncomputable def rSlL (K:W.Frag):V->Option Int->Option Int->Hp->VK->Prop:=λx lo hi H Q=>∃a xs,x=.ref a/\SqL K H a xs/\∀p,H p=none->Q (.ref p) (upd H p (.lst (cutV xs lo hi)))
theorem BH:SlR X (rSlL X.K):=by
 intro pins s σ H x v vl vu lo hi sl Q I rx hs pl pu h;(revert h;refine ow22 λa xs zz1 hx q=>?_;subst zz1);cases rx;(refine pw12 (I.list hx) λits r ht hz=>?_);have hlen:=r.length;refine(iw22 ("list") _ slot_list_getitem.lookup ht.isList.typeIs ?_);refine wpAny_getItem_list_slice ht.isList hs pl pu .none (by simp) ?_ (by rw[List.size_toArray]<;>omega);rw[pZ,<-hlen];refine(iw22 (.ref s.heap.objs.size) _ (I.laid (t':=s.toks) (o:=.lst (cutV xs lo hi)) (λb ob q=>Heap.get?_push_of_some _ q) (Nat.le_refl _) ?_) rfl (q _ (I.hok.fresh (Nat.le_refl _))));exact⟨Nat.le_trans (tE xs lo hi) hz,(iw21 _ 0 ((r.drop (HT.sIx xs.length 0 lo)).take (HT.sIx xs.length xs.length hi - HT.sIx xs.length 0 lo)) (Heap.get?_push_size _ rfl))⟩
noncomputable def flatV:V->Bool
 | .non=>true
 | .bl _=>true
 | .int _=>true
 | .str _=>true
 | _=>false
noncomputable def eqV:V->V->Bool
 | .non,.non=>true
 | .bl a,.bl b=>a == b
 | .bl a,.int b=>(if a then 1 else 0) == b
 | .int a,.bl b=>a == (if b then 1 else 0)
 | .int a,.int b=>a == b
 | .str a,.str b=>a == b
 | _,_=>false
theorem DH {A:Around}{s:Shared}{y x:V}{u v:Value}(ry:RelV y u)(rx:RelV x v)(fy:flatV y=true)(fx:flatV x=true):SeqAt.EqAt A s u v (eqV y x):=by
 cases y with
 | non=>
  cases ry;cases x with
  | non=>cases rx;exact SeqAt.EqAt.same _
  | bl b=>cases rx;exact SeqAt.EqAt.none_bool b
  | int b=>obtain⟨t,rfl⟩:=rx;exact SeqAt.EqAt.none_int b t
  | str b=>obtain⟨t,rfl⟩:=rx;exact SeqAt.EqAt.none_str b t
  | _=>exact absurd (show false=true from fx) Bool.false_ne_true
 | bl a=>
  cases ry;cases x with
  | non=>cases rx;exact SeqAt.EqAt.bool_none a
  | bl b=>cases rx;exact SeqAt.EqAt.bool_bool a b
  | int b=>obtain⟨t,rfl⟩:=rx;exact SeqAt.EqAt.bool_int a b t
  | str b=>obtain⟨t,rfl⟩:=rx;exact SeqAt.EqAt.bool_str a b t
  | _=>exact absurd (show false=true from fx) Bool.false_ne_true
 | int a=>
  obtain⟨t',rfl⟩:=ry;cases x with
  | non=>cases rx;exact SeqAt.EqAt.int_none a t'
  | bl b=>cases rx;exact SeqAt.EqAt.int_bool a t' b
  | int b=>obtain⟨t,rfl⟩:=rx;exact SeqAt.EqAt.int_int a t' b t
  | str b=>obtain⟨t,rfl⟩:=rx;exact SeqAt.EqAt.int_str a t' b t
  | _=>exact absurd (show false=true from fx) Bool.false_ne_true
 | str a=>
  obtain⟨t',rfl⟩:=ry;cases x with
  | non=>cases rx;exact SeqAt.EqAt.str_none a t'
  | bl b=>cases rx;exact SeqAt.EqAt.str_bool a t' b
  | int b=>obtain⟨t,rfl⟩:=rx;exact SeqAt.EqAt.str_int a t' b t
  | str b=>obtain⟨t,rfl⟩:=rx;exact SeqAt.EqAt.str_str a t' b t
  | _=>exact absurd (show false=true from fx) Bool.false_ne_true
 | _=>exact absurd (show false=true from fy) Bool.false_ne_true
noncomputable def eqU (x:V)(u:Value):Bool:=match u with
 | .none=>eqV .non x
 | .bool b=>eqV (.bl b) x
 | .int i _=>eqV (.int i) x
 | .str z _=>eqV (.str z) x
 | _=>false
theorem Aj {x y:V}{u:Value}(r:RelV y u)(f:flatV y=true):eqU x u=eqV y x:=by
 cases y with
 | non=>cases r;rfl
 | bl b=>cases r;rfl
 | int i=>obtain⟨t,rfl⟩:=r;rfl
 | str z=>obtain⟨t,rfl⟩:=r;rfl
 | _=>exact absurd (show false=true from f) Bool.false_ne_true
theorem kD {x:V}:∀{xs:List V} {us:List Value},Vals xs us->xs.all flatV=true->us.any (eqU x)=xs.any λy=>eqV y x
 | _,_,.nil,_=>rfl
 | y::xs,u::us,.cons r t,f=>by
  rw[List.all_cons,Bool.and_eq_true] at f;rw[List.any_cons,List.any_cons,Aj r f.1,kD t f.2]
theorem iE {A:Around}{s:Shared}{x:V}{v:Value}(rx:RelV x v)(fx:flatV x=true):∀{xs:List V} {us:List Value},Vals xs us->xs.all flatV=true->∀u∈us,SeqAt.EqAt A s u v (eqU x u)
 | _,_,.nil,_=>λu hu=>by cases hu
 | y::xs,u::us,.cons r t,f=>λu' hu=>by
  rw[List.all_cons,Bool.and_eq_true] at f;rcases List.mem_cons.mp hu with rfl | hu
  ·rw[Aj r f.1];exact DH r rx f.1 fx
  ·exact iE rx fx t f.2 u' hu
noncomputable def inV (x:V)(xs:List V):Bool:=xs.any λy=>eqV y x
noncomputable def rIn (K:W.Frag)(neg:Bool):R2:=λx y H Q=>∃p xs,y=.ref p/\(SqL K H p xs\/SqT K H p xs)/\flatV x=true/\xs.all flatV=true/\Q (.bl (if neg then !inV x xs else inV x xs)) H
theorem xV:OpR X (compareOp .In) (rIn X.K false):=by
 intro pins s σ H x y v u Q I rx ry h;(revert h;refine ow24 λp xs zz1 hq fx fs q=>?_;subst zz1);cases ry;rcases hq with hq | hq
 ·(refine pw12 (I.list hq) λits r pl hz=>?_)
  refine SeqAt.in_listAt (eqU x) pl.isList (λw hw=>iE rx fx r fs w (by simpa using hw)) (iw22 (.bl _) H I rfl ?_);rw[show its.toArray.any (eqU x)=its.any (eqU x) by simp,kD r fs];exact q
 ·(refine pw12 (I.tuple hq) λits r pl hz=>?_)
  refine SeqAt.in_tupleAt (eqU x) pl (λw hw=>iE rx fx r fs w (by simpa using hw)) (iw22 (.bl _) H I rfl ?_);rw[show its.toArray.any (eqU x)=its.any (eqU x) by simp,kD r fs];exact q
theorem rJ:OpR X (compareOp .NotIn) (rIn X.K true):=by
 intro pins s σ H x y v u Q I rx ry h;(revert h;refine ow24 λp xs zz1 hq fx fs q=>?_;subst zz1);cases ry;rcases hq with hq | hq
 ·(refine pw12 (I.list hq) λits r pl hz=>?_)
  refine SeqAt.notIn_listAt (eqU x) pl.isList (λw hw=>iE rx fx r fs w (by simpa using hw)) (iw22 (.bl _) H I rfl ?_);rw[show its.toArray.any (eqU x)=its.any (eqU x) by simp,kD r fs];exact q
 ·(refine pw12 (I.tuple hq) λits r pl hz=>?_)
  refine SeqAt.notIn_tupleAt (eqU x) pl (λw hw=>iE rx fx r fs w (by simpa using hw)) (iw22 (.bl _) H I rfl ?_);rw[show its.toArray.any (eqU x)=its.any (eqU x) by simp,kD r fs];exact q
theorem rK:OpR X (compareOp .NotIn) (λx y H Q=>∃i j,x=.str i/\y=.str j/\Q (.bl (!(!(Builtin.Str.occurrences j i 0 j.length 1).isEmpty))) H):=by
 intro pins s σ H x y v u Q I rx ry h;(revert h;refine ow22 λi j zz1 zz2 q=>?_;subst zz1;subst zz2);obtain⟨t,rfl⟩:=rx;obtain⟨t',rfl⟩:=ry;exact notIn_str (iw22 (.bl _) H I rfl q)
theorem rL:CallR X (.builtin "len") (λxs H Q=>∃p ys,xs=[.ref p]/\(SqL X.K H p ys\/SqT X.K H p ys)/\Q (.int ys.length) H):=by
 intro pins s σ H xs us Q I r h;(revert h;refine ow22 λp ys zz1 hq q=>?_;subst zz1);(refine pw11 (vals1 r) λu zz1 rx=>?_;subst zz1);cases rx;have hn:=line63;rcases hq with hq | hq
 ·(refine pw12 (I.list hq) λits r' pl hz=>?_)
  have hlen:=r'.length;exact Calls.call_len_list pl.isList (by simp only[List.size_toArray]<;>omega) (iw22 (.int ys.length) H (I.tok _) ⟨s.toks+1,by rw[List.size_toArray,hlen]⟩ q)
 ·(refine pw12 (I.tuple hq) λits r' pl hz=>?_)
  have hlen:=r'.length;exact len_tuple pl (by simp only[List.size_toArray]<;>omega) (iw22 (.int ys.length) H (I.tok _) ⟨s.toks+1,by rw[List.size_toArray,hlen]⟩ q)
theorem rM:CallR X (.builtin "len") (λxs H Q=>∃z,xs=[.str z]/\z.length<=sizeLine/\Q (.int z.length) H):=by
 intro pins s σ H xs us Q I r h;(revert h;refine ow12 λz zz1 hz q=>?_;subst zz1);(refine pw11 (vals1 r) λu zz1=>ow10 λt zz2=>?_;subst zz1;subst zz2);have hn:=line63;exact len_str (by omega) (iw22 (.int z.length) H (I.tok _) ⟨_,rfl⟩ q)
theorem CallR.or {f:Value}{r r':List V->Hp->VK->Prop}(h:CallR X f r)(h':CallR X f r'):CallR X f (λxs H Q=>r xs H Q\/r' xs H Q):=by
 intro pins s σ H xs us Q I rs q;rcases q with q | q
 ·exact h pins s σ H xs us Q I rs q
 ·exact h' pins s σ H xs us Q I rs q
theorem rN:CallR X (.type "list") (λxs H Q=>∃p ys,xs=[.ref p]/\(SqL X.K H p ys\/SqT X.K H p ys)/\∀l,H l=none->Q (.ref l) (upd H l (.lst ys))):=by
 intro pins s σ H xs us Q I r h;(revert h;refine ow22 λp ys zz1 hq q=>?_;subst zz1);(refine pw11 (vals1 r) λu zz1 rx=>?_;subst zz1);cases rx;have fin:∀(its:List Value),Vals ys its->ys.length<=sizeLine->∀(h':Heap) (c':Nat),(∀b o',s.heap.get? b=some o'->h'.get? b=some o')->
   h'.get? s.heap.objs.size=some { cls:=.type "list",dict:=none,data:=.seq its.toArray c',slots:=#[] }->EP X pins σ Q (.ref s.heap.objs.size) { s with heap:=h' }:=λits r' hz h' c' kp e=>
  (iw22 (.ref s.heap.objs.size) _ (I.laid (t':=s.toks) kp (Nat.le_refl _) (show ObjOk X.prog X.w _ h' _ (.lst ys) from⟨hz,(iw21 its c' r' e)⟩)) rfl (q _ (I.hok.fresh (Nat.le_refl _))))
 rcases hq with hq | hq
 ·(refine pw12 (I.list hq) λits r' pl hz=>?_)
  have hlen:=r'.length;(refine pw12 pl.isList λo ho hc=>ow10 λn hd=>?_);exact call_list_seq p (.inl rfl) ho hc hd (λh' c' kp e=>fin its r' hz h' c' kp e) (by simp only[List.size_toArray]<;>omega)
 ·(refine pw12 (I.tuple hq) λits r' pl hz=>?_)
  have hlen:=r'.length;(revert pl;refine ow12 λo ho hc=>ow10 λn hd=>?_);exact call_list_seq p (.inr rfl) ho hc hd (λh' c' kp e=>fin its r' hz h' c' kp e) (by simp only[List.size_toArray]<;>omega)
noncomputable def tyV (K:W.Frag)(T:String)(x:V)(H:Hp):Prop:=match x with
 | .str _=>T="str"
 | .int _=>T="int"
 | .ref p=>(T="list" /\ ∃xs,SqL K H p xs)\/(T="tuple" /\ ∃o,K.lookup p=some o/\o.cls=.type "tuple" /\ o.dict=none)\/
   (T="dict" /\ ((∃kvs,H p=some (.dK kvs))\/∃kvs,H p=some (.dT kvs)))\/(T="set" /\ ∃S n,H p=some (.set S n))
 | _=>False
theorem DI {pins:List (Addr×Obj)}{σ:St}{H:Hp}{s:Shared}{T:String}{x:V}{v:Value}(I:Inv X pins σ H s)(r:RelV x v)(ty:tyV X.K T x H) :
  s.TypeIs v T/\∀a,v=.ref a->∃ob,s.heap.get? a=some ob/\ob.dict=none:=by
 cases x with
 | str z=>
  obtain⟨t,rfl⟩:=r;cases (show T="str" from ty);exact⟨typeIs_str s z t,λ_ e=>nomatch e⟩
 | int i=>
  obtain⟨t,rfl⟩:=r;cases (show T="int" from ty);exact⟨typeIs_int s i t,λ_ e=>nomatch e⟩
 | ref p=>
  cases r;rcases ty with⟨rfl,xs,hq⟩ | ⟨rfl,o,hk,hc,hd⟩ | ⟨rfl,hk⟩ | ⟨rfl,S,n,hk⟩
  ·(refine pw12 (I.list hq) λits _ pl _=>?_)
   refine⟨pl.isList.typeIs,λa e=>?_⟩;cases e;(revert pl;refine ow23 λo n e c hd _=>?_);exact(iw11 o e hd)
  ·refine⟨(iw11 o (I.kIn p o hk) hc),λa e=>?_⟩
   cases e;exact(iw11 o (I.kIn _ o hk) hd)
  ·have z:∃o,s.heap.get? p=some o/\o.ExactDict:=by
    rcases hk with⟨kvs,hk⟩ | ⟨kvs,hk⟩
    ·(refine pw02 (I.hok p _ hk) λ_ _=>ow11 λ_ _=>ow32 λo _ _ e ex _=>?_)
     exact(iw11 o e ex)
    ·(refine pw02 (I.hok p _ hk) λ_ _=>ow11 λ_ _=>ow32 λo _ _ e ex _=>?_)
     exact(iw11 o e ex)
   (revert z;refine ow11 λo e ex=>?_);refine⟨(iw11 o e ex.1),λa e2=>?_⟩;cases e2;exact(iw11 o e ex.2.1)
  ·(refine pw41 (I.hok p _ hk) λo _ _ _ e=>ow01 λex _=>?_)
   refine⟨(iw11 o e ex.1),λa e2=>?_⟩;cases e2;exact(iw11 o e ex.2.1)
 | _=>exact False.elim ty
noncomputable def tBM0 (K:W.Frag)(T:String)(r:V->List V->Hp->VK->Prop)(to:TE):TE:=λσ H Q=>to σ H λx H1=>tyV K T x H1/\r x [] H1 Q
noncomputable def tBM (K:W.Frag)(T:String)(r:V->List V->Hp->VK->Prop)(to:TE)(t:TA):TE:=λσ H Q=>to σ H λx H1=>tyV K T x H1/\t σ H1 λxs H2=>r x xs H2 Q
variable {o e:Expr} {es:List Expr} {to:TE} {t:TA} {name:Str} {apos cpos:Pos} {T id:String} {r:V->List V->Hp->VK->Prop}
theorem EO (pa:PlainAttrs T)(slot:Slot T name id)(hty:typeOf (.builtin id)=pure (.type "method_descriptor"))(hm:MtR X id r)(ho:PE X o to)(ha:PA X (e::es) t)
  (hbase:autoParam (attributeBase o name X.env (eval o X.env)=eval o X.env) L2.dft3._auto_1)
  (hfew:autoParam (((backTo cpos (starEach (e::es) X.env)).all (λx=>!x.1) && (backToKw cpos (keywordEach [] X.env)).all (λx=>x.1.isSome)
   && decide ((e::es).length+([]:List Keyword).length+(if ([]:List Keyword).isEmpty then 0 else 1) < 30))=true) L2.dft3._auto_1)
  (hline:autoParam ((apos.endLine == cpos.line)=true) L2.dft3._auto_1) (hs:autoParam (starEach (e::es) X.env=(false,eval e X.env)::starEach es X.env) L2.dft3._auto_1) (hplain:autoParam ((backTo cpos (starEach es X.env)).any (·.1)=false) L2.dft3._auto_1) :
  PE X (.Call (.Attribute o name apos) (e::es) [] cpos) (tBM X.K T r to t):=by
 intro pins s σ H Q I h;refine wpAny_Call_method_late hbase hfew hline rfl (thn (ho pins s σ H _ I h) λv s1 zz=>pw23 zz λx H1 I1 r1 ty q1=>?_);obtain⟨h1,h2⟩:=DI I1 r1 ty;refine(iw24 T id pa slot hty h1 ⟨h2,?_⟩);have hA:=ha cpos pins s1 σ H1 _ I1 q1;rw[hs] at hA ⊢;refine Calls.callWith_builtin (by show(false || (backTo cpos (starEach es X.env)).any (·.1))=false;rw[hplain]<;>rfl) (Calls.evalArgs_plain ?_);exact thn hA λus s2 zz=>pw22 zz λvs H2 I2 r2 q2=>hm pins s2 σ H2 x vs v us Q I2 r1 r2 q2
end
noncomputable def MtM (X:Cx)(id:String)(r:V->List V->Hp->VK->Prop):Prop:=
 ∀(pins:List (Addr×Obj)) (s:Shared) (σ:St) (H:Hp) (x:V) (xs:List V) (v:Value) (us:List Value) (Q:VK),Inv X pins σ H s->RelV x v->Vals xs us->r x xs H Q->
  wpAny (model X.prog X.w) X.A (call (.builtin id) (v::us)) (EP X pins σ Q) X.xe s
theorem Vals.one:∀{x:V} {us:List Value},Vals [x] us->∃u,us=[u]/\RelV x u
 | _,_,.cons r .nil=>(iw11 _ rfl r)
theorem Vals.rep {xs:List V}{us:List Value}(h:Vals xs us):∀k:Nat,Vals (List.replicate k xs).flatten (List.replicate k us).flatten
 | 0=>.nil
 | k+1=>by
  rw[List.replicate_succ,List.replicate_succ,List.flatten_cons,List.flatten_cons];exact Vals.append h (Vals.rep h k)
theorem foldl_rep (its:List Value):∀(k:Nat) (acc:List Value),
  List.foldl (λx1 x2=>x1++x2) acc.toArray (List.replicate k its.toArray)=(acc++(List.replicate k its).flatten).toArray
 | 0,acc=>by simp
 | k+1,acc=>by
  have e:acc.toArray++its.toArray=(acc++its).toArray:=by simp
  have e2:(acc++its)++(List.replicate k its).flatten=acc++(List.replicate (k+1) its).flatten:=by
   rw[List.replicate_succ,List.flatten_cons,List.append_assoc]
  rw[<-e2,<-foldl_rep its k (acc++its),<-e,List.replicate_succ,List.foldl_cons]
section
variable {X:Cx} {pins:List (Addr×Obj)} {σ:St} {H:Hp} {s:Shared} {l b:Addr} {xs ys zs:List V}
theorem Inv.lset {its its':List Value}{n:Nat}{f:Array Value->Array Value}{t':Nat}(I:Inv X pins σ H s)(hH:H l=some (.lst xs))
  (e:s.heap.get? l=some { cls:=.type "list",data:=.seq its.toArray n }) (hf:f its.toArray=its'.toArray) (hv:Vals ys its') (hz:ys.length<=sizeLine) :
  Inv X pins σ (upd H l (.lst ys)) { s with heap:=s.heap.update l (Obj.mapSeq f),toks:=t' }:=by
 have q:=PySem.IsL.update e f;rw[hf] at q;refine I.write (x:=l) (e:=l) (by rw[hH];exact trivial) (.inl rfl) (λb' u hb hu=>(Heap.get?_update_other s.heap (Obj.mapSeq f) (Ne.symm hb)).trans hu) ⟨_,q⟩ ?_;exact⟨hz,(iw21 its' _ hv q)⟩
theorem Inv.lnew {its:List Value}{t':Nat}(I:Inv X pins σ H s)(hv:Vals ys its)(hz:ys.length<=sizeLine) :
  Inv X pins σ (upd H s.heap.objs.size (.lst ys)) { s with heap:=s.heap.push { cls:=.type "list",data:=.seq its.toArray },toks:=t' }:=
 I.laid (λ_ _ q=>Heap.get?_push_of_some _ q) (Nat.le_refl _) ⟨hz,(iw21 its 0 hv (Heap.get?_push_size _ rfl))⟩
theorem Inv.fresh (I:Inv X pins σ H s):H s.heap.objs.size=none:=I.hok.fresh (Nat.le_refl _)
theorem Inv.lstM (I:Inv X pins σ H s)(hH:H l=some (.lst xs)):xs.length<=sizeLine/\∃(its:List Value) (n:Nat),Vals xs its/\xs.length=its.length/\s.heap.get? l=some { cls:=.type "list",data:=.seq its.toArray n }:=by
 (refine pw01 (I.hok l _ hH) λz=>ow21 λits n r e=>?_);exact⟨z,(iw22 its n r r.length e)⟩
theorem notLongL {n:Nat}(h:n<=sizeLine):Builtin.List.listTooLong n=false:=by
 unfold Builtin.List.listTooLong;exact decide_eq_false (by omega)
end
section
variable {X:Cx}
noncomputable def rAppend:V->List V->Hp->VK->Prop:=λx vs H Q=>∃l xs y,x=.ref l/\vs=[y]/\H l=some (.lst xs)/\xs.length < sizeLine/\Q .non (upd H l (.lst (xs++[y])))
theorem cP:MtM X "list.append" rAppend:=by
 intro pins s σ H x vs v us Q I rx rv h;(revert h;refine ow34 λl xs y zz1 zz2 hH hz q=>?_;subst zz1;subst zz2);cases rx;(refine pw11 rv.one λu zz1 ru=>?_;subst zz1);(refine pw01 (I.lstM hH) λz=>ow22 λits n r hl e=>?_);refine call_meets F.slot_list_append (iw11 _ e rfl) F.entry_list_append (F.args_list_append_2 _ _) (PySem.list_append l its.toArray n u (by rw[List.size_toArray];omega)) ⟨e,?_⟩;refine(iw22 (.non) _ (I.lset (its':=its++[u]) hH e (by simp) (r.append (.cons ru .nil)) ?_) rfl q);rw[List.length_append,List.length_singleton];omega
noncomputable def rExtend:V->List V->Hp->VK->Prop:=λx vs H Q=>∃l b xs zs,x=.ref l/\vs=[.ref b]/\H l=some (.lst xs)/\H b=some (.lst zs)/\xs.length+zs.length<=sizeLine/\Q .non (upd H l (.lst (xs++zs)))
theorem xW:MtM X "list.extend" rExtend:=by
 intro pins s σ H x vs v us Q I rx rv h;(revert h;refine ow44 λl b xs zs zz1 zz2 hH hB=>ow01 λhz q=>?_;subst zz1;subst zz2);cases rx;(refine pw11 rv.one λu zz1 ru=>?_;subst zz1);cases ru;(refine pw01 (I.lstM hH) λz=>ow22 λits n r hl e=>?_);(refine pw01 (I.lstM hB) λz2=>ow22 λits2 n2 r2 hl2 e2=>?_);have hsz:its.toArray.size+its2.toArray.size<=sizeLine:=by rw[List.size_toArray,List.size_toArray];omega
 have hlong:¬(!its.toArray.isEmpty && Builtin.List.listTooLong (its.toArray.size+its2.toArray.size))=true:=by
  rw[notLongL hsz,Bool.and_false];exact Bool.false_ne_true
 refine call_meets F.slot_list_extend (iw11 _ e rfl) F.entry_list_extend (F.args_list_extend_2 _ _)
  (AutoSeq1.list_extend_list_list_0 l its.toArray n b its2.toArray n2 hlong (by rw[List.size_toArray];omega) (by omega)) ⟨e,e2,?_⟩
 refine(iw22 (.non) _ (I.lset (its':=its++its2) hH e (by simp) (r.append r2) ?_) rfl q);rw[List.length_append];omega
noncomputable def rRep:R2:=λx y H Q=>∃l k xs,x=.ref l/\y=.int k/\H l=some (.lst xs)/\-(2 ^ 63)<=k/\k < 2 ^ 63/\xs.length * k.toNat<=sizeLine/\
 ∀p,H p=none->Q (.ref p) (upd H p (.lst (List.replicate k.toNat xs).flatten))
theorem len_rep {α:Type}(xs:List α)(k:Nat):(List.replicate k xs).flatten.length=k * xs.length:=by
 induction k with
 | zero=>simp
 | succ k ih=>rw[List.replicate_succ,List.flatten_cons,List.length_append,ih,Nat.succ_mul,Nat.add_comm]
theorem DJ:OpR X (binaryOp .Mult) rRep:=by
 intro pins s σ H x y v u Q I rx ry h;(revert h;refine ow34 λl k xs zz1 zz2 hH h1=>ow02 λh2 hz q=>?_;subst zz1;subst zz2);cases rx;obtain⟨t,rfl⟩:=ry;(refine pw01 (I.lstM hH) λz=>ow22 λits n r hl e=>?_);have hlen:its.toArray.size * k.toNat<=sizeLine:=by rw[List.size_toArray,<-hl];exact hz
 have hcap:¬its.toArray.size * k.toNat > (2 ^ 63 - 1) / 8:=by
  have:(sizeLine:Nat)<=(2 ^ 63 - 1) / 8:=by decide
  omega
 have hfit:¬(!Builtin.List.listFitsIndex k)=true:=by
  rw[fitsIndex_both h1 h2];exact Bool.false_ne_true
 have hlong:¬Builtin.List.listTooLong (its.toArray.size * k.toNat)=true:=by
  rw[notLongL hlen];exact Bool.false_ne_true
 have hnew:List.foldl (λx1 x2=>x1++x2) #[] (List.replicate (if its.toArray.isEmpty=true then 0 else k.toNat) its.toArray)=(List.replicate k.toNat its).flatten.toArray:=by
  have f0:∀m:Nat,List.foldl (λx1 x2=>x1++x2) #[] (List.replicate m its.toArray)=(List.replicate m its).flatten.toArray:=λm=>by
   have:=foldl_rep its m [];rw[List.nil_append] at this;exact this
  rw[f0];cases its with
  | nil=>simp
  | cons a r'=>rw[if_neg (by simp)]
 refine wpAny_binaryOp_repeat_ref (T:="list") (U:="int") (by decide) (iw11 _ e rfl) (λs'=>typeIs_int s' k t) noFill_list_mul F.fills_int_mul F.slot_int_rmul repeat_list F.slot_int_index.lookup
  (call_meets F.slot_int_rmul (typeIs_int s k t) F.entry_int_rmul (F.args_int_rmul_2 _ _) (int___rmul___int_list k t l its.toArray n)
   ⟨e,rfl,(iw11 _ e rfl),call_meets F.slot_list_mul (iw11 _ e rfl) F.entry_list_mul (F.args_list_mul_2 _ _) (AutoListH.list___mul___list_int_3 l its.toArray n k t hfit hcap hlong) ⟨e,?_⟩⟩)
 rw[hnew];exact(iw22 (.ref _) _ (I.lnew (t':=s.toks) (r.rep k.toNat) (by rw[len_rep,Nat.mul_comm];exact hz)) rfl (q _ I.fresh))
end
section
variable {prog:Program} {w:World} {A:Around} {E:Value->Shared->Prop} {s:Shared}
end
section
variable {X:Cx}
end
end L2
namespace Att
open PySem PySem.W PySem.Calls PyProof.Rows
theorem nj {P:Params}{h:Heap}:∀(ns:List Int) (vs:List Value),WellAll P h vs (ns.map WData.int)->IntsAre vs ns:=by
 intro ns
 induction ns with
 | nil=>
  intro vs w;rw[List.map_nil] at w;cases w;exact .nil
 | cons n ns ih=>
  intro vs w;rw[List.map_cons] at w;cases w with
  | cons a b=>
   cases a;exact .cons _ _ (ih _ b)
theorem xX {l:OpenLaw}{n:Nat}(hn:l.most=some n){P:Params}{h:Heap}{args:List WData}{vals:List Value}
  (hpre:l.row.toRowW.claim.pre args=true) (hwl:WellAll P h vals args) :
  ∃a vs ns,vals=[Value.ref a]/\args=[WData.list (ns.map WData.int)]/\h.get? a=some { cls:=.type "list",data:=.seq vs.toArray }/\IntsAre vs ns/\ns.length<=n:=by
 have hsh:WShape.hasAll [] args [.list .int]=true:=(pre_splitW hpre).1;have hc:l.pre.holds [] { args:=args }=true:=(pre_splitW hpre).2;(refine pw22 (hasAllW_cons hsh) λd r zz1 h1 h2=>?_;subst zz1);obtain rfl:=hasAllW_nil h2;(refine pw11 (hasW_list h1) λxs zz1 h3=>?_;subst zz1);obtain⟨ns,rfl⟩:=items_int h3;have hlen:ns.length<=n:=by
  unfold OpenLaw.pre at hc;have h4:(WTm.not (.lt (.lit (.int (n:Int))) (.len (.arg 0)))).holds [] { args:=[.list (ns.map .int)] }=true:=by
   have h4:=(holds_andW hc).1;rw[hn] at h4;exact h4
  have h5:=condW_of h4 (w_not (w_lt w_lit (w_len_list (w_arg rfl))));rw[List.length_map] at h5;refine Nat.le_of_not_lt λq=>?_;have q':(n:Int) < ((ns.length:Nat):Int):=by omega
  first
   | (rw[decide_eq_true q'] at h5;exact absurd h5 (by decide))
   | (simp at h5;omega)
 cases hwl with
 | cons w1 w2=>
  cases w2;cases w1 with
  | list ho hall=>exact(iw34 _ _ ns rfl rfl ho (nj ns _ hall) hlen)
theorem xY (l:OpenLaw)(args:List WData):l.row.toRowW.claim.post args (.bool true) args=true:=
 postW_of (r:=l.row.toRowW) (X:=(true == true))
  (show WShape.has [] (.bool true) .bool=true by first | rfl | decide | simp[WShape.has,WShape.arms,WShape.armsAll])
  (show(WTm.eq .res (.lit (.bool true))).value [] { args:=args,res:=some (.bool true),after:=args }=some (.bool (true == true)) from w_eq_bool (w_res rfl) w_lit) rfl
theorem tF {l:OpenLaw}{n:Nat}{q:Program}{loose:List Str}{XP:(Str->Option Value)->Heap->Prop}{YP:World->Heap->Prop}{d:DefRec}
  (hn:l.most=some n) (hdf:d.params.defaults=[])
  (call:∀(w:World) (s₀ s₁:Shared) (mg mb:Str->Option Value) (fa:Addr) (o:Obj) (pm cd doc:Value) (a:Addr) (vs:List Value) (ns:List Int),
   Ground q loose [] XP w s₀ mg mb s₁.heap->YP w s₁.heap->
   s₁.heap.get? fa=some o->o.data=.func (docDef d.name d.params d.body d.scope pm cd doc)->s₁.heap.CodeRec cd d.name->mg d.name=some (.ref fa)->
   s₁.heap.get? a=some { cls:=.type "list",data:=.seq vs.toArray }->IntsAre vs ns->ns.length<=n->s₁.gens=#[]->
   codeAny (model l.prog w) callerA (.call (.ref fa) ⟨[.ref a],[]⟩) (λr s'=>r=.ok (.ret (.bool true))/\OldK s₁.heap s'.heap/\s'.os=s₁.os/\AllBare s'.gens) s₁) :
  WalkO q loose XP YP l.row.toRowW d [] (λf vs=>PySem.call f vs):=by
 intro w s₀ s₁ mg mb G Y fa o pm cd doc dV kV ho hd hcd hD hmg hg args vals as hpre hlay hrd hwl hlo;obtain rfl:dV=.none:=Dflts.none hD hdf;obtain rfl:kV=.none:=Dflts.noKw hD;(refine pw34 (xX hn hpre hwl) λa vs ns zz1 zz2 hobj hints hlen=>?_;subst zz1;subst zz2);refine enter_call (codeAny_mono (call w s₀ s₁ mg mb fa o pm cd doc a vs ns G Y ho (fd_plain hd) hcd hmg hobj hints hlen hg) λr s' hq=>?_);(revert hq;refine ow02 λzz1 h2=>ow01 λh3 h4=>?_;subst zz1);exact⟨.inl (iw34 (.bool true) (.bool true) ([]) rfl (λ_=>rfl) (.bool true) (xY l _) (λ_=>⟨List.Pairwise.nil,λ_ hm=>(nomatch hm)⟩)),h2,h3,h4⟩
section
variable {prog:Program} {w:World} {A:Around} {E:Value->Shared->Prop} {s:Shared} {K:Frag}
end
end Att
namespace L2
open PySem PySem.Spec PyProof.Rows
theorem qA:∀{vs:List Value} {ns:List Int},IntsAre vs ns->Vals (ns.map V.int) vs
 | _,_,.nil=>.nil
 | _,_,.cons n t h=>.cons ⟨t,rfl⟩ (qA h)
noncomputable def Only (H:Hp):Prop:=∀b,H b=none\/∃o xs,H b=some (.frz o (.lst xs))
theorem Ak {P:Program}{w:World}{K:W.Frag}{mg mb:Str->Option Value}{CX:CXT}{k:Nat}{fa a:Addr}{fd:FuncData}{x:Str}{sp:Sp}{s₁:Shared}{vs:List Value}{ns:List Int}
  (KX:K.In s₁.heap) (hns:s₁.heap.Ns mainGlobals mg) (hb:s₁.heap.Ns builtinsNs mb) (hbb:∀x:Str,x ≠ "__name__" -> mb x=bootBuiltins x) (hlim:s₁.heap.NoLimit) (hg:s₁.gens=#[])
  (ha:s₁.heap.get? a=some { cls:=.type "list",data:=.seq vs.toArray }) (hi:IntsAre vs ns) (hl:ns.length<=sizeLine) (hr:Room k callerA)
  (F:∀base:Heap,K.In base->base.Ns mainGlobals mg->FnOk P w K mg base CX k fa fd [x] sp) (hbind:∀(s:Shared) (u:Value),BindsTo s fd ⟨[u],[]⟩ [(x,u)])
  (hsp:∀H:Hp,Only H->SqL K H a (ns.map V.int)->sp [.ref a] H (λv _=>v=.bl true) λ_ _ _=>False)
  (hCX:∀H e s',CX [] H s₁ (λ_ _ _=>False) e s'->False) :
  codeAny (model P w) callerA (.call (.ref fa) ⟨[.ref a],[]⟩) (λr s'=>r=.ok (.ret (.bool true))/\OldK s₁.heap s'.heap/\s'.os=s₁.os/\AllBare s'.gens) s₁:=by
 have rv:=qA hi;have lenV:=hi.length;have core:∀H:Hp,Only H->SqL K H a (ns.map V.int)->HOk P w H s₁.heap->(∀b,H b≠none->b=a)->(H a≠none->K.lookup a=none)->
   codeAny (model P w) callerA (.call (.ref fa) ⟨[.ref a],[]⟩) (λr s'=>r=.ok (.ret (.bool true))/\OldK s₁.heap s'.heap/\s'.os=s₁.os/\AllBare s'.gens) s₁:=by
  intro H hO hS hok hA hK;have base_of:∀{b:Addr} {o:Obj},s₁.heap.get? b=some o->H b=none->(hidT s₁.heap H).get? b=some o:=λe n=>zT e n;have noA:∀{b:Addr} {o:Obj} {es:Array DictEntry} {ep:Nat},s₁.heap.get? b=some o->o.data=.dict es ep->H b=none:=λ{b o es ep} e d=>by
   cases q:H b with
   | none=>rfl
   | some u=>
    have e':b=a:=hA b (by rw[q];simp);subst e';rw[ha] at e;cases e;have d':Data.seq vs.toArray _=Data.dict es ep:=d;cases d'
  have nsK:∀{b:Addr} {m:Str->Option Value},s₁.heap.Ns b m->(hidT s₁.heap H).Ns b m:=λ{b m} ⟨o,es,ep,e,d,r⟩=>(iw32 o es ep (base_of e (noA e d)) d r)
  have hKb:K.In (hidT s₁.heap H):=λb o e=>base_of (KX b o e) (by
   cases q:H b with
   | none=>rfl
   | some u=>
    have e':b=a:=hA b (by rw[q];simp);subst e'
    rw[hK (by rw[q];simp)] at e;cases e)
  have hM:Mod K mg (hidT s₁.heap H):=⟨hKb,nsK hns,(iw11 mb (nsK hb) hbb),let ⟨mc,h1,h2⟩:=hlim;(iw11 mc (nsK h1) h2)⟩
  have e0:Env0 P w K mg (hidT s₁.heap H) callerA [] s₁ H:=⟨rfl,hM,λb o e=>BC e,Nat.le_of_eq (xN _ _),trivial,λb hb=>absurd (show b∈([]:List Addr) from hb) (by simp),hok,.of_eq hg⟩
  refine codeAny_mono ((F _ hKb (nsK hns)).run callerA [] s₁ H ⟨[.ref a],[]⟩ [.ref a] [.ref a] _ _ hr e0 (hbind s₁ (.ref a)) (.cons rfl .nil) (hsp H hO hS)) λr s' h=>?_;cases r with
  | error e=>exact(hCX H e s' h).elim
  | ok fl=>
   cases fl with
   | next=>exact False.elim h
   | brk=>exact False.elim h
   | cont=>exact False.elim h
   | ret u=>
    (revert h;refine ow24 λv H' os bare un hok'=>ow01 λr' q=>?_);have q':v=.bl true:=q;subst q';obtain rfl:u=Value.bool true:=r';refine⟨rfl,OldK.of_keep λb o e=>?_,os,bare⟩;cases q:H b with
    | none=>exact un.keep b o e q (by intro z;exact absurd (show b∈([]:List Addr) from z) (by simp)) (by simp)
    | some u=>
     rcases hO b with z | ⟨ob,xs,z⟩
     ·rw[q] at z;cases z
     ·have z2:=un.frzs b ob _ z
      obtain⟨e1,_⟩:=hok b _ z;obtain⟨e2,_⟩:=hok' b _ z2;rw[e] at e1;cases e1;exact e2
 cases hk:K.lookup a with
 | some o=>
  have e:=KX a o hk;rw[ha] at e;cases e;refine core (λ_=>none) (λ_=>.inl rfl) (.inr (iw34 _ vs.toArray _ hk rfl rfl rfl ⟨by rw[List.size_toArray,lenV];exact hl,by simpa using rv⟩)) (λb u z=>by have z':(none:Option HO)=some u:=z;cases z') (λb z=>absurd rfl z) λz=>absurd rfl z
 | none=>
  refine core (λb=>if b=a then some (.frz { cls:=.type "list",data:=.seq vs.toArray } (.lst (ns.map V.int))) else none) (λb=>?_) (.inl (.inr ⟨{ cls:=.type "list",data:=.seq vs.toArray },if_pos rfl⟩)) (λb u z=>?_) (λb z=>?_) λ_=>hk
  ·by_cases hb:b=a
   ·exact .inr (iw20 _ _ (if_pos hb))
   ·exact .inl (if_neg hb)
  ·by_cases hb:b=a
   ·have z':=(if_pos hb).symm.trans z
    cases z';subst hb;exact⟨ha,by rw[List.length_map];exact hl,(iw21 vs _ rv ha)⟩
   ·have z':=(if_neg hb).symm.trans z
    cases z'
  ·by_cases hb:b=a
   ·exact hb
   ·exact absurd (if_neg hb) z
noncomputable abbrev KOf {K:W.Frag}{h:Heap}(_:K.In h):W.Frag:=K
theorem BI {l:W.OpenLaw}{n k:Nat}{q:Program}{loose:List Str}{XP:(Str->Option Value)->Heap->Prop}{YP:World->Heap->Prop}{d:DefRec}{K:Params->W.Frag}{CX:World->CXT}{sp:World->Sp}{x:Str}
  (hn:l.most=some n) (hn2:n<=sizeLine) (hdf:d.params.defaults=[]) (hr:Room k callerA)
  (hY:∀(w:World) (h:Heap),YP w h->(K w.params).In h)
  (F:∀(w:World) (mg:Str->Option Value) (fa:Addr) (h:Heap),(K w.params).In h->h.Ns mainGlobals mg->mg d.name=some (.ref fa)->
   ∃fd:FuncData,(∀(s:Shared) (u:Value),BindsTo s fd ⟨[u],[]⟩ [(x,u)])/\
    ∀base:Heap,(K w.params).In base->base.Ns mainGlobals mg->FnOk l.prog w (K w.params) mg base (CX w) k fa fd [x] (sp w))
  (hsp:∀(w:World) (H:Hp) (a:Addr) (ns:List Int),ns.length<=n->Only H->SqL (K w.params) H a (ns.map V.int)->sp w [.ref a] H (λv _=>v=.bl true) λ_ _ _=>False)
  (hCX:∀(w:World) (H:Hp) (s:Shared) (e:Value) (s':Shared),CX w [] H s (λ_ _ _=>False) e s'->False) :
  W.WalkO q loose XP YP l.row.toRowW d [] (λf vs=>PySem.call f vs):=by
 refine Att.tF hn hdf λw s₀ s₁ mg mb fa o pm cd doc a vs ns G Y ho hd hcd hmg hobj hints hlen hg=>?_;have KX:=hY w _ Y;(refine pw11 (F w mg fa _ KX G.T.g hmg) λfd hb hF=>?_);exact Ak KX G.T.g G.T.b G.T.builtins G.T.nolimit hg hobj hints (Nat.le_trans hlen hn2) hr hF hb (λH hO hS=>hsp w H a ns hlen hO hS) λH e s'=>hCX w H s₁ e s'
noncomputable def inClass (s:Stmt)(j:Nat):Stmt:=match s with
 | .ClassDef _ _ _ body _ _ _ _ _ _ _=>body.getD j (.Pass ⟨0,0,0,0⟩)
 | _=>.Pass ⟨0,0,0,0⟩
noncomputable def defArgs (s:Stmt):Arguments:=match s with
 | .FunctionDef _ a _ _ _ _ _ _ _ _=>a
 | _=>{ posonlyargs:=[],args:=[],vararg:=none,kwonlyargs:=[],kw_defaults:=[],kwarg:=none,defaults:=[] }
noncomputable def defBody (s:Stmt):List Stmt:=match s with
 | .FunctionDef _ _ b _ _ _ _ _ _ _=>b
 | _=>[]
noncomputable def defScope (s:Stmt):Scope:=match s with
 | .FunctionDef _ _ _ _ _ _ sc _ _ _=>sc
 | _=>{ kind:=.function,names:=[],isGenerator:=false,isCoroutine:=false }
noncomputable abbrev CX0:CXT:=λ_ _ _ _ _ _=>False
noncomputable abbrev E0:XK:=λ_ _ _=>False
theorem pass0 {X:Cx}:Passes CX0 X E0:=λ_ _ _ _ _ _ _ h=>h.elim
structure Fun (K:W.Frag)(x qual:Str)(st:Stmt)(f:Addr)(fd:FuncData):Prop where
 ex:∃(oc:Value) (od:Option Addr) (kV doc pm:Value) (an:Option Addr) (cdv ct:Value) (osl:Array (Option Value)),
  fd=W.fnOf x qual (defArgs st) (defBody st) (defScope st) .none kV doc pm an cdv ct/\K.lookup f=some ⟨oc,od,.func fd,osl⟩/\W.codeIn K cdv qual=true
 kp:W.keepIn K (.ref f)=true
section
variable {P:Program} {w:World} {K:W.Frag} {mg:Str->Option Value} {base:Heap}
theorem Fun.ok {x qual:Str}{st:Stmt}{f:Addr}{fd:FuncData}{N ps:List Str}{k:Nat}{sp:Sp}(F:Fun K x qual st f fd)(S:FnScope N ps (defScope st))(len:∀vs H Q E,sp vs H Q E->vs.length=ps.length)
  (hbody:∀(cdv:Value) (A:Around) (outer:List Env) (s:Shared) (H:Hp) (vs:List V) (Q:VK) (E:XK),Room k (A.deeper (envOfC qual (defScope st) s.heap.objs.size f cdv))->sp vs H Q E->
   ∃t,PSs (cxOf CX0 P w K mg base N qual (defScope st) f cdv A outer s H E).nox (defBody st) t/\t { nx:=λ_ H'=>Q .non H',rt:=Q } (start N vs) H):FnOk P w K mg base CX0 (k+1) f fd ps sp:=by
 (refine pw60 F.ex λoc od kV doc pm an=>ow32 λcdv ct osl zz1 lk hcd=>?_;subst zz1);refine xb lk hcd S len λA outer s H vs Q E hr hsp=>?_;(refine pw11 (hbody cdv A outer s H vs Q E hr hsp) λt h q=>?_);exact(iw11 t h.nox q)
theorem Fun.binds {x qual:Str}{st:Stmt}{f:Addr}{fd:FuncData}{ps:List Str}(F:Fun K x qual st f fd)
  (h:∀(kV doc pm:Value) (an:Option Addr) (cdv ct:Value) (us:List Value),us.length=ps.length->bindArgs (W.fnOf x qual (defArgs st) (defBody st) (defScope st) .none kV doc pm an cdv ct) ⟨us,[]⟩=pure (ps.zip us)):Binds K fd ps []:=by
 (refine pw60 F.ex λoc od kV doc pm an=>ow32 λcdv ct osl zz1 lk hcd=>?_;subst zz1);exact .all (h kV doc pm an cdv ct)
theorem lO {x qual:Str}{st:Stmt}{f:Addr}{oc:Value}{od an:Option Addr}{osl:Array (Option Value)}{kV doc pm cdv ct:Value}(l:K.lookup f=some ⟨oc,od,.func (W.fnOf x qual (defArgs st) (defBody st) (defScope st) .none kV doc pm an cdv ct),osl⟩)
  (c:W.codeIn K cdv qual=true) (k:W.keepIn K (.ref f)=true):Fun K x qual st f (W.fnOf x qual (defArgs st) (defBody st) (defScope st) .none kV doc pm an cdv ct):=⟨(iw60 oc od kV doc pm an (iw32 cdv ct osl rfl l c)),k⟩
end
theorem ER {A:Around}{k:Nat}(hr:Room k A):A.units+1 < cLine:=Nat.lt_of_le_of_lt (Nat.add_le_add_left (by decide:1<=64) _) hr.units
section
variable {X:Cx}
theorem pv (i:Nat){x:Str}{pos:Pos}(hN:autoParam (X.N[i]?=some x) L2.dft3._auto_1)(hv:autoParam (Vis X.env.scope x) L2.dft6._auto_1)(hd:autoParam ((x == ("__debug__":Str))=false) L2.dft1._auto_1)
  (hcd:autoParam ((x == ("__classdict__":Str))=false) L2.dft1._auto_1):PE X (.Name x pos) (tVar i):=Dy hN hv hd hcd
end
theorem ite2 {c A B:Prop}[Decidable c](h1:c->A)(h2:¬c->B):if c then A else B:=by
 by_cases h:c
 ·rw[if_pos h]
  exact h1 h
 ·rw[if_neg h]
  exact h2 h
noncomputable def Same (H H':Hp):Prop:=∀b o,H b=some o->H' b=some o
theorem Same.refl (H:Hp):Same H H:=λ_ _ h=>h
theorem Same.trans {H H1 H2:Hp}(a:Same H H1)(b:Same H1 H2):Same H H2:=λc o h=>b c o (a c o h)
theorem Same.free {H H':Hp}(e:Same H H'){l:Addr}(h:H' l=Option.none):H l=Option.none:=by
 cases q:H l with
 | none=>rfl
 | some o=>
  rw[e l o q] at h;cases h
theorem Same.seq {K:W.Frag}{H H':Hp}{a:Addr}{xs:List V}(e:Same H H')(h:SqL K H a xs):SqL K H' a xs:=by
 rcases h with(h | ⟨o,h⟩) | h
 ·exact .inl (.inl (e _ _ h))
 ·exact .inl (.inr ⟨o,e _ _ h⟩)
 ·exact .inr h
section
variable (P:Program) (w:World)
end
section
variable {P:Program} {w:World} {H H':Hp} {h h':Heap} {a:Addr} {o:HO}
end
section
variable {P:Program} {w:World} {H:Hp} {h h':Heap} {x e:Addr} {o':HO}
end
section
variable {fs fs' ex ex':List Addr} {H H1 H2:Hp} {h h1 h2 h':Heap} {a x e:Addr} {o:HO}
end
section
variable {X:Cx} {pins:List (Addr×Obj)} {σ:List (Option V)} {H H':Hp} {s:Shared} {h':Heap}
end
section
variable {X:Cx}
variable {a b:Expr} {ta tb:TE} {pos:Pos}
variable {tA tB':TT} {rest:List Expr}
end
section
variable {X:Cx} {pins:List (Addr×Obj)} {σ:St} {H:Hp} {s:Shared} {a:Addr} {xs ys:List V}
end
section
variable {X:Cx} {pins:List (Addr×Obj)} {σ:St} {H:Hp} {s:Shared} {E:Value->Shared->Prop}
end
section
variable {X:Cx} {st:Stmt} {rest:List Stmt} {t u:TS} {e:Expr} {te:TE} {pos:Pos}
end
section
variable {X:Cx} {pos:Pos}
end
section
variable {X:Cx} {pos:Pos}
end
section
variable {X:Cx} {tg:Expr}
end
section
variable {X:Cx} {a b c:Expr} {ta tb tc:TE} {pos:Pos}
end
section
variable {X:Cx} {a b c:Expr} {ta tb tc:TE} {pos:Pos}
end
section
variable {prog:Program} {w:World} {A:Around} {E:Value->Shared->Prop} {s:Shared} {K:W.Frag} {x dx C f:Addr} {mA:Str->Option Value} {name:Str} {v:Value}
end
section
variable {P:Program} {w:World} {H H':Hp} {h h':Heap} {a C dx:Addr} {fs fs':List (Str×V)}
end
section
variable {X:Cx} {pins:List (Addr×Obj)} {σ:St} {H:Hp} {s:Shared} {a C dx:Addr} {fs:List (Str×V)} {f:Str} {v:V} {A:Around} {E:Value->Shared->Prop}
end
section
variable {X:Cx} {o e value:Expr} {f:Str} {pos pos' tpos:Pos} {ta tv:TE}
end
section
variable {X:Cx} {pins:List (Addr×Obj)} {σ:St} {H:Hp} {s:Shared} {A:Around} {E:Value->Shared->Prop} {Q:Value->Shared->Prop} {c:Value} {b:Bool}
end
section
variable {X:Cx} {e:Expr} {es:List Expr} {te:TE} {t:TA} {pos:Pos}
end
section
variable {X:Cx} {pins:List (Addr×Obj)} {σ:St} {H:Hp} {s s':Shared}
end
section
variable {X:Cx} {CX:CXT} {k:Nat} {f C:Addr} {fd:FuncData} {ps:List Str} {sp:Sp} {dvs:List V} {ds:List Value} {E:XK} {x m:Str} {p pos apos:Pos} {e o:Expr} {es:List Expr} {ta:TE} {t:TA}
end
section
variable {X:Cx} {CX:CXT} {k:Nat} {f C:Addr} {fd:FuncData} {ps ks:List Str} {sp:Sp} {E:XK} {x m:Str} {p pos apos kpos:Pos} {e o:Expr} {es:List Expr} {kws:List Keyword} {te ta:TE} {t tk:TA} {nm:Option Str}
variable {g:List Value->List Value->List Value} {gV:List V->List V->List V}
end
section
variable {X:Cx} {x:Str} {p pos:Pos} {e:Expr} {es:List Expr} {t:TA} {id T:String} {r:List V->Hp->VK->Prop}
end
section
variable {κ:Type} [DecidableEq κ]
noncomputable def valV (kvs:List (κ×V))(k:κ):Option V:=(kvs.find? λkv=>decide (kv.1=k)).map (·.2)
noncomputable def putK (kvs:List (κ×V))(k:κ)(v:V):List (κ×V):=
 if (kvs.any λkv=>decide (kv.1=k))=true then kvs.map (λkv=>if kv.1=k then(kv.1,v) else kv) else kvs++[(k,v)]
noncomputable def dropK (kvs:List (κ×V))(k:κ):List (κ×V):=kvs.filter λkv=>decide (kv.1≠k)
theorem bY {p:κ×V}{r:List (κ×V)}{k:κ}(e:p.1=k):valV (p::r) k=some p.2:=by simp[valV,List.find?_cons,e]
theorem bO {p:κ×V}{r:List (κ×V)}{k:κ}(e:¬p.1=k):valV (p::r) k=valV r k:=by simp[valV,List.find?_cons,e]
theorem kE (k:κ):∀kvs:List (κ×V),(kvs.any λkv=>decide (kv.1=k))=(valV kvs k).isSome
 | []=>rfl
 | p::r=>by
  rw[List.any_cons]
  by_cases e:p.1=k
  ·simp only[bY e,decide_eq_true e,Bool.true_or,Option.isSome_some]
  ·rw[bO e,decide_eq_false e,Bool.false_or];exact kE k r
theorem tG (k j:κ)(y:V):∀kvs:List (κ×V),valV (kvs.map λkv=>if kv.1=k then(kv.1,y) else kv) j=(valV kvs j).map λx=>if j=k then y else x
 | []=>rfl
 | p::r=>by
  have ih:=tG k j y r;rw[List.map_cons]
  by_cases h:p.1=k
  ·rw[if_pos h]
   by_cases e:p.1=j
   ·rw[bY (p:=(p.1,y)) e,bY e,Option.map_some,if_pos (e.symm.trans h)]
   ·rw[bO (p:=(p.1,y)) e,bO e,ih]
  ·rw[if_neg h]
   by_cases e:p.1=j
   ·rw[bY (p:=p) e,bY e,Option.map_some,if_neg (λz=>h (e.trans z))]
   ·rw[bO (p:=p) e,bO e,ih]
theorem qB (k j:κ)(y:V):∀kvs:List (κ×V),valV kvs k=none->valV (kvs++[(k,y)]) j=if j=k then some y else valV kvs j
 | [],_=>by
  by_cases e:k=j
  ·rw[if_pos e.symm];exact bY (p:=(k,y)) e
  ·rw[if_neg (λz=>e z.symm)];exact bO (p:=(k,y)) e
 | p::r,hn=>by
  rw[List.cons_append];have hk:¬p.1=k:=λz=>by rw[bY z] at hn;cases hn
  rw[bO hk] at hn;have ih:=qB k j y r hn
  by_cases e:p.1=j
  ·rw[bY e,bY e,if_neg (λz=>hk (e.trans z))]
  ·rw[bO e,bO e,ih]
theorem d8 (kvs:List (κ×V))(k j:κ)(y:V):valV (putK kvs k y) j=if j=k then some y else valV kvs j:=by
 unfold putK
 by_cases a:(kvs.any λkv=>decide (kv.1=k))=true
 ·rw[if_pos a,tG]
  rw[kE] at a
  by_cases e:j=k
  ·obtain⟨x,hx⟩:=Option.isSome_iff_exists.mp a
   rw[if_pos e,e,hx,Option.map_some,if_pos rfl]
  ·rw[if_neg e]
   cases valV kvs j with
   | none=>rfl
   | some x=>rw[Option.map_some,if_neg e]
 ·rw[if_neg a]
  refine qB k j y kvs ?_;rw[kE] at a;cases q:valV kvs k with
  | none=>rfl
  | some x=>rw[q] at a;exact(a rfl).elim
theorem bE (kvs:List (κ×V))(k:κ)(v:V):(putK kvs k v).length<=kvs.length+1:=by
 unfold putK
 split
 ·rw[List.length_map];omega
 ·rw[List.length_append,List.length_cons,List.length_nil];omega
theorem RelO.gy {o:Option V}{u:Option Value}(r:RelO o u):o.isSome=u.isSome:=by
 cases o with
 | none=>cases u with
  | none=>rfl
  | some _=>exact(show False from r).elim
 | some _=>cases u with
  | none=>exact(show False from r).elim
  | some _=>rfl
theorem RelO.getD {o:Option V}{u:Option Value}{d:V}{d':Value}(r:RelO o u)(rd:RelV d d'):RelV (o.getD d) (u.getD d'):=by
 cases o with
 | none=>cases u with
  | none=>exact rd
  | some _=>exact(show False from r).elim
 | some _=>cases u with
  | none=>exact(show False from r).elim
  | some _=>exact r
theorem KV.val {kvs:List (κ×V)}{vs:List (κ×Value)}(r:KV kvs vs)(k:κ):RelO (valV kvs k) (valueAt vs k):=by
 unfold KV at r
 induction r with
 | nil=>exact True.intro
 | @cons p q ps qs h t ih=>
  obtain⟨h1,h2⟩:=h
  by_cases e:p.1=k
  ·have e':q.1=k:=h1.symm.trans e
   have b:valueAt (q::qs) k=some q.2:=by simp[valueAt,List.find?_cons,e']
   rw[bY e,b];exact h2
  ·have e':¬q.1=k:=λz=>e (h1.trans z)
   have b:valueAt (q::qs) k=valueAt qs k:=by simp[valueAt,List.find?_cons,e']
   rw[bO e,b];exact ih
theorem KV.any {kvs:List (κ×V)}{vs:List (κ×Value)}(r:KV kvs vs)(k:κ):(kvs.any λkv=>decide (kv.1=k))=vs.any λkv=>decide (kv.1=k):=by
 unfold KV at r
 induction r with
 | nil=>rfl
 | cons h t ih=>rw[List.any_cons,List.any_cons,ih,h.1]
theorem KV.repl {kvs:List (κ×V)}{vs:List (κ×Value)}(r:KV kvs vs)(k:κ){y:V}{u:Value}(ry:RelV y u) :
  KV (kvs.map λkv=>if kv.1=k then(kv.1,y) else kv) (vs.map λkv=>if kv.1=k then(kv.1,u) else kv):=by
 unfold KV at r ⊢
 induction r with
 | nil=>exact .nil
 | @cons p q ps qs h t ih=>
  rw[List.map_cons,List.map_cons];refine .cons ?_ ih;obtain⟨h1,h2⟩:=h
  by_cases e:p.1=k
  ·rw[if_pos e,if_pos (h1.symm.trans e)];exact⟨h1,ry⟩
  ·rw[if_neg e,if_neg (λz=>e (h1.trans z))];exact⟨h1,h2⟩
theorem KV.put {kvs:List (κ×V)}{vs:List (κ×Value)}(r:KV kvs vs)(k:κ){y:V}{u:Value}(ry:RelV y u):KV (putK kvs k y) (stored vs k u):=by
 unfold putK stored;rw[r.any k]
 by_cases e:(vs.any λkv=>decide (kv.1=k))=true
 ·rw[if_pos e,if_pos e];exact r.repl k ry
 ·rw[if_neg e,if_neg e];exact Paired.snoc r ⟨rfl,ry⟩
theorem KV.length {kvs:List (κ×V)}{vs:List (κ×Value)}(r:KV kvs vs):kvs.length=vs.length:=Paired.length r
end
theorem kF {P:Program}{w:World}{k:Key}{u:Value}(r:RelV (kV k) u):(mixKind P w).is k u=true:=by
 cases k with
 | inl i=>obtain⟨t,e⟩:=(show ∃t,u=Value.int i t from r);subst e;exact sX P w i t
 | inr x=>obtain⟨t,e⟩:=(show ∃t,u=Value.str x t from r);subst e;exact mP P w x t
theorem qC {P:Program}{w:World}:∀{ks:List Key} {us:List Value},Vals (ks.map kV) us->ItemsAre (mixKind P w) ks us
 | [],_,r=>by rw[List.map_nil] at r;cases r;exact .nil
 | k::ks,_,r=>by
  rw[List.map_cons] at r;cases r with
  | cons h t=>exact .cons (kF h) (qC t)
noncomputable abbrev KT (H:Hp):List (List Key×V)->List (List Key×Addr×Value)->Prop:=Paired λp q=>p.1=q.1/\H q.2.1=some (.tup (p.1.map kV))/\RelV p.2 q.2.2
theorem KT.val {H:Hp}{kvs:List (List Key×V)}{xs:List (List Key×Addr×Value)}(r:KT H kvs xs)(k:List Key):RelO (valV kvs k) ((atKey xs k).map (·.2)):=by
 induction r with
 | nil=>exact True.intro
 | @cons p q ps qs h t ih=>
  (revert h;refine ow02 λh1 _ h2=>?_)
  by_cases e:p.1=k
  ·have e':q.1=k:=h1.symm.trans e
   have b:atKey (q::qs) k=some q.2:=by simp[atKey,List.find?_cons,e']
   rw[bY e,b];exact h2
  ·have e':¬q.1=k:=λz=>e (h1.trans z)
   have b:atKey (q::qs) k=atKey qs k:=by simp[atKey,List.find?_cons,e']
   rw[bO e,b];exact ih
theorem KT.repl {H:Hp}{kvs:List (List Key×V)}{xs:List (List Key×Addr×Value)}(r:KT H kvs xs)(k:List Key){y:V}{u:Value}(ry:RelV y u) :
  KT H (kvs.map λkv=>if kv.1=k then(kv.1,y) else kv) (xs.map (putAt k u)):=by
 induction r with
 | nil=>exact .nil
 | @cons p q ps qs h t ih=>
  rw[List.map_cons,List.map_cons];refine .cons ?_ ih;(revert h;refine ow02 λh1 h2 h3=>?_);unfold putAt
  by_cases e:p.1=k
  ·rw[if_pos e,if_pos (h1.symm.trans e)];exact⟨h1,h2,ry⟩
  ·rw[if_neg e,if_neg (λz=>e (h1.trans z))];exact⟨h1,h2,h3⟩
theorem KT.put {H:Hp}{kvs:List (List Key×V)}{xs:List (List Key×Addr×Value)}(r:KT H kvs xs)(k:List Key){b:Addr}{y:V}{u:Value}(hb:H b=some (.tup (k.map kV)))(ry:RelV y u) :
  KT H (putK kvs k y) (storedH xs k b u):=by
 have e:(kvs.any λkv=>decide (kv.1=k))=(atKey xs k).isSome:=by
  rw[kE,(r.val k).gy,Option.isSome_map]
 unfold putK storedH;rw[e]
 by_cases q:(atKey xs k).isSome=true
 ·rw[if_pos q,if_pos q];exact r.repl k ry
 ·rw[if_neg q,if_neg q];exact Paired.snoc r ⟨rfl,hb,ry⟩
theorem KT.keeps {H H':Hp}{kvs:List (List Key×V)}{xs:List (List Key×Addr×Value)}(r:KT H kvs xs)(ht:∀b ys,H b=some (.tup ys)->H' b=some (.tup ys)):KT H' kvs xs:=
 Paired.mapP r λ_ _ z=>⟨z.1,ht _ _ z.2.1,z.2.2⟩
section
variable {P:Program} {w:World} {H:Hp} {h:Heap} {a:Addr}
theorem CW {u:HO}(ok:HOk P w H h)(e:Rd H a u):ObjOk P w H h a u:=e.ok ok
theorem kG {kvs:List (Key×V)}(ok:HOk P w H h)(e:Rd H a (.dK kvs)):kvs.length<=sizeLine/\(a == sysModules)=false/\∃vs,KV kvs vs/\h.DictOf (mixKind P w) a vs:=
 show ObjOk P w H h a (.dK kvs) from CW ok e
theorem CY {kvs:List (Key×V)}(ok:HOk P w H h)(e:H a=some (.dK kvs)):kvs.length<=sizeLine/\(a == sysModules)=false/\∃vs,KV kvs vs/\h.DictOf (mixKind P w) a vs:=kG ok (.inl e)
theorem j1 {ks:List Key}(ok:HOk P w H h)(e:H a=some (.tup (ks.map kV))):(tupleKind (mixKind P w)).is h ks a:=by
 (refine pw01 (show ObjOk P w H h a (.tup (ks.map kV)) from ok a _ e) λ_=>ow11 λits r=>ow12 λo h1 h2=>ow10 λn h3=>?_);exact(iw33 o its.toArray n h1 h2 h3 (by simpa using qC r))
theorem mS {kvs:List (List Key×V)}(ok:HOk P w H h)(e:Rd H a (.dT kvs)):kvs.length<=sizeLine/\(a == sysModules)=false/\
  ∃xs,KT H kvs xs/\h.DictOfH (tupleKind (mixKind P w)) a xs:=by
 (refine pw02 (show ObjOk P w H h a (.dT kvs) from CW ok e) λz y=>ow11 λxs r=>ow34 λo es ep h1 h2 h3 h4 h5=>?_);refine⟨z,y,(iw11 xs r (iw34 o es ep h1 h2 h3 h4 ⟨λx hx=>?_,h5⟩))⟩;have all:∀{l:List (List Key×V)} {m:List (List Key×Addr×Value)},KT H l m->∀x∈m,(tupleKind (mixKind P w)).is h x.1 x.2.1:=by
  intro l m q
  induction q with
  | nil=>intro x hx;exact nomatch hx
  | @cons p q ps qs hq t ih=>
   intro x hx;rcases List.mem_cons.mp hx with e | hx
   ·subst e
    exact j1 ok (by rw[<-hq.1];exact hq.2.1)
   ·exact ih x hx
 exact all r x hx
theorem ES {kvs:List (List Key×V)}(ok:HOk P w H h)(e:H a=some (.dT kvs)):kvs.length<=sizeLine/\(a == sysModules)=false/\
  ∃xs,KT H kvs xs/\h.DictOfH (tupleKind (mixKind P w)) a xs:=mS ok (.inl e)
end
noncomputable def DGet (H:Hp)(a:Addr)(y:V)(r:Option V):Prop:=
 (∃kvs k,Rd H a (.dK kvs)/\y=kV k/\r=valV kvs k)\/∃kvs k b,Rd H a (.dT kvs)/\y=.ref b/\H b=some (.tup (k.map kV))/\r=valV kvs k
noncomputable def DPut (H:Hp)(a:Addr)(y v:V)(H':Hp):Prop:=
 (∃kvs k,H a=some (.dK kvs)/\y=kV k/\kvs.length < sizeLine/\H'=upd H a (.dK (putK kvs k v)))\/
 ∃kvs k b,H a=some (.dT kvs)/\y=.ref b/\H b=some (.tup (k.map kV))/\kvs.length < sizeLine/\H'=upd H a (.dT (putK kvs k v))
theorem DGet.k {H:Hp}{a:Addr}{kvs:List (Key×V)}{k:Key}(e:H a=some (.dK kvs)):DGet H a (kV k) (valV kvs k):=.inl (iw22 kvs k (.inl e) rfl rfl)
theorem DPut.k {H:Hp}{a:Addr}{kvs:List (Key×V)}{k:Key}{v:V}(e:H a=some (.dK kvs))(hl:kvs.length < sizeLine):DPut H a (kV k) v (upd H a (.dK (putK kvs k v))):=.inl (iw23 kvs k e rfl hl rfl)
section
variable {X:Cx} {pins:List (Addr×Obj)} {σ:St} {H:Hp} {s:Shared} {a:Addr} {y v:V} {u r:Value} {o:Option V} {A:Around} {E:Value->Shared->Prop}
theorem Inv.big (I:Inv X pins σ H s):sysModules < s.heap.objs.size:=by
 have h:mainGlobals < s.heap.objs.size:=(I.mod.glob.keeps I.bk).lt;exact Nat.lt_trans (by decide) h
theorem xZ {Q:Value->Shared->Prop}(hu:A.units+1 < cLine)(I:Inv X pins σ H s)(g:DGet H a y (some v))(ry:RelV y u)(h:∀w' s',Inv X pins σ H s'->RelV v w'->Q w' s') :
  wpAny (model X.prog X.w) A (getItem (.ref a) u) Q E s:=by
 rcases g with⟨kvs,k,e,ey,l⟩ | ⟨kvs,k,b,e,ey,eb,l⟩
 ·subst ey
  (refine pw02 (kG I.hok e) λz hd=>ow11 λvs rel dd=>?_);(refine pw11 (RelO.some_of (v:=v) (o:=valueAt vs k) (by rw[l];exact rel.val k)) λw' hw rw'=>?_);exact wpAny_getItem_of (kF ry) dd.mapOf hw (h w' _ (I.tok _) rw')
 ·subst ey
  cases (show u=Value.ref b from ry);(refine pw02 (mS I.hok e) λz hd=>ow11 λxs rel dd=>?_);(refine pw11 (RelO.some_of (v:=v) (o:=(atKey xs k).map (·.2)) (by rw[l];exact rel.val k)) λw' hw rw'=>?_);(refine pw11 (Option.map_eq_some_iff.mp hw) λp hp hp2=>?_);refine wpAny_getItem_heap (tupleKind_room_in1 hu) (j1 I.hok eb) dd hp ?_;rw[hp2];exact h w' _ (I.tok _) rw'
theorem BJ {Q:Value->Shared->Prop}(hu:A.units+1 < cLine)(I:Inv X pins σ H s)(g:DGet H a y o)(ry:RelV y u)(h:∀s',Inv X pins σ H s'->Q (.bool o.isSome) s') :
  wpAny (model X.prog X.w) A (compareOp .In u (.ref a)) Q E s:=by
 rcases g with⟨kvs,k,e,ey,l⟩ | ⟨kvs,k,b,e,ey,eb,l⟩
 ·subst ey
  (refine pw02 (kG I.hok e) λz hd=>ow11 λvs rel dd=>?_);refine wpAny_in_of (kF ry) hd dd.mapOf ?_;rw[<-(rel.val k).gy,<-l];exact h _ (I.tok _)
 ·subst ey
  cases (show u=Value.ref b from ry);(refine pw02 (mS I.hok e) λz hd=>ow11 λxs rel dd=>?_);refine wpAny_in_heap (tupleKind_room_in1 hu) (j1 I.hok eb) hd dd ?_;have q:=(rel.val k).gy;rw[Option.isSome_map] at q;rw[<-q,<-l];exact h _ (I.tok _)
theorem BK {Q:Value->Shared->Prop}(hu:A.units+1 < cLine)(I:Inv X pins σ H s)(g:DGet H a y o)(ry:RelV y u)(h:∀s',Inv X pins σ H s'->Q (.bool (!o.isSome)) s') :
  wpAny (model X.prog X.w) A (compareOp .NotIn u (.ref a)) Q E s:=by
 rcases g with⟨kvs,k,e,ey,l⟩ | ⟨kvs,k,b,e,ey,eb,l⟩
 ·subst ey
  (refine pw02 (kG I.hok e) λz hd=>ow11 λvs rel dd=>?_);refine wpAny_notIn_of (kF ry) hd dd.mapOf ?_;rw[<-(rel.val k).gy,<-l];exact h _ (I.tok _)
 ·subst ey
  cases (show u=Value.ref b from ry);(refine pw02 (mS I.hok e) λz hd=>ow11 λxs rel dd=>?_);refine wpAny_notIn_heap (tupleKind_room_in1 hu) (j1 I.hok eb) hd dd ?_;have q:=(rel.val k).gy;rw[Option.isSome_map] at q;rw[<-q,<-l];exact h _ (I.tok _)
theorem rO {h':Heap}{t':Nat}{ob:HO}(I:Inv X pins σ H s)(mu:Mut (H a))(hs:Heap.SameBut a s.heap h')(he:∃q,h'.get? a=some q)(new:ObjOk X.prog X.w (upd H a ob) h' a ob) :
  Inv X pins σ (upd H a ob) { s with heap:=h',toks:=t' }:=
 I.write (x:=a) (e:=a) mu (.inl rfl) (λb q hb z=>(hs.2 b hb).trans z) he new
theorem Al {P:Program}{w:World}{H':Hp}{h':Heap}{kvs:List (Key×V)}{vs:List (Key×Value)}(z:kvs.length<=sizeLine)(hd:(a == sysModules)=false)(rel:KV kvs vs)(dd:h'.DictOf (mixKind P w) a vs) :
  ObjOk P w H' h' a (.dK kvs):=⟨z,hd,(iw11 vs rel dd)⟩
theorem x4 {H':Hp}{Q:Unit->Shared->Prop}(hu:A.units+1 < cLine)(I:Inv X pins σ H s)(g:DPut H a y v H')(ry:RelV y u)(rv:RelV v r)(h:∀s',Inv X pins σ H' s'->Q () s') :
  wpAny (model X.prog X.w) A (setItem (.ref a) u r) Q E s:=by
 rcases g with⟨kvs,k,e,ey,l,eH⟩ | ⟨kvs,k,b,e,ey,eb,l,eH⟩
 ·subst ey eH
  (refine pw02 (CY I.hok e) λz hd=>ow11 λvs rel dd=>?_);have hz:vs.length<=sizeLine:=by rw[<-rel.length];exact z
  have hl:(putK kvs k v).length<=sizeLine:=by have:=bE kvs k v;omega
  refine wpAny_setItem_pairs (hsz:=hz) (kF ry) dd λh' dd' hs=>h _ ?_;have he:∃q,h'.get? a=some q:=let ⟨q,_,_,hq,_⟩:=dd';⟨q,hq⟩;exact rO I (by rw[e];exact True.intro) hs he (Al hl hd (rel.put k rv) dd')
 ·subst ey eH
  cases (show u=Value.ref b from ry);(refine pw02 (ES I.hok e) λz hd=>ow11 λxs rel dd=>?_);have hz:xs.length<=sizeLine:=by rw[<-Paired.length rel];exact z
  have hl:(putK kvs k v).length<=sizeLine:=by have:=bE kvs k v;omega
  refine wpAny_setItem_heap (hsz:=hz) (tupleKind_room_in1 hu) (j1 I.hok eb) dd λh' dd' hs=>h _ ?_;(revert dd';refine ow34 λq es ep hq h2 h3 h4=>ow01 λ_ h5=>?_);refine rO I (by rw[e];exact True.intro) hs ⟨q,hq⟩ ⟨hl,hd,(iw11 _ ((rel.put k eb rv).keeps λc ys ec=>?_) (iw34 q es ep hq h2 h3 h4 h5))⟩;rw[aj (ie ec e (λz=>nomatch z))];exact ec
end
section
variable {X:Cx} {pins:List (Addr×Obj)} {σ:St} {H:Hp} {s:Shared} {a:Addr} {kvs:List (Key×V)} {k:Key} {u:Value} {A:Around} {E:Value->Shared->Prop}
theorem ET {Q:Value->Shared->Prop}(I:Inv X pins σ H s)(e:Rd H a (.dK kvs))(h:∀t s',Inv X pins σ H s'->Q (.int kvs.length t) s'):wpAny (model X.prog X.w) A (call (.builtin "len") [.ref a]) Q E s:=by
 (refine pw02 (kG I.hok e) λz hd=>ow11 λvs rel dd=>?_);refine call_len_dict hd dd (by rw[<-rel.length];rw[sizeLine_eq] at z;omega) ?_;rw[<-rel.length];exact h _ _ (I.tok _)
end
theorem tH {X:Cx}{pins:List (Addr×Obj)}{σ:St}{H:Hp}{s:Shared}{a:Addr}{y:V}{o:Option V}(I:Inv X pins σ H s)(g:DGet H a y o):s.TypeIs (.ref a) "dict":=by
 rcases g with⟨kvs,k,e,_,_⟩ | ⟨kvs,k,b,e,_,_,_⟩
 ·(refine pw02 (kG I.hok e) λ_ _=>ow11 λvs _ dd=>?_)
  exact dd.typeIs
 ·(refine pw02 (mS I.hok e) λ_ _=>ow11 λxs _ dd=>?_)
  exact dd.typeIs
section
variable {X:Cx} {o i e value:Expr} {pos pos' tpos:Pos} {td ty tv:TE}
end
theorem tI {P:Program}{w:World}{H:Hp}(h:Heap)(hb:sysModules < h.objs.size):ObjOk P w H (h.push { cls:=.type "dict",data:=.dict #[] }) h.objs.size (.dK []):=
 ⟨Nat.zero_le _,beq_eq_false_iff_ne.mpr (Ne.symm (Nat.ne_of_lt hb)),(iw11 ([]) (.nil) (Heap.DictOf.new h))⟩
noncomputable def tDNewK:TE:=λ_ H Q=>∀p,H p=none->Q (.ref p) (upd H p (.dK []))
section
variable {X:Cx} {pos:Pos}
theorem dN:PE X (.Dict [] [] pos) tDNewK:=λpins s σ H Q I h=>
 wpAny_Dict_empty (iw22 (.ref s.heap.objs.size) _ (I.laid (a:=s.heap.objs.size) (o:=.dK []) (t':=s.toks) (λ_ _ q=>Heap.get?_push_of_some _ q) (Nat.le_refl _) (tI s.heap I.big)) rfl (h _ (I.hok.fresh (Nat.le_refl _))))
end
noncomputable def tPairs:List (TE×TE)->St->Hp->(List (V×V)->Hp->Prop)->Prop
 | [],_,H,Q=>Q [] H
 | (tk,tv)::r,σ,H,Q=>tk σ H λx H1=>tv σ H1 λy H2=>tPairs r σ H2 λps H3=>Q ((x,y)::ps) H3
noncomputable abbrev VV:List (V×V)->List (Value×Value)->Prop:=Paired λp q=>RelV p.1 q.1/\RelV p.2 q.2
noncomputable def PPs (X:Cx)(pos:Pos)(keys:List (Option Expr))(values:List Expr)(trs:List (TE×TE)):Prop:=
 ∀(pins:List (Addr×Obj)) (s:Shared) (σ:St) (H:Hp) (Q:List (V×V)->Hp->Prop),Inv X pins σ H s->tPairs trs σ H Q->
  wpAny (model X.prog X.w) X.A (evalPairs (pairTrees keys values X.env pos)) (λvs s'=>∃ps H',Inv X pins σ H' s'/\VV ps vs/\Q ps H') X.xe s
theorem nQ {X:Cx}{pos:Pos}:PPs X pos [] [] []:=λpins s σ H Q I h=>pairTrees_nil_walk (iw22 ([]) H I (.nil) h)
theorem d9 {X:Cx}{pos:Pos}{k v:Expr}{ks:List (Option Expr)}{vs:List Expr}{tk tv:TE}{trs:List (TE×TE)}(hk:PE X k tk)(hv:PE X v tv)(hr:PPs X pos ks vs trs) :
  PPs X pos (some k::ks) (v::vs) ((tk,tv)::trs):=λpins s σ H Q I h=>
 pairTrees_cons_walk (thnE (hk pins s σ H _ I h) λu s1 x H1 I1 rx q1=>thnE (hv pins s1 σ H1 _ I1 q1) λw2 s2 y H2 I2 ry q2=>
  thn (hr pins s2 σ H2 _ I2 q2) λws s3 zz=>pw22 zz λps H3 I3 rel q3=>(iw22 ((x,y)::ps) H3 I3 (.cons ⟨rx,ry⟩ rel) q3))
noncomputable def mergeK (kvs more:List (Key×V)):List (Key×V):=more.foldl (λacc kv=>putK acc kv.1 kv.2) kvs
theorem KV.merge:∀{more:List (Key×V)} {rs:List (Key×Value)} {kvs:List (Key×V)} {vs:List (Key×Value)},KV more rs->KV kvs vs->KV (mergeK kvs more) (merged vs rs):=by
 intro more rs kvs vs r;unfold KV at r
 induction r generalizing kvs vs with
 | nil=>intro q;exact q
 | @cons p q ps qs h t ih=>
  intro r0;have e:KV (putK kvs p.1 p.2) (stored vs q.1 q.2):=by
   have:=r0.put p.1 h.2;rw[<-h.1];exact this
  exact ih e
theorem jN:∀(more kvs:List (Key×V)),(mergeK kvs more).length<=kvs.length+more.length
 | [],kvs=>by show kvs.length<=kvs.length+0;omega
 | p::r,kvs=>by
  have h1:=jN r (putK kvs p.1 p.2);have h2:=bE kvs p.1 p.2;show(mergeK (putK kvs p.1 p.2) r).length<=_;rw[List.length_cons];omega
theorem om {P:Program}{w:World}:∀{kvs:List (Key×V)} {ws:List (Value×Value)},VV (kvs.map λkv=>(kV kv.1,kv.2)) ws->∃rs,Carries (mixKind P w) ws rs/\KV kvs rs
 | [],_,r=>by rw[List.map_nil] at r;cases r;exact(iw11 ([]) True.intro (.nil))
 | p::kvs,_,r=>by
  rw[List.map_cons] at r;cases r with
  | @cons a b as bs h t=>
   (refine pw11 (om (P:=P) (w:=w) t) λrs c q=>?_);obtain⟨b1,b2⟩:=b;exact(iw11 ((p.1,b2)::rs) ⟨kF h.1,rfl,c⟩ (.cons ⟨rfl,h.2⟩ q))
noncomputable def tDisp (trs:List (TE×TE)):TE:=λσ H Q=>∀p,H p=none->tPairs trs σ (upd H p (.dK [])) λps H2=>H2 p=some (.dK [])/\∃kvs:List (Key×V),ps=kvs.map (λkv=>(kV kv.1,kv.2))/\kvs.length<=15/\Q (.ref p) (upd H2 p (.dK (mergeK [] kvs)))
theorem nR {X:Cx}{pos:Pos}{keys:List (Option Expr)}{values:List Expr}{trs:List (TE×TE)}(h:PPs X pos keys values trs)(hall:keys.all (·.isSome)=true)(hl:keys.length=values.length)(h0:keys≠[])
  (h15:keys.length<=15):PE X (.Dict keys values pos) (tDisp trs):=by
 intro pins s σ H Q I q;have hn:=I.hok.fresh (Nat.le_refl s.heap.objs.size);have I1:=I.laid (a:=s.heap.objs.size) (o:=.dK []) (h':=s.heap.push { cls:=.type "dict",data:=.dict #[] }) (t':=s.toks) (λ_ _ q=>Heap.get?_push_of_some _ q) (Nat.le_refl _) (tI s.heap I.big);refine wpAny_Dict_walk (knd:=mixKind X.prog X.w) hall hl h0 h15 (thn (h pins _ σ _ _ I1 (q _ hn)) λws s2 zz=>pw23 zz λps H2 I2 rel e=>ow12 λkvs ep lk q2=>?_);subst ep;(refine pw11 (om (P:=X.prog) (w:=X.w) rel) λrs c rk=>?_);(refine pw02 (CY I2.hok e) λz hd=>ow11 λvs0 r0 dd=>?_);cases r0;refine(iw12 rs c dd (λh' dd' hs=>(iw22 (.ref s.heap.objs.size) _ ?_ rfl q2)));have hz:(mergeK [] kvs).length<=sizeLine:=by
  have h1:=jN kvs [];rw[List.length_nil] at h1;rw[sizeLine_eq];omega
 have he:∃q,h'.get? s.heap.objs.size=some q:=let ⟨q,_,_,hq,_⟩:=dd';⟨q,hq⟩;exact rO I2 (by rw[e];exact True.intro) hs he (Al hz hd (rk.merge .nil) dd')
structure M1 (X:Cx)(o:Expr)(m:Str)(apos:Pos)(e:Expr)(cpos:Pos):Prop where
 base:attributeBase o m X.env (eval o X.env)=eval o X.env
 few:((backTo cpos (starEach [e] X.env)).all (λx=>!x.1) && (backToKw cpos (keywordEach [] X.env)).all (λx=>x.1.isSome)
  && decide (([e]:List Expr).length+([]:List Keyword).length+(if ([]:List Keyword).isEmpty then 0 else 1) < 30))=true
 line:(apos.endLine == cpos.line)=true
 trees:backTo cpos (starEach [e] X.env)=[(false,eval e X.env)]
structure M2 (X:Cx)(o:Expr)(m:Str)(apos:Pos)(e f:Expr)(cpos:Pos):Prop where
 base:attributeBase o m X.env (eval o X.env)=eval o X.env
 few:((backTo cpos (starEach [e,f] X.env)).all (λx=>!x.1) && (backToKw cpos (keywordEach [] X.env)).all (λx=>x.1.isSome)
  && decide (([e,f]:List Expr).length+([]:List Keyword).length+(if ([]:List Keyword).isEmpty then 0 else 1) < 30))=true
 line:(apos.endLine == cpos.line)=true
 trees:backTo cpos (starEach [e,f] X.env)=[(false,eval e X.env),(false,eval f X.env)]
noncomputable def IsD (H:Hp)(a:Addr):Prop:=(∃kvs,Rd H a (.dK kvs))\/∃kvs,Rd H a (.dT kvs)
theorem Am {X:Cx}{pins:List (Addr×Obj)}{σ:St}{H:Hp}{s:Shared}{a:Addr}(I:Inv X pins σ H s)(d:IsD H a) :
  s.TypeIs (.ref a) "dict" /\ (∀b,Value.ref a=.ref b->∃ob,s.heap.get? b=some ob/\ob.dict=none)/\(a == sysModules)=false:=by
 rcases d with⟨kvs,e⟩ | ⟨kvs,e⟩
 ·(refine pw02 (kG I.hok e) λ_ hd=>ow11 λvs _ dd=>?_)
  refine⟨dd.typeIs,λb q=>?_,hd⟩;cases q;(revert dd;refine ow32 λob _ _ h1 h2 _=>?_);exact(iw11 ob h1 h2.2.1)
 ·(refine pw02 (mS I.hok e) λ_ hd=>ow11 λxs _ dd=>?_)
  refine⟨dd.typeIs,λb q=>?_,hd⟩;cases q;(revert dd;refine ow32 λob _ _ h1 h2 _=>?_);exact(iw11 ob h1 h2.2.1)
section
variable {X:Cx} {pins:List (Addr×Obj)} {σ:St} {H:Hp} {s:Shared} {a:Addr} {y d:V} {u r:Value} {o:Option V} {A:Around} {E:Value->Shared->Prop}
theorem DK {Q:Value->Shared->Prop}(hu:A.units+1 < cLine)(I:Inv X pins σ H s)(g:DGet H a y o)(ry:RelV y u)(h:∀w' s',Inv X pins σ H s'->RelV (o.getD .non) w'->Q w' s') :
  wpAny (model X.prog X.w) A (call (.builtin "dict.get") [.ref a,u]) Q E s:=by
 rcases g with⟨kvs,k,e,ey,l⟩ | ⟨kvs,k,b,e,ey,eb,l⟩
 ·subst ey
  (refine pw02 (kG I.hok e) λz hd=>ow11 λvs rel dd=>?_);refine call_meetsIn PySem.F.slot_dict_get dd.typeIs PySem.F.entry_dict_get (PySem.F.args_dict_get_2 _ _) (meets_dict_get (mixKind X.prog X.w) a (kF ry) hd) (iw11 _ dd.mapOf (h _ _ (I.tok _) ?_));rw[l];exact(rel.val k).getD rfl
 ·subst ey
  cases (show u=Value.ref b from ry);(refine pw02 (mS I.hok e) λz hd=>ow11 λxs rel dd=>?_);refine call_meetsIn PySem.F.slot_dict_get dd.typeIs PySem.F.entry_dict_get (PySem.F.args_dict_get_2 _ _) (meetsH_dict_get (tupleKind (mixKind X.prog X.w)) a b hd) ⟨tupleKind_room_in1 hu,(iw22 k xs (j1 I.hok eb) dd (h _ _ (I.tok _) ?_))⟩;rw[l];exact(rel.val k).getD rfl
theorem DL {Q:Value->Shared->Prop}(hu:A.units+1 < cLine)(I:Inv X pins σ H s)(g:DGet H a y o)(ry:RelV y u)(rd:RelV d r)(h:∀w' s',Inv X pins σ H s'->RelV (o.getD d) w'->Q w' s') :
  wpAny (model X.prog X.w) A (call (.builtin "dict.get") [.ref a,u,r]) Q E s:=by
 rcases g with⟨kvs,k,e,ey,l⟩ | ⟨kvs,k,b,e,ey,eb,l⟩
 ·subst ey
  (refine pw02 (kG I.hok e) λz hd=>ow11 λvs rel dd=>?_);refine call_meetsIn PySem.F.slot_dict_get dd.typeIs PySem.F.entry_dict_get (PySem.F.args_dict_get_3 _ _ _) (meets_dict_get_default (mixKind X.prog X.w) a (kF ry) hd r) (iw11 _ dd.mapOf (h _ _ (I.tok _) ?_));rw[l];exact(rel.val k).getD rd
 ·subst ey
  cases (show u=Value.ref b from ry);(refine pw02 (mS I.hok e) λz hd=>ow11 λxs rel dd=>?_);refine call_meetsIn PySem.F.slot_dict_get dd.typeIs PySem.F.entry_dict_get (PySem.F.args_dict_get_3 _ _ _) (meetsH_dict_get_default (tupleKind (mixKind X.prog X.w)) a b hd r) ⟨tupleKind_room_in1 hu,(iw22 k xs (j1 I.hok eb) dd (h _ _ (I.tok _) ?_))⟩;rw[l];exact(rel.val k).getD rd
end
noncomputable def tDGet1 (td ty:TE):TE:=λσ H Q=>td σ H λx H1=>∃a,x=.ref a/\IsD H1 a/\ty σ H1 λy H2=>∃o,DGet H2 a y o/\Q (o.getD .non) H2
noncomputable def tDGet2 (td ty tx:TE):TE:=λσ H Q=>td σ H λx H1=>∃a,x=.ref a/\IsD H1 a/\ty σ H1 λy H2=>tx σ H2 λz H3=>∃o,DGet H3 a y o/\Q (o.getD z) H3
noncomputable def tDPop1 (td ty:TE):TE:=λσ H Q=>td σ H λx H1=>∃a,x=.ref a/\IsD H1 a/\ty σ H1 λy H2=>∃kvs k v,H2 a=some (.dK kvs)/\y=kV k/\valV kvs k=some v/\Q v (upd H2 a (.dK (dropK kvs k)))
noncomputable def tDPop2 (td ty tx:TE):TE:=λσ H Q=>td σ H λx H1=>∃a,x=.ref a/\IsD H1 a/\ty σ H1 λy H2=>tx σ H2 λz H3=>∃kvs k,H3 a=some (.dK kvs)/\y=kV k/\
 (∀v,valV kvs k=some v->Q v (upd H3 a (.dK (dropK kvs k))))/\(valV kvs k=none->Q z H3)
section
variable {X:Cx} {o e f:Expr} {apos cpos:Pos} {td ty tx:TE}
theorem An (hu:X.A.units+1 < cLine)(ho:PE X o td)(he:PE X e ty)(m:M1 X o "get" apos e cpos):PE X (.Call (.Attribute o "get" apos) [e] [] cpos) (tDGet1 td ty):=by
 intro pins s σ H Q I h;refine wpAny_Call_method m.base m.few m.line PySem.F.plainAttrs_dict PySem.F.slot_dict_get PySem.F.type_dict_get (thn (ho pins s σ H _ I h) λu s1 zz=>pw22 zz λx H1 I1 rx=>ow12 λa ex d q1=>?_);subst ex;obtain rfl:u=Value.ref a:=rx;(refine pw02 (Am I1 d) λt1 t2 _=>?_);refine⟨t1,t2,?_⟩;rw[m.trees];refine Calls.callWith_builtin rfl (Calls.evalArgs_plain (Calls.spliced_cons (thn (he pins s1 σ H1 _ I1 q1) λiv s2 zz=>pw22 zz λy H2 I2 ry=>ow11 λov g q2=>Calls.spliced_nil ?_)));exact DK hu I2 g ry λw' s3 I3 rw'=>(iw22 _ H2 I3 rw' q2)
theorem oo (hu:X.A.units+1 < cLine)(ho:PE X o td)(he:PE X e ty)(hf:PE X f tx)(m:M2 X o "get" apos e f cpos):PE X (.Call (.Attribute o "get" apos) [e,f] [] cpos) (tDGet2 td ty tx):=by
 intro pins s σ H Q I h;refine wpAny_Call_method m.base m.few m.line PySem.F.plainAttrs_dict PySem.F.slot_dict_get PySem.F.type_dict_get (thn (ho pins s σ H _ I h) λu s1 zz=>pw22 zz λx H1 I1 rx=>ow12 λa ex d q1=>?_);subst ex;obtain rfl:u=Value.ref a:=rx;(refine pw02 (Am I1 d) λt1 t2 _=>?_);refine⟨t1,t2,?_⟩;rw[m.trees]
 refine Calls.callWith_builtin rfl (Calls.evalArgs_plain (Calls.spliced_cons (thnE (he pins s1 σ H1 _ I1 q1) λiv s2 y H2 I2 ry q2=>
  Calls.spliced_cons (thn (hf pins s2 σ H2 _ I2 q2) λfv s3 zz=>pw22 zz λz H3 I3 rz=>ow11 λov g q3=>Calls.spliced_nil ?_))))
 exact DL hu I3 g ry rz λw' s4 I4 rw'=>(iw22 _ H3 I4 rw' q3)
end
section
variable {X:Cx} {pins:List (Addr×Obj)} {σ:St} {H:Hp} {s:Shared} {a:Addr} {kvs:List (Key×V)} {A:Around} {E:Value->Shared->Prop}
end
section
variable {X:Cx} {pins:List (Addr×Obj)} {σ:St} {H:Hp} {s:Shared} {a:Addr} {y:V} {u:Value} {A:Around} {E:Value->Shared->Prop}
end
end L2
namespace Att
open PySem PySem.W PySem.Calls PyProof.Rows
section
variable {prog:Program} {w:World} {A:Around} {E:Value->Shared->Prop} {s:Shared} {K:Frag}
end
end Att
namespace L2
open PySem PySem.Spec PyProof.Rows
section
variable {P:Program} {w:World} {K:W.Frag} {mg:Str->Option Value} {base:Heap}
end
section
variable {X:Cx}
theorem x5:CallR X (.builtin "len") (λxs H Q=>∃a kvs,xs=[V.ref a]/\H a=some (.dK kvs)/\Q (.int kvs.length) H):=by
 intro pins s σ H xs us Q I r h;(revert h;refine ow22 λa kvs zz1 ha q=>?_;subst zz1);(refine pw11 (vals1 r) λu zz1 ru=>?_;subst zz1);cases ru;exact ET I (.inl ha) λt s' I'=>(iw22 (.int kvs.length) H I' ⟨t,rfl⟩ q)
end
section
variable {κ:Type} [DecidableEq κ]
end
noncomputable def closOf (cells:List (Str×Addr)):List (Str×NameKind)->List (Str×Addr)->List (Str×Addr)
 | [],cs=>cs
 | (n,k)::r,cs=>if k=NameKind.free then(match cells.lookup n with | some a=>closOf cells r ((n,a)::cs) | none=>closOf cells r cs) else closOf cells r cs
theorem mT {env:Env}:∀(names:List (Str×NameKind)) (cs:List (Str×Addr)),(∀y∈names,y.2=NameKind.free->∃c,env.cells.lookup y.1=some c)->
  (forIn names cs λ(x:Str×NameKind) r=>match x with
   | (name,kind)=>if (kind == NameKind.free)=true then do let a <-cellOf env name;pure (ForInStep.yield ((name,a)::r)) else pure (ForInStep.yield r))=(pure (closOf env.cells names cs):Sem (List (Str×Addr)))
 | [],cs,_=>rfl
 | (n,k)::r,cs,h=>by
  have ih:=λcs'=>mT (env:=env) r cs' λy hy=>h y (List.mem_cons_of_mem _ hy);rw[List.forIn_cons]
  by_cases hk:k=NameKind.free
  ·obtain⟨c,hc⟩:=h (n,k) List.mem_cons_self hk
   have hc':env.cells.lookup n=some c:=hc;have hcell:cellOf env n=pure c:=by unfold cellOf;rw[hc']
   have e1:closOf env.cells ((n,k)::r) cs=closOf env.cells r ((n,c)::cs):=by
    rw[closOf,if_pos hk,hc']
   rw[e1,<-ih ((n,c)::cs)];subst hk;dsimp only;rw[hcell];rfl
  ·have hb:(k == NameKind.free)=false:=by simpa using hk
   have e1:closOf env.cells ((n,k)::r) cs=closOf env.cells r cs:=by
    rw[closOf,if_neg hk]
   rw[e1,<-ih cs];dsimp only;rw[hb];rfl
theorem j2 {scope:Scope}{env:Env}(h:∀y∈scope.names,y.2=NameKind.free->∃c,env.cells.lookup y.1=some c):closureFor scope env=pure (closOf env.cells scope.names []):=by
 have e:=mT (env:=env) scope.names [] h;unfold closureFor;exact(congrArg (λt:Sem (List (Str×Addr))=>t >>= λs=>pure s) e).trans rfl
theorem bb {cells:List (Str×Addr)}:∀(names:List (Str×NameKind)) (cs:List (Str×Addr)),(∀x c,cs.lookup x=some c->cells.lookup x=some c)->∀x c,(closOf cells names cs).lookup x=some c->cells.lookup x=some c
 | [],cs,h,x,c,e=>h x c e
 | (n,k)::r,cs,h,x,c,e=>by
  by_cases hk:k=NameKind.free
  ·cases q:cells.lookup n with
   | none=>
    rw[closOf,if_pos hk,q] at e;exact bb r cs h x c e
   | some a=>
    rw[closOf,if_pos hk,q] at e;refine bb r _ (λy d z=>?_) x c e;rw[List.lookup_cons] at z
    by_cases hy:(y == n)=true
    ·rw[hy] at z
     have hy':y=n:=by simpa using hy
     subst hy';exact q.trans z
    ·have hy':(y == n)=false:=by simpa using hy
     rw[hy'] at z;exact h y d z
  ·rw[closOf,if_neg hk] at e
   exact bb r cs h x c e
theorem fw {cells:List (Str×Addr)}:∀(names:List (Str×NameKind)) (cs:List (Str×Addr)) (x:Str),(cs.lookup x).isSome=true->((closOf cells names cs).lookup x).isSome=true
 | [],cs,x,h=>h
 | (n,k)::r,cs,x,h=>by
  by_cases hk:k=NameKind.free
  ·cases q:cells.lookup n with
   | none=>rw[closOf,if_pos hk,q];exact fw r cs x h
   | some a=>
    rw[closOf,if_pos hk,q];refine fw r _ x ?_;rw[List.lookup_cons];cases hy:x == n with
    | true=>rfl
    | false=>exact h
  ·rw[closOf,if_neg hk];exact fw r cs x h
theorem eA {cells:List (Str×Addr)}:∀(names:List (Str×NameKind)) (cs:List (Str×Addr)) (x:Str),(x,NameKind.free)∈names->(cells.lookup x).isSome=true->((closOf cells names cs).lookup x).isSome=true
 | [],cs,x,h,_=>by simp at h
 | (n,k)::r,cs,x,h,hc=>by
  rcases List.mem_cons.mp h with e | e
  ·cases e
   obtain⟨c,hc'⟩:=Option.isSome_iff_exists.mp hc;rw[closOf,if_pos rfl,hc'];refine fw r _ _ ?_;rw[List.lookup_cons,beq_self_eq_true];rfl
  ·by_cases hk:k=NameKind.free
   ·cases q:cells.lookup n with
    | none=>rw[closOf,if_pos hk,q];exact eA r cs x e hc
    | some a=>rw[closOf,if_pos hk,q];exact eA r _ x e hc
   ·rw[closOf,if_neg hk];exact eA r cs x e hc
theorem lookup_mem {α:Type}:∀{l:List (Str×α)} {x:Str} {a:α},l.lookup x=some a->(x,a)∈l
 | [],x,a,h=>by simp at h
 | (n,k)::r,x,a,h=>by
  rw[List.lookup_cons] at h;cases hx:x == n with
  | true=>
   rw[hx] at h;have e:x=n:=by simpa using hx
   subst e;cases h;exact List.mem_cons_self
  | false=>
   rw[hx] at h;exact List.mem_cons_of_mem _ (lookup_mem h)
theorem bS {env:Env}:∀(names:List (Str×NameKind)) (x:Str) (k:NameKind),
  (names.map λ(p:Str×NameKind)=>match p with | (n,k)=>if (k == NameKind.free && env.scope.kind == .function && env.kindOf n == some .cell) then(n,NameKind.cell) else(n,k)).lookup x=some k->
   names.lookup x=some k\/(k=.cell/\names.lookup x=some .free)
 | [],x,k,h=>by simp at h
 | (n,k₀)::r,x,k,h=>by
  rw[List.map_cons] at h;dsimp only at h;cases hx:x == n with
  | true=>
   rw[List.lookup_cons,hx]
   by_cases hc:(k₀ == NameKind.free && env.scope.kind == .function && env.kindOf n == some .cell)=true
   ·rw[if_pos hc,List.lookup_cons,hx] at h
    cases h;have:k₀=.free:=by
     simp only[Bool.and_eq_true] at hc;simpa using hc.1.1
    subst this;exact .inr ⟨rfl,rfl⟩
   ·rw[if_neg hc,List.lookup_cons,hx] at h
    exact .inl h
  | false=>
   rw[List.lookup_cons,hx]
   by_cases hc:(k₀ == NameKind.free && env.scope.kind == .function && env.kindOf n == some .cell)=true
   ·rw[if_pos hc,List.lookup_cons,hx] at h
    exact bS r x k h
   ·rw[if_neg hc,List.lookup_cons,hx] at h
    exact bS r x k h
theorem gO {env:Env}:∀(names:List (Str×NameKind)) (x:Str),names.lookup x=some .free->
  (names.map λ(p:Str×NameKind)=>match p with | (n,k)=>if (k == NameKind.free && env.scope.kind == .function && env.kindOf n == some .cell) then(n,NameKind.cell) else(n,k)).lookup x=some .free\/
  (names.map λ(p:Str×NameKind)=>match p with | (n,k)=>if (k == NameKind.free && env.scope.kind == .function && env.kindOf n == some .cell) then(n,NameKind.cell) else(n,k)).lookup x=some .cell
 | [],x,h=>by simp at h
 | (n,k₀)::r,x,h=>by
  rw[List.map_cons];dsimp only;cases hx:x == n with
  | true=>
   rw[List.lookup_cons,hx] at h;cases h
   by_cases hc:(NameKind.free == NameKind.free && env.scope.kind == .function && env.kindOf n == some .cell)=true
   ·rw[if_pos hc,List.lookup_cons,hx]
    exact .inr rfl
   ·rw[if_neg hc,List.lookup_cons,hx]
    exact .inl rfl
  | false=>
   rw[List.lookup_cons,hx] at h
   by_cases hc:(k₀ == NameKind.free && env.scope.kind == .function && env.kindOf n == some .cell)=true
   ·rw[if_pos hc,List.lookup_cons,hx]
    exact gO r x h
   ·rw[if_neg hc,List.lookup_cons,hx]
    exact gO r x h
noncomputable def hideN (x y:Str):Str:=if y=x then Str.empty else y
noncomputable abbrev blk (X:Cx)(x:Str)(scope:Scope)(M:List Str)(C:Addr)(s₀:Shared)(H₀:Hp)(fp:List Addr):Cx:=
 { X with N:=x::M,s₀:=s₀,H₀:=H₀,env:=compEnvC scope (closOf X.env.cells scope.names []) C X.env,outer:=X.stack,stack:=X.stack,ex:=fp,fn:=λ_=>false,pn:=[],xe:=λ_ _=>False }
structure CompOk (N M:List Str)(sc:Scope)(x:Str)(scope:Scope):Prop where
 kind:scope.kind=.function
 cell:∀y∈scope.names,y.2≠.cell
 names:∀y∈scope.names,y.2=.local->scope.names.lookup y.1=some .local
 own:scope.names.lookup x=some .local
 free:∀y∈scope.names,y.2=.free->sc.names.lookup y.1=some .cell\/sc.names.lookup y.1=some .free
 hid:N.map (hideN x)=M
 nd:(x::M).Nodup
 others:∀y∈M,scope.names.lookup y≠some .local
 void:scope.names.lookup Str.empty=none
noncomputable def tComp (wi:TI)(tt:TT)(te:TE):TE:=λσ H Q=>wi σ H λJ H1=>∀D,H1 D=none->∃W:Nat->Nat->List V->Hp->Prop,(∃m,W 0 m [] (upd H1 D (.lst [])))/\∀i m ys H2,W i m ys H2->
 (J.stop i H2/\H2 D=some (.lst ys)/\Q (.ref D) H2)\/(J.go i H2/\ys.length < sizeLine/\∀x H3,J.yld i H2 x H3->tt (some x::σ) H3 λb H4=>
  if b=true then te (some x::σ) H4 λy H5=>H5 D=some (.lst ys)/\∃m',m' < m/\W (i+1) m' (ys++[y]) (upd H5 D (.lst (ys++[y]))) else ∃m',m' < m/\W (i+1) m' ys H4)
noncomputable def tYes:TT:=λ_ H Q=>Q true H
section
variable {prog:Program} {w:World} {A:Around} {R:Result->Shared->Prop} {s:Shared}
theorem tJ {elt target iter:Expr}{ifs:List Expr}{scope:Scope}{pos:Pos}{it acc:Value}{env:Env}(Jv:Nat->Shared->Prop)
  (turn:∀n s,Jv n s->wpAny (model prog w) A (pyNext it) (λr s₁=>match r with
   | none=>R (.ok .next) s₁
   | some v=>wpAny (model prog w) A (letOwnedTupleGo target it v) (λ_ s₀=>wpAny (model prog w) A (assign target env v) (λ_ s₂=>
     wpAny (model prog w) A (forIn ifs true λc r=>if r=true then do let ok <-isTrue c env (eval c env);pure (ForInStep.yield ok) else pure (ForInStep.yield r)) (λok s₃=>
      if ok=true then wpAny (model prog w) A (eval elt env) (λx s₄=>wpAny (model prog w) A (call (.builtin "list.append") [acc,x]) (λ_ s₅=>∃m,m < n/\Jv m s₅) (λ_ _=>False) s₄) (λ_ _=>False) s₃
      else ∃m,m < n/\Jv m s₃) (λ_ _=>False) s₂) (λ_ _=>False) s₀) (λ_ _=>False) s₁) (λ_ _=>False) s)
  (n:Nat) (h:Jv n s):codeAny (model prog w) A (.compLoop (.ListComp elt [⟨target,iter,ifs,0⟩] scope pos) 0 it acc env) R s:=by
 have no:∀{α:Type} {t:Sem α} {Q:α->Shared->Prop} {E:Value->Shared->Prop} {s':Shared},wpAny (model prog w) A t Q (λ_ _=>False) s'->wpAny (model prog w) A t Q E s':=λh=>wpAny_mono h (λ_ _ q=>q) λ_ _ f=>f.elim;refine codeAny_loop rfl Jv (λn s hI=>?_) n h;refine wpAny_noted (env:=env) ?_;rw[compTurn_list];refine wpAny_bind (wpAny_standAt (wpAny_bind (thn (no (turn n s hI)) λr s₁ h₁=>?_)));cases r with
 | none=>exact wpAny_pure h₁
 | some v=>
  refine wpAny_bind (thn (no h₁) λ_ s₀ h₀=>wpAny_bind (thn (no h₀) λ_ s₂ h₂=>wpAny_bind (thn (no h₂) λok s₃ h₃=>?_)));cases ok with
  | false=>exact wpAny_pure ⟨rfl,h₃⟩
  | true=>exact wpAny_bind (wpAny_bind (thn (no h₃) λx s₄ h₄=>wpAny_bind (thn (no h₄) λ_ s₅ h₅=>wpAny_pure (wpAny_pure ⟨rfl,h₅⟩))))
end
section
variable {X:Cx} {pins:List (Addr×Obj)} {σ:St} {H2:Hp} {s2:Shared} {E:Value->Shared->Prop}
end
noncomputable def hideT (xs:List Str)(y:Str):Str:=if y∈xs then Str.empty else y
noncomputable abbrev blkT (X:Cx)(xs:List Str)(scope:Scope)(M:List Str)(C:Addr)(s₀:Shared)(H₀:Hp)(fp:List Addr):Cx:=
 { X with N:=xs++M,s₀:=s₀,H₀:=H₀,env:=compEnvC scope (closOf X.env.cells scope.names []) C X.env,outer:=X.stack,stack:=X.stack,ex:=fp,fn:=λ_=>false,pn:=[],xe:=λ_ _=>False }
structure CompOkT (N M:List Str)(sc:Scope)(xs:List Str)(scope:Scope):Prop where
 kind:scope.kind=.function
 cell:∀y∈scope.names,y.2≠.cell
 names:∀y∈scope.names,y.2=.local->scope.names.lookup y.1=some .local
 free:∀y∈scope.names,y.2=.free->sc.names.lookup y.1=some .cell\/sc.names.lookup y.1=some .free
 hid:N.map (hideT xs)=M
 others:∀y∈M,scope.names.lookup y≠some .local
 void:scope.names.lookup Str.empty=none
noncomputable def tCompT (n:Nat)(wi:TI)(g:TG)(tt:TT)(te:TE):TE:=λσ H Q=>wi σ H λJ H1=>∀D,H1 D=none->∃W:Nat->Nat->List V->Hp->Prop,(∃m,W 0 m [] (upd H1 D (.lst [])))/\∀i m ys H2,W i m ys H2->
 (J.stop i H2/\H2 D=some (.lst ys)/\Q (.ref D) H2)\/(J.go i H2/\ys.length < sizeLine/\∀x H3,J.yld i H2 x H3->∀o:St,o.length=n->g x (o++σ) H3 λσ' H3'=>(∃o':St,o'.length=n/\σ'=o'++σ)/\tt σ' H3' λb H4=>
  if b=true then te σ' H4 λy H5=>H5 D=some (.lst ys)/\∃m',m' < m/\W (i+1) m' (ys++[y]) (upd H5 D (.lst (ys++[y]))) else ∃m',m' < m/\W (i+1) m' ys H4)
section
variable {X:Cx} {pins:List (Addr×Obj)} {σ:St} {H2:Hp} {s2:Shared} {E:Value->Shared->Prop}
theorem BL {N M:List Str}{sc scope:Scope}{xs:List Str}{C:Addr}{H:Hp}{s:Shared}{fp:List Addr}(I:Inv X pins σ H s)(hsc:X.env.scope=sc)(O:CompOkT N M sc xs scope)(hC:s.heap.objs.size<=C)
  (hf:∀b∈fp,FpOk X pins H b) (hlt:∀b∈fp,b < s.heap.objs.size):(blkT X xs scope M C s H fp).Ok where
 mod:=I.ok.mod
 kind:=O.kind
 glob:=I.ok.glob
 blt:=I.ok.blt
 above:=hC
 inj:=λy z c e1 e2=>I.ok.inj y z c (bb _ _ (λ_ _ z=>by simp at z) _ _ e1) (bb _ _ (λ_ _ z=>by simp at z) _ _ e2)
 has:=λy hy=>by
  have q:scope.names.lookup y=some .free:=by
   rcases hy with hy | hy
   ·rcases bS _ _ _ hy with z | ⟨_,z⟩
    ·exact absurd rfl (O.cell _ (lookup_mem z))
    ·exact z
   ·rcases bS _ _ _ hy with z | ⟨z,_⟩
    ·exact z
    ·cases z
  have q2:=O.free _ (lookup_mem q) rfl;rw[<-hsc] at q2;obtain⟨c,hc⟩:=I.ok.has y q2;exact Option.isSome_iff_exists.mp (eA _ _ _ (lookup_mem q) (by rw[hc];rfl))
 cab:=λy c h=>by cases h
 hd:=I.ok.hd
 frames:=I.ok.frames
 stk:=.inl rfl
 exf:=λb hb=>⟨Nat.ne_of_lt (Nat.lt_of_lt_of_le (hlt b hb) hC),λy c e=>(hf b hb).2.2.2.2.1 y c (bb _ _ (λ_ _ z=>by simp at z) _ _ e)⟩
 bs:=I.bs
 bsz:=Nat.le_trans I.ok.bsz I.sz
 noex:=λb o e hb=>by
  rcases(hf b hb).2.2.2.1 with z | z
  ·exact I.ok.noex b o e z
  ·exact absurd (Nat.lt_of_lt_of_le (Heap.lt_size (I.ok.bs b o e).1) z) (Nat.lt_irrefl _)
 exfs:=λb hb z=>by
  (refine pw02 (hf b hb) λ_ f1=>ow01 λf2 _=>?_);exact(List.mem_cons.mp (I.stkSub b z)).elim f1 f2
 funs:=I.stack
 frf:=I.stkFree
theorem Ao {N M:List Str}{sc scope:Scope}{xs:List Str}{H:Hp}{s:Shared}{fp:List Addr}{h':Heap}{tk:Nat}(I:Inv X pins σ H s)(hX:X.N=N)(hsc:X.env.scope=sc)(O:CompOkT N M sc xs scope)
  (hf:∀b∈fp,FpOk X pins H b) (hlt:∀b∈fp,b < s.heap.objs.size) {m:Str->Option Value} (hns:h'.Ns s.heap.objs.size m) (k:∀b u,s.heap.get? b=some u->h'.get? b=some u) :
  Inv (blkT X xs scope M s.heap.objs.size s H fp) [] (List.replicate xs.length none++σ) H { s with heap:=h',toks:=tk } where
 ok:=BL I hsc O (Nat.le_refl _) hf hlt
 os:=rfl
 bare:=I.bare
 base:=Un.kept k
 loc:=by
  refine(iw11 m hns (λj y v e1 e2 e3=>?_))
  by_cases hj:j < xs.length
  ·rw[List.getElem?_append_left (by simpa using hj),List.getElem?_replicate,if_pos hj] at e2
   cases e2
  ·obtain⟨i,rfl⟩:∃i,j=xs.length+i:=⟨j - xs.length,by omega⟩
   have e1':M[i]?=some y:=by
    have:=e1;rw[List.getElem?_append_right (by omega)] at this;simpa using this
   have e2':σ[i]?=some (some v):=by
    rw[List.getElem?_append_right (by simp)] at e2;simpa using e2
   have hyM:y∈M:=List.mem_of_getElem? e1';have hfree:scope.names.lookup y=some .free:=by
    rcases e3 with e3 | e3 | e3
    ·rcases bS _ _ _ e3 with z | ⟨z,_⟩
     ·exact absurd z (O.others y hyM)
     ·cases z
    ·rcases bS _ _ _ e3 with z | ⟨_,z⟩
     ·exact absurd rfl (O.cell _ (lookup_mem z))
     ·exact z
    ·rcases bS _ _ _ e3 with z | ⟨z,_⟩
     ·exact z
     ·cases z
   have hN:X.N[i]?=some y:=by
    rw[hX];rw[<-O.hid,List.getElem?_map] at e1';cases q:N[i]? with
    | none=>rw[q] at e1';cases e1'
    | some z=>
     rw[q] at e1';have e4:hideT xs z=y:=Option.some.inj e1';unfold hideT at e4
     by_cases hz:z∈xs
     ·rw[if_pos hz] at e4
      rw[<-e4,O.void] at hfree;cases hfree
     ·rw[if_neg hz] at e4
      rw[e4]
   have q2:=O.free _ (lookup_mem hfree) rfl;rw[<-hsc] at q2;have hvis:Vis X.env.scope y:=q2.elim (λz=>.inr (.inl z)) λz=>.inr (.inr z);(refine pw11 I.loc λm0 hn0 hl=>?_);(refine pw11 (hl i y v hN e2' hvis) λu r l=>?_);refine(iw11 u r ?_);rcases l with⟨l,_⟩ | ⟨l,c,hc,z⟩
   ·exfalso
    have l':X.env.scope.names.lookup y=some .local:=l;rcases q2 with q2 | q2
    ·have q2':X.env.scope.names.lookup y=some .cell:=q2
     rw[l'] at q2';cases q2'
    ·have q2':X.env.scope.names.lookup y=some .free:=q2
     rw[l'] at q2';cases q2'
   ·have hsome:=eA scope.names [] y (lookup_mem hfree) (cells:=X.env.cells) (by rw[hc];rfl)
    obtain⟨c',hc'⟩:=Option.isSome_iff_exists.mp hsome;have e5:=bb _ _ (λ_ _ z=>by simp at z) _ _ hc';rw[hc] at e5;cases e5;(revert z;refine ow11 λo ho hd=>?_);refine .inr ⟨?_,(iw11 c hc' (iw11 o (k c o ho) hd))⟩;rcases gO (env:=X.env) _ _ hfree with z | z
    ·exact .inr z
    ·exact .inl z
 cell:=λy c e=>by
  (refine pw21 (I.cell y c (bb _ _ (λ_ _ z=>by simp at z) _ _ e)) λv o ho hd=>?_);exact(iw21 v o (k c o ho) hd)
 free:=I.hok.fresh (Nat.le_refl _)
 freeC:=λy c e=>I.freeC y c (bb _ _ (λ_ _ z=>by simp at z) _ _ e)
 pin:=λp hp=>by simp at hp
 hok:=I.hok.kept k
 len:=by
  have e:N.length=M.length:=by rw[<-O.hid,List.length_map]
  rw[List.length_append,List.length_replicate,List.length_append];rw[I.len,hX,e]
variable {elt iter tg:Expr} {ifs:List Expr} {xs:List Str} {pos:Pos} {g:TG} {N M:List Str} {sc scope:Scope} {tt:TT} {te:TE} {it:Addr} {fp:List Addr} {tn:Nat->Heap->Prop} {J:It}
theorem mU (hcalm:X.calm=true)(hX:X.N=N)(hsc:X.env.scope=sc)(O:CompOkT N M sc xs scope)
  (hts:∀(C:Addr) (s₀:Shared) (H₀:Hp) (fp:List Addr) (pins:List (Addr×Obj)) (s:Shared) (σ:St) (H:Hp) (Q:Bool->Hp->Prop),Inv (blkT X xs scope M C s₀ H₀ fp) pins σ H s->tt σ H Q->
   wpAny (model X.prog X.w) X.A (forIn ifs true λc r=>if r=true then do let ok <-isTrue c (blkT X xs scope M C s₀ H₀ fp).env (eval c (blkT X xs scope M C s₀ H₀ fp).env);pure (ForInStep.yield ok) else pure (ForInStep.yield r)) (TP (blkT X xs scope M C s₀ H₀ fp) pins σ Q) (λ_ _=>False) s)
  (hel:∀(C:Addr) (s₀:Shared) (H₀:Hp) (fp:List Addr),PE (blkT X xs scope M C s₀ H₀ fp) elt te)
  (hg:∀(C:Addr) (s₀:Shared) (H₀:Hp) (fp:List Addr),PG (blkT X xs scope M C s₀ H₀ fp) tg g)
  (I2:Inv X pins σ H2 s2) (T:Turn X.prog X.w X.K tg J fp it tn) (st2:tn 0 s2.heap) (f2:∀b∈fp,FpOk X pins H2 b) {Qd:Addr->Hp->Prop}
  (q:∀D,H2 D=none->∃W:Nat->Nat->List V->Hp->Prop,(∃m,W 0 m [] (upd H2 D (.lst [])))/\∀i m ys H3,W i m ys H3->
   (J.stop i H3/\H3 D=some (.lst ys)/\Qd D H3)\/(J.go i H3/\ys.length < sizeLine/\∀x H4,J.yld i H3 x H4->∀o:St,o.length=xs.length->g x (o++σ) H4 λσ' H4'=>(∃o':St,o'.length=xs.length/\σ'=o'++σ)/\tt σ' H4' λb H5=>
    if b=true then te σ' H5 λy H6=>H6 D=some (.lst ys)/\∃m',m' < m/\W (i+1) m' (ys++[y]) (upd H6 D (.lst (ys++[y]))) else ∃m',m' < m/\W (i+1) m' ys H5))
  {RR:Value->Addr->Result->Shared->Prop} (hRR:∀D C H' s',Inv X pins σ H' s'->FpOk X pins H' C->(∃m,s'.heap.Ns C m)->Qd D H'->RR (.ref D) C (.ok .next) s') :
  wpAny (model X.prog X.w) X.A (newList []) (λacc s₃=>wpAny (model X.prog X.w) X.A (newFunctionEnv scope X.env.globals (closOf X.env.cells scope.names []) [] X.env.qual none .none (some X.env)) (λcenv s₄=>
   codeAny (model X.prog X.w) X.A (.compStart (.ListComp elt [⟨tg,iter,ifs,0⟩] scope pos) 0 (.ref it) acc { cenv with scope:=relabel scope X.env }) (RR acc cenv.locals) s₄) E s₃) E s2:=by
 have hlt2:∀b∈fp,b < s2.heap.objs.size:=λb hb=>let ⟨o,e,_⟩:=T.obj _ _ st2 b hb;Heap.lt_size e;have nD:H2 s2.heap.objs.size=none:=I2.hok.fresh (Nat.le_refl _);(refine pw11 (q s2.heap.objs.size nD) λW zz1 turn=>?_;obtain ⟨m0,w0⟩:=zz1);have I3:=I2.lnew (its:=[]) (ys:=[]) (t':=s2.toks) .nil (Nat.zero_le _);refine wpAny_newObj_type (wpAny_newFunctionEnv O.cell (by intro y hy;simp at hy) (λh₁ hns₁ hsb₁=>?_) O.kind);dsimp only at hns₁ hsb₁ ⊢;generalize hs3:({ s2 with heap:=s2.heap.push { cls:=.type "list",data:=.seq ([]:List Value).toArray },toks:=s2.toks }:Shared)=s3 at I3;have eh:s3.heap=s2.heap.push { cls:=.type "list",data:=.seq ([]:List Value).toArray }:=by rw[<-hs3]
 have es:s3={ s2 with heap:=s2.heap.push { cls:=.type "list",data:=.seq ([]:List Value).toArray } }:=hs3.symm;have k1:∀b u,s3.heap.get? b=some u->h₁.get? b=some u:=λb u e=>by
  refine hsb₁.extBut b u ?_ (Heap.get?_push_of_some _ (by rw[<-eh];exact e));rw[<-eh];exact Nat.ne_of_lt (Heap.lt_size e)
 have f3:∀b∈fp,FpOk X pins (upd H2 s2.heap.objs.size (.lst [])) b:=λb hb=>⟨by rw[aj (Nat.ne_of_lt (hlt2 b hb))];exact(f2 b hb).1,(f2 b hb).2⟩
 have hlt3:∀b∈fp,b < s3.heap.objs.size:=λb hb=>by
  rw[eh,Heap.size_push];exact Nat.lt_succ_of_lt (hlt2 b hb)
 have st3:tn 0 h₁:=T.keep _ _ _ st2 λb hb o e=>k1 b o (by rw[eh];exact Heap.get?_push_of_some _ e);have hns3:h₁.Ns s3.heap.objs.size (λx=>([]:List (Str×Value)).reverse.lookup x):=by rw[eh];exact hns₁
 have IB:=Ao (tk:=s2.toks) I3 hX hsc O f3 hlt3 hns3 k1;have eC:s3.heap.objs.size=(s2.heap.push { cls:=.type "list",data:=.seq ([]:List Value).toArray }).objs.size:=by rw[eh]
 have stat:∀{H':Hp},(∀b∈fp,H' b=none)->∀b∈fp,FpOk (blkT X xs scope M s3.heap.objs.size s3 (upd H2 s2.heap.objs.size (.lst [])) fp) [] H' b:=λhn b hb=>by
  (refine pw05 (f3 b hb) λg0 g1 g2 g3 g4 g5=>?_);exact⟨hn b hb,Nat.ne_of_lt (hlt3 b hb),λz=>(List.mem_cons.mp (I3.stkSub b z)).elim g1 g2,.inl hb,λy c e=>g4 y c (bb _ _ (λ_ _ z=>by simp at z) _ _ e),λp hp=>by simp at hp⟩
 have loop:∀s4:Shared,s4={ s3 with heap:=h₁,toks:=s2.toks }->
   codeAny (model X.prog X.w) X.A (.compLoop (.ListComp elt [⟨tg,iter,ifs,0⟩] scope pos) 0 (.ref it) (.ref s2.heap.objs.size) (compEnvC scope (closOf X.env.cells scope.names []) s3.heap.objs.size X.env))
    (RR (.ref s2.heap.objs.size) s3.heap.objs.size) s4:=by
  rintro s4 rfl
  refine tJ (λn s'=>∃i ys,∃o:St,∃H',o.length=xs.length/\Inv (blkT X xs scope M s3.heap.objs.size s3 (upd H2 s2.heap.objs.size (.lst [])) fp) [] (o++σ) H' s'/\tn i s'.heap/\(∀b∈fp,H' b=none)/\W i n ys H') ?_ m0
   (iw44 0 ([]) _ _ List.length_replicate IB st3 (λb hb=>(f3 b hb).1) w0)
  rintro n s5 ⟨i,ys,o,H5,lo,I5,st5,fr5,w5⟩
  rcases turn i n ys H5 w5 with⟨stop,hD,qd⟩ | ⟨go,hz,step⟩
  ·refine thn (T.done (blkT X xs scope M s3.heap.objs.size s3 (upd H2 s2.heap.objs.size (.lst [])) fp) rfl rfl rfl hcalm i [] s5 _ H5 _ I5 (stat fr5) st5 stop) λr s6 zz=>pw01 zz λhr I6=>?_
   subst hr;have IX:=I3.call' I6.os I6.base I6.hok I6.bare λb hb=>let ⟨_,g1,_,g3,g4,g5⟩:=f3 b hb;⟨g3,g1,g4,g5⟩;(refine pw11 I6.loc λmm hmm _=>?_);exact hRR _ _ H5 s6 IX (I3.fpOk (Nat.le_refl _) I6.free) ⟨mm,hmm⟩ qd
  ·refine thn (T.item (blkT X xs scope M s3.heap.objs.size s3 (upd H2 s2.heap.objs.size (.lst [])) fp) rfl rfl rfl hcalm i [] s5 _ H5 _ I5 (stat fr5) st5 go) λr s6 zz=>pw11 zz λu hr h6=>?_
   subst hr;refine thn h6 λ_ s7 zz=>pw24 zz λy H7 I7 r7 y7 st7 fr7=>?_;have I7':=I7.pinned (stat fr7) (T.obj _ _ st7);refine thn (wpAny_mono (hg _ _ _ _ _ s7 _ H7 y u _ I7' r7 (step y H7 y7 o lo)) (λ_ _ q=>q) λ_ _ f=>f.elim) λ_ s8 ⟨σ8,H8,I8',⟨o8,lo8,e8⟩,q8⟩=>?_;subst e8;refine thn (hts _ _ _ _ _ s8 _ H8 _ I8' q8) λok s9 zz=>pw11 zz λH9 I9 q9=>?_;have again:∀{ys':List V} {H':Hp} {s':Shared} {m:Nat},Inv (blkT X xs scope M s3.heap.objs.size s3 (upd H2 s2.heap.objs.size (.lst [])) fp) ([]++pinsAt fp s7.heap) (o8++σ) H' s'->m < n->W (i+1) m ys' H'->
     ∃m,m < n/\∃i ys,∃o:St,∃H',o.length=xs.length/\Inv (blkT X xs scope M s3.heap.objs.size s3 (upd H2 s2.heap.objs.size (.lst [])) fp) [] (o++σ) H' s'/\tn i s'.heap/\(∀b∈fp,H' b=none)/\W i m ys H':=λ{ys' H' s' m} I' hm w'=>by
    refine(iw11 m hm (iw44 (i+1) ys' o8 H' lo8 I'.unpinned (T.keep _ _ _ st7 λb hb o e=>(I'.pin (b,o) (List.mem_append_right _ (List.mem_append_right _ (gM hb e)))).1) (λb hb=>?_) w'));(refine pw11 (T.obj _ _ st7 b hb) λo e d=>?_);exact(I'.pin (b,o) (List.mem_append_right _ (List.mem_append_right _ (gM hb e)))).2.1
   cases ok with
   | false=>
    (revert q9;refine ow11 λm' hm w'=>?_);exact again I9 hm w'
   | true=>
    refine thn (hel _ _ _ _ _ s9 _ H9 _ I9 q9) λu2 s10 zz=>pw23 zz λy2 H10 I10 r10 hD=>ow11 λm' hm w'=>?_;refine thnE (cP _ s10 _ H10 (.ref s2.heap.objs.size) [y2] (.ref s2.heap.objs.size) [u2] (λ_ H'=>H'=upd H10 s2.heap.objs.size (.lst (ys++[y2]))) I10 rfl (.cons r10 .nil) (iw34 _ ys y2 rfl rfl hD hz rfl)) λ_ s11 _ H11 I11 _ e11=>?_;subst e11;exact again I11 hm w'
 have fin:=codeAny_compStart_list (loop _ rfl) (T.self X.A 0 _ _ _ st3 (loop _ rfl));rw[es] at fin;exact fin
end
section
variable {X:Cx} {pins:List (Addr×Obj)} {σ:St} {H2:Hp} {s2:Shared} {E:Value->Shared->Prop}
variable {elt iter:Expr} {ifs:List Expr} {x:Str} {px pos:Pos} {N M:List Str} {sc scope:Scope} {tt:TT} {te:TE} {it:Addr} {fp:List Addr} {tn:Nat->Heap->Prop} {J:It}
theorem oq (hcalm:X.calm=true)(hX:X.N=N)(hsc:X.env.scope=sc)(O:CompOk N M sc x scope)
  (hts:∀(C:Addr) (s₀:Shared) (H₀:Hp) (fp:List Addr) (pins:List (Addr×Obj)) (s:Shared) (σ:St) (H:Hp) (Q:Bool->Hp->Prop),Inv (blk X x scope M C s₀ H₀ fp) pins σ H s->tt σ H Q->
   wpAny (model X.prog X.w) X.A (forIn ifs true λc r=>if r=true then do let ok <-isTrue c (blk X x scope M C s₀ H₀ fp).env (eval c (blk X x scope M C s₀ H₀ fp).env);pure (ForInStep.yield ok) else pure (ForInStep.yield r)) (TP (blk X x scope M C s₀ H₀ fp) pins σ Q) (λ_ _=>False) s)
  (hel:∀(C:Addr) (s₀:Shared) (H₀:Hp) (fp:List Addr),PE (blk X x scope M C s₀ H₀ fp) elt te)
  (I2:Inv X pins σ H2 s2) (T:Turn X.prog X.w X.K (.Name x px) J fp it tn) (st2:tn 0 s2.heap) (f2:∀b∈fp,FpOk X pins H2 b) {Qd:Addr->Hp->Prop}
  (q:∀D,H2 D=none->∃W:Nat->Nat->List V->Hp->Prop,(∃m,W 0 m [] (upd H2 D (.lst [])))/\∀i m ys H3,W i m ys H3->
   (J.stop i H3/\H3 D=some (.lst ys)/\Qd D H3)\/(J.go i H3/\ys.length < sizeLine/\∀x H4,J.yld i H3 x H4->tt (some x::σ) H4 λb H5=>
    if b=true then te (some x::σ) H5 λy H6=>H6 D=some (.lst ys)/\∃m',m' < m/\W (i+1) m' (ys++[y]) (upd H6 D (.lst (ys++[y]))) else ∃m',m' < m/\W (i+1) m' ys H5))
  {RR:Value->Addr->Result->Shared->Prop} (hRR:∀D C H' s',Inv X pins σ H' s'->FpOk X pins H' C->(∃m,s'.heap.Ns C m)->Qd D H'->RR (.ref D) C (.ok .next) s') :
  wpAny (model X.prog X.w) X.A (newList []) (λacc s₃=>wpAny (model X.prog X.w) X.A (newFunctionEnv scope X.env.globals (closOf X.env.cells scope.names []) [] X.env.qual none .none (some X.env)) (λcenv s₄=>
   codeAny (model X.prog X.w) X.A (.compStart (.ListComp elt [⟨.Name x px,iter,ifs,0⟩] scope pos) 0 (.ref it) acc { cenv with scope:=relabel scope X.env }) (RR acc cenv.locals) s₄) E s₃) E s2:=by
 have OT:CompOkT N M sc [x] scope:=⟨O.kind,O.cell,O.names,O.free,(by
  rw[<-O.hid];refine List.map_congr_left λy _=>?_;unfold hideT hideN
  simp),O.others,O.void⟩
 refine mU (g:=gName 0) hcalm hX hsc OT hts hel (λC s₀ H₀ fp=>aU (i:=0) O.nd rfl (.inl (lookup_relabel_local O.own)) (.inr (lookup_relabel_local O.own))) I2 T st2 f2 (λD hD=>?_) hRR;(refine pw11 (q D hD) λW w0 turn=>?_);refine(iw11 W w0 (λi m ys H3 w=>(turn i m ys H3 w).imp id λzz=>pw02 zz λgo hz step=>⟨go,hz,λy H4 hy o ho=>?_⟩));obtain⟨z,rfl⟩:∃z,o=[z]:=by
  match o,ho with
  | [z],_=>exact⟨z,rfl⟩
 exact⟨(iw11 ([some y]) rfl rfl),step y H4 hy⟩
end
section
variable {X:Cx} {elt iter c:Expr} {ifs:List Expr} {x y:Str} {px py pos spos:Pos} {scope sc:Scope} {N M:List Str} {wi:TI} {tt:TT} {te:TE}
theorem Ap (hcalm:X.calm=true)(hX:X.N=N)(hsc:X.env.scope=sc)(O:CompOk N M sc x scope)(hi:PI X (.Name x px) iter wi)
  (hts:∀(C:Addr) (s₀:Shared) (H₀:Hp) (fp:List Addr) (pins:List (Addr×Obj)) (s:Shared) (σ:St) (H:Hp) (Q:Bool->Hp->Prop),Inv (blk X x scope M C s₀ H₀ fp) pins σ H s->tt σ H Q->
   wpAny (model X.prog X.w) X.A (forIn ifs true λc r=>if r=true then do let ok <-isTrue c (blk X x scope M C s₀ H₀ fp).env (eval c (blk X x scope M C s₀ H₀ fp).env);pure (ForInStep.yield ok) else pure (ForInStep.yield r)) (TP (blk X x scope M C s₀ H₀ fp) pins σ Q) (λ_ _=>False) s)
  (hel:∀(C:Addr) (s₀:Shared) (H₀:Hp) (fp:List Addr),PE (blk X x scope M C s₀ H₀ fp) elt te) (hs:autoParam (∀x,foldedSetIterable iter X.env x=pure x) L2.dft4._auto_1) :
  PE X (.ListComp elt [⟨.Name x px,iter,ifs,0⟩] scope pos) (tComp wi tt te):=by
 intro pins s σ H Q I h;rw[eval_ListComp];have hcl:closureFor scope X.env=pure (closOf X.env.cells scope.names []):=j2 λz hz hf=>by
  have q:=O.free z hz hf;rw[<-hsc] at q;exact I.ok.has z.1 q
 refine wpAny_comprehension_free (use:=none) rfl hs hcl O.kind O.names (thn (hi pins s σ H _ I h) λv s1 h1=>thn h1 λitv s2 h2=>?_);(revert h2;refine ow30 λit fp tn=>ow24 λJ H2 e I2 T st2=>ow01 λf2 q2=>?_);subst e;refine oq (Qd:=λD H'=>Q (.ref D) H') (RR:=λacc C=>compPost (model X.prog X.w) X.A X.xe none (EP X pins σ Q) acc C) hcalm hX hsc O hts hel I2 T st2 f2 (λD hD=>q2 D hD) ?_;intro D C H' s' I' hC hm q';obtain⟨m,hm⟩:=hm;(revert hC;refine ow05 λc0 c1 c2 c3 c4 c5=>?_);exact(iw11 m hm (λh' hs'=>(iw22 (.ref D) H' (I'.turned (t':=s'.toks) (λb o hb e=>hs'.extBut b o hb e) c0 c1 c3 c4 c5) rfl q')))
theorem Aq {i:Nat}(hcalm:X.calm=true)(hX:X.N=N)(hsc:X.env.scope=sc)(O:CompOk N M sc x scope)(hi:PI X (.Name x px) iter wi)
  (hts:∀(C:Addr) (s₀:Shared) (H₀:Hp) (fp:List Addr) (pins:List (Addr×Obj)) (s:Shared) (σ:St) (H:Hp) (Q:Bool->Hp->Prop),Inv (blk X x scope M C s₀ H₀ fp) pins σ H s->tt σ H Q->
   wpAny (model X.prog X.w) X.A (forIn ifs true λc r=>if r=true then do let ok <-isTrue c (blk X x scope M C s₀ H₀ fp).env (eval c (blk X x scope M C s₀ H₀ fp).env);pure (ForInStep.yield ok) else pure (ForInStep.yield r)) (TP (blk X x scope M C s₀ H₀ fp) pins σ Q) (λ_ _=>False) s)
  (hel:∀(C:Addr) (s₀:Shared) (H₀:Hp) (fp:List Addr),PE (blk X x scope M C s₀ H₀ fp) elt te)
  (hNd:X.N.Nodup) (hiy:X.N[i]?=some y) (hy:X.env.scope.names.lookup y=some .local)
  (hsw:swapsWith (.ListComp elt [⟨.Name x px,iter,ifs,0⟩] scope pos) (some (.Name y py)) spos.line X.env=pure true) (hs:autoParam (∀x,foldedSetIterable iter X.env x=pure x) L2.dft4._auto_1) :
  PS X (.Assign [.Name y py] (.ListComp elt [⟨.Name x px,iter,ifs,0⟩] scope pos) spos) (tAsg (tComp wi tt te) (gName i)):=by
 intro pins s σ H D I h;have hcl:closureFor scope X.env=pure (closOf X.env.cells scope.names []):=j2 λz hz hf=>by
  have q:=O.free z hz hf;rw[<-hsc] at q;exact I.ok.has z.1 q
 have key:wpAny (model X.prog X.w) X.A (comprehension (.ListComp elt [⟨.Name x px,iter,ifs,0⟩] scope pos) scope X.env (firstIterPos [⟨.Name x px,iter,ifs,0⟩] pos) (newList []) false (eval iter X.env) (some (assign (.Name y py) X.env)))
   (λ_ s'=>SP X pins D .next s') X.xe s:=by
  refine wpAny_comprehension_free (use:=some (assign (.Name y py) X.env)) (Q:=λ_ s'=>SP X pins D .next s') rfl hs hcl O.kind O.names (thn (hi pins s σ H _ I h) λv s1 h1=>thn h1 λitv s2 h2=>?_);(revert h2;refine ow30 λit fp tn=>ow24 λJ H2 e I2 T st2=>ow01 λf2 q2=>?_);subst e;refine oq (Qd:=λD0 H'=>D.nx (σ.set i (some (.ref D0))) H') (RR:=λacc C=>compPost (model X.prog X.w) X.A X.xe (some (assign (.Name y py) X.env)) (λ_ s'=>SP X pins D .next s') acc C) hcalm hX hsc O hts hel I2 T st2 f2 (λD0 hD=>q2 D0 hD) ?_;intro D0 C H' s' I' hC hm q';obtain⟨m,hm⟩:=hm;(revert hC;refine ow05 λc0 c1 c2 c3 c4 c5=>?_);show wpAny _ _ (assign (.Name y py) X.env (.ref D0)) _ _ s';refine wpAny_assign_Name (qo (v:=.ref D0) I' hNd hiy (.inl hy) rfl (λs'' I'' zz=>pw11 zz λa sb ha=>?_) (.inr hy));have hCa:C≠a:=by
   rcases ha with ha | ha
   ·rw[ha];exact c1
   ·exact(c4 _ _ ha).symm
  exact(iw11 m (hm.sameBut sb hCa) (λh' hs'=>(iw21 _ H' (I''.turned (t':=s''.toks) (λb o hb e=>hs'.extBut b o hb e) c0 c1 c3 c4 c5) q')))
 rw[exec_Assign_Name_used _ _ _ _ hsw];refine wpAny_bind (wpAny_standAt (wpAny_bind ?_));show wpAny _ _ (do let _ <-comprehension (.ListComp elt [⟨.Name x px,iter,ifs,0⟩] scope pos) scope X.env (firstIterPos [⟨.Name x px,iter,ifs,0⟩] pos) (newList []) false (eval iter X.env) (some (assign (.Name y py) X.env))) _ _ s;exact wpAny_bind (wpAny_mono key (λ_ s' hq=>wpAny_pure (wpAny_pure hq)) λ_ _ e=>e)
theorem cv (N M:List Str)(sc:Scope)(O:CompOk N M sc x scope)(hi:PI X (.Name x px) iter wi)(hel:∀(C:Addr) (s₀:Shared) (H₀:Hp) (fp:List Addr),PE (blk X x scope M C s₀ H₀ fp) elt te)
  (hcalm:autoParam (X.calm=true) L2.dft3._auto_1) (hX:autoParam (X.N=N) L2.dft3._auto_1) (hsc:autoParam (X.env.scope=sc) L2.dft3._auto_1) (hs:autoParam (∀x,foldedSetIterable iter X.env x=pure x) L2.dft4._auto_1) :
  PE X (.ListComp elt [⟨.Name x px,iter,[],0⟩] scope pos) (tComp wi tYes te):=
 Ap hcalm hX hsc O hi (λC s₀ H₀ fp pins s σ H Q I h=>wpAny_tests_nil (iw11 H I h)) hel hs
theorem xi {i:Nat}(N M:List Str)(sc:Scope)(O:CompOk N M sc x scope)(hi:PI X (.Name x px) iter wi)(hel:∀(C:Addr) (s₀:Shared) (H₀:Hp) (fp:List Addr),PE (blk X x scope M C s₀ H₀ fp) elt te)
  (hNd:X.N.Nodup) (hiy:autoParam (X.N[i]?=some y) L2.dft3._auto_1) (hy:autoParam (X.env.scope.names.lookup y=some .local) L2.dft3._auto_1)
  (hsw:autoParam (swapsWith (.ListComp elt [⟨.Name x px,iter,[],0⟩] scope pos) (some (.Name y py)) spos.line X.env=pure true) L2.dft3._auto_1)
  (hcalm:autoParam (X.calm=true) L2.dft3._auto_1) (hX:autoParam (X.N=N) L2.dft3._auto_1) (hsc:autoParam (X.env.scope=sc) L2.dft3._auto_1) (hs:autoParam (∀x,foldedSetIterable iter X.env x=pure x) L2.dft4._auto_1) :
  PS X (.Assign [.Name y py] (.ListComp elt [⟨.Name x px,iter,[],0⟩] scope pos) spos) (tAsg (tComp wi tYes te) (gName i)):=
 Aq hcalm hX hsc O hi (λC s₀ H₀ fp pins s σ H Q I h=>wpAny_tests_nil (iw11 H I h)) hel hNd hiy hy hsw hs
end
noncomputable abbrev S (l:List Nat):Str:=⟨l.toArray⟩
theorem BM (z:Str):z=S z.cps.toList:=by cases z;simp[S]
theorem ot {a b:List Nat}(h:S a=S b):a=b:=by
 have h':a.toArray=b.toArray:=congrArg Str.cps h;simpa using congrArg Array.toList h'
theorem ck (l:List Nat):(S l).length=l.length:=by show l.toArray.size=l.length;simp
theorem Ar (a b:List Nat):S a++S b=S (a++b):=by
 show(⟨a.toArray++b.toArray⟩:Str)=⟨(a++b).toArray⟩;simp
noncomputable def cutL (l:List Nat)(lo hi:Option Int):List Nat:=(l.drop (HT.sIx l.length 0 lo)).take (HT.sIx l.length l.length hi - HT.sIx l.length 0 lo)
theorem BN (l:List Nat)(lo hi:Option Int):(cutL l lo hi).length<=l.length:=by
 unfold cutL;rw[List.length_take,List.length_drop];omega
noncomputable def clipI (d:Int)(n:Nat):Option Int->Int
 | none=>d
 | some i=>max 0 (min (if i < 0 then i+(n:Int) else i) (n:Int))
theorem tK (d n:Nat)(o:Option Int):clipI (d:Int) n o=((HT.sIx n d o:Nat):Int):=by
 cases o with
 | none=>rfl
 | some i=>
  simp only[HT.sIx,clipI]
  by_cases h:i < 0
  ·simp only[h,if_true]<;>omega
  ·simp only[h,if_false]<;>omega
theorem tL (lo hi:Option Int)(n:Nat):Builtin.Str.strSliceIndices lo hi 1 n=(List.range (HT.sIx n n hi - HT.sIx n 0 lo)).map (HT.sIx n 0 lo+·):=by
 have key:Builtin.Str.strSliceIndices lo hi 1 n=sliceRange (clipI ((0:Nat):Int) n lo) (clipI (n:Int) n hi) 1:=by
  unfold Builtin.Str.strSliceIndices;cases lo<;>cases hi<;>simp[clipI]
 rw[key,tK,tK,sliceRange_one]
section
variable {X:Cx}
noncomputable def rSlS:V->Option Int->Option Int->Hp->VK->Prop:=λx lo hi H Q=>∃l,x=.str (S l)/\l.length<=sizeLine/\Q (.str (S (cutL l lo hi))) H
theorem part_of {v:Value}{o:Option Int}(p:IsPart v o):∃l:Option (Int×Tok),v=partValue l/\l.map (·.1)=o:=by
 cases p with
 | none=>exact(iw11 none rfl rfl)
 | int i t=>exact(iw11 (some (i,t)) rfl rfl)
theorem DM:SlR X rSlS:=by
 intro pins s σ H x v vl vu lo hi sl Q I rx hs pl pu h;(revert h;refine ow12 λl zz1 hz q=>?_;subst zz1);obtain⟨t,rfl⟩:=rx;(refine pw11 (part_of pl) λa zz1 zz2=>?_;subst zz1;subst zz2);(refine pw11 (part_of pu) λb zz1 zz2=>?_;subst zz1;subst zz2);refine(iw22 ("str") _ F.slot_str_getitem.lookup (typeIs_str _ _ _) ?_);refine wpAny_getItem_str_slice (l:=a) (u:=b) (st:=none) hs rfl ?_;have ep:slicePicked (S l) a b none=(List.range (HT.sIx l.length l.length (b.map (·.1)) - HT.sIx l.length 0 (a.map (·.1)))).map (HT.sIx l.length 0 (a.map (·.1))+·):=by
  have e:=tL (a.map (·.1)) (b.map (·.1)) (S l).length;rw[ck] at e;unfold slicePicked;rw[ck];exact e
 have ec:(slicePicked (S l) a b none).filterMap ((S l).cps[·]?)=cutL l (a.map (·.1)) (b.map (·.1)):=by
  rw[ep,pick_run];simp only[cutL]
 unfold sliceMade
 split
 ·rename_i hc
  have hlen:(slicePicked (S l) a b none).length=l.length:=by
   rw[Bool.and_eq_true] at hc;have:=hc.2;rw[beq_iff_eq,ck] at this;exact this
  have e:cutL l (a.map (·.1)) (b.map (·.1))=l:=by
   rw[ep,List.length_map,List.length_range] at hlen;have h1:=HT.Ai l.length l.length (Nat.le_refl _) (b.map (·.1));unfold cutL;have h2:HT.sIx l.length 0 (a.map (·.1))=0:=by
    by_cases hl:l.length=0
    ·have:=HT.Ai l.length 0 (Nat.zero_le _) (a.map (·.1))
     omega
    ·omega
   rw[hlen,h2,List.drop_zero,List.take_length]
  rw[e] at q;exact(iw22 (.str (S l)) H I ⟨t,rfl⟩ q)
 ·refine⟨?_,(iw22 (.str (S ((slicePicked (S l) a b none).filterMap ((S l).cps[·]?)))) H (I.tok _) ⟨_,rfl⟩ ?_)⟩
  ·rw[ec]
   show(cutL l _ _).toArray.size<=sizeLine;rw[List.size_toArray];exact Nat.le_trans (BN _ _ _) hz
  ·rw[ec]
   exact q
end
noncomputable def Its (z:Str):It:=⟨λi _=>i < z.cps.size,λi H x H'=>H'=H/\∃c,z.cps[i]?=some c/\x=.str ⟨#[c]⟩,λi _=>z.cps.size<=i⟩
theorem x6 {P:Program}{w:World}{A:Around}(hA:A.handled=none)(it:Addr)(z:Str)(t:Tok):Walks P w A it [it] [it] z.cps.size (SignAt z) (λi h=>h.IsStrIter it (strIterType z) z t i):=by
 unfold strIterType
 split
 ·exact Walks.strAscii hA it z t
 ·exact Walks.strWide hA it z t
theorem p5 (z:Str):["enumerate","zip","dict_itemiterator","dict_reverseitemiterator","odict_iterator","itertools.zip_longest","itertools.pairwise"].contains (strIterType z)=false:=by
 unfold strIterType
 split<;>decide
theorem As {P:Program}{w:World}{K:W.Frag}{tg:Expr}(it:Addr)(z:Str)(t:Tok):Turn P w K tg (Its z) [it] it (λi h=>h.IsStrIter it (strIterType z) z t i) where
 mem:=by simp
 obj:=λi h st b hb=>by
  have e:b=it:=by simpa using hb
  subst e;(revert st;refine ow12 λo e c d=>?_);exact(iw11 o e (λv z=>by rw[d] at z;cases z))
 keep:=λi h h' st k=>let ⟨o,e,r⟩:=st;(iw11 o (k it (by simp) o e) r)
 item:=by
  intro X hP hw hK hc i pins s σ H E I hf st hg;subst hP hw hK;(refine pw05 (hf it (by simp)) λf0 f1 f2 f3 f4 f5=>?_);refine(x6 (I.ok.hd hc) it z t).item i s _ _ hg st λv h' tk hv st' kk=>?_;(revert hv;refine ow21 λc u hcz zz1=>?_;subst zz1);have I1:Inv X pins σ H { s with heap:=h',toks:=tk }:=I.turned (λb o hb e=>kk b o (by simpa using hb) e) f0 f1 f3 f4 f5;(refine pw12 (id st') λo e ec d=>?_);exact(iw11 _ rfl (wZ (s:={ s with heap:=h',toks:=tk }) e ec d (p5 z) (iw24 (.str ⟨#[c]⟩) H I1 ⟨u,rfl⟩ ⟨rfl,(iw11 c hcz rfl)⟩ st' (λb hb=>(hf b hb).1))))
 done:=by
  intro X hP hw hK hc i pins s σ H E I hf st hg;subst hP hw hK;(refine pw05 (hf it (by simp)) λf0 f1 f2 f3 f4 f5=>?_);have hg':z.cps.size<=i:=hg
  by_cases ha:z.cps.all (· < 128)=true
  ·have st':s.heap.IsStrIter it "str_ascii_iterator" z t i:=by
    have e:strIterType z="str_ascii_iterator":=by unfold strIterType;rw[if_pos ha]
    rw[<-e];exact st
   exact wpAny_pyNext_ascii_end (I.ok.hd hc) st' (by simpa using hg') λh' eb=>⟨rfl,I.turned (t':=s.toks) (λb o hb e=>eb b o hb e) f0 f1 f3 f4 f5⟩
  ·have st':s.heap.IsStrIter it "str_iterator" z t i:=by
    have e:strIterType z="str_iterator":=by unfold strIterType;rw[if_neg ha]
    rw[<-e];exact st
   exact wpAny_pyNext_wide_end (I.ok.hd hc) st' (by simpa using hg') λh' eb=>⟨rfl,I.turned (t':=s.toks) (λb o hb e=>eb b o hb e) f0 f1 f3 f4 f5⟩
 self:=λA i s Q E st h=>by
  by_cases ha:z.cps.all (· < 128)=true
  ·have e:strIterType z="str_ascii_iterator":=by unfold strIterType;rw[if_pos ha]
   exact wpAny_pyIter_striter_ascii (by rw[<-e];exact st) h
  ·have e:strIterType z="str_iterator":=by unfold strIterType;rw[if_neg ha]
   exact wpAny_pyIter_striter_wide (by rw[<-e];exact st) h
section
variable {X:Cx} {tg:Expr}
end
theorem BO {z:Str}{g:TG}{tb:TS}{D:Ends}{σ:St}{H:Hp}(Pv:Nat->St->Hp->Prop)(h0:Pv 0 σ H)
  (hs:∀i c σ H,z.cps[i]?=some c->Pv i σ H->g (.str ⟨#[c]⟩) σ H λσ2 H2=>tb { D with nx:=Pv (i+1),ct:=Pv (i+1),bk:=D.nx } σ2 H2) (hd:∀σ H,Pv z.cps.size σ H->D.nx σ H) :
  ∃W:Nat->Nat->St->Hp->Prop,(∃m,W 0 m σ H)/\∀i m σ H,W i m σ H->
   ((Its z).stop i H/\D.nx σ H)\/((Its z).go i H/\∃N:St->Hp->Prop,(∀σ' H',N σ' H'->∃m',m' < m/\W (i+1) m' σ' H')/\∀x H',(Its z).yld i H x H'->g x σ H' λσ2 H2=>tb { D with nx:=N,ct:=N,bk:=D.nx } σ2 H2):=by
 refine(iw11 (λi m σ H=>m=z.cps.size - i/\i<=z.cps.size/\Pv i σ H) (iw12 z.cps.size rfl (Nat.zero_le _) h0) ?_)
 rintro i m σ H ⟨rfl,hi,p⟩
 by_cases hlt:i < z.cps.size
 ·refine .inr ⟨hlt,(iw11 (Pv (i+1)) (λσ' H' p'=>(iw13 (z.cps.size - (i+1)) (by omega) rfl hlt p')) (λx H' y=>?_))⟩
  (revert y;refine ow01 λe=>ow11 λc hc zz1=>?_;subst zz1);subst e;exact hs i c σ _ hc p
 ·have e:i=z.cps.size:=by omega
  subst e;exact .inl ⟨Nat.le_refl _,hd σ H p⟩
theorem hU {k:Nat}{A:Around}(hr:Room k A):A.units+64 < cLine:=hr.units
theorem hU1 {k:Nat}{A:Around}(hr:Room k A):A.units+1 < cLine:=ER hr
noncomputable def GConst (mg:Str->Option Value)(x:Str)(v:V):Prop:=∃u,mg x=some u/\RelV v u
theorem bF {X:Cx}{x:Str}{v:V}{pos:Pos}(c:GConst X.mg x v)(hg:autoParam (Gl X x) L2.dft3._auto_1)(hd:autoParam ((x == ("__debug__":Str))=false) L2.dft1._auto_1):PE X (.Name x pos) (tC v):=by
 (revert c;refine ow11 λu h1 h2=>?_);exact rq hg h1 h2 hd
mutual
inductive Den (K:W.Frag) (H:Hp):V->PyData->Prop
 | non:Den K H .non .none
 | bl (b:Bool):Den K H (.bl b) (.bool b)
 | int (i:Int):Den K H (.int i) (.int i)
 | str (x:Str):Den K H (.str x) (.str x)
 | lst {a:Addr} {xs:List V} {ds:List PyData}:SqL K H a xs->DenAll K H xs ds->Den K H (.ref a) (.list ds)
 | tup {a:Addr} {xs:List V} {ds:List PyData}:SqT K H a xs->DenAll K H xs ds->Den K H (.ref a) (.tuple ds)
inductive DenAll (K:W.Frag) (H:Hp):List V->List PyData->Prop
 | nil:DenAll K H [] []
 | cons {v:V} {d:PyData} {vs:List V} {ds:List PyData}:Den K H v d->DenAll K H vs ds->DenAll K H (v::vs) (d::ds)
end
mutual
theorem Den.reads {X:Cx}{pins:List (Addr×Obj)}{σ:St}{H:Hp}{s:Shared}(I:Inv X pins σ H s):∀{v:V} {d:PyData} {u:Value},Den X.K H v d->RelV v u->∃as,Reads s.heap u d as
 | _,_,_,.non,r=>by cases (show _=Value.none from r);exact⟨_,.none⟩
 | _,_,_,.bl b,r=>by cases (show _=Value.bool b from r);exact⟨_,.bool b⟩
 | _,_,_,.int i,r=>by obtain⟨t,rfl⟩:=r;exact⟨_,.int i t⟩
 | _,_,_,.str x,r=>by obtain⟨t,rfl⟩:=r;exact⟨_,.str x t⟩
 | _,_,_,.lst h hd,r=>by
  cases (show _=Value.ref _ from r);(refine pw12 (I.list h) λits rv p hz=>?_);(refine pw12 p.isList λo ho hc=>ow10 λn hdt=>?_);obtain⟨as,ra⟩:=DenAll.reads I hd rv;exact⟨_,.list ho hc hdt (by simpa using ra)⟩
 | _,_,_,.tup h hd,r=>by
  cases (show _=Value.ref _ from r);(refine pw12 (I.tuple h) λits rv p hz=>?_);(revert p;refine ow12 λo ho hc=>ow10 λn hdt=>?_);obtain⟨as,ra⟩:=DenAll.reads I hd rv;exact⟨_,.tuple ho hc hdt (by simpa using ra)⟩
theorem DenAll.reads {X:Cx}{pins:List (Addr×Obj)}{σ:St}{H:Hp}{s:Shared}(I:Inv X pins σ H s):∀{vs:List V} {ds:List PyData} {us:List Value},DenAll X.K H vs ds->Vals vs us->∃as,ReadsAll s.heap us ds as
 | _,_,_,.nil,.nil=>⟨_,.nil⟩
 | _,_,_,.cons h t,.cons r rr=>by
  obtain⟨a,ha⟩:=Den.reads I h r;obtain⟨b,hb⟩:=DenAll.reads I t rr;exact⟨_,.cons ha hb⟩
end
noncomputable def isRef:V->Bool
 | .ref _=>true
 | _=>false
noncomputable def rEqD (K:W.Frag)(neg:Bool):R2:=λx y H Q=>(isRef x || isRef y)=true/\∃d e,Den K H x d/\Den K H y e/\SeqAt.shaped d=true/\SeqAt.shaped e=true/\Q (.bl (if neg then !PyData.eqv d e else PyData.eqv d e)) H
section
variable {X:Cx}
theorem DN (hu:X.A.units+64 < cLine):OpR X (compareOp .Eq) (rEqD X.K false):=by
 intro pins s σ H x y v u Q I rx ry h;(revert h;refine ow01 λ_=>ow24 λd e hd he sd se q=>?_);obtain⟨as,ra⟩:=hd.reads I rx;obtain⟨bs,rb⟩:=he.reads I ry;exact eq_dataH ra rb sd se hu (iw22 (.bl (PyData.eqv d e)) H I rfl q)
theorem DO (hu:X.A.units+64 < cLine):OpR X (compareOp .NotEq) (rEqD X.K true):=by
 intro pins s σ H x y v u Q I rx ry h;(revert h;refine ow01 λ_=>ow24 λd e hd he sd se q=>?_);obtain⟨as,ra⟩:=hd.reads I rx;obtain⟨bs,rb⟩:=he.reads I ry;exact ne_dataH ra rb sd se hu (iw22 (.bl (!PyData.eqv d e)) H I rfl q)
theorem DP (hu:X.A.units+64 < cLine):OpR X (compareOp .Eq) (λx y H Q=>rEq x y H Q\/rEqD X.K false x y H Q):=EI.or (DN hu)
theorem DQ (hu:X.A.units+64 < cLine):OpR X (compareOp .NotEq) (λx y H Q=>rNe x y H Q\/rEqD X.K true x y H Q):=EJ.or (DO hu)
noncomputable def rStrs (p:List Nat->List Nat->Bool):R2:=λx y H Q=>∃i j,x=.str i/\y=.str j/\Q (.bl (p i.cps.toList j.cps.toList)) H
theorem DR:OpR X (compareOp .Lt) (rStrs λa b=>decide (a < b)):=by
 intro pins s σ H x y v u Q I rx ry h;(revert h;refine ow22 λi j zz1 zz2 q=>?_;subst zz1;subst zz2);obtain⟨t,rfl⟩:=rx;obtain⟨t',rfl⟩:=ry;exact PySem.P.lt_str (iw22 (.bl (decide (i.cps.toList < j.cps.toList))) H I rfl q)
theorem DS:OpR X (compareOp .LtE) (rStrs λa b=>!decide (b < a)):=by
 intro pins s σ H x y v u Q I rx ry h;(revert h;refine ow22 λi j zz1 zz2 q=>?_;subst zz1;subst zz2);obtain⟨t,rfl⟩:=rx;obtain⟨t',rfl⟩:=ry;exact PySem.P.le_str (iw22 (.bl (!decide (j.cps.toList < i.cps.toList))) H I rfl q)
theorem DT:OpR X (compareOp .Lt) (λx y H Q=>rI0 (λi j=>.bl (decide (i < j))) x y H Q\/rStrs (λa b=>decide (a < b)) x y H Q):=EK.or DR
theorem DU:OpR X (compareOp .LtE) (λx y H Q=>rI0 (λi j=>.bl (decide (i<=j))) x y H Q\/rStrs (λa b=>!decide (b < a)) x y H Q):=EL.or DS
theorem vh:OpR X (compareOp .Gt) (rI0 λi j=>.bl (decide (j < i))):=EM
theorem Au:OpR X (compareOp .GtE) (rI0 λi j=>.bl (decide (j<=i))):=EN
noncomputable def rCatS (K:W.Frag):R2:=λx y H Q=>∃l b xs zs,x=.ref l/\y=.ref b/\SqL K H l xs/\SqL K H b zs/\xs.length+zs.length<=sizeLine/\∀p,H p=none->Q (.ref p) (upd H p (.lst (xs++zs)))
theorem BP:OpR X (binaryOp .Add) (rCatS X.K):=by
 intro pins s σ H x y v u Q I rx ry h;(revert h;refine ow44 λl b xs zs zz1 zz2 hH hB=>ow01 λhz q=>?_;subst zz1;subst zz2);cases rx;cases ry;(refine pw12 (I.list hH) λits r p z1=>?_);(refine pw12 (I.list hB) λits2 r2 p2 z2=>?_);have h1:=r.length;have h2:=r2.length;(refine pw12 p.isList λzz1 ho hc=>ow10 λn hd=>?_;obtain ⟨cl,dc,dt,sl⟩:=zz1);(refine pw12 p2.isList λzz1 ho2 hc2=>ow10 λn2 hd2=>?_;obtain ⟨cl2,dc2,dt2,sl2⟩:=zz1);simp only at hc hd hc2 hd2;subst hc hd hc2 hd2;refine concat_meets (iw11 _ ho rfl) (iw11 _ ho2 rfl) PySem.noFill_list_add PySem.seq_list_add F.slot_list_add F.entry_list_add (F.args_list_add_2 _ _) (list_addW l b its.toArray its2.toArray n n2 dc dc2 sl sl2 (by rw[List.size_toArray,List.size_toArray];omega)) ⟨ho,ho2,?_⟩;have ea:its.toArray++its2.toArray=(its++its2).toArray:=by simp
 rw[ea];exact(iw22 (.ref _) _ (I.lnew (t':=s.toks) (r.append r2) (by rw[List.length_append];omega)) rfl (q _ I.fresh))
noncomputable def rCatT2:R2:=λx y H Q=>∃i j,x=.str (S i)/\y=.str (S j)/\i.length+j.length<=sizeLine/\Q (.str (S (i++j))) H
theorem Av:OpR X (binaryOp .Add) rCatT2:=by
 intro pins s σ H x y v u Q I rx ry h;(revert h;refine ow23 λi j zz1 zz2 hz q=>?_;subst zz1;subst zz2);refine va pins s σ H _ _ v u Q I rx ry (iw23 (S i) (S j) rfl rfl ?_ ?_)
 ·rw[ck,ck];exact hz
 ·rw[Ar];exact q
theorem BQ:OpR X (binaryOp .Add) (λx y H Q=>rI0 (λi j=>.int (i+j)) x y H Q\/(rCatT2 x y H Q\/rCatS X.K x y H Q)):=DA.or (Av.or BP)
theorem tM:PIp X .Add (λx y H Q=>rI0 (λi j=>.int (i+j)) x y H Q):=λpins s σ H x y v u Q I rx ry h=>BD pins s σ H x y v u Q I rx ry h
theorem x8:CallR X (.builtin "len") (λxs H Q=>∃l,xs=[.str (S l)]/\l.length<=sizeLine/\Q (.int l.length) H):=by
 intro pins s σ H xs us Q I r h;(revert h;refine ow12 λl zz1 hz q=>?_;subst zz1);refine rM pins s σ H _ us Q I r (iw12 (S l) rfl ?_ ?_)
 ·rw[ck];exact hz
 ·rw[ck];exact q
theorem x9:CallR X (.builtin "len") (λxs H Q=>(∃p ys,xs=[.ref p]/\(SqL X.K H p ys\/SqT X.K H p ys)/\Q (.int ys.length) H)\/((∃l,xs=[.str (S l)]/\l.length<=sizeLine/\Q (.int l.length) H)\/(∃a kvs,xs=[V.ref a]/\H a=some (.dK kvs)/\Q (.int kvs.length) H))):=
 rL.or (x8.or x5)
noncomputable def rIsi (K:W.Frag):List V->Hp->VK->Prop:=λxs H Q=>(∃x t n b,xs=[x,.ty n]/\TyOf K H x t/\W.kitOne K t (.type n)=some b/\Q (.bl b) H)\/(∃x t C b,xs=[x,.ref C]/\TyOf K H x t/\W.kitOne K t (.ref C)=some b/\Q (.bl b) H)
theorem lQ:CallR X (.builtin "isinstance") (rIsi X.K):=by
 intro pins s σ H xs us Q I r h;rcases h with⟨x,t,n,b,rfl,ty,e,q⟩ | ⟨x,t,n,b,rfl,ty,e,q⟩
 ·(refine pw22 (vals2 r) λu w zz1 rx rw'=>?_;subst zz1)
  cases rw';exact qr I rx ty e λtk=>(iw22 (.bl b) H (I.tok tk) rfl q)
 ·(refine pw22 (vals2 r) λu w zz1 rx rw'=>?_;subst zz1)
  cases rw';exact qr I rx ty e λtk=>(iw22 (.bl b) H (I.tok tk) rfl q)
theorem ya:CallR X (.builtin "ord") (λxs H Q=>∃c,xs=[.str (S [c])]/\Q (.int (c:Nat)) H):=by
 intro pins s σ H xs us Q I r h;(revert h;refine ow11 λc zz1 q=>?_;subst zz1);exact Af pins s σ H _ us Q I r (iw12 (S [c]) rfl rfl q)
theorem BR (hu:X.A.units+1 < cLine):IxR X (λx y H Q=>∃a v,x=.ref a/\DGet H a y (some v)/\Q v H):=by
 intro value slice pins s σ H x y v u Q I rx ry h hs;(revert h;refine ow22 λa z zz1 g q=>?_;subst zz1);cases (show v=Value.ref a from rx);exact tail_any (tH I g) PySem.F.slot_dict_getitem.lookup (xZ hu I g ry λw' s3 I3 rw'=>(iw22 z H I3 rw' q)) hs
noncomputable def rIxS2:R2:=λx y H Q=>∃l i c,x=.str (S l)/\y=.int i/\l.length<=sizeLine/\atI l i=some c/\Q (.str (S [c])) H
theorem BS:IxR X rIxS2:=by
 intro value slice pins s σ H x y v u Q I rx ry h hs;(revert h;refine ow34 λl i c zz1 zz2 hz he q=>?_;subst zz1;subst zz2);exact DG value slice pins s σ H _ _ v u Q I rx ry (iw34 (S l) i c rfl rfl (by rw[ck];exact hz) (by simpa using he) q) hs
noncomputable def rIxA (K:W.Frag):R2:=λx y H Q=>rIxL K x y H Q\/(rIxT K x y H Q\/(rIxS2 x y H Q\/(∃a v,x=.ref a/\DGet H a y (some v)/\Q v H)))
theorem DV (hu:X.A.units+1 < cLine):IxR X (rIxA X.K):=BG.or (DF.or (BS.or (BR hu)))
noncomputable def rSlA (K:W.Frag):V->Option Int->Option Int->Hp->VK->Prop:=λx lo hi H Q=>rSlL K x lo hi H Q\/rSlS x lo hi H Q
theorem DW:SlR X (rSlA X.K):=BH.or DM
noncomputable def rSetA:V->V->V->Hp->(Hp->Prop)->Prop:=λo i v H Q=>rSetL o i v H Q\/∃a H',o=.ref a/\DPut H a i v H'/\Q H'
theorem cT (hu:X.A.units+1 < cLine):PSet X rSetA:=by
 intro pins s σ H o i v ov iv u Q I ro ri rv h;rcases h with h | ⟨a,H',rfl,g,q⟩
 ·exact set_list pins s σ H o i v ov iv u Q I ro ri rv h
 ·cases (show ov=Value.ref a from ro)
  exact x4 hu I g ri rv λs4 I4=>(iw11 H' I4 q)
theorem DX (hu:X.A.units+1 < cLine):OpR X (compareOp .In) (λy x H Q=>∃a o,x=.ref a/\DGet H a y o/\Q (.bl o.isSome) H):=by
 intro pins s σ H y x v u Q I ry rx h;(revert h;refine ow22 λa o zz1 g q=>?_;subst zz1);cases (show u=Value.ref a from rx);exact BJ hu I g ry λs3 I3=>(iw22 (.bl o.isSome) H I3 rfl q)
theorem yb (hu:X.A.units+1 < cLine):OpR X (compareOp .NotIn) (λy x H Q=>∃a o,x=.ref a/\DGet H a y o/\Q (.bl (!o.isSome)) H):=by
 intro pins s σ H y x v u Q I ry rx h;(revert h;refine ow22 λa o zz1 g q=>?_;subst zz1);cases (show u=Value.ref a from rx);exact BK hu I g ry λs3 I3=>(iw22 (.bl (!o.isSome)) H I3 rfl q)
noncomputable def occB (j i:Str):Bool:=!(Builtin.Str.occurrences j i 0 j.length 1).isEmpty
theorem DY (hu:X.A.units+1 < cLine):OpR X (compareOp .In) (λx y H Q=>rIn X.K false x y H Q\/((∃i j,x=.str i/\y=.str j/\Q (.bl (occB j i)) H)\/(∃a o,y=.ref a/\DGet H a x o/\Q (.bl o.isSome) H))):=
 xV.or (OpR.or (r:=λx y H Q=>∃i j,x=.str i/\y=.str j/\Q (.bl (occB j i)) H) xS (DX hu))
theorem yc (hu:X.A.units+1 < cLine):OpR X (compareOp .NotIn) (λx y H Q=>rIn X.K true x y H Q\/((∃i j,x=.str i/\y=.str j/\Q (.bl (!occB j i)) H)\/(∃a o,y=.ref a/\DGet H a x o/\Q (.bl (!o.isSome)) H))):=
 rJ.or (OpR.or (r:=λx y H Q=>∃i j,x=.str i/\y=.str j/\Q (.bl (!occB j i)) H) rK (yb hu))
noncomputable def joinL (sep:List Nat):List (List Nat)->List Nat
 | []=>[]
 | [x]=>x
 | x::rest=>x++sep++joinL sep rest
theorem yd (ls:List (List Nat)):joinL [] ls=ls.flatten:=by
 induction ls with
 | nil=>rfl
 | cons a r ih=>
  cases r with
  | nil=>simp[joinL]
  | cons b t=>rw[joinL,ih];simp;intro h;cases h
theorem rP (sep:List Nat):∀ls:List (List Nat),Str.join (S sep) (ls.map S)=S (joinL sep ls)
 | []=>rfl
 | [x]=>rfl
 | x::y::r=>by
  have ih:=rP sep (y::r);show S x++S sep++Str.join (S sep) ((y::r).map S)=S (x++sep++joinL sep (y::r));rw[ih,Ar,Ar]
theorem vi {ls:List (List Nat)}:∀{us:List Value},Vals (ls.map λl=>V.str (S l)) us->StrsAre us (ls.map S):=by
 induction ls with
 | nil=>intro us r;cases r;exact .nil
 | cons a r ih=>
  intro us h;cases h with
  | cons h1 h2=>
   obtain⟨t,rfl⟩:=h1;exact .cons _ t (ih h2)
noncomputable def rJoin (K:W.Frag):V->List V->Hp->VK->Prop:=λx vs H Q=>∃sep p ls,x=.str (S sep)/\vs=[.ref p]/\SqL K H p (ls.map λl=>V.str (S l))/\(ls.map List.length).sum+ls.length * sep.length<=16777216/\Q (.str (S (joinL sep ls))) H
theorem BU:MtR X "str.join" (rJoin X.K):=by
 intro pins s σ H x vs v us Q I rx rv h;(revert h;refine ow34 λsep p ls zz1 zz2 hq hz q=>?_;subst zz1;subst zz2);obtain⟨t,rfl⟩:=rx;(refine pw11 (vals1 rv) λu zz1 ru=>?_;subst zz1);cases ru;(refine pw12 (I.list hq) λits r pl _=>?_);refine join_list pl.isList (ys:=ls.map S) (by simpa using vi r) ?_ λt' k=>?_
 ·rw[List.map_map,List.length_map]
  have e:(Str.length∘S)=List.length:=by funext l;exact ck l
  rw[e,ck];exact hz
 ·have e:Txt.join (S sep) (ls.map S)=S (joinL sep ls):=(StrLaws.glued_eq_join _ _).trans (rP sep ls)
  rw[e];exact(iw22 (.str (S (joinL sep ls))) H (I.tok k) ⟨t',rfl⟩ q)
noncomputable def iAny (K:W.Frag)(tl:TE):TI:=λσ H R=>tl σ H λx H1=>(∃a,x=.ref a/\(∃xs,SqL K H1 a xs)/\R (Itl K a) H1)\/((∃a,x=.ref a/\(∃xs,SqT K H1 a xs)/\R (Itt K a) H1)\/(∃z,x=.str z/\R (Its z) H1))
theorem DZ {tg l:Expr}{tl:TE}(hl:PE X l tl):PI X tg l (iAny X.K tl):=by
 intro pins s σ H R I h;refine thnE (hl pins s σ H _ I h) λv s1 x H1 I1 r1 q1=>?_;have aux:∀{e:Value} {t:TE} {R':It->Hp->Prop},True:=λ{_ _ _}=>trivial;have fp:∀b,b∈[s1.heap.objs.size]->FpOk X pins H1 b:=λb hb=>by
  have e:b=s1.heap.objs.size:=by simpa using hb
  subst e;exact I1.fpOk (Nat.le_refl _) (I1.hok.fresh (Nat.le_refl _))
 rcases q1 with⟨a,e,⟨xs,hq⟩,q⟩ | ⟨a,e,⟨xs,hq⟩,q⟩ | ⟨z,e,q⟩
 ·subst e
  cases r1;(refine pw12 (I1.list hq) λits rv p hz=>?_);refine wpAny_pyIter_list p.isList ?_;exact(iw55 s1.heap.objs.size ([s1.heap.objs.size]) _ _ H1 rfl (I1.kept (t':=s1.toks) λb o e=>Heap.get?_push_of_some _ e) (xO a _) (iw12 _ (Heap.get?_push_size _ rfl) rfl rfl) fp q)
 ·subst e
  cases r1;(refine pw12 (I1.tuple hq) λits rv p hz=>?_);refine wpAny_pyIter_tuple (show s1.heap.IsTuple a its.toArray from p) ?_;exact(iw55 s1.heap.objs.size ([s1.heap.objs.size]) _ _ H1 rfl (I1.kept (t':=s1.toks) λb o e=>Heap.get?_push_of_some _ e) (u5 a _) (iw12 _ (Heap.get?_push_size _ rfl) rfl rfl) fp q)
 ·subst e
  obtain⟨t,rfl⟩:=r1;refine wpAny_pyIter_strU ?_;exact(iw55 s1.heap.objs.size ([s1.heap.objs.size]) _ _ H1 rfl (I1.kept (t':=s1.toks) λb o e=>Heap.get?_push_of_some _ e) (As _ z t) (iw12 _ (Heap.get?_push_size _ rfl) rfl rfl) fp q)
end
theorem jf {J:It}{tt:TT}{te:TE}{σ:St}{H:Hp}{D:Addr}{Q:Hp->Prop}(n:Nat)(hn:n<=sizeLine)(hD:H D=none)(item f:Nat->V)(p:Nat->Bool)
  (hstop:∀H',Same H H'->J.stop n H') (hgo:∀i H',Same H H'->i < n->J.go i H') (hy:∀i H' x H'',Same H H'->i < n->J.yld i H' x H''->H''=H'/\x=item i)
  (ht:∀i H',i < n->Same H H'->∀Qt:Bool->Hp->Prop,(∀H'',Same H' H''->Qt (p i) H'')->tt (some (item i)::σ) H' Qt)
  (he:∀i H',i < n->p i=true->Same H H'->∀Qe:VK,(∀H'',Same H' H''->Qe (f i) H'')->te (some (item i)::σ) H' Qe)
  (hd:∀H',Same H H'->H' D=some (.lst (((List.range n).filter p).map f))->Q H') :
  ∃W:Nat->Nat->List V->Hp->Prop,(∃m,W 0 m [] (upd H D (.lst [])))/\∀i m ys H2,W i m ys H2->
   (J.stop i H2/\H2 D=some (.lst ys)/\Q H2)\/(J.go i H2/\ys.length < sizeLine/\∀x H3,J.yld i H2 x H3->tt (some x::σ) H3 λb H4=>
    if b=true then te (some x::σ) H4 λy H5=>H5 D=some (.lst ys)/\∃m',m' < m/\W (i+1) m' (ys++[y]) (upd H5 D (.lst (ys++[y]))) else ∃m',m' < m/\W (i+1) m' ys H4):=by
 have same0:∀{H':Hp} {ys:List V},Same H H'->Same H (upd H' D (.lst ys)):=λ{H' ys} h b o e=>by
  rw[aj (ay e hD)];exact h b o e
 refine(iw11 (λi m ys H2=>m=n - i/\i<=n/\ys=((List.range i).filter p).map f/\H2 D=some (.lst ys)/\Same H H2) (iw14 n rfl (Nat.zero_le _) rfl ae (same0 (Same.refl _))) ?_)
 rintro i m ys H2 ⟨rfl,hi,e,hH,hs⟩
 have hlen:ys.length<=i:=by
  rw[e,List.length_map];exact Nat.le_trans (List.length_filter_le _ _) (by rw[List.length_range];exact Nat.le_refl _)
 by_cases hlt:i < n
 ·refine .inr ⟨hgo i H2 hs hlt,by omega,λx H3 y=>?_⟩
  obtain⟨rfl,rfl⟩:=hy i H2 x H3 hs hlt y;have grow:((List.range (i+1)).filter p).map f=if p i=true then ys++[f i] else ys:=by
   rw[List.range_succ,List.filter_append,List.map_append,<-e]
   by_cases hp:p i=true
   ·rw[if_pos hp];simp[hp]
   ·have hp':p i=false:=by simpa using hp
    rw[if_neg hp];simp[hp']
  refine ht i _ hlt hs _ λH4 s4=>?_
  by_cases hp:p i=true
  ·rw[hp,if_pos rfl]
   rw[if_pos hp] at grow;refine he i H4 hlt hp (hs.trans s4) _ λH5 s5=>⟨s5 _ _ (s4 _ _ hH),(iw15 (n - (i+1)) (by omega) rfl hlt grow.symm ae (same0 ((hs.trans s4).trans s5)))⟩
  ·have hp':p i=false:=by simpa using hp
   rw[hp',if_neg Bool.false_ne_true];rw[if_neg hp] at grow;exact(iw15 (n - (i+1)) (by omega) rfl hlt grow.symm (s4 _ _ hH) (hs.trans s4))
 ·have ei:i=n:=by omega
  subst ei;rw[e] at hH;exact .inl ⟨hstop _ hs,by rw[e];exact hH,hd _ hs hH⟩
theorem cQ {α:Type}(l:List α):l.filter (λ_=>true)=l:=by induction l<;>simp_all
theorem vk {te:TE}{σ:St}{H:Hp}{D:Addr}{Q:Hp->Prop}(lo:Int)(n:Nat)(hn:n<=sizeLine)(hD:H D=none)(f:Nat->V)
  (he:∀i H',i < n->Same H H'->∀Qe:VK,(∀H'',Same H' H''->Qe (f i) H'')->te (some (.int (lo+i))::σ) H' Qe)
  (hd:∀H',Same H H'->H' D=some (.lst ((List.range n).map f))->Q H') :
  ∃W:Nat->Nat->List V->Hp->Prop,(∃m,W 0 m [] (upd H D (.lst [])))/\∀i m ys H2,W i m ys H2->
   ((Itr lo n).stop i H2/\H2 D=some (.lst ys)/\Q H2)\/((Itr lo n).go i H2/\ys.length < sizeLine/\∀x H3,(Itr lo n).yld i H2 x H3->tYes (some x::σ) H3 λb H4=>
    if b=true then te (some x::σ) H4 λy H5=>H5 D=some (.lst ys)/\∃m',m' < m/\W (i+1) m' (ys++[y]) (upd H5 D (.lst (ys++[y]))) else ∃m',m' < m/\W (i+1) m' ys H4):=
 jf (J:=Itr lo n) n hn hD (λi=>.int (lo+i)) f (λ_=>true) (λ_ _=>Nat.le_refl _) (λi _ _ h=>h) (λi H' x H'' _ _ y=>y) (λi H' _ _ Qt q=>q H' (Same.refl _)) (λi H' h _ s Qe q=>he i H' h s Qe q)
  (λH' s h=>hd H' s (by rw[cQ] at h;exact h))
theorem Same.upd {H:Hp}{D:Addr}{o:HO}(hD:H D=none):Same H (upd H D o):=λb u e=>by
 rw[aj (ay e hD)];exact e
theorem bZ {α:Type}{xs:List α}{i:Int}{v:α}(h0:0<=i)(h:xs[i.toNat]?=some v):atI xs i=some v:=by
 have:=BF (xs:=xs) (j:=i.toNat) h
 rwa [show((i.toNat:Nat):Int)=i by omega] at this
theorem Same.tup {K:W.Frag}{H H':Hp}{a:Addr}{xs:List V}(e:Same H H')(h:SqT K H a xs):SqT K H' a xs:=by
 rcases h with(h | ⟨o,h⟩) | h
 ·exact .inl (.inl (e _ _ h))
 ·exact .inl (.inr ⟨o,e _ _ h⟩)
 ·exact .inr h
mutual
theorem Den.same {K:W.Frag}{H H':Hp}(s:Same H H'):∀{v:V} {d:PyData},Den K H v d->Den K H' v d
 | _,_,.non=>.non
 | _,_,.bl b=>.bl b
 | _,_,.int i=>.int i
 | _,_,.str x=>.str x
 | _,_,.lst h t=>.lst (s.seq h) (DenAll.same s t)
 | _,_,.tup h t=>.tup (s.tup h) (DenAll.same s t)
theorem DenAll.same {K:W.Frag}{H H':Hp}(s:Same H H'):∀{v:List V} {d:List PyData},DenAll K H v d->DenAll K H' v d
 | _,_,.nil=>.nil
 | _,_,.cons h t=>.cons (Den.same s h) (DenAll.same s t)
end
theorem aG {K:W.Frag}{H:Hp}{Q:VK}{x:V}{n T:String}{b:Bool}(hT:∀t,TyOf K H x t↔t=.type T)(hk:W.kitOne K (.type T) (.type n)=some b):rIsi K [x,.ty n] H Q↔Q (.bl b) H:=by
 constructor
 ·rintro(⟨x',t,n',b',e,ty,k,q⟩ | ⟨x',t,C,b',e,ty,k,q⟩)
  ·simp only[List.cons.injEq,V.ty.injEq,and_true] at e
   obtain⟨rfl,rfl⟩:=e;rw[(hT t).mp ty,hk] at k;cases k;exact q
  ·simp at e
 ·intro q
  exact .inl (iw30 x _ n (iw13 b rfl ((hT _).mpr rfl) hk q))
theorem gz {K:W.Frag}{H:Hp}(t:Value):TyOf K H .non t↔t=.type "NoneType":=⟨λh=>by cases h;rfl,λh=>h▸.non⟩
theorem jg {K:W.Frag}{H:Hp}(b:Bool)(t:Value):TyOf K H (.bl b) t↔t=.type "bool":=⟨λh=>by cases h;rfl,λh=>h▸.bl b⟩
theorem gA {K:W.Frag}{H:Hp}(b:Int)(t:Value):TyOf K H (.int b) t↔t=.type "int":=⟨λh=>by cases h;rfl,λh=>h▸.int b⟩
theorem gB {K:W.Frag}{H:Hp}(b:Str)(t:Value):TyOf K H (.str b) t↔t=.type "str":=⟨λh=>by cases h;rfl,λh=>h▸.str b⟩
theorem ou {K:W.Frag}{H:Hp}{a:Addr}{xs:List V}(e:H a=some (.lst xs))(t:Value):TyOf K H (.ref a) t↔t=.type "list":=by
 constructor
 ·intro h
  cases h<;>first | rfl | (rename_i e';rw[e] at e';cases e') | (rename_i e' _ _ _ _ _;rw[e] at e';cases e')
 ·intro h
  exact h▸.lst e
theorem ow {K:W.Frag}{H:Hp}{a:Addr}{xs:List V}(e:H a=some (.tup xs))(t:Value):TyOf K H (.ref a) t↔t=.type "tuple":=by
 constructor
 ·intro h
  cases h<;>first | rfl | (rename_i e';rw[e] at e';cases e') | (rename_i e' _ _ _ _ _;rw[e] at e';cases e')
 ·intro h
  exact h▸.tup e
theorem CZ {K:W.Frag}{H:Hp}{Q:VK}:rIsi K [.non,.ty "int"] H Q↔Q (.bl false) H:=aG (gz) (by rfl)
theorem BV {K:W.Frag}{H:Hp}{Q:VK}:rIsi K [.non,.ty "bool"] H Q↔Q (.bl false) H:=aG (gz) (by rfl)
theorem C8 {K:W.Frag}{H:Hp}{Q:VK}:rIsi K [.non,.ty "str"] H Q↔Q (.bl false) H:=aG (gz) (by rfl)
theorem BW {K:W.Frag}{H:Hp}{Q:VK}:rIsi K [.non,.ty "list"] H Q↔Q (.bl false) H:=aG (gz) (by rfl)
theorem Bl {K:W.Frag}{H:Hp}{Q:VK}:rIsi K [.non,.ty "tuple"] H Q↔Q (.bl false) H:=aG (gz) (by rfl)
theorem BX {K:W.Frag}{H:Hp}{Q:VK}:rIsi K [.non,.ty "dict"] H Q↔Q (.bl false) H:=aG (gz) (by rfl)
theorem D1 {K:W.Frag}{H:Hp}{Q:VK}{b:Bool}:rIsi K [(.bl b),.ty "int"] H Q↔Q (.bl true) H:=aG (jg _) (by rfl)
theorem Dc {K:W.Frag}{H:Hp}{Q:VK}{b:Bool}:rIsi K [(.bl b),.ty "bool"] H Q↔Q (.bl true) H:=aG (jg _) (by rfl)
theorem D3 {K:W.Frag}{H:Hp}{Q:VK}{b:Bool}:rIsi K [(.bl b),.ty "str"] H Q↔Q (.bl false) H:=aG (jg _) (by rfl)
theorem De {K:W.Frag}{H:Hp}{Q:VK}{b:Bool}:rIsi K [(.bl b),.ty "list"] H Q↔Q (.bl false) H:=aG (jg _) (by rfl)
theorem BY {K:W.Frag}{H:Hp}{Q:VK}{b:Bool}:rIsi K [(.bl b),.ty "tuple"] H Q↔Q (.bl false) H:=aG (jg _) (by rfl)
theorem Df {K:W.Frag}{H:Hp}{Q:VK}{b:Bool}:rIsi K [(.bl b),.ty "dict"] H Q↔Q (.bl false) H:=aG (jg _) (by rfl)
theorem Dg {K:W.Frag}{H:Hp}{Q:VK}{b:Int}:rIsi K [(.int b),.ty "int"] H Q↔Q (.bl true) H:=aG (gA _) (by rfl)
theorem BZ {K:W.Frag}{H:Hp}{Q:VK}{b:Int}:rIsi K [(.int b),.ty "bool"] H Q↔Q (.bl false) H:=aG (gA _) (by rfl)
theorem Dh {K:W.Frag}{H:Hp}{Q:VK}{b:Int}:rIsi K [(.int b),.ty "str"] H Q↔Q (.bl false) H:=aG (gA _) (by rfl)
theorem B0 {K:W.Frag}{H:Hp}{Q:VK}{b:Int}:rIsi K [(.int b),.ty "list"] H Q↔Q (.bl false) H:=aG (gA _) (by rfl)
theorem Bm {K:W.Frag}{H:Hp}{Q:VK}{b:Int}:rIsi K [(.int b),.ty "tuple"] H Q↔Q (.bl false) H:=aG (gA _) (by rfl)
theorem B1 {K:W.Frag}{H:Hp}{Q:VK}{b:Int}:rIsi K [(.int b),.ty "dict"] H Q↔Q (.bl false) H:=aG (gA _) (by rfl)
theorem Di {K:W.Frag}{H:Hp}{Q:VK}{b:Str}:rIsi K [(.str b),.ty "int"] H Q↔Q (.bl false) H:=aG (gB _) (by rfl)
theorem B5 {K:W.Frag}{H:Hp}{Q:VK}{b:Str}:rIsi K [(.str b),.ty "bool"] H Q↔Q (.bl false) H:=aG (gB _) (by rfl)
theorem Dj {K:W.Frag}{H:Hp}{Q:VK}{b:Str}:rIsi K [(.str b),.ty "str"] H Q↔Q (.bl true) H:=aG (gB _) (by rfl)
theorem B6 {K:W.Frag}{H:Hp}{Q:VK}{b:Str}:rIsi K [(.str b),.ty "list"] H Q↔Q (.bl false) H:=aG (gB _) (by rfl)
theorem Bo {K:W.Frag}{H:Hp}{Q:VK}{b:Str}:rIsi K [(.str b),.ty "tuple"] H Q↔Q (.bl false) H:=aG (gB _) (by rfl)
theorem B8 {K:W.Frag}{H:Hp}{Q:VK}{b:Str}:rIsi K [(.str b),.ty "dict"] H Q↔Q (.bl false) H:=aG (gB _) (by rfl)
theorem tN {K:W.Frag}{H:Hp}{Q:VK}{a:Addr}{xs:List V}(e:H a=some (.lst xs)):rIsi K [.ref a,.ty "int"] H Q↔Q (.bl false) H:=aG (ou e) (by rfl)
theorem mV {K:W.Frag}{H:Hp}{Q:VK}{a:Addr}{xs:List V}(e:H a=some (.lst xs)):rIsi K [.ref a,.ty "str"] H Q↔Q (.bl false) H:=aG (ou e) (by rfl)
theorem rQ {K:W.Frag}{H:Hp}{Q:VK}{a:Addr}{xs:List V}(e:H a=some (.lst xs)):rIsi K [.ref a,.ty "list"] H Q↔Q (.bl true) H:=aG (ou e) (by rfl)
theorem tO {K:W.Frag}{H:Hp}{Q:VK}{a:Addr}{xs:List V}(e:H a=some (.tup xs)):rIsi K [.ref a,.ty "int"] H Q↔Q (.bl false) H:=aG (ow e) (by rfl)
theorem tP {K:W.Frag}{H:Hp}{Q:VK}{a:Addr}{xs:List V}(e:H a=some (.tup xs)):rIsi K [.ref a,.ty "str"] H Q↔Q (.bl false) H:=aG (ow e) (by rfl)
theorem gb {K:W.Frag}{H:Hp}{Q:VK}{a:Addr}{xs:List V}(e:H a=some (.tup xs)):rIsi K [.ref a,.ty "tuple"] H Q↔Q (.bl true) H:=aG (ow e) (by rfl)
noncomputable def forW (J:It)(g:TG)(tb:TS)(D:Ends)(σ:St)(H1:Hp):Prop:=∃W:Nat->Nat->St->Hp->Prop,(∃m,W 0 m σ H1)/\∀i m σ H,W i m σ H->
 (J.stop i H/\D.nx σ H)\/(J.go i H/\∃N:St->Hp->Prop,(∀σ' H',N σ' H'->∃m',m' < m/\W (i+1) m' σ' H')/\∀x H',J.yld i H x H'->g x σ H' λσ2 H2=>tb { D with nx:=N,ct:=N,bk:=D.nx } σ2 H2)
theorem Fi (wi:TI)(g:TG)(tb:TS)(D:Ends)(σ:St)(H:Hp):tFor wi g tb D σ H=wi σ H λJ H1=>forW J g tb D σ H1:=rfl
noncomputable def compW (J:It)(tt:TT)(te:TE)(σ:St)(H1:Hp)(Q:VK):Prop:=∀D,H1 D=none->∃W:Nat->Nat->List V->Hp->Prop,(∃m,W 0 m [] (upd H1 D (.lst [])))/\∀i m ys H2,W i m ys H2->
 (J.stop i H2/\H2 D=some (.lst ys)/\Q (.ref D) H2)\/(J.go i H2/\ys.length < sizeLine/\∀x H3,J.yld i H2 x H3->tt (some x::σ) H3 λb H4=>
  if b=true then te (some x::σ) H4 λy H5=>H5 D=some (.lst ys)/\∃m',m' < m/\W (i+1) m' (ys++[y]) (upd H5 D (.lst (ys++[y]))) else ∃m',m' < m/\W (i+1) m' ys H4)
theorem EU (wi:TI)(tt:TT)(te:TE)(σ:St)(H:Hp)(Q:VK):tComp wi tt te σ H Q=wi σ H λJ H1=>compW J tt te σ H1 Q:=rfl
theorem tQ {z:Str}{g:TG}{tb:TS}{D:Ends}{σ:St}{H:Hp}(Pv:Nat->St->Hp->Prop)(h0:Pv 0 σ H)
  (hs:∀i c σ H,z.cps[i]?=some c->Pv i σ H->g (.str (S [c])) σ H λσ2 H2=>tb { D with nx:=Pv (i+1),ct:=Pv (i+1),bk:=D.nx } σ2 H2) (hd:∀σ H,Pv z.cps.size σ H->D.nx σ H):forW (Its z) g tb D σ H:=
 BO Pv h0 hs hd
theorem dW {K:W.Frag}{a:Addr}{xs:List V}{g:TG}{tb:TS}{D:Ends}{σ:St}{H:Hp}(Pv:Nat->St->Hp->Prop)(h0:Pv 0 σ H)(hl:∀i σ H,i<=xs.length->Pv i σ H->SqL K H a xs)
  (hs:∀i x σ H,xs[i]?=some x->Pv i σ H->g x σ H λσ2 H2=>tb { D with nx:=Pv (i+1),ct:=Pv (i+1),bk:=D.nx } σ2 H2) (hd:∀σ H,Pv xs.length σ H->D.nx σ H):forW (Itl K a) g tb D σ H:=
 zZ Pv h0 hl hs hd
theorem j3 {lo:Int}{n:Nat}{g:TG}{tb:TS}{D:Ends}{σ:St}{H:Hp}(Pv:Nat->St->Hp->Prop)(h0:Pv 0 σ H)
  (hs:∀i σ H,i < n->Pv i σ H->g (.int (lo+i)) σ H λσ2 H2=>tb { D with nx:=Pv (i+1),ct:=Pv (i+1),bk:=D.nx } σ2 H2) (hd:∀σ H,Pv n σ H->D.nx σ H):forW (Itr lo n) g tb D σ H:=
 xR Pv h0 hs hd
theorem mW {te:TE}{σ:St}{H:Hp}{Q:VK}{lo:Int}{n:Nat}(hn:n<=sizeLine)(f:Nat->V)
  (he:∀i H',i < n->Same H H'->∀Qe:VK,(∀H'',Same H' H''->Qe (f i) H'')->te (some (.int (lo+i))::σ) H' Qe)
  (hd:∀D H',H D=none->Same H H'->H' D=some (.lst ((List.range n).map f))->Q (.ref D) H'):compW (Itr lo n) tYes te σ H Q:=
 λD hD=>vk lo n hn hD f he λH' s h=>hd D H' hD s h
theorem Fz {CX:CXT}{P:Program}{w:World}{K:W.Frag}{mg:Str->Option Value}{base:Heap}{N:List Str}{qual:Str}{scope:Scope}{f:Addr}{cd:Value}{A:Around}{outer:List Env}{s:Shared}{H:Hp}{E:XK} :
  (cxOf CX P w K mg base N qual scope f cd A outer s H E).K=K:=rfl
theorem Fy (a b:List Nat):(S a=S b)=(a=b):=propext ⟨ot,λh=>by rw[h]⟩
noncomputable def rPlus (K:W.Frag):R2:=λx y H Q=>rI0 (λi j=>.int (i+j)) x y H Q\/(rCatT2 x y H Q\/rCatS K x y H Q)
noncomputable def rEqq (K:W.Frag):R2:=λx y H Q=>rEq x y H Q\/rEqD K false x y H Q
noncomputable def rNeq (K:W.Frag):R2:=λx y H Q=>rNe x y H Q\/rEqD K true x y H Q
noncomputable def rLt:R2:=λx y H Q=>rI0 (λi j=>.bl (decide (i < j))) x y H Q\/rStrs (λa b=>decide (a < b)) x y H Q
noncomputable def rLe:R2:=λx y H Q=>rI0 (λi j=>.bl (decide (i<=j))) x y H Q\/rStrs (λa b=>!decide (b < a)) x y H Q
noncomputable def rLen (K:W.Frag):List V->Hp->VK->Prop:=λxs H Q=>(∃p ys,xs=[.ref p]/\(SqL K H p ys\/SqT K H p ys)/\Q (.int ys.length) H)\/((∃l,xs=[.str (S l)]/\l.length<=sizeLine/\Q (.int l.length) H)\/(∃a kvs,xs=[V.ref a]/\H a=some (.dK kvs)/\Q (.int kvs.length) H))
noncomputable def rInn (K:W.Frag):R2:=λx y H Q=>rIn K false x y H Q\/((∃i j,x=.str i/\y=.str j/\Q (.bl (occB j i)) H)\/(∃a o,y=.ref a/\DGet H a x o/\Q (.bl o.isSome) H))
noncomputable def rNin (K:W.Frag):R2:=λx y H Q=>rIn K true x y H Q\/((∃i j,x=.str i/\y=.str j/\Q (.bl (!occB j i)) H)\/(∃a o,y=.ref a/\DGet H a x o/\Q (.bl (!o.isSome)) H))
noncomputable def rListOf (K:W.Frag):List V->Hp->VK->Prop:=λxs H Q=>∃p ys,xs=[.ref p]/\(SqL K H p ys\/SqT K H p ys)/\∀l,H l=none->Q (.ref l) (upd H l (.lst ys))
noncomputable def rOrd:List V->Hp->VK->Prop:=λxs H Q=>∃c,xs=[.str (S [c])]/\Q (.int (c:Nat)) H
noncomputable def rAny (K:W.Frag)(x:V)(H1:Hp)(R:It->Hp->Prop):Prop:=(∃a,x=.ref a/\(∃xs,SqL K H1 a xs)/\R (Itl K a) H1)\/((∃a,x=.ref a/\(∃xs,SqT K H1 a xs)/\R (Itt K a) H1)\/(∃z,x=.str z/\R (Its z) H1))
theorem Fj (K:W.Frag)(tl:TE)(σ:St)(H:Hp)(R:It->Hp->Prop):iAny K tl σ H R=tl σ H λx H1=>rAny K x H1 R:=rfl
noncomputable def tTru (K:W.Frag)(ta:TE):TT:=λσ H Q=>ta σ H λx H'=>∃k,TruV K x H' k/\Q k H'
section
variable {K:W.Frag} {H:Hp} {Q:VK} {R:It->Hp->Prop} {x y:V} {a b p:Addr} {xs zs ys:List V}
theorem tS (i j:Int):rPlus K (.int i) (.int j) H Q=Q (.int (i+j)) H:=by simp[rPlus,rI0,rCatT2,rCatS]
theorem EV (i j:Str):rPlus K (.str i) (.str j) H Q=∃l m,i=S l/\j=S m/\l.length+m.length<=sizeLine/\Q (.str (S (l++m))) H:=by simp[rPlus,rI0,rCatT2,rCatS]
theorem xj (h1:SqL K H a xs)(h2:SqL K H b zs)(hz:xs.length+zs.length<=sizeLine)(q:∀p,H p=none->Q (.ref p) (upd H p (.lst (xs++zs)))):rPlus K (.ref a) (.ref b) H Q:=.inr (.inr (iw44 a b xs zs rfl rfl h1 h2 ⟨hz,q⟩))
theorem rR (i j:Int):rEqq K (.int i) (.int j) H Q=Q (.bl (decide (i=j))) H:=by simp[rEqq,rEq,rEqD,scal,isRef]
theorem B9 (i j:Int):rNeq K (.int i) (.int j) H Q=Q (.bl (!(decide (i=j)))) H:=by simp[rNeq,rNe,rEqD,scal,isRef]
theorem Fl (i j:Str):rEqq K (.str i) (.str j) H Q=Q (.bl (decide (i=j))) H:=by simp[rEqq,rEq,rEqD,scal,isRef]
theorem D4 {d e:PyData}(hr:(isRef x || isRef y)=true)(h1:Den K H x d)(h2:Den K H y e)(s1:SeqAt.shaped d=true)(s2:SeqAt.shaped e=true)(q:Q (.bl (PyData.eqv d e)) H):rEqq K x y H Q:=.inr ⟨hr,(iw24 d e h1 h2 s1 s2 q)⟩
theorem D5 {d e:PyData}(hr:(isRef x || isRef y)=true)(h1:Den K H x d)(h2:Den K H y e)(s1:SeqAt.shaped d=true)(s2:SeqAt.shaped e=true)(q:Q (.bl (!PyData.eqv d e)) H):rNeq K x y H Q:=.inr ⟨hr,(iw24 d e h1 h2 s1 s2 q)⟩
theorem D6 (i j:Int):rLt (.int i) (.int j) H Q=Q (.bl (decide (i < j))) H:=by simp[rLt,rI0,rStrs]
theorem Fo (i j:Int):rLe (.int i) (.int j) H Q=Q (.bl (decide (i<=j))) H:=by simp[rLe,rI0,rStrs]
theorem Fp (i j:Str):rLe (.str i) (.str j) H Q=Q (.bl (!decide (j.cps.toList < i.cps.toList))) H:=by simp[rLe,rI0,rStrs]
theorem Fq (i:Str):rLen K [.str i] H Q=∃l,i=S l/\l.length<=sizeLine/\Q (.int l.length) H:=by simp[rLen]
theorem bB (h:SqL K H p ys)(q:Q (.int ys.length) H):rLen K [.ref p] H Q:=.inl (iw22 p ys rfl (.inl h) q)
theorem vm (h:SqT K H p ys)(q:Q (.int ys.length) H):rLen K [.ref p] H Q:=.inl (iw22 p ys rfl (.inr h) q)
theorem Fs (i j:Str):rInn K (.str i) (.str j) H Q=Q (.bl (occB j i)) H:=by simp[rInn,rIn]
theorem Aw (h:SqL K H p xs\/SqT K H p xs)(f:flatV x=true)(g:xs.all flatV=true)(q:Q (.bl (inV x xs)) H):rInn K x (.ref p) H Q:=.inl (iw24 p xs rfl h f g q)
theorem D7 {o:Option V}(h:DGet H p x o)(q:Q (.bl (!o.isSome)) H):rNin K x (.ref p) H Q:=.inr (.inr (iw22 p o rfl h q))
theorem jh (h:SqL K H p ys\/SqT K H p ys)(q:∀l,H l=none->Q (.ref l) (upd H l (.lst ys))):rListOf K [.ref p] H Q:=(iw22 p ys rfl h q)
theorem Ft (i:Str):rIxA K (.str i) y H Q=rIxS2 (.str i) y H Q:=by simp[rIxA,rIxL,rIxT]
theorem aT {i:Int}{v:V}(h:SqL K H p xs)(e:atI xs i=some v)(q:Q v H):rIxA K (.ref p) (.int i) H Q:=.inl (iw44 p xs i v rfl rfl h e q)
theorem aO {i:Int}{v:V}(h:SqT K H p xs)(e:atI xs i=some v)(q:Q v H):rIxA K (.ref p) (.int i) H Q:=.inr (.inl (iw44 p xs i v rfl rfl h e q))
theorem aS {v:V}(h:DGet H p y (some v))(q:Q v H):rIxA K (.ref p) y H Q:=.inr (.inr (.inr (iw22 p v rfl h q)))
theorem vn {lo hi:Option Int}(h:SqL K H a xs)(q:∀p,H p=none->Q (.ref p) (upd H p (.lst (cutV xs lo hi)))):rSlA K (.ref a) lo hi H Q:=.inl (iw22 a xs rfl h q)
theorem Fu (z:Str):rAny K (.str z) H R=R (Its z) H:=by simp[rAny]
theorem cF (h:SqL K H a xs)(q:R (Itl K a) H):rAny K (.ref a) H R:=.inl (iw12 a rfl ⟨xs,h⟩ q)
theorem D8 (h:SqT K H a xs)(q:R (Itt K a) H):rAny K (.ref a) H R:=.inr (.inl (iw12 a rfl ⟨xs,h⟩ q))
theorem rS {v:V}{k:Int}{j:Nat}{Qh:Hp->Prop}(h:H p=some (.lst xs))(e:ixN xs.length k=some j)(q:Qh (upd H p (.lst (xs.set j v)))):rSetA (.ref p) (.int k) v H Qh:=.inl (iw44 p xs k j rfl rfl h e q)
theorem fz {v:V}{H':Hp}{Qh:Hp->Prop}(h:DPut H p y v H')(q:Qh H'):rSetA (.ref p) y v H Qh:=.inr (iw22 p H' rfl h q)
theorem Fv (b k:Bool):TruV K (.bl b) H k=(k=b):=rfl
theorem Fw (k:Bool):TruV K .non H k=(k=false):=rfl
theorem Fx (i:Int)(k:Bool):TruV K (.int i) H k=(k=(i != 0)):=rfl
end
section
variable {X:Cx} {K:W.Frag} {a b c e o l tg:Expr} {es:List Expr} {ta tb to te tl:TE} {t:TA} {pos apos cpos p2:Pos} {f name:Str} {lo hi:Option Expr} {tlo thi:TO}
theorem aF (hK:autoParam (X.K=K) L2.dft3._auto_1):OpR X (binaryOp .Add) (rPlus K):=hK▸BQ
theorem bJ (hu:X.A.units+64 < cLine)(hK:autoParam (X.K=K) L2.dft3._auto_1):OpR X (compareOp .Eq) (rEqq K):=hK▸DP hu
theorem dq (hu:X.A.units+64 < cLine)(hK:autoParam (X.K=K) L2.dft3._auto_1):OpR X (compareOp .NotEq) (rNeq K):=hK▸DQ hu
theorem aH (hK:autoParam (X.K=K) L2.dft3._auto_1):CallR X (.builtin "len") (rLen K):=hK▸x9
theorem lR:CallR X (.builtin "ord") rOrd:=ya
theorem j4:OpR X (compareOp .Lt) rLt:=DT
theorem eB:OpR X (compareOp .LtE) rLe:=DU
theorem aM (hK:autoParam (X.K=K) L2.dft3._auto_1):CallR X (.builtin "isinstance") (rIsi K):=hK▸lQ
theorem cG (hK:autoParam (X.K=K) L2.dft3._auto_1):CallR X (.type "list") (rListOf K):=hK▸rN
theorem ak (hu:X.A.units+1 < cLine)(hK:autoParam (X.K=K) L2.dft3._auto_1):IxR X (rIxA K):=hK▸DV hu
theorem rT (hK:autoParam (X.K=K) L2.dft3._auto_1):SlR X (rSlA K):=hK▸DW
theorem vo (hu:X.A.units+1 < cLine)(hK:autoParam (X.K=K) L2.dft3._auto_1):OpR X (compareOp .In) (rInn K):=hK▸DY hu
theorem ye (hu:X.A.units+1 < cLine)(hK:autoParam (X.K=K) L2.dft3._auto_1):OpR X (compareOp .NotIn) (rNin K):=hK▸yc hu
theorem kH (hK:autoParam (X.K=K) L2.dft3._auto_1):MtR X "str.join" (rJoin K):=hK▸BU
theorem bf (hl:PE X l tl)(hK:autoParam (X.K=K) L2.dft3._auto_1):PI X tg l (iAny K tl):=hK▸DZ hl
theorem au (he:PE X e ta)(hb:attributeBase e f X.env (eval e X.env)=eval e X.env)(hK:autoParam (X.K=K) L2.dft3._auto_1):PE X (.Attribute e f pos) (tFld K ta f):=hK▸DE he hb
theorem bg (ha:PE X a ta)(he:∀whole,isTrue a X.env whole=(do let v <-whole;standAt a.pos;holding [v] (truthy v)))(hK:autoParam (X.K=K) L2.dft3._auto_1) :
  PT X a (tTru K ta):=hK▸Ae ha he
theorem cI {T id:String}{r:V->List V->Hp->VK->Prop}(pa:PlainAttrs T)(slot:Slot T name id)(hty:typeOf (.builtin id)=pure (.type "method_descriptor"))(hm:MtR X id r)(ho:PE X o to)(ha:PA X (e::es) t)
  (hbase:autoParam (attributeBase o name X.env (eval o X.env)=eval o X.env) L2.dft3._auto_1)
  (hfew:autoParam (((backTo cpos (starEach (e::es) X.env)).all (λx=>!x.1) && (backToKw cpos (keywordEach [] X.env)).all (λx=>x.1.isSome)
   && decide ((e::es).length+([]:List Keyword).length+(if ([]:List Keyword).isEmpty then 0 else 1) < 30))=true) L2.dft3._auto_1)
  (hline:autoParam ((apos.endLine == cpos.line)=true) L2.dft3._auto_1) (hs:autoParam (starEach (e::es) X.env=(false,eval e X.env)::starEach es X.env) L2.dft3._auto_1) (hplain:autoParam ((backTo cpos (starEach es X.env)).any (·.1)=false) L2.dft3._auto_1) (hK:autoParam (X.K=K) L2.dft3._auto_1) :
  PE X (.Call (.Attribute o name apos) (e::es) [] cpos) (tBM K T r to t):=hK▸EO pa slot hty hm ho ha hbase hfew hline hs hplain
theorem ji {es:List Expr}{k:Nat}{t:TGs}{n:Nat}(hc:X.calm=true)(h:PGs X es t)
  (hn:autoParam ((assignEach es X.env).length=n) L2.dft3._auto_1) (hst:autoParam ((assignEach es X.env).findIdx? (·.1)=none) L2.dft3._auto_1) (hK:autoParam (X.K=K) L2.dft3._auto_1):PG X (.Tuple es k pos) (gTup K n t):=hK▸Dz hc h hn hst
end
section
variable {X:Cx}
noncomputable def tInRng (neg:Bool)(ta:TE)(tr:TA):TE:=λσ H Q=>ta σ H λx H1=>tr σ H1 λvs H2=>∃i a b:Int,x=.int i/\vs=[.int a,.int b]/\Q (.bl (if neg then !(decide (a<=i) && decide (i < b)) else(decide (a<=i) && decide (i < b)))) H2
noncomputable def tInRng1 (neg:Bool)(ta:TE)(tr:TA):TE:=λσ H Q=>ta σ H λx H1=>tr σ H1 λvs H2=>∃i b:Int,x=.int i/\vs=[.int b]/\Q (.bl (if neg then !(decide (0<=i) && decide (i < b)) else(decide (0<=i) && decide (i < b)))) H2
theorem tT {bs:List Bool}:∀{us:List Value},Vals (bs.map V.bl) us->LSm.BoolsAre us bs:=by
 induction bs with
 | nil=>intro us r;cases r;exact .nil
 | cons a r ih=>
  intro us h;cases h with
  | cons h1 h2=>
   cases (show _=Value.bool a from h1);exact .cons _ (ih h2)
noncomputable def rAll (K:W.Frag):List V->Hp->VK->Prop:=λxs H Q=>∃(p:Addr) (bs:List Bool),xs=[.ref p]/\SqL K H p (bs.map V.bl)/\Q (.bl (bs.all id)) H
theorem vp {h h':Heap}{o:Obj}(hk:∀b x,b∉[h.objs.size]->(h.push o).get? b=some x->h'.get? b=some x):∀b x,h.get? b=some x->h'.get? b=some x:=
 λb x e=>hk b x (λhm=>by rw[List.mem_singleton.mp hm] at e;exact Nat.lt_irrefl _ (Heap.lt_size e)) (Heap.get?_push_of_some _ e)
theorem yf (hc:X.calm=true):CallR X (.builtin "all") (rAll X.K):=by
 intro pins s σ H xs us Q I r h;(revert h;refine ow22 λp bs zz1 hq q=>?_;subst zz1);(refine pw11 (vals1 r) λu zz1 ru=>?_;subst zz1);cases ru;(refine pw12 (I.list hq) λits rv pl hz=>?_);have hb:=tT rv;have hl:=pl.isList;have hlt:p < s.heap.objs.size:=by (revert hl;refine ow11 λ_ e _=>?_);exact Heap.lt_size e
 refine call_all_walk (wpAny_pyIter_list hl ?_)
 refine(iw60 s.heap.objs.size ([s.heap.objs.size,p]) ([s.heap.objs.size]) its.toArray.size _ _ (iw14 (λi=>(bs[i]?).getD true) rfl (Walks.list (A:=X.A.in1) (I.ok.hd hc) _ p (Nat.ne_of_lt hlt) its.toArray) 
  ⟨(iw12 _ (Heap.get?_push_size _ rfl) rfl rfl),hl.push _⟩ (λi v s' Q' E' hP hQ=>?_) (λh' tk hk=>?_)))
 ·(refine pw11 (hb.get i v (by simpa using hP)) λb e zz1=>?_;subst zz1)
  simp only[e,Option.getD_some] at hQ;exact wpAny_truthy_bool hQ
 ·have e:((List.range its.toArray.size).all λi=>(bs[i]?).getD true)=bs.all id:=by
   rw[List.size_toArray,hb.length];exact LSm.range_all bs
  rw[e];exact(iw22 (.bl _) H (I.kept (vp hk)) rfl q)
noncomputable def rSum (K:W.Frag):List V->Hp->VK->Prop:=λxs H Q=>∃(p:Addr) (ns:List Int),xs=[.ref p]/\SqL K H p (ns.map V.int)/\Q (.int ns.sum) H
theorem yg (hc:X.calm=true):CallR X (.builtin "sum") (rSum X.K):=by
 intro pins s σ H xs us Q I r h;(revert h;refine ow22 λp ns zz1 hq q=>?_;subst zz1);(refine pw11 (vals1 r) λu zz1 ru=>?_;subst zz1);cases ru;(refine pw12 (I.list hq) λits rv pl hz=>?_);have hi:=intsAre_of rv;obtain⟨xs,hx⟩:=hi.allInts.items;have hl':s.heap.IsList p (intItems xs):=hx▸pl.isList;refine sum_intListG (I.ok.hd hc) hl' λh' tk t' hk=>?_;have e1:ns=xs.toList.map (·.1):=by
  rw[<-nums_intItems,<-hx];exact(show numsOf its.toArray.toList=ns from hi.numsOf).symm
 have e2:preSum (numAt xs) xs.size=ns.sum:=by
  rw[preSum_eq,List.take_of_length_le (by simp),e1]
 rw[e2];exact(iw22 (.int _) H (I.kept hk) ⟨_,rfl⟩ q)
theorem dX {K:W.Frag}(hc:autoParam (X.calm=true) L2.dft3._auto_1)(hK:autoParam (X.K=K) L2.dft3._auto_1):CallR X (.builtin "all") (rAll K):=hK▸yf hc
theorem qD {K:W.Frag}(hc:autoParam (X.calm=true) L2.dft3._auto_1)(hK:autoParam (X.K=K) L2.dft3._auto_1):CallR X (.builtin "sum") (rSum K):=hK▸yg hc
theorem lS {K:W.Frag}{H:Hp}{Q:VK}{p:Addr}{bs:List Bool}(h:SqL K H p (bs.map V.bl))(q:Q (.bl (bs.all id)) H):rAll K [.ref p] H Q:=(iw22 p bs rfl h q)
theorem D9 {K:W.Frag}{H:Hp}{Q:VK}{p:Addr}{ns:List Int}(h:SqL K H p (ns.map V.int))(q:Q (.int ns.sum) H):rSum K [.ref p] H Q:=(iw22 p ns rfl h q)
noncomputable def rMax:List V->Hp->VK->Prop:=λxs H Q=>∃i j,xs=[.int i,.int j]/\Q (.int (max i j)) H
noncomputable def rMin:List V->Hp->VK->Prop:=λxs H Q=>∃i j,xs=[.int i,.int j]/\Q (.int (min i j)) H
theorem jj (hc:X.calm=true):CallR X (.builtin "max") rMax:=by
 intro pins s σ H xs us Q I r h;(revert h;refine ow21 λi j zz1 q=>?_;subst zz1);refine xT hc pins s σ H _ us Q I r (iw21 i j rfl ?_);rw[show(if j > i then j else i)=max i j by split<;>omega];exact q
theorem yh (hc:X.calm=true):CallR X (.builtin "min") rMin:=by
 intro pins s σ H xs us Q I r h;(revert h;refine ow21 λi j zz1 q=>?_;subst zz1);refine xU hc pins s σ H _ us Q I r (iw21 i j rfl ?_);rw[show(if j < i then j else i)=min i j by split<;>omega];exact q
noncomputable def strI (i:Int):List Nat:=(toString i:Str).cps.toList
noncomputable def rStrI:List V->Hp->VK->Prop:=λxs H Q=>∃i,xs=[.int i]/\i.natAbs.log2 < 1920/\Q (.str (S (strI i))) H
theorem dY {K:W.Frag}:CallR X (.type "str") rStrI:=by
 intro pins s σ H xs us Q I r h;(revert h;refine ow12 λi zz1 hz q=>?_;subst zz1);refine rC pins s σ H _ us Q I r (iw12 i rfl hz ?_);have e:(toString i:Str)=S (strI i):=BM _;rw[e];exact q
end
structure FunD (K:W.Frag)(x qual:Str)(st:Stmt)(f:Addr)(fd:FuncData)(items:List Value):Prop where
 ex:∃(oc:Value) (od:Option Addr) (kV doc pm:Value) (an:Option Addr) (cdv ct:Value) (osl:Array (Option Value)) (tD:Addr) (o:Obj) (n:Nat),
  fd=W.fnOf x qual (defArgs st) (defBody st) (defScope st) (.ref tD) kV doc pm an cdv ct/\K.lookup f=some ⟨oc,od,.func fd,osl⟩/\W.codeIn K cdv qual=true/\K.lookup tD=some o/\o.data=.seq items.toArray n
 kp:W.keepIn K (.ref f)=true
section
variable {P:Program} {w:World} {K:W.Frag} {mg:Str->Option Value} {base:Heap}
theorem FunD.ok {x qual:Str}{st:Stmt}{f:Addr}{fd:FuncData}{items:List Value}{N ps:List Str}{k:Nat}{sp:Sp}(F:FunD K x qual st f fd items)(S:FnScope N ps (defScope st))(len:∀vs H Q E,sp vs H Q E->vs.length=ps.length)
  (hbody:∀(cdv:Value) (A:Around) (outer:List Env) (s:Shared) (H:Hp) (vs:List V) (Q:VK) (E:XK),Room k (A.deeper (envOfC qual (defScope st) s.heap.objs.size f cdv))->sp vs H Q E->
   ∃t,PSs (cxOf CX0 P w K mg base N qual (defScope st) f cdv A outer s H E).nox (defBody st) t/\t { nx:=λ_ H'=>Q .non H',rt:=Q } (start N vs) H):FnOk P w K mg base CX0 (k+1) f fd ps sp:=by
 (refine pw60 F.ex λoc od kV doc pm an=>ow60 λcdv ct osl tD o n=>ow02 λzz1 lk=>ow01 λhcd _=>?_;subst zz1);refine xb lk hcd S len λA outer s H vs Q E hr hsp=>?_;(refine pw11 (hbody cdv A outer s H vs Q E hr hsp) λt h q=>?_);exact(iw11 t h.nox q)
theorem FunD.binds {x qual:Str}{st:Stmt}{f:Addr}{fd:FuncData}{items:List Value}{ps:List Str}(ds:List Value)(m:Nat)(hm:m+ds.length=ps.length)(F:FunD K x qual st f fd items)
  (h:∀(tD:Addr) (kV doc pm:Value) (an:Option Addr) (cdv ct:Value) (us:List Value),us.length=m->
   ∃kk,bindArgs (W.fnOf x qual (defArgs st) (defBody st) (defScope st) (.ref tD) kV doc pm an cdv ct) ⟨us,[]⟩=seqItems? (.ref tD) >>= kk/\kk (some items.toArray)=pure (ps.zip (us++ds))):Binds K fd ps ds:=by
 (refine pw60 F.ex λoc od kV doc pm an=>ow60 λcdv ct osl tD o n=>ow04 λzz1 lk hcd ho hs=>?_;subst zz1);intro s us X hl;rw[List.length_append] at hl;(refine pw11 (h tD kV doc pm an cdv ct us (by omega)) λkk h1 h2=>?_);exact BindsTo.of_defaults rfl (X _ _ ho) hs h1 h2
theorem cU {x qual:Str}{st:Stmt}{f:Addr}{oc:Value}{od an:Option Addr}{osl:Array (Option Value)}{kV doc pm cdv ct:Value}{tD:Addr}{tc:Value}{td:Option Addr}{tn:Nat}{tsl:Array (Option Value)}{items:List Value}
  (l:K.lookup f=some ⟨oc,od,.func (W.fnOf x qual (defArgs st) (defBody st) (defScope st) (.ref tD) kV doc pm an cdv ct),osl⟩)
  (c:W.codeIn K cdv qual=true) (k:W.keepIn K (.ref f)=true) (dl:K.lookup tD=some ⟨tc,td,.seq items.toArray tn,tsl⟩):FunD K x qual st f (W.fnOf x qual (defArgs st) (defBody st) (defScope st) (.ref tD) kV doc pm an cdv ct) items:=
 ⟨(iw60 oc od kV doc pm an (iw60 cdv ct osl tD _ tn ⟨rfl,l,c,dl,rfl⟩)),k⟩
end
structure Chg (A:List Addr)(H H':Hp):Prop where
 keep:∀b o,H b=some o->b∉A->H' b=some o
 tup:∀b xs,H b=some (.tup xs)->H' b=some (.tup xs)
theorem Chg.refl {A:List Addr}(H:Hp):Chg A H H:=⟨λ_ _ h _=>h,λ_ _ h=>h⟩
theorem Chg.of_same {A:List Addr}{H H':Hp}(s:Same H H'):Chg A H H':=⟨λb o h _=>s b o h,λb xs h=>s b _ h⟩
theorem Chg.trans {A:List Addr}{H H1 H2:Hp}(x:Chg A H H1)(y:Chg A H1 H2):Chg A H H2:=⟨λb o h n=>y.keep b o (x.keep b o h n) n,λb xs h=>y.tup b xs (x.tup b xs h)⟩
theorem Chg.mono {A B:List Addr}{H H':Hp}(x:Chg A H H')(h:∀b,b∈A->b∈B):Chg B H H':=⟨λb o e n=>x.keep b o e λz=>n (h b z),x.tup⟩
theorem Chg.upd {A:List Addr}{H:Hp}{a:Addr}{o:HO}(ha:a∈A)(hm:∀xs,H a≠some (.tup xs)):Chg A H (L2.upd H a o):=by
 refine⟨λb u e n=>?_,λb xs e=>?_⟩
 ·have hb:b≠a:=λz=>by subst z;exact n ha
  rw[aj hb];exact e
 ·have hb:b≠a:=λz=>by subst z;exact hm xs e
  rw[aj hb];exact e
theorem Chg.new {A:List Addr}{H:Hp}{a:Addr}{o:HO}(ha:H a=none):Chg A H (L2.upd H a o):=.of_same (Same.upd ha)
theorem lT {H:Hp}{a:Addr}{kvs:List (Key×V)}(h:H a=some (.dK kvs)):∀xs,H a≠some (.tup xs):=λxs z=>by rw[h] at z;cases z
theorem kI {H:Hp}{a:Addr}{kvs:List V}(h:H a=some (.lst kvs)):∀xs,H a≠some (.tup xs):=λxs z=>by rw[h] at z;cases z
theorem bT {H:Hp}{a C dx:Addr}{fs:List (Str×V)}(h:H a=some (.ins C dx fs)):∀xs,H a≠some (.tup xs):=λxs z=>by rw[h] at z;cases z
theorem kJ {K:W.Frag}{tt:TT}{te:TE}{σ:St}{H:Hp}{Q:VK}{a:Addr}{xs:List V}(hl:SqL K H a xs)(hn:xs.length<=sizeLine)(p:V->Bool)(f:V->V)
  (ht:∀x H',x∈xs->Same H H'->∀Qt:Bool->Hp->Prop,(∀H'',Same H' H''->Qt (p x) H'')->tt (some x::σ) H' Qt)
  (he:∀x H',x∈xs->p x=true->Same H H'->∀Qe:VK,(∀H'',Same H' H''->Qe (f x) H'')->te (some x::σ) H' Qe)
  (hd:∀D H',H D=none->Same H H'->H' D=some (.lst ((xs.filter p).map f))->Q (.ref D) H'):compW (Itl K a) tt te σ H Q:=λD hD=>
 jf (J:=Itl K a) xs.length hn hD (λi=>xs.getD i .non) (λi=>f (xs.getD i .non)) (λi=>p (xs.getD i .non)) (λH' s=>(iw11 xs (s.seq hl) (Nat.le_refl _)))
  (λi H' s h=>(iw21 xs (xs[i]) (s.seq hl) (by simp)))
  (λi H' x H'' s hi y=>by
   obtain⟨rfl,z⟩:=y;have hz:=z xs (s.seq hl);refine⟨rfl,?_⟩;rw[List.getD_eq_getElem?_getD,hz]
   rfl)
  (λi H' h s Qt q=>ht _ H' (by rw[List.getD_eq_getElem?_getD,List.getElem?_eq_getElem h];exact List.getElem_mem h) s Qt q)
  (λi H' h hp s Qe q=>he _ H' (by rw[List.getD_eq_getElem?_getD,List.getElem?_eq_getElem h];exact List.getElem_mem h) hp s Qe q)
  (λH' s h=>hd D H' hD s (by
   rw[h];congr 2;have e:(List.range xs.length).map (λi=>xs.getD i .non)=xs:=by
    refine List.ext_getElem (by simp) λi h1 h2=>?_;simp at h1 h2 ⊢;rw[List.getElem?_eq_getElem h2];rfl
   conv=>rhs;rw[<-e]
   rw[List.filter_map,List.map_map]
   rfl))
theorem j5 {K:W.Frag}{te:TE}{σ:St}{H:Hp}{Q:VK}{a:Addr}{xs:List V}(hl:SqL K H a xs)(hn:xs.length<=sizeLine)(f:V->V)
  (he:∀x H',x∈xs->Same H H'->∀Qe:VK,(∀H'',Same H' H''->Qe (f x) H'')->te (some x::σ) H' Qe)
  (hd:∀D H',H D=none->Same H H'->H' D=some (.lst (xs.map f))->Q (.ref D) H'):compW (Itl K a) tYes te σ H Q:=
 kJ hl hn (λ_=>true) f (λx H' _ s Qt q=>q H' (Same.refl _)) (λx H' h _ s Qe q=>he x H' h s Qe q) (λD H' h s e=>hd D H' h s (by rw[cQ] at e;exact e))
theorem EW {l:List Addr}(h:l.Nodup){i j:Nat}{a b:Addr}(ha:l[i]?=some a)(hb:l[j]?=some b)(hij:i≠j):a≠b:=by
 intro e;subst e;obtain⟨hi,ea⟩:=List.getElem?_eq_some_iff.mp ha;obtain⟨hj,eb⟩:=List.getElem?_eq_some_iff.mp hb;have hp:=List.pairwise_iff_getElem.mp h;rcases Nat.lt_or_gt_of_ne hij with q | q
 ·exact hp i j hi hj q (ea.trans eb.symm)
 ·exact hp j i hj hi q (eb.trans ea.symm)
section
variable {X:Cx} {pins:List (Addr×Obj)} {σ:St} {H:Hp} {s:Shared} {h':Heap}
theorem Inv.turnedL {t':Nat}{l:List Addr}(I:Inv X pins σ H s)(k:∀b o,b∉l->s.heap.get? b=some o->h'.get? b=some o)(hf:∀b∈l,FpOk X pins H b):Inv X pins σ H { s with heap:=h',toks:=t' }:=by
 have nit:∀b u,H b=some u->b∉l:=λb u e z=>by rw[(hf b z).1] at e;cases e
 refine I.step (g':=s.gens) (d':=s.drawn) (ch:=l) (λb hb=>?_) (λb o _ _ hc e _=>k b o hc e) (λb o _ _ hc e _=>⟨o.slots,k b o hc e⟩) (λ_ _ _ _ n=>n)
  (λb o hc e=>⟨o,k b o hc e⟩) (λ_ _ e=>e) (λ_ _ _ e=>e) (λb ps e=>⟨#[],by rw[e];simp⟩) (λm hm=>?_) (λb u e=>?_) I.bare
 ·(refine pw05 (hf b hb) λf0 f1 f2 f3 f4 f5=>?_)
  exact⟨f3,f1,f4,f5⟩
 ·(revert hm;refine ow31 λo es ep ho r=>?_)
  exact(iw31 o es ep (k _ o (λz=>(hf _ z).2.1 rfl) ho) r)
 ·refine(I.hok b u e).stay (λc v hc q=>k c v ?_ q) (λ_ q=>q) λ_ _ q=>q
  rcases hc with z | z
  ·rw[z];exact nit b u e
  ·exact nit c _ z
theorem Inv.track {t':Nat}{T:Addr}{o:HO}(I:Inv X pins σ H s)(f:FpOk X pins H T)(new:ObjOk X.prog X.w (upd H T o) s.heap T o)(ht:∀xs,o=.tup xs->True):Inv X pins σ (upd H T o) { s with toks:=t' }:=by
 (revert f;refine ow05 λf0 f1 f2 f3 f4 f5=>?_);refine I.step (h':=s.heap) (g':=s.gens) (d':=s.drawn) (ch:=[T]) (λb hb=>?_) (λb ob _ _ hc e _=>e) (λb ob _ _ hc e _=>⟨ob.slots,e⟩) (λb ob hc e n=>?_)
  (λb ob hc e=>⟨ob,e⟩) (λb xs e=>?_) (λb ob u e=>?_) (λb ps e=>⟨#[],?_⟩) (λm hm=>hm) (λb u e=>?_) I.bare
 ·have e:b=T:=by simpa using hb
  subst e;exact⟨f3,f1,f4,f5⟩
 ·rw[aj (λz=>hc (by simp[z]))];exact n
 ·rw[aj (ay e f0)];exact e
 ·rw[aj (ay e f0)];exact e
 ·rw[aj (ay e f0),e];simp
 ·by_cases hb:b=T
  ·subst hb
   rw[ae] at e;cases e;exact new
  ·rw[aj hb] at e
   refine(I.hok b u e).stay (λc v _ q=>q) (λc q=>?_) λc xs q=>?_
   ·rw[aj (ay q f0)];exact q
   ·rw[aj (ay q f0)];exact q
end
noncomputable def Itz (K:W.Frag)(a b:Addr):It:=
 ⟨λi H=>∃xs ys x y,SqL K H a xs/\SqL K H b ys/\xs[i]?=some x/\ys[i]?=some y,
  λi H v H'=>∃T x y,v=.ref T/\H T=none/\H'=upd H T (.tup [x,y])/\(∀xs,SqL K H a xs->xs[i]?=some x)/\∀ys,SqL K H b ys->ys[i]?=some y,
  λi H=>∃xs ys,SqL K H a xs/\SqL K H b ys/\(xs.length<=i\/ys.length<=i)⟩
theorem EX {P:Program}{w:World}{K:W.Frag}{elts:List Expr}{k0:Nat}{pos:Pos}(a b z TI TO i1 i2:Addr)(h12:i1≠i2)(hTT:TI≠TO) :
  Turn P w K (.Tuple elts k0 pos) (Itz K a b) [z,TI,TO,i1,i2] z (λi h=>IsZip h z TI TO .none/\IsPair h TI (.ref i1) (.ref i2)/\(∃x y,IsPair h TO x y)/\h.IsListIter i1 a i/\h.IsListIter i2 b i) where
 mem:=by simp
 obj:=λi h st c hc=>by
  (revert st;refine ow04 λhz hTI zz1 zz2 zz3=>?_;obtain ⟨x,y,hTO⟩:=zz1;obtain ⟨o1,e1,c1,d1⟩:=zz2;obtain ⟨o2,e2,c2,d2⟩:=zz3);simp only[List.mem_cons,List.not_mem_nil,or_false] at hc;rcases hc with rfl | rfl | rfl | rfl | rfl
  ·exact(iw11 _ hz (λv q=>by cases q))
  ·exact(iw11 _ hTI (λv q=>by cases q))
  ·exact(iw11 _ hTO (λv q=>by cases q))
  ·exact(iw11 _ e1 (λv q=>by rw[d1] at q;cases q))
  ·exact(iw11 _ e2 (λv q=>by rw[d2] at q;cases q))
 keep:=λi h h' st k=>by
  (revert st;refine ow04 λhz hTI zz1 h1 h2=>?_;obtain ⟨x,y,hTO⟩:=zz1);exact⟨k _ (by simp) _ hz,k _ (by simp) _ hTI,(iw20 x y (k _ (by simp) _ hTO)),h1.at λo e=>k _ (by simp) o e,h2.at λo e=>k _ (by simp) o e⟩
 item:=by
  intro X hP hw hK hc i pins s σ H E I hf st hg;subst hP hw hK;(revert st;refine ow04 λhz hTI zz1 h1 h2=>?_;obtain ⟨x0,y0,hTO⟩:=zz1);(revert hg;refine ow43 λxs ys x y hx hy ex ey=>?_);(refine pw12 (I.list hx) λits rv p _=>?_);(refine pw12 (I.list hy) λits' rv' p' _=>?_);(refine pw11 (rv.get ex) λu hu ru=>?_);(refine pw11 (rv'.get ey) λu' hu' ru'=>?_);have D:ZipApart z TI TO i1 i2 a b:=by
   (refine pw12 (id h1) λo1 e1 c1 d1=>?_);(refine pw12 (id h2) λo2 e2 c2 d2=>?_);(refine pw12 (id p.isList) λoa ea ca _=>?_);(refine pw12 (id p'.isList) λob eb cb _=>?_);have ne:∀{c d:Addr} {o o':Obj},s.heap.get? c=some o->s.heap.get? d=some o'->o.cls≠o'.cls->c≠d:=λ{c d o o'} h h' n q=>by
    subst q;rw[h] at h';cases h';exact n rfl
   exact⟨ne hTI hz (by simp),ne hTO hz (by simp),ne e1 hz (by rw[c1];simp),ne e2 hz (by rw[c2];simp),hTT,ne hTI e1 (by rw[c1];simp),ne hTI e2 (by rw[c2];simp),ne hTO e1 (by rw[c1];simp),ne hTO e2 (by rw[c2];simp),h12,
    ne ea hz (by rw[ca];simp),ne ea hTO (by rw[ca];simp),ne ea e1 (by rw[ca,c1];simp),ne ea e2 (by rw[ca,c2];simp),ne eb hz (by rw[cb];simp),ne eb hTO (by rw[cb];simp),ne eb e1 (by rw[cb,c1];simp),ne eb e2 (by rw[cb,c2];simp)⟩
  refine wpAny_pyNext_zip_item D hz hTI hTO h1 h2 p.isList p'.isList (x:=u) (y:=u') (by simpa using hu) (by simpa using hu') λh' a1 a2 a3 a4 a5 a6 hk=>?_;refine(iw11 _ rfl (wpAny_letOwnedTupleGo_zip a1 λh'' hz'' sb=>?_));have fT:FpOk X pins H s.heap.objs.size:=I.fpOk (Nat.le_refl _) I.fresh;have I1:Inv X pins σ H { s with heap:=h'' }:=I.turnedL (t':=s.toks) (l:=[z,TI,TO,i1,i2]) (λc o hc e=>sb.extBut _ _ (λq=>hc (by simp[q])) (hk c o (λq=>hc (by simp[q])) (λq=>hc (by simp[q])) (λq=>hc (by simp[q])) (λq=>hc (by simp[q])) e)) hf;have hTz:s.heap.objs.size≠z:=Nat.ne_of_gt (Heap.lt_size hz);have hT'':h''.get? s.heap.objs.size=some { cls:=.type "tuple",data:=.seq #[u,u'] }:=sb.extBut _ _ hTz a5;have I2:Inv X pins σ (upd H s.heap.objs.size (.tup [x,y])) { s with heap:=h'' }:=I1.track (t':=s.toks) fT ⟨(by show 2<=sizeLine;decide),(iw11 ([u,u']) (.cons ru (.cons ru' .nil)) (iw12 _ hT'' rfl (iw10 _ rfl)))⟩ (λ_ _=>trivial);refine(iw24 (.ref s.heap.objs.size) _ I2 rfl (iw34 _ x y rfl I.fresh rfl (λzs hq=>by rw[I.gv hq hx];exact ex) (λzs hq=>by rw[I.gv hq hy];exact ey)) ?_ (λc hc=>?_))
  ·exact⟨hz'',sb.extBut _ _ D.TIz (hk _ _ D.TIz D.TITO D.TIi1 D.TIi2 hTI),(iw20 u u' (sb.extBut _ _ D.TOz a2)),a3.extBut sb.extBut D.i1z,a4.extBut sb.extBut D.i2z⟩
  ·have hcl:c < s.heap.objs.size:=by
    (revert h1;refine ow11 λo1 e1 _=>?_);(revert h2;refine ow11 λo2 e2 _=>?_);simp only[List.mem_cons,List.not_mem_nil,or_false] at hc;rcases hc with rfl | rfl | rfl | rfl | rfl
    ·exact Heap.lt_size hz
    ·exact Heap.lt_size hTI
    ·exact Heap.lt_size hTO
    ·exact Heap.lt_size e1
    ·exact Heap.lt_size e2
   rw[aj (Nat.ne_of_lt hcl)];exact(hf c hc).1
 done:=by
  intro X hP hw hK hc i pins s σ H E I hf st hg;subst hP hw hK;(revert st;refine ow04 λhz hTI zz1 h1 h2=>?_;obtain ⟨x0,y0,hTO⟩:=zz1);(revert hg;refine ow22 λxs ys hx hy hend=>?_);(refine pw12 (I.list hx) λits rv p _=>?_);(refine pw12 (I.list hy) λits' rv' p' _=>?_);have D:ZipApart z TI TO i1 i2 a b:=by
   (refine pw12 (id h1) λo1 e1 c1 d1=>?_);(refine pw12 (id h2) λo2 e2 c2 d2=>?_);(refine pw12 (id p.isList) λoa ea ca _=>?_);(refine pw12 (id p'.isList) λob eb cb _=>?_);have ne:∀{c d:Addr} {o o':Obj},s.heap.get? c=some o->s.heap.get? d=some o'->o.cls≠o'.cls->c≠d:=λ{c d o o'} h h' n q=>by
    subst q;rw[h] at h';cases h';exact n rfl
   exact⟨ne hTI hz (by simp),ne hTO hz (by simp),ne e1 hz (by rw[c1];simp),ne e2 hz (by rw[c2];simp),hTT,ne hTI e1 (by rw[c1];simp),ne hTI e2 (by rw[c2];simp),ne hTO e1 (by rw[c1];simp),ne hTO e2 (by rw[c2];simp),h12,
    ne ea hz (by rw[ca];simp),ne ea hTO (by rw[ca];simp),ne ea e1 (by rw[ca,c1];simp),ne ea e2 (by rw[ca,c2];simp),ne eb hz (by rw[cb];simp),ne eb hTO (by rw[cb];simp),ne eb e1 (by rw[cb,c1];simp),ne eb e2 (by rw[cb,c2];simp)⟩
  have l1:=rv.length;have l2:=rv'.length;refine wpAny_pyNext_zip_end (I.ok.hd hc) D hz hTI hTO h1 h2 p.isList p'.isList ?_ λh' hk=>⟨rfl,?_⟩
  ·rcases hend with q | q
   ·exact .inl (by simp;omega)
   ·exact .inr (by simp;omega)
  ·exact I.turnedL (t':=s.toks) (l:=[z,TI,TO,i1,i2]) (λc o hc e=>hk c o (λq=>hc (by simp[q])) (λq=>hc (by simp[q])) (λq=>hc (by simp[q])) (λq=>hc (by simp[q])) e) hf
 self:=λ_ _ _ _ _ st h=>wpAny_pyIter_zip st.1 h
section
variable {X:Cx}
noncomputable def iZip (K:W.Frag)(ta:TA):TI:=λσ H R=>ta σ H λvs H1=>∃a b xs ys,vs=[.ref a,.ref b]/\SqL K H1 a xs/\SqL K H1 b ys/\R (Itz K a b) H1
end
noncomputable def Ite (K:W.Frag)(a:Addr):It:=
 ⟨λi H=>∃xs x,SqL K H a xs/\xs[i]?=some x,
  λi H v H'=>∃T x,v=.ref T/\H T=none/\H'=upd H T (.tup [.int (i:Nat),x])/\∀xs,SqL K H a xs->xs[i]?=some x,
  λi H=>∃xs,SqL K H a xs/\xs.length<=i⟩
theorem yi {P:Program}{w:World}{K:W.Frag}{elts:List Expr}{k0:Nat}{pos:Pos}(a e it:Addr)(hei:e≠it) :
  Turn P w K (.Tuple elts k0 pos) (Ite K a) [e,it] e (λi h=>(∃old,IsEnum h e it ((i:Nat):Int) old)/\h.IsListIter it a i) where
 mem:=by simp
 obj:=λi h st c hc=>by
  obtain⟨⟨old,he⟩,⟨o1,e1,c1,d1⟩⟩:=st;simp only[List.mem_cons,List.not_mem_nil,or_false] at hc;rcases hc with rfl | rfl
  ·exact(iw11 _ he (λv q=>by cases q))
  ·exact(iw11 _ e1 (λv q=>by rw[d1] at q;cases q))
 keep:=λi h h' st k=>by
  obtain⟨⟨old,he⟩,h1⟩:=st;exact⟨⟨old,k _ (by simp) _ he⟩,h1.at λo e=>k _ (by simp) o e⟩
 item:=by
  intro X hP hw hK hc i pins s σ H E I hf st hg;subst hP hw hK;obtain⟨⟨old,he⟩,h1⟩:=st;(revert hg;refine ow21 λxs x hx ex=>?_);(refine pw12 (I.list hx) λits rv p _=>?_);(refine pw11 (rv.get ex) λu hu ru=>?_);refine wpAny_pyNext_enum_item he h1 p.isList (x:=u) (by simpa using hu) hei λh' a1 a2 a3 a4 hk=>?_;refine(iw11 _ rfl (wpAny_letOwnedTupleGo_enum a1 λh'' he'' sb=>?_));have fT:FpOk X pins H s.heap.objs.size:=I.fpOk (Nat.le_refl _) I.fresh;have I1:Inv X pins σ H { s with heap:=h'',toks:=s.toks+1 }:=I.turnedL (t':=s.toks+1) (l:=[e,it]) (λc o hc q=>sb.extBut _ _ (λz=>hc (by simp[z])) (hk c o (λz=>hc (by simp[z])) (λz=>hc (by simp[z])) q)) hf;have hTe:s.heap.objs.size≠e:=Nat.ne_of_gt (Heap.lt_size he);have hT'':h''.get? s.heap.objs.size=some { cls:=.type "tuple",data:=.seq #[.int i s.toks,u] }:=sb.extBut _ _ hTe a3;have I2:Inv X pins σ (upd H s.heap.objs.size (.tup [.int (i:Nat),x])) { s with heap:=h'',toks:=s.toks+1 }:=I1.track (t':=s.toks+1) fT ⟨(by show 2<=sizeLine;decide),(iw11 ([.int i s.toks,u]) (.cons ⟨_,rfl⟩ (.cons ru .nil)) (iw12 _ hT'' rfl (iw10 _ rfl)))⟩ (λ_ _=>trivial);refine(iw24 (.ref s.heap.objs.size) _ I2 rfl (iw23 _ x rfl I.fresh rfl (λzs hq=>by rw[I.gv hq hx];exact ex)) ?_ (λc hc=>?_))
  ·exact⟨⟨u,by rw[show(((i+1:Nat)):Int)=(i:Int)+1 by omega];exact he''⟩,a2.extBut sb.extBut (Ne.symm hei)⟩
  ·have hcl:c < s.heap.objs.size:=by
    (revert h1;refine ow11 λo1 e1 _=>?_);simp only[List.mem_cons,List.not_mem_nil,or_false] at hc;rcases hc with rfl | rfl
    ·exact Heap.lt_size he
    ·exact Heap.lt_size e1
   rw[aj (Nat.ne_of_lt hcl)];exact(hf c hc).1
 done:=by
  intro X hP hw hK hc i pins s σ H E I hf st hg;subst hP hw hK;obtain⟨⟨old,he⟩,h1⟩:=st;(revert hg;refine ow11 λxs hx hend=>?_);(refine pw12 (I.list hx) λits rv p _=>?_);have l1:=rv.length;refine wpAny_pyNext_enum_end (I.ok.hd hc) he h1 p.isList (by simp;omega) λh' hk=>⟨rfl,?_⟩
  exact I.turnedL (t':=s.toks) (l:=[e,it]) (λc o hc q=>hk c o (λz=>hc (by simp[z])) q) hf
 self:=λ_ _ _ _ _ st h=>by
  obtain⟨⟨old,he⟩,_⟩:=st;exact wpAny_pyIter_enum he h
section
variable {X:Cx}
noncomputable def iEnum (K:W.Frag)(ta:TA):TI:=λσ H R=>ta σ H λvs H1=>∃a xs,vs=[.ref a]/\SqL K H1 a xs/\R (Ite K a) H1
theorem Ax {elts:List Expr}{k0:Nat}{tpos:Pos}{a:Expr}{ta:TA}{p pos:Pos}(hg:Gl X "enumerate")(hm:X.mg "enumerate"=none)(ha:PA X [a] ta)(hs:autoParam (starEach [a] X.env=[(false,eval a X.env)]) L2.dft3._auto_1) :
  PI X (.Tuple elts k0 tpos) (.Call (.Name "enumerate" p) [a] [] pos) (iEnum X.K ta):=by
 intro pins s σ H R I h;refine Call_ (dP I hg hm boot_enumerate (PyProof.Rows.callWith_type1 (thnA (ha pos pins s σ H _ I h) λus s1 vs H1 I1 r1 q1=>?_) hs rfl));(revert q1;refine ow22 λl1 xs zz1 hx q=>?_;subst zz1);(refine pw11 (vals1 r1) λu zz1 ru=>?_;subst zz1);cases ru;(refine pw12 (I1.list hx) λits rx px _=>?_);refine call_enumerate_list px.isList λh' z1 z2 z3 hk=>?_;have I2:Inv X pins σ H1 { s1 with heap:=h' }:=I1.kept (t':=s1.toks) hk;refine wpAny_pyIter_enum z1 (iw55 _ _ _ _ H1 rfl I2 (yi l1 _ _ (Nat.ne_of_gt (Nat.lt_succ_self _))) ⟨⟨_,z1⟩,z2⟩ (λc hc=>?_) q);have hcl:s1.heap.objs.size<=c:=by
  simp only[List.mem_cons,List.not_mem_nil,or_false] at hc;rcases hc with rfl | rfl<;>omega
 exact I1.fpOk hcl (I1.hok.fresh hcl)
theorem rV {K:W.Frag}{elts:List Expr}{k0:Nat}{tpos:Pos}{a:Expr}{ta:TA}{p pos:Pos}(hg:Gl X "enumerate")(hm:X.mg "enumerate"=none)(ha:PA X [a] ta)(hs:autoParam (starEach [a] X.env=[(false,eval a X.env)]) L2.dft3._auto_1)
  (hK:autoParam (X.K=K) L2.dft3._auto_1):PI X (.Tuple elts k0 tpos) (.Call (.Name "enumerate" p) [a] [] pos) (iEnum K ta):=hK▸Ax hg hm ha hs
end
theorem yj {K:W.Frag}{a:Addr}{xs:List V}{g:TG}{tb:TS}{D:Ends}{σ:St}{H:Hp}(Pv:Nat->St->Hp->Prop)(h0:Pv 0 σ H)(hl:∀i σ H,i<=xs.length->Pv i σ H->SqL K H a xs)
  (hs:∀i x T σ H,xs[i]?=some x->H T=none->Pv i σ H->g (.ref T) σ (upd H T (.tup [.int (i:Nat),x])) λσ2 H2=>tb { D with nx:=Pv (i+1),ct:=Pv (i+1),bk:=D.nx } σ2 H2)
  (hd:∀σ H,Pv xs.length σ H->D.nx σ H):forW (Ite K a) g tb D σ H:=by
 refine(iw11 (λi m σ H=>m=xs.length - i/\i<=xs.length/\Pv i σ H) (iw12 _ rfl (Nat.zero_le _) h0) ?_)
 rintro i m σ H ⟨rfl,hi,p⟩
 have lx:=hl i σ H hi p
 by_cases hlt:i < xs.length
 ·refine .inr ⟨(iw21 xs (xs[i]) lx (by simp)),(iw11 (Pv (i+1)) (λσ' H' p'=>(iw13 (xs.length - (i+1)) (by omega) rfl hlt p')) (λv H' y=>?_))⟩
  (revert y;refine ow23 λT x zz1 hT zz2 h1=>?_;subst zz1;subst zz2);exact hs i x T σ _ (h1 xs lx) hT p
 ·have e:i=xs.length:=by omega
  subst e;exact .inl ⟨(iw11 xs lx (by omega)),hd σ H p⟩
noncomputable def mixN (c k:Int):Int:=((c % 2147483647 * 48271+7919 * k+1) % 2147483647) * ((c % 2147483647 * 48271+7919 * k+1) % 2147483647) % 2147483647
theorem xk (c k:Int):0<=mixN c k/\mixN c k < 2147483647:=by unfold mixN;omega
noncomputable def Ay:Sp:=λvs H Q _=>∃c k,vs=[.int c,.int k]/\Q (.int (mixN c k)) H
noncomputable def vq (K:W.Frag):Sp:=λvs H Q _=>∃(p:Addr) (ns:List Int) (k:Int),vs=[.ref p,.int k]/\SqL K H p (ns.map V.int)/\0<=k/\Q (.int (ns.getD k.toNat 0)) H
noncomputable def T62:List Nat:=[48,49,50,51,52,53,54,55,56,57,97,98,99,100,101,102,103,104,105,106,107,108,109,110,111,112,113,114,115,116,117,118,119,120,121,122,65,66,67,68,69,70,71,72,73,74,75,76,77,78,79,80,81,82,83,84,85,86,87,88,89,90]
noncomputable def T34:List Nat:=[32,33,34,35,36,38,39,40,41,42,43,44,45,46,47,58,59,60,61,62,63,64,91,92,93,94,95,96,123,124,125,126,10,9]
noncomputable def T96:List Nat:=T62++T34
noncomputable def sgn (n m:Int):Nat:=T96.getD (n % m).toNat 0
noncomputable def Ca:Sp:=λvs H Q _=>∃n m:Int,vs=[.int n,.int m]/\0 < m/\m<=96/\Q (.str (S [sgn n m])) H
theorem Az (n m:Int)(h0:0 < m)(h1:m<=96):T96[(n % m).toNat]?=some (sgn n m):=by
 have hl:(n % m).toNat < T96.length:=by
  have h2:=Int.emod_lt_of_pos n h0;have h3:=Int.emod_nonneg n (show m≠0 by omega);have h4:T96.length=96:=by decide
  omega
 show T96[(n % m).toNat]?=some (T96.getD (n % m).toNat 0);rw[List.getD_eq_getElem?_getD,List.getElem?_eq_getElem hl];rfl
noncomputable def okSign (c:Nat):Bool:=decide (32<=c) && decide (c<=126) && decide (c≠37)
theorem AA (n:Int):okSign (sgn n 94)=true:=by
 have h:=Az n 94 (by decide) (by decide);have hlt:(n % 94).toNat < 94:=by omega
 have key:∀i:Nat,i < 94->∀c,T96[i]?=some c->okSign c=true:=by decide +kernel
 exact key _ hlt _ h
noncomputable def vt (K:W.Frag):Sp:=λvs H Q _=>∃(p:Addr) (ns:List Int),vs=[.ref p]/\SqL K H p (ns.map V.int)/\ns.length<=63/\∀H',Q (.bl true) H'
theorem oy (z:List Nat):joinL [] (z.map λk=>[k])=z:=by
 rw[yd]
 induction z with
 | nil=>rfl
 | cons x r ih=>simp_all
theorem qF (z:List Nat):(List.map List.length (z.map λk=>[k])).sum=z.length:=by
 induction z with
 | nil=>rfl
 | cons x r ih=>simp_all;omega
theorem ltOne (a b:Nat):([a] < [b])↔a < b:=by
 rw[List.cons_lt_cons_iff];simp
theorem lV {te:TE}{σ:St}{H:Hp}{Q:VK}{l:List Nat}(hn:l.length<=sizeLine)(f:Nat->V)
  (he:∀c H',c∈l->Same H H'->∀Qe:VK,(∀H'',Same H' H''->Qe (f c) H'')->te (some (.str (S [c]))::σ) H' Qe)
  (hd:∀D H',H D=none->Same H H'->H' D=some (.lst (l.map f))->Q (.ref D) H'):compW (Its (S l)) tYes te σ H Q:=λD hD=>
 jf (J:=Its (S l)) l.length hn hD (λi=>.str (S [l.getD i 0])) (λi=>f (l.getD i 0)) (λ_=>true) (λ_ _=>by show(S l).cps.size<=l.length;simp) (λi _ _ h=>by show i < (S l).cps.size;simpa using h)
  (λi H' x H'' _ hi y=>by
   (revert y;refine ow01 λzz1=>ow11 λc hc zz2=>?_;subst zz1;subst zz2);have hc':l[i]?=some c:=by simpa using hc
   refine⟨rfl,?_⟩;rw[List.getD_eq_getElem?_getD,hc']
   rfl)
  (λi H' _ _ Qt q=>q H' (Same.refl _))
  (λi H' h _ s Qe q=>he _ H' (by rw[List.getD_eq_getElem?_getD,List.getElem?_eq_getElem h];exact List.getElem_mem h) s Qe q)
  (λH' s h=>hd D H' hD s (by
   rw[cQ] at h;rw[h];congr 2;refine List.ext_getElem (by simp) λi h1 h2=>?_;simp at h1 h2 ⊢;rw[List.getElem?_eq_getElem h2]
   rfl))
theorem vv {n:Nat}{i:Int}(h0:0<=i)(h1:i.toNat < n):ixN n i=some i.toNat:=by
 unfold ixN;rw[if_pos h0,if_pos (by omega)]
noncomputable def okS (l:List Nat):Prop:=∀c∈l,c < 1114112
theorem dZ {i:Int}(h0:-(2 ^ 64) < i)(h1:i < 2 ^ 64):i.natAbs.log2 < 1920:=by
 by_cases hz:i.natAbs=0
 ·rw[hz];decide
 ·exact Nat.lt_of_lt_of_le ((Nat.log2_lt hz).mpr (show i.natAbs < 2 ^ 64 by omega)) (by decide)
noncomputable def wd (n:Nat)(d:PyData):Prop:=d.canLay0=true/\d.depth<=n
theorem Ea (n:Nat):wd n .none:=⟨rfl,Nat.zero_le _⟩
theorem EY (n:Nat)(b:Bool):wd n (.bool b):=⟨rfl,Nat.zero_le _⟩
theorem Eb (n:Nat)(i:Int):wd n (.int i):=⟨rfl,Nat.zero_le _⟩
theorem Ec (n:Nat){l:List Nat}(h:okS l):wd n (.str (S l)):=by
 refine⟨?_,Nat.zero_le _⟩;show(S l).cps.all (· < 0x110000)=true;simp;exact h
theorem vw {n:Nat}:∀{ds:List PyData},(∀d∈ds,wd n d)->PyData.canLayAll0 ds=true/\PyData.depthAll ds<=n
 | [],_=>⟨rfl,Nat.zero_le _⟩
 | d::r,h=>by
  obtain⟨h1,h2⟩:=h d List.mem_cons_self;obtain⟨h3,h4⟩:=vw (n:=n) (ds:=r) λx hx=>h x (List.mem_cons_of_mem _ hx);refine⟨?_,?_⟩
  ·rw[PyData.canLayAll0,h1,h3];rfl
  ·rw[PyData.depthAll];exact Nat.max_le.mpr ⟨h2,h4⟩
theorem Cb {n:Nat}{ds:List PyData}(h:∀d∈ds,wd n d):wd (n+1) (.list ds):=by
 obtain⟨h1,h2⟩:=vw h;exact⟨by rw[PyData.canLay0];exact h1,by rw[PyData.depth];omega⟩
theorem oz {n:Nat}{ds:List PyData}(h:∀d∈ds,wd n d):wd (n+1) (.tuple ds):=by
 obtain⟨h1,h2⟩:=vw h;exact⟨by rw[PyData.canLay0];exact h1,by rw[PyData.depth];omega⟩
theorem wd.shaped {n:Nat}{d:PyData}(h:wd n d)(hn:autoParam (n<=64) L2.dft1._auto_1):SeqAt.shaped d=true:=by
 unfold SeqAt.shaped;rw[h.1,decide_eq_true (Nat.le_trans h.2 hn)];rfl
theorem yk {K:W.Frag}{H:Hp}{Q:VK}{x y:V}{n:Nat}{d:PyData}(h1:Den K H x d)(h2:Den K H y d)(hw:wd n d)(hr:(isRef x || isRef y)=true)(q:Q (.bl false) H)(hn:autoParam (n<=64) L2.dft1._auto_1):rNeq K x y H Q:=
 D5 hr h1 h2 (hw.shaped hn) (hw.shaped hn) (by rw[SeqAt.eqv_refl d hw.1];exact q)
theorem qG {K:W.Frag}{H:Hp}{Q:VK}{x y:V}{n:Nat}{d:PyData}(h1:Den K H x d)(h2:Den K H y d)(hw:wd n d)(hr:(isRef x || isRef y)=true)(q:Q (.bl true) H)(hn:autoParam (n<=64) L2.dft1._auto_1):rEqq K x y H Q:=
 D4 hr h1 h2 (hw.shaped hn) (hw.shaped hn) (by rw[SeqAt.eqv_refl d hw.1];exact q)
noncomputable def Scr (K:W.Frag)(H:Hp)(A:List Addr)(p:Addr)(xs:List V):Prop:=(SqL K H p xs/\p∉A)\/∀H',SqL K H' p xs
theorem Scr.sq {K:W.Frag}{H:Hp}{A:List Addr}{p:Addr}{xs:List V}(h:Scr K H A p xs):SqL K H p xs:=h.elim (·.1) (· H)
theorem Scr.chg {K:W.Frag}{H H':Hp}{A:List Addr}{p:Addr}{xs:List V}(h:Scr K H A p xs)(c:Chg A H H'):Scr K H' A p xs:=by
 rcases h with⟨h,hp⟩ | h
 ·refine .inl ⟨?_,hp⟩
  rcases h with(h | ⟨o,h⟩) | h
  ·exact .inl (.inl (c.keep _ _ h hp))
  ·exact .inl (.inr ⟨o,c.keep _ _ h hp⟩)
  ·exact .inr h
 ·exact .inr h
theorem Scr.of {K:W.Frag}{H:Hp}{A:List Addr}{p:Addr}{xs:List V}(h:SqL K H p xs)(f:∀b∈A,H b=none):Scr K H A p xs:=by
 rcases h with(h' | ⟨o,h'⟩) | h'
 ·exact .inl ⟨.inl (.inl h'),λz=>by rw[f p z] at h';cases h'⟩
 ·exact .inl ⟨.inl (.inr ⟨o,h'⟩),λz=>by rw[f p z] at h';cases h'⟩
 ·exact .inr λ_=>.inr h'
noncomputable def scalD:V->PyData
 | .bl b=>.bool b
 | .int i=>.int i
 | .str x=>.str x
 | _=>.none
theorem AB {K:W.Frag}{H:Hp}{v:V}(f:flatV v=true):Den K H v (scalD v):=by
 cases v with
 | non=>exact .non
 | bl b=>exact .bl b
 | int i=>exact .int i
 | str x=>exact .str x
 | _=>exact absurd (show false=true from f) Bool.false_ne_true
theorem cR {K:W.Frag}{H:Hp}:∀{vs:List V},vs.all flatV=true->DenAll K H vs (vs.map scalD)
 | [],_=>.nil
 | v::r,h=>by
  rw[List.all_cons,Bool.and_eq_true] at h;exact .cons (AB h.1) (cR h.2)
noncomputable def okV:V->Prop
 | .str x=>okS x.cps.toList
 | _=>True
theorem rW (n:Nat){v:V}(h:okV v):wd n (scalD v):=by
 cases v with
 | str x=>have:=Ec n (l:=x.cps.toList) h;rwa [<-BM] at this
 | bl b=>exact EY n b
 | int i=>exact Eb n i
 | _=>exact Ea n
noncomputable def TupsAt (H:Hp):List Addr->List (List V)->Prop:=Paired λt xs=>H t=some (.tup xs)
noncomputable def LTups (H:Hp)(D:Addr)(rows:List (List V)):Prop:=∃ts,H D=some (.lst (ts.map V.ref))/\TupsAt H ts rows
theorem TupsAt.chg {A:List Addr}{H H':Hp}{ts:List Addr}{rows:List (List V)}(h:TupsAt H ts rows)(c:Chg A H H'):TupsAt H' ts rows:=Paired.mapP h λ_ _ e=>c.tup _ _ e
theorem LTups.chg {A:List Addr}{H H':Hp}{D:Addr}{rows:List (List V)}(h:LTups H D rows)(c:Chg A H H')(hD:D∉A):LTups H' D rows:=by
 (revert h;refine ow11 λts e t=>?_);exact(iw11 ts (c.keep _ _ e hD) (t.chg c))
theorem LTups.same {H H':Hp}{D:Addr}{rows:List (List V)}(h:LTups H D rows)(s:Same H H'):LTups H' D rows:=h.chg (A:=[]) (Chg.of_same s) (by simp)
theorem TupsAt.den {K:W.Frag}{H:Hp}{ts:List Addr}{rows:List (List V)}(h:TupsAt H ts rows):(∀r∈rows,r.all flatV=true)->DenAll K H (ts.map V.ref) (rows.map λr=>.tuple (r.map scalD)):=by
 intro f;unfold TupsAt at h
 induction h with
 | nil=>exact .nil
 | @cons t xs ts rows e r ih=>
  exact .cons (.tup (.inl (.inl e)) (cR (f xs List.mem_cons_self))) (ih λz hz=>f z (List.mem_cons_of_mem _ hz))
theorem LTups.den {K:W.Frag}{H:Hp}{D:Addr}{rows:List (List V)}(h:LTups H D rows)(f:∀r∈rows,r.all flatV=true):Den K H (.ref D) (.list (rows.map λr=>.tuple (r.map scalD))):=by
 (revert h;refine ow11 λts e t=>?_);exact .lst (.inl (.inl e)) (t.den f)
theorem Cc {rows:List (List V)}(h:∀r∈rows,∀v∈r,okV v):wd 2 (.list (rows.map λr=>.tuple (r.map scalD))):=Cb λd hd=>by
 (refine pw11 (List.mem_map.mp hd) λr hr zz1=>?_;subst zz1);exact oz λe he=>by
  (refine pw11 (List.mem_map.mp he) λv hv zz1=>?_;subst zz1);exact rW 0 (h r hr v hv)
theorem TupsAt.get {H:Hp}{ts:List Addr}{rows:List (List V)}(h:TupsAt H ts rows):∀{i:Nat} {t:Addr},ts[i]?=some t->∃xs,rows[i]?=some xs/\H t=some (.tup xs):=by
 unfold TupsAt at h
 induction h with
 | nil=>intro i t e;simp at e
 | @cons a b as bs e r ih=>
  intro i t q;cases i with
  | zero=>simp at q;subst q;exact(iw11 b rfl e)
  | succ i=>simpa using ih (by simpa using q)
theorem TupsAt.length {H:Hp}{ts:List Addr}{rows:List (List V)}(h:TupsAt H ts rows):ts.length=rows.length:=Paired.length h
theorem TupsAt.snoc {H:Hp}{ts:List Addr}{rows:List (List V)}{t:Addr}{xs:List V}(h:TupsAt H ts rows)(e:H t=some (.tup xs)):TupsAt H (ts++[t]) (rows++[xs]):=by
 unfold TupsAt at h ⊢
 induction h with
 | nil=>exact .cons e .nil
 | cons e' r ih=>exact .cons e' ih
noncomputable abbrev Ltr:=List Nat×Option (List Nat)×Int
noncomputable def wV:Option (List Nat)->V
 | none=>.non
 | some l=>.str (S l)
noncomputable def letV (x:Ltr):List V:=[.str (S x.1),wV x.2.1,.int x.2.2]
structure RowM where
 first:Int
 last:Int
 drawn:Int
 L:Int->Option Ltr
noncomputable def row0:RowM:=⟨0,0,0,λ_=>none⟩
noncomputable def rowF (M:RowM)(d:Addr):List (Str×V):=[("first",.int M.first),("end",.int M.last),("drawn",.int M.drawn),("letters",.ref d)]
noncomputable def LetVal (H:Hp):Option Ltr->V->Prop
 | none,v=>v=.non
 | some x,v=>∃t,v=.ref t/\H t=some (.tup (letV x))
noncomputable def LetsAt (H:Hp)(kvs:List (Key×V))(L:Int->Option Ltr):Prop:=∀p:Int,LetVal H (L p) ((valV kvs (.inl p)).getD .non)/\((valV kvs (.inl p)).isSome=(L p).isSome)
theorem LetVal.chg {A:List Addr}{H H':Hp}{o:Option Ltr}{v:V}(c:Chg A H H')(h:LetVal H o v):LetVal H' o v:=by
 cases o with
 | none=>exact h
 | some x=>(revert h;refine ow11 λt e ht=>?_);exact(iw11 t e (c.tup _ _ ht))
theorem LetsAt.chg {A:List Addr}{H H':Hp}{kvs:List (Key×V)}{L:Int->Option Ltr}(c:Chg A H H')(h:LetsAt H kvs L):LetsAt H' kvs L:=λp=>⟨(h p).1.chg c,(h p).2⟩
theorem LetsAt.put {H:Hp}{kvs:List (Key×V)}{L:Int->Option Ltr}(h:LetsAt H kvs L){p:Int}{x:Ltr}{t:Addr}(ht:H t=Option.some (.tup (letV x))):LetsAt H (putK kvs (.inl p) (.ref t)) (λq=>if q=p then Option.some x else L q):=by
 intro q;rw[d8]
 by_cases e:q=p
 ·subst e
  rw[if_pos rfl];dsimp only;rw[if_pos rfl];exact⟨(iw11 t rfl ht),rfl⟩
 ·have e':¬(Sum.inl q:Key)=Sum.inl p:=λz=>e (Sum.inl.inj z)
  rw[if_neg e'];dsimp only;rw[if_neg e];exact h q
structure RowAt (C:Addr)(H:Hp)(r d:Addr)(M:RowM):Prop where
 obj:∃dx,H r=some (.ins C dx (rowF M d))
 dict:∃kvs,H d=some (.dK kvs)/\(kvs.length:Int)<=M.last/\LetsAt H kvs M.L
 f0:0<=M.first
 fl:M.first<=M.last
 dr:0<=M.drawn
 within:∀p,(M.L p).isSome=true->M.first<=p/\p < M.last
theorem RowAt.chg {A:List Addr}{C:Addr}{H H':Hp}{r d:Addr}{M:RowM}(h:RowAt C H r d M)(c:Chg A H H')(hr:r∉A)(hd:d∉A):RowAt C H' r d M:=by
 obtain⟨dx,e⟩:=h.obj;(refine pw12 h.dict λkvs e2 l t=>?_);exact⟨⟨dx,c.keep _ _ e hr⟩,(iw12 kvs (c.keep _ _ e2 hd) l (t.chg c)),h.f0,h.fl,h.dr,h.within⟩
theorem RowAt.ne {C:Addr}{H:Hp}{r d:Addr}{M:RowM}(h:RowAt C H r d M):r≠d:=by
 obtain⟨dx,e⟩:=h.obj;(refine pw11 h.dict λkvs e2 _=>?_);exact ie e e2 (by intro z;cases z)
noncomputable def RowM.add (M:RowM)(x:Ltr):RowM:={ M with last:=M.last+1,L:=λq=>if q=M.last then some x else M.L q }
noncomputable def RowM.standing (M:RowM)(lo:Int)(n:Nat):List Int:=((List.range n).map λ(i:Nat)=>lo+(i:Int)).filter λq=>(M.L q).isSome
theorem gh (M:RowM)(lo:Int)(i:Nat):M.standing lo (i+1)=M.standing lo i++(if (M.L (lo+(i:Int))).isSome=true then[lo+(i:Int)] else[]):=by
 unfold RowM.standing;rw[List.range_succ,List.map_append,List.filter_append];congr 1;simp only[List.map_cons,List.map_nil,List.filter_cons,List.filter_nil]
theorem rX (M:RowM)(lo:Int){i n:Nat}(h:i<=n):∃more,M.standing lo n=M.standing lo i++more:=by
 obtain⟨k,rfl⟩:∃k,n=i+k:=⟨n - i,by omega⟩
 clear h
 induction k with
 | zero=>exact⟨[],by simp⟩
 | succ k ih=>
  obtain⟨m,hm⟩:=ih;rw[<-Nat.add_assoc,gh,hm,List.append_assoc];exact⟨_,rfl⟩
theorem rY (M:RowM)(lo:Int)(n:Nat):(M.standing lo n).length<=n:=by
 unfold RowM.standing;exact Nat.le_trans (List.length_filter_le _ _) (by simp)
noncomputable def RowM.rowV (M:RowM)(p:Int):List V:=match M.L p with
 | some x=>[.int p,.str (S x.1),wV x.2.1]
 | none=>[]
noncomputable def RowM.seenP (M:RowM)(start limit most:Int):List Int:=(M.standing (max start M.first) (min limit M.last - max start M.first).toNat).take most.toNat
noncomputable def tU (C:Addr):Sp:=λvs H Q _=>∃(r d:Addr) (M:RowM) (st li mo:Int),vs=[.ref r,.int st,.int li,.int mo]/\RowAt C H r d M/\M.last<=100000/\0<=st/\st<=10 ^ 12/\0<=li/\0<=mo/\
 ∀D H',H D=none->Same H H'->LTups H' D ((M.seenP st li mo).map M.rowV)->Q (.ref D) H'
noncomputable def tV (C:Addr):Sp:=λvs H Q _=>∃x dx,vs=[.ref x]/\H x=some (.ins C dx [])/\∀d H',H d=none->d≠x->Chg [x] H H'->RowAt C H' x d row0->Q .non H'
noncomputable def vx (C:Addr):Sp:=λvs H Q _=>∃(r d:Addr) (M:RowM) (x:Ltr),vs=[.ref r,.str (S x.1),wV x.2.1,.int x.2.2]/\RowAt C H r d M/\M.last<=100000/\∀H',Chg [r,d] H H'->RowAt C H' r d (M.add x)->Q (.int M.last) H'
noncomputable def yl (C:Addr):Sp:=λvs H Q _=>∃(r d:Addr) (M:RowM) (p:Int),vs=[.ref r,.int p]/\RowAt C H r d M/\∀v,LetVal H (M.L p) v->Q v H
theorem vy (M:RowM)(d:Addr):(rowF M d).lookup (Str.ofString "first")=some (.int M.first):=rfl
theorem tW (M:RowM)(d:Addr):(rowF M d).lookup (Str.ofString "end")=some (.int M.last):=rfl
theorem kK (M:RowM)(d:Addr):(rowF M d).lookup (Str.ofString "letters")=some (.ref d):=rfl
theorem AD (M:RowM)(d:Addr):(rowF M d).lookup (Str.ofString "add")=none:=rfl
theorem Cd (M:RowM)(d:Addr):(rowF M d).lookup (Str.ofString "at")=none:=rfl
section
variable {X:Cx}
noncomputable def rngV (lo:Int)(n:Nat):List V:=(List.range n).map λ(i:Nat)=>V.int (lo+(i:Int))
noncomputable def tLR1 (ta:TA):TE:=λσ H Q=>ta σ H λvs H1=>∃j:Int,vs=[.int j]/\-(2 ^ 62)<=j/\j<=sizeLine/\∀l,H1 l=none->Q (.ref l) (upd H1 l (.lst (rngV 0 j.toNat)))
noncomputable def tLR2 (ta:TA):TE:=λσ H Q=>ta σ H λvs H1=>∃i j:Int,vs=[.int i,.int j]/\(-(2 ^ 62)<=i/\i < 2 ^ 62/\-(2 ^ 62)<=j/\j < 2 ^ 62)/\j - i<=sizeLine/\∀l,H1 l=none->Q (.ref l) (upd H1 l (.lst (rngV i (j - i).toNat)))
theorem vz {lo:Int}{n:Nat}{acc:Array Value}(h:ItemsOf (λi v=>∃t,v=.int (lo+i * 1) t) acc n):Vals (rngV lo n) acc.toList:=by
 obtain⟨hs,hv⟩:=h;have key:∀(k:Nat) (l:List Value),l.length=k->∀lo:Int,(∀(j:Nat) v,l[j]?=some v->∃t,v=Value.int (lo+(j:Int) * 1) t)->Vals (rngV lo k) l:=by
  intro k
  induction k with
  | zero=>intro l hl lo _;cases l with
   | nil=>exact .nil
   | cons=>cases hl
  | succ k ih=>
   intro l hl lo hv;cases l with
   | nil=>cases hl
   | cons u us=>
    have e:rngV lo (k+1)=V.int lo::rngV (lo+1) k:=by
     unfold rngV;rw[List.range_succ_eq_map,List.map_cons,List.map_map];congr 1
     ·simp
     ·refine List.map_congr_left λa _=>?_
      simp only[Function.comp];congr 1
      push_cast
      omega
    rw[e];obtain⟨t,ht⟩:=hv 0 u rfl;refine .cons ⟨t,by rw[ht];simp⟩ (ih us (by simpa using hl) (lo+1) λj v hj=>?_);obtain⟨t',ht'⟩:=hv (j+1) v (by simpa using hj);exact⟨t',by rw[ht'];congr 1;push_cast;omega⟩
 exact key n acc.toList (by simpa using hs) lo λj v hj=>by simpa using hv j v (by simpa using hj)
theorem tX {pins:List (Addr×Obj)}{σ:St}{H:Hp}{s:Shared}{Q:VK}{E:Value->Shared->Prop}{lo hi:Int}{t u v:Tok}{tk:Nat}(hc:X.calm=true)(I:Inv X pins σ H s)(h1:-(2 ^ 62)<=lo)(h2:lo < 2 ^ 62)(h3:-(2 ^ 62)<=hi)(h4:hi < 2 ^ 62)
  (hn:hi - lo<=sizeLine) (q:∀l,H l=none->Q (.ref l) (upd H l (.lst (rngV lo (hi - lo).toNat)))) :
  wpAny (model X.prog X.w) X.A (call (.type "list") [.ref s.heap.objs.size]) (EP X pins σ Q) E { s with heap:=s.heap.push { cls:=.type "range",data:=.fields #[.int lo t,.int hi u,.int 1 v] },toks:=tk }:=by
 have I1:Inv X pins σ H { s with heap:=s.heap.push { cls:=.type "range",data:=.fields #[.int lo t,.int hi u,.int 1 v] },toks:=tk }:=I.kept λb o e=>Heap.get?_push_of_some _ e;have e2:Builtin.Range.rangeSize lo hi 1=(((hi - lo).toNat:Nat):Int):=by rw[rangeSize_one];split<;>omega
 have hsl:sizeLine<=2 ^ 24:=by decide
 refine call_list_range (n:=(hi - lo).toNat) (I.ok.hd hc) (IsRange.new ..) (small_one h1 h2 h3 h4) e2 (by omega) λh' tk' acc' c' kp e hacc=>?_;have hv:=vz hacc;exact(iw22 (.ref _) _ (I1.laid (t':=tk') kp (Nat.le_refl _) (show ObjOk X.prog X.w _ h' _ (.lst _) from⟨by rw[rngV];simp;omega,(iw21 acc'.toList c' hv e)⟩)) rfl (q _ (I1.hok.fresh (Nat.le_refl _))))
theorem p7 {a b:Expr}{ta:TA}{p p' pos pos':Pos}(hc:X.calm=true)(hg':Gl X "list")(hm':X.mg "list"=none)(hg:Gl X "range")(hm:X.mg "range"=none)(ha:PA X [a,b] ta)
  (hs:autoParam (starEach [a,b] X.env=[(false,eval a X.env),(false,eval b X.env)]) L2.dft3._auto_1) (hs2:autoParam (starEach [b] X.env=[(false,eval b X.env)]) L2.dft3._auto_1)
  (he:autoParam (starEach [.Call (.Name "range" p) [a,b] [] pos] X.env=[(false,eval (.Call (.Name "range" p) [a,b] [] pos) X.env)]) L2.dft3._auto_1) :
  PE X (.Call (.Name "list" p') [.Call (.Name "range" p) [a,b] [] pos] [] pos') (tLR2 ta):=by
 intro pins s σ H Q I h;refine wpAny_Call_Name_kw (dP I hg' hm' boot_list ?_ (by decide) (by decide));refine PyProof.Rows.callWith_type1 ?_ he rfl;rw[he];show wpAny _ _ (spliced [(false,eval (.Call (.Name "range" p) [a,b] [] pos) X.env)]) _ _ s;refine Calls.spliced_cons (Call_ (dP I hg hm boot_range (PyProof.Rows.callWith_type1 (thnA (ha pos pins s σ H _ I h) λus s1 vs H1 I1 r1 q1=>?_) (by rw[hs,hs2]) (by rw[hs2];rfl))));(revert q1;refine ow23 λi j e zz1 q5 q=>?_;obtain ⟨q1,q2,q3,q4⟩:=zz1);subst e;cases r1 with
 | cons r rr=>
  cases rr with
  | cons r' rr=>
   cases rr;obtain⟨t,rfl⟩:=r;obtain⟨t',rfl⟩:=r';exact call_range_2 (Calls.spliced_nil (tX hc I1 q1 q2 q3 q4 q5 q))
end
noncomputable def addS (l:List Str)(x:Str):List Str:=if l.any (· == x) then l else l++[x]
noncomputable def onceS (l:List Str):List Str:=l.foldl addS []
theorem eF (l:List Str)(x:Str):onceS (l++[x])=addS (onceS l) x:=by simp[onceS]
theorem ym:∀(n:Nat) (l:List Str),l.length=n->∀k,(onceS l).any (· == k)=l.any (· == k):=by
 intro n
 induction n with
 | zero=>intro l hl k;cases l with
  | nil=>rfl
  | cons=>cases hl
 | succ n ih=>
  intro l hl k;obtain⟨m,x,rfl⟩:∃m x,l=m++[x]:=⟨l.dropLast,l.getLast (by intro z;rw[z] at hl;cases hl),(List.dropLast_concat_getLast _).symm⟩
  have hm:m.length=n:=by simpa using hl
  rw[eF,List.any_append];unfold addS
  split
  ·rename_i h
   rw[ih m hm] at h ⊢
   by_cases e:x=k
   ·subst e;rw[h];simp
   ·simp[e]
  ·rw[List.any_append,ih m hm]
theorem kM:∀(n:Nat) (l:List Str),l.length=n->(onceS l).length<=n:=by
 intro n
 induction n with
 | zero=>intro l hl;cases l with
  | nil=>exact Nat.le_refl _
  | cons=>cases hl
 | succ n ih=>
  intro l hl;obtain⟨m,x,rfl⟩:∃m x,l=m++[x]:=⟨l.dropLast,l.getLast (by intro z;rw[z] at hl;cases hl),(List.dropLast_concat_getLast _).symm⟩
  have:=ih m (by simpa using hl);rw[eF];unfold addS
  split
  ·omega
  ·rw[List.length_append,List.length_singleton];omega
theorem tY:∀(n:Nat) (l:List Str),l.length=n->l.Nodup->(onceS l).length=n:=by
 intro n
 induction n with
 | zero=>intro l hl;cases l with
  | nil=>intro _;rfl
  | cons=>cases hl
 | succ n ih=>
  intro l hl hd;obtain⟨m,x,rfl⟩:∃m x,l=m++[x]:=⟨l.dropLast,l.getLast (by intro z;rw[z] at hl;cases hl),(List.dropLast_concat_getLast _).symm⟩
  have hm:m.length=n:=by simpa using hl
  have hx:x∉m:=λz=>by
   have:=List.nodup_append.mp hd;exact this.2.2 x z x (by simp) rfl
  rw[eF];unfold addS;rw[if_neg,List.length_append,ih m hm (List.nodup_append.mp hd).1,List.length_singleton];rw[ym n m hm];intro z;(refine pw11 (List.any_eq_true.mp z) λy hy e=>?_);exact hx (by rw[<-eq_of_beq e];exact hy)
section
variable {prog:Program} {w:World} {A:Around} {s:Shared}
theorem tZ {K:Type}[DecidableEq K][BEq K][LawfulBEq K]{knd:KeyKind prog w K}{h:Heap}{a:Addr}{S S':K->Bool}{n n':Nat}(hS:h.SetOf knd a S n)(e:∀k,S k=S' k)(en:n=n'):h.SetOf knd a S' n':=by
 rw[<-funext e,<-en];exact hS
theorem yn {R:Result->Shared->Prop}{I S:Addr}{fp wr:List Addr}{G:Array GenState->Array GenState->Prop}{ls:List Str}{P:Nat->Value->Prop}{St:Nat->Shared->Prop}(W:WalksS prog w A.in1 I fp wr G ls.length P St)(hSf:S∉fp)
  (hval:∀i v,P i v->∃x t,ls[i]?=some x/\v=.str x t) (hb:ls.length+1 < scanBound) :
  ∀(k i:Nat) (s:Shared),ls.length - i=k->i<=ls.length->St i s->
   s.heap.SetOf (strKind prog w) S (λx=>(onceS (ls.take i)).any (· == x)) (onceS (ls.take i)).length->
   (∀s',Moved (S::wr) G s s'->s'.heap.SetOf (strKind prog w) S (λx=>(onceS ls).any (· == x)) (onceS ls).length->R (.ok (.ret .none)) s')->
   codeAny (model prog w) A (.builtin "set.update.loop" ⟨[.ref S,.ref I],[]⟩) R s:=by
 have hSw:S∉wr:=λh=>hSf (W.sub _ h);have hsub:∀b∈wr,b∈S::wr:=λb hb=>List.mem_cons_of_mem _ hb;have carry:∀{T:Str->Bool} {m:Nat} {s s':Shared},Moved wr G s s'->s.heap.SetOf (strKind prog w) S T m->s'.heap.SetOf (strKind prog w) S T m:=by
  rintro T m s s' hm ⟨o,es,ep,t,ho,rest⟩
  exact(iw30 o es ep (iw11 t (hm.heap S _ hSw ho) rest))
 intro k
 induction k with
 | zero=>
  intro i s hk hi hst hS hR;have hin:i=ls.length:=by omega
  refine codeAny_builtin PyProof.Rows.F.entry_set_update_loop ?_;rw[Around.under_plainId PyProof.Rows.F.plain_set_update_loop _];show wpAny _ A.in1 (pyNext (.ref I) >>= _) _ _ s;rw[hin] at hst hS;rw[List.take_length] at hS;refine wpAny_bind (W.done s _ _ hst λs' hm=>?_);show wpAny _ A.in1 (ret Value.none) _ _ s';exact wpAny_pure (hR s' (hm.mono hsub) (carry hm hS))
 | succ k ih=>
  intro i s hk hi hst hS hR;refine codeAny_builtin PyProof.Rows.F.entry_set_update_loop ?_;rw[Around.under_plainId PyProof.Rows.F.plain_set_update_loop _];show wpAny _ A.in1 (pyNext (.ref I) >>= _) _ _ s;refine wpAny_bind (W.item i s _ _ (by omega) hst λv s' hP hst' hm=>?_);(refine pw21 (hval i v hP) λx t hx zz1=>?_;subst zz1);have hS':=carry hm hS;show wpAny _ A.in1 (holding [Value.str x t] (setAdd S (.str x t)) >>= _) _ _ s';refine wpAny_bind (wpAny_holding ?_);unfold setAdd;refine wpAny_holding ?_;refine wpAny_bind ((strKind prog w).pyHash (k:=x) (strKind_is _ _ _ _) ?_);have hroom:(onceS (ls.take i)).length+1 < scanBound:=by
   have:=kM _ (ls.take i) rfl;rw[List.length_take] at this;omega
  refine wpAny_setAddHashed_of (knd:=strKind prog w) (s:={ s' with toks:=s'.toks+1 }) (strKind_is _ _ _ _) rfl hS' hroom λh' hsb hS2=>?_;have et:ls.take (i+1)=ls.take i++[x]:=by rw[List.take_succ,hx];rfl
  have hSi:h'.SetOf (strKind prog w) S (λy=>(onceS (ls.take (i+1))).any (· == y)) (onceS (ls.take (i+1))).length:=by
   refine tZ hS2 (λy=>?_) ?_
   ·rw[et,eF]
    unfold addS
    by_cases h:(onceS (ls.take i)).any (· == x)=true
    ·rw[if_pos h]
     by_cases e:y=x
     ·subst e;rw[h];rfl
     ·simp[e]
    ·rw[if_neg h,List.any_append]
     by_cases e:y=x
     ·subst e;simp
     ·have e':¬x=y:=λz=>e z.symm
      simp[e,e']
   ·rw[et,eF]
    unfold addS
    split<;>simp
  refine wpAny_pure ⟨plainId_quiet PyProof.Rows.F.plain_set_update_loop _,ih (i+1) _ (by omega) (by omega) (W.frame _ s' _ _ hst' (Nat.le_succ _) λb hb o e=>?_) hSi λs'' hm'' hS''=>?_⟩
  ·rw[hsb.2 b (λh:b=S=>hSf (by rw[<-h];exact hb))];exact e
  ·refine hR s'' (Moved.trans W.gtrans ((hm.mono hsub).then_heap (Nat.le_succ _) λb o hb e=>?_) hm'') hS''
   rw[hsb.2 b (λh:b=S=>hb (by rw[h];exact List.mem_cons_self))];exact e
end
section
variable {prog:Program} {w:World} {A:Around} {E:Value->Shared->Prop} {s:Shared}
noncomputable def emptySet (led:Bool):Obj:={ cls:=.type "set",dict:=none,data:=.set #[] 0 (.fresh 0 0 led) }
noncomputable def SetDone (prog:Program)(w:World)(s:Shared)(ls:List Str)(s₂:Shared):Prop:=∃h' tk,s₂={ s with heap:=h',toks:=tk }/\h'.SetOf (strKind prog w) s.heap.objs.size (λx=>(onceS ls).any (· == x)) (onceS ls).length/\
 ∀b o,s.heap.get? b=some o->h'.get? b=some o
theorem yo {l:Addr}{items:Array Value}{ls:List Str}{led:Bool}(hh:A.handled=none)(hl:s.heap.IsList l items)(hs:items.size=ls.length)(hi:∀(i:Nat) (v:Value),items[i]?=some v->∃x t,ls[i]?=some x/\v=.str x t)(hb:ls.length+1 < scanBound) :
  wpAny (model prog w) A.in1.in1 (Builtin.«set.__init__» ⟨[.ref s.heap.objs.size,.ref l],[]⟩)
   (λfin s'=>match fin with | .done f=>wants (λr s₂=>r=.none/\SetDone prog w s ls s₂) E (.ok f) s' | .again c'=>c'.quiet=true/\codeAny (model prog w) A.in1 c' (wants (λr s₂=>r=.none/\SetDone prog w s ls s₂) E) s')
   (λe s'=>wants (λr s₂=>r=.none/\SetDone prog w s ls s₂) E (.error e) s') { s with heap:=s.heap.push (emptySet led) }:=by
 (refine pw12 (id hl) λzz1 hol hcl=>ow10 λnl hdl=>?_;obtain ⟨ocls,odict,odata,oslots⟩:=zz1);simp only at hcl hdl;subst hcl;subst hdl;have hlS:l < s.heap.objs.size:=Heap.lt_size hol;have hol':(s.heap.push (emptySet led)).get? l=some { cls:=.type "list",dict:=odict,data:=.seq items nl,slots:=oslots }:=Heap.get?_push_of_some _ hol;have hS:(s.heap.push (emptySet led)).get? s.heap.objs.size=some (emptySet led):=Heap.get?_push_size _ rfl;have hl1:(s.heap.push (emptySet led)).IsList l items:=(iw12 _ hol' rfl (iw10 nl rfl))
 have hsls:=PySem.F.sub_list_set;have hslf:=PySem.F.sub_list_frozenset;have hne:(Value.type "list" == Value.type "dict")=false:=by decide
 unfold Builtin.«set.__init__» noKeywords Builtin.Frozenset.updateFrom;generalize hPI:pyIter=PI
 wp_walk
 subst hPI;refine wpAny_pyIter_list hl1 ?_;refine wpAny_bind (wpAny_runValue ?_);have hneI:l≠(s.heap.push (emptySet led)).objs.size:=by rw[Heap.size_push];exact Nat.ne_of_lt (Nat.lt_succ_of_lt hlS)
 have hSf:s.heap.objs.size∉[(s.heap.push (emptySet led)).objs.size,l]:=by
  rw[Heap.size_push];simp only[List.mem_cons,List.not_mem_nil,or_false,not_or];exact⟨Nat.ne_of_lt (Nat.lt_succ_self _),Nat.ne_of_gt hlS⟩
 have W:=(Walks.list (prog:=prog) (w:=w) (A:=A.in1.in1.in1) (by simp[hh]) _ l hneI items).toS;rw[hs] at W;refine yn W hSf hi hb (ls.length - 0) 0 _ (by omega) (Nat.zero_le _) ⟨(iw12 _ (Heap.get?_push_size _ rfl) rfl rfl),(hl1.push _)⟩ ?_ λs' hm hS'=>?_
 ·exact tZ ((PyProof.Rows.setObjOf_fresh (knd:=strKind prog w) led).setOf (Heap.get?_push_of_some _ hS) (by unfold scanBound;omega)) (λ_=>rfl) rfl
 ·obtain⟨h',g',d',tk',os'⟩:=s'
  have eg:g'=s.gens:=hm.gens;have ed:d'=s.drawn:=hm.drawn;have eo:os'=s.os:=hm.os;subst eg;subst ed;subst eo;show wpAny _ _ _ _ _ _;refine wpAny_pure ?_;show wpAny _ _ (ret Value.none) _ _ _;refine wpAny_pure ⟨rfl,(iw22 h' tk' rfl hS' (λb o e=>?_))⟩;have hb':=Heap.lt_size e;refine hm.heap b o ?_ (Heap.get?_push_of_some _ (Heap.get?_push_of_some _ e));rw[Heap.size_push];simp only[List.mem_cons,List.not_mem_nil,or_false,not_or];exact⟨Nat.ne_of_lt hb',Nat.ne_of_lt (Nat.lt_succ_of_lt hb')⟩
theorem yp {l:Addr}{items:Array Value}{ls:List Str}{Q:Value->Shared->Prop}(hh:A.handled=none)(hl:s.heap.IsList l items)(hs:items.size=ls.length)(hi:∀(i:Nat) (v:Value),items[i]?=some v->∃x t,ls[i]?=some x/\v=.str x t)(hb:ls.length+1 < scanBound)
  (h:∀s',SetDone prog w s ls s'->Q (.ref s.heap.objs.size) s'):wpAny (model prog w) A (call (.type "set") [.ref l]) Q E s:=by
 have ft:=PySem.F.called_set;(refine pw20 ft.mro λc tl hmro=>?_);have hmade:=ft.made;have hsub:=ft.sub;refine wpAny_call (codeAny_of_tree ?_);show wpAny _ _ (callAny (.type "set") _) _ _ _;refine wpAny_pure ⟨Code.quiet_builtin _ (s!"d"),codeAny_builtin PySem.F.entry_type_call ?_⟩;rw[Around.under_plain (weight_type_call_type "set" [.ref l] []) rfl];have h1:=ft.notType;have h2:=ft.canCreate;have hct:=PySem.F.typeCall_set_1 (.ref l)
 repeat (any_goals (first | assumption | wp_step))
 refine codeAny_mono (code_set_new_1 (.ref l) (E:=E) (Q₁:=λobj s₁=>∃led:Bool,obj=.ref s.heap.objs.size/\s₁={ s with heap:=s.heap.push (emptySet led) }) λled=>(iw11 led rfl rfl)) λr s₁ hr=>?_;cases r with
 | error e=>exact hr
 | ok fl=>
  cases fl with
  | ret obj=>
   (revert hr;refine ow11 λled zz1 zz2=>?_;subst zz1;subst zz2);have hS:(s.heap.push (emptySet led)).get? s.heap.objs.size=some (emptySet led):=Heap.get?_push_size _ rfl;have hT:Shared.TypeIs { s with heap:=s.heap.push (emptySet led) } (.ref s.heap.objs.size) "set":=(iw11 _ hS rfl)
   have hli:=ft.init.lookup;have hbi:=ft.init.bind (.ref s.heap.objs.size)
   repeat (any_goals (first | assumption | wp_step))
   refine codeAny_mono (codeAny_call_builtin ft.init.plain PySem.F.entry_set_init (check_set_init_1 hT (yo (E:=E) hh hl hs hi hb))) λr₂ s₂ hr₂=>?_;cases r₂ with
   | error e=>exact hr₂
   | ok fl₂=>
    cases fl₂ with
    | ret r=>
     obtain⟨rfl,hd⟩:=hr₂
     repeat (any_goals (first | assumption | wp_step))
     exact h _ hd
    | _=>exact hr₂.elim
  | _=>exact hr.elim
end
section
variable {X:Cx}
theorem xl:∀{ls:List Str} {us:List Value},Vals (ls.map V.str) us->∀(i:Nat) (v:Value),us[i]?=some v->∃x t,ls[i]?=some x/\v=.str x t
 | [],us,r,i,v,h=>by cases r;simp at h
 | x::ls,us,r,i,v,h=>by
  cases r with
  | cons r1 r2=>
   cases i with
   | zero=>obtain⟨t,rfl⟩:=r1;simp at h;exact(iw21 x t rfl h.symm)
   | succ i=>simpa using xl r2 i v (by simpa using h)
noncomputable def tLenSet (K:W.Frag)(te:TE):TE:=λσ H Q=>te σ H λx H1=>∃(p:Addr) (ls:List Str),x=.ref p/\SqL K H1 p (ls.map V.str)/\ls.length<=4000/\Q (.int (onceS ls).length) H1
theorem yq {K:W.Frag}{e:Expr}{te:TE}{p p' pos pos':Pos}(hc:X.calm=true)(hg':Gl X "len")(hm':X.mg "len"=none)(hg:Gl X "set")(hm:X.mg "set"=none)(hE:PE X e te)(hK:autoParam (X.K=K) L2.dft3._auto_1)
  (hs:autoParam (starEach [e] X.env=[(false,eval e X.env)]) L2.dft3._auto_1)
  (he:autoParam (starEach [.Call (.Name "set" p) [e] [] pos] X.env=[(false,eval (.Call (.Name "set" p) [e] [] pos) X.env)]) L2.dft3._auto_1) :
  PE X (.Call (.Name "len" p') [.Call (.Name "set" p) [e] [] pos] [] pos') (tLenSet K te):=by
 subst hK;intro pins s σ H Q I h;refine wpAny_Call_Name_kw (dP I hg' hm' boot_len ?_ (by decide) (by decide));refine PyProof.Rows.callWith_builtin1 ?_ he rfl;rw[he];show wpAny _ _ (spliced [(false,eval (.Call (.Name "set" p) [e] [] pos) X.env)]) _ _ s;refine Calls.spliced_cons (Call_ (dP I hg hm boot_set (PyProof.Rows.callWith_type1 ?_ hs rfl)));rw[hs];show wpAny _ _ (spliced [(false,eval e X.env)]) _ _ s;refine Calls.spliced_cons (thnE (hE pins s σ H _ I h) λu s1 v H1 I1 r1 q1=>?_);(revert q1;refine ow23 λa ls zz1 hq hl q=>?_;subst zz1);cases r1;(refine pw12 (I1.list hq) λits rv pl hz=>?_);have hlen:its.length=ls.length:=by have:=rv.length;simpa using this.symm
 refine Calls.spliced_nil (yp (ls:=ls) (I1.ok.hd hc) pl.isList (by simpa using hlen) (λi v hi=>xl rv i v (by simpa using hi)) (by rw[show scanBound=4096 from rfl];omega) λs2 hd=>?_);(revert hd;refine ow22 λh' tk zz1 hS kp=>?_;subst zz1);have I2:Inv X pins σ H1 { s1 with heap:=h',toks:=tk }:=I1.kept kp;(revert hS;refine ow44 λo es ep t ho hex hd hel=>ow02 λhmem hb=>ow01 λhf hn=>?_);have hle:=kM _ ls rfl;refine Calls.spliced_nil (call_len_set ho hex hd hf (by omega) ?_);rw[hn];exact(iw22 (.int (onceS ls).length) H1 (I2.tok _) ⟨_,rfl⟩ q)
noncomputable def TConst (K:W.Frag)(mg:Str->Option Value)(x:Str)(xs:List V):Prop:=∃p,mg x=some (.ref p)/\∀H,SqT K H p xs
noncomputable def tCT (K:W.Frag)(xs:List V):TE:=λ_ H Q=>∀p,(∀H',SqT K H' p xs)->Q (.ref p) H
theorem qH {K:W.Frag}{x:Str}{xs:List V}{pos:Pos}(c:TConst K X.mg x xs)(hg:autoParam (Gl X x) L2.dft3._auto_1)(hd:autoParam ((x == ("__debug__":Str))=false) L2.dft1._auto_1):PE X (.Name x pos) (tCT K xs):=by
 intro pins s σ H Q I h;(revert c;refine ow11 λp hm hq=>?_);exact rq (v:=.ref p) hg hm rfl hd pins s σ H Q I (h p hq)
end
section
variable {X:Cx} {elt iter c tg:Expr} {ifs:List Expr} {xs:List Str} {y:Str} {py pos spos:Pos} {scope sc:Scope} {N M:List Str} {wi:TI} {tt:TT} {te:TE} {g:TG}
theorem yr (hcalm:X.calm=true)(hX:X.N=N)(hsc:X.env.scope=sc)(O:CompOkT N M sc xs scope)(hi:PI X tg iter wi)
  (hts:∀(C:Addr) (s₀:Shared) (H₀:Hp) (fp:List Addr) (pins:List (Addr×Obj)) (s:Shared) (σ:St) (H:Hp) (Q:Bool->Hp->Prop),Inv (blkT X xs scope M C s₀ H₀ fp) pins σ H s->tt σ H Q->
   wpAny (model X.prog X.w) X.A (forIn ifs true λc r=>if r=true then do let ok <-isTrue c (blkT X xs scope M C s₀ H₀ fp).env (eval c (blkT X xs scope M C s₀ H₀ fp).env);pure (ForInStep.yield ok) else pure (ForInStep.yield r)) (TP (blkT X xs scope M C s₀ H₀ fp) pins σ Q) (λ_ _=>False) s)
  (hel:∀(C:Addr) (s₀:Shared) (H₀:Hp) (fp:List Addr),PE (blkT X xs scope M C s₀ H₀ fp) elt te) (hg:∀(C:Addr) (s₀:Shared) (H₀:Hp) (fp:List Addr),PG (blkT X xs scope M C s₀ H₀ fp) tg g) (hs:autoParam (∀x,foldedSetIterable iter X.env x=pure x) L2.dft4._auto_1) :
  PE X (.ListComp elt [⟨tg,iter,ifs,0⟩] scope pos) (tCompT xs.length wi g tt te):=by
 intro pins s σ H Q I h;rw[eval_ListComp];have hcl:closureFor scope X.env=pure (closOf X.env.cells scope.names []):=j2 λz hz hf=>by
  have q:=O.free z hz hf;rw[<-hsc] at q;exact I.ok.has z.1 q
 refine wpAny_comprehension_free (use:=none) rfl hs hcl O.kind O.names (thn (hi pins s σ H _ I h) λv s1 h1=>thn h1 λitv s2 h2=>?_);(revert h2;refine ow30 λit fp tn=>ow24 λJ H2 e I2 T st2=>ow01 λf2 q2=>?_);subst e;refine mU (Qd:=λD H'=>Q (.ref D) H') (RR:=λacc C=>compPost (model X.prog X.w) X.A X.xe none (EP X pins σ Q) acc C) hcalm hX hsc O hts hel hg I2 T st2 f2 (λD hD=>q2 D hD) ?_;intro D C H' s' I' hC hm q';obtain⟨m,hm⟩:=hm;(revert hC;refine ow05 λc0 c1 c2 c3 c4 c5=>?_);exact(iw11 m hm (λh' hs'=>(iw22 (.ref D) H' (I'.turned (t':=s'.toks) (λb o hb e=>hs'.extBut b o hb e) c0 c1 c3 c4 c5) rfl q')))
theorem AE (N M:List Str)(sc:Scope)(xs:List Str)(O:CompOkT N M sc xs scope)(hi:PI X tg iter wi)(hg:∀(C:Addr) (s₀:Shared) (H₀:Hp) (fp:List Addr),PG (blkT X xs scope M C s₀ H₀ fp) tg g)(hel:∀(C:Addr) (s₀:Shared) (H₀:Hp) (fp:List Addr),PE (blkT X xs scope M C s₀ H₀ fp) elt te)
  (hcalm:autoParam (X.calm=true) L2.dft3._auto_1) (hX:autoParam (X.N=N) L2.dft3._auto_1) (hsc:autoParam (X.env.scope=sc) L2.dft3._auto_1) (hs:autoParam (∀x,foldedSetIterable iter X.env x=pure x) L2.dft4._auto_1) :
  PE X (.ListComp elt [⟨tg,iter,[],0⟩] scope pos) (tCompT xs.length wi g tYes te):=
 yr hcalm hX hsc O hi (λC s₀ H₀ fp pins s σ H Q I h=>wpAny_tests_nil (iw11 H I h)) hel hg hs
end
section
variable {X:Cx} {pins:List (Addr×Obj)} {σ:St} {H:Hp} {s:Shared} {d:Addr} {kvs:List (Key×V)} {od:Obj}
end
noncomputable def Iti (d:Addr)(od:Obj)(kvs:List (Key×V)):It:=
 ⟨λi H=>H d=some (.frz od (.dK kvs))/\i < kvs.length,λi H v H'=>∃T k x,v=.ref T/\H T=none/\H'=upd H T (.tup [kV k,x])/\kvs[i]?=some (k,x)/\valV kvs k=some x,λi H=>H d=some (.frz od (.dK kvs))/\kvs.length<=i⟩
noncomputable def Itk (d:Addr)(od:Obj)(kvs:List (Key×V)):It:=
 ⟨λi H=>H d=some (.frz od (.dK kvs))/\i < kvs.length,λi H v H'=>H'=H/\∃k x,v=kV k/\kvs[i]?=some (k,x)/\valV kvs k=some x,λi H=>H d=some (.frz od (.dK kvs))/\kvs.length<=i⟩
noncomputable abbrev TIF:=St->Hp->(Addr->Obj->List (Key×V)->It->Hp->Prop)->Prop
noncomputable def iItems (td:TE):TIF:=λσ H R=>td σ H λx H1=>∃d kvs,x=.ref d/\H1 d=some (.dK kvs)/\∀od,R d od kvs (Iti d od kvs) (upd H1 d (.frz od (.dK kvs)))
noncomputable def iKeys (td:TE):TIF:=λσ H R=>td σ H λx H1=>∃d kvs,x=.ref d/\H1 d=some (.dK kvs)/\∀od,R d od kvs (Itk d od kvs) (upd H1 d (.frz od (.dK kvs)))
section
variable {X:Cx} {o:Expr} {apos cpos:Pos} {td:TE}
end
noncomputable def thawE (d:Addr)(od:Obj)(kvs:List (Key×V))(D:Ends):Ends:=
 { D with nx:=λσ H=>H d=some (.frz od (.dK kvs))/\D.nx σ (upd H d (.dK kvs)),rt:=λv H=>H d=some (.frz od (.dK kvs))/\D.rt v (upd H d (.dK kvs)) }
noncomputable def tForD (wi:TIF)(g:TG)(tb:TS):TS:=λD σ H=>wi σ H λd od kvs J H1=>forW J g tb (thawE d od kvs D) σ H1
section
variable {X:Cx} {tg:Expr}
end
theorem EZ (wi:TIF)(g:TG)(tb:TS)(D:Ends)(σ:St)(H:Hp):tForD wi g tb D σ H=wi σ H λd od kvs J H1=>forW J g tb (thawE d od kvs D) σ H1:=rfl
section
variable {X:Cx} {elt iter c tg:Expr} {ifs:List Expr} {xs:List Str} {y:Str} {py pos spos:Pos} {scope sc:Scope} {N M:List Str} {wi:TIF} {tt:TT} {te:TE} {g:TG}
end
noncomputable def repL (n:Nat)(l:List Nat):List Nat:=(List.replicate n l).flatten
theorem lW (xs:List (Array Nat)):∀a:Array Nat,(xs.foldl (·++·) a).toList=a.toList++(xs.map Array.toList).flatten:=by
 induction xs with
 | nil=>intro a;simp
 | cons x r ih=>intro a;rw[List.foldl_cons,ih];simp
theorem E1 (l:List Nat)(n:Int):Txt.mul (S l) n=S (repL n.toNat l):=by
 unfold Txt.mul repL
 by_cases h1:n < 1
 ·rw[if_pos h1]
  have:n.toNat=0:=by omega
  rw[this];rfl
 ·rw[if_neg h1]
  by_cases h2:(n == 1 || (S l).length == 0)=true
  ·rw[if_pos h2]
   rw[Bool.or_eq_true] at h2;rcases h2 with h2 | h2
   ·have:n=1:=by simpa using h2
    subst this;simp
   ·have:l=[]:=by
     have:(S l).length=0:=by simpa using h2
     rw[ck] at this;exact List.length_eq_zero_iff.mp this
    subst this;congr 1;simp
  ·rw[if_neg h2]
   show(⟨_⟩:Str)=⟨_⟩;congr 1;apply Array.toList_inj.mp;rw[lW];simp
noncomputable def rRepT:R2:=λx y H Q=>∃l n,x=.str (S l)/\y=.int n/\-(2 ^ 62)<=n/\n<=65536/\l.length<=200/\Q (.str (S (repL n.toNat l))) H
section
variable {X:Cx}
theorem Ce:OpR X (binaryOp .Mult) rRepT:=by
 intro pins s σ H x y v u Q I rx ry h;(revert h;refine ow24 λl n zz1 zz2 h0 h1=>ow01 λhl q=>?_;subst zz1;subst zz2);obtain⟨t,rfl⟩:=rx;obtain⟨t',rfl⟩:=ry;refine SB.mul ⟨?_,λh2 _=>?_,λh2 _=>?_⟩ λt'' k=>(iw22 (.str (S (repL n.toNat l))) H (I.tok k) ⟨t'',by rw[E1]⟩ q)
 ·rw[decide_eq_false (by omega),decide_eq_false (by omega)];rfl
 ·rw[ck]
  intro h3;have h4:(2 ^ 63 - 1:Int) / n≥(2 ^ 63 - 1) / 65536:=by
   refine Int.le_ediv_of_mul_le (by omega) ?_;have:(2 ^ 63 - 1:Int) / 65536 * n<=(2 ^ 63 - 1:Int) / 65536 * 65536:=Int.mul_le_mul_of_nonneg_left h1 (by decide);have:(2 ^ 63 - 1:Int) / 65536 * 65536<=2 ^ 63 - 1:=by decide
   omega
  have h5:(2 ^ 63 - 1:Int) / 65536 > 200:=by decide
  omega
 ·rw[ck]
  have h3:l.length * n.toNat<=200 * 65536:=Nat.mul_le_mul hl (by omega);have e:Builtin.Str.tooLong (l.length * n.toNat)=decide (l.length * n.toNat > sizeLine):=rfl;rw[e,decide_eq_false];rw[sizeLine_eq];omega
noncomputable def rMulA:R2:=λx y H Q=>rI CMul (λi j=>.int (i * j)) x y H Q\/rRepT x y H Q
theorem gP:OpR X (binaryOp .Mult) rMulA:=DB.or Ce
theorem Fm {H:Hp}{Q:VK}(i j:Int):rMulA (.int i) (.int j) H Q=(CMul i j/\Q (.int (i * j)) H):=by
 simp[rMulA,rI,rRepT]
noncomputable def tDClear (td:TE):TE:=λσ H Q=>td σ H λx H1=>∃a kvs,x=.ref a/\H1 a=some (.dK kvs)/\Q .non (upd H1 a (.dK []))
end
noncomputable def Itv' (K:W.Frag)(a:Addr)(n:Nat):It:=
 ⟨λi H=>i < n/\∃xs,SqL K H a xs/\xs.length=n,λi H x H'=>H'=H/\∀xs,SqL K H a xs->xs[n - 1 - i]?=some x,λi H=>n<=i⟩
section
variable {X:Cx}
noncomputable def iRev (K:W.Frag)(ta:TA):TI:=λσ H R=>ta σ H λvs H1=>∃a xs,vs=[.ref a]/\SqL K H1 a xs/\R (Itv' K a xs.length) H1
end
theorem E2 (l:List V)(k:Nat):cutV l none (some (k:Int))=l.take k:=by
 unfold cutV;rw[HT.rF,HT.tw,List.drop_zero,Nat.sub_zero]
 by_cases h:k<=l.length
 ·rw[Nat.min_eq_left h]
 ·rw[Nat.min_eq_right (by omega),List.take_of_length_le (Nat.le_refl _),List.take_of_length_le (by omega)]
theorem AF (l:List V)(k j:Nat):cutV l (some (k:Int)) (some ((k+j:Nat):Int))=(l.drop k).take j:=by
 unfold cutV;rw[HT.rF,HT.rF]
 by_cases h:k<=l.length
 ·rw[Nat.min_eq_left h]
  by_cases h2:k+j<=l.length
  ·rw[Nat.min_eq_left h2];congr 1;omega
  ·rw[Nat.min_eq_right (by omega),List.take_of_length_le (by rw[List.length_drop];omega),List.take_of_length_le (by rw[List.length_drop];omega)]
 ·rw[show min k l.length=l.length by omega,List.drop_of_length_le (Nat.le_refl _),List.drop_of_length_le (show l.length<=k by omega),List.take_nil,List.take_nil]
noncomputable def tupV (H:Hp):V->List V
 | .ref t=>match H t with
  | some (.tup xs)=>xs
  | _=>[]
 | _=>[]
theorem TupsAt.comp {H:Hp}{ts:List Addr}{rows:List (List V)}(h:TupsAt H ts rows)(q:List V->Bool)(g:List V->V):((ts.map V.ref).filter λx=>q (tupV H x)).map (λx=>g (tupV H x))=(rows.filter q).map g:=by
 unfold TupsAt at h
 induction h with
 | nil=>rfl
 | @cons t xs ts' rows' e _ ih=>
  have et:tupV H (.ref t)=xs:=by simp only[tupV,e]
  simp only[List.map_cons,List.filter_cons,et];cases q xs with
  | true=>simp only[if_true,List.map_cons,et];rw[ih]
  | false=>simpa using ih
theorem TupsAt.mem {H:Hp}{ts:List Addr}{rows:List (List V)}(h:TupsAt H ts rows){x:V}(hx:x∈ts.map V.ref):∃t xs,x=.ref t/\xs∈rows/\H t=some (.tup xs):=by
 (refine pw11 (List.mem_map.mp hx) λt ht zz1=>?_;subst zz1);obtain⟨i,hi⟩:=List.getElem?_of_mem ht;(refine pw11 (h.get hi) λxs h1 h2=>?_);exact(iw22 t xs rfl (List.mem_of_getElem? h1) h2)
theorem rZ {K:W.Frag}{tt:TT}{te:TE}{σ:St}{H:Hp}{Q:VK}{a:Addr}{rows:List (List V)}(hl:LTups H a rows)(hn:rows.length<=sizeLine)(q:List V->Bool)(g:List V->V)
  (ht:∀t xs H',xs∈rows->Same H H'->H' t=some (.tup xs)->∀Qt:Bool->Hp->Prop,(∀H'',Same H' H''->Qt (q xs) H'')->tt (some (.ref t)::σ) H' Qt)
  (he:∀t xs H',xs∈rows->Same H H'->H' t=some (.tup xs)->∀Qe:VK,(∀H'',Same H' H''->Qe (g xs) H'')->te (some (.ref t)::σ) H' Qe)
  (hd:∀D H',H D=none->Same H H'->H' D=some (.lst ((rows.filter q).map g))->Q (.ref D) H'):compW (Itl K a) tt te σ H Q:=by
 (revert hl;refine ow11 λts e hT=>?_);refine kJ (xs:=ts.map V.ref) (.inl (.inl e)) (by rw[List.length_map,hT.length];exact hn) (λx=>q (tupV H x)) (λx=>g (tupV H x)) ?_ ?_ ?_
 ·intro x H' hx s Qt qt
  (refine pw22 (hT.mem hx) λt xs zz1 hm h1=>?_;subst zz1);have et:tupV H (.ref t)=xs:=by simp only[tupV,h1]
  rw[et] at qt;exact ht t xs H' hm s (s _ _ h1) Qt qt
 ·intro x H' hx _ s Qe qe
  (refine pw22 (hT.mem hx) λt xs zz1 hm h1=>?_;subst zz1);have et:tupV H (.ref t)=xs:=by simp only[tupV,h1]
  rw[et] at qe;exact he t xs H' hm s (s _ _ h1) Qe qe
 ·intro D H' hD s h
  refine hd D H' hD s ?_;rw[h,hT.comp]
theorem j6 {K:W.Frag}{te:TE}{σ:St}{H:Hp}{Q:VK}{a:Addr}{rows:List (List V)}(hl:LTups H a rows)(hn:rows.length<=sizeLine)(g:List V->V)
  (he:∀t xs H',xs∈rows->Same H H'->H' t=some (.tup xs)->∀Qe:VK,(∀H'',Same H' H''->Qe (g xs) H'')->te (some (.ref t)::σ) H' Qe)
  (hd:∀D H',H D=none->Same H H'->H' D=some (.lst (rows.map g))->Q (.ref D) H'):compW (Itl K a) tYes te σ H Q:=
 rZ hl hn (λ_=>true) g (λt xs H' _ s _ Qt qt=>qt H' (Same.refl _)) he (λD H' h s e=>hd D H' h s (by rw[cQ] at e;exact e))
inductive Thg (H:Hp):V->Prop
 | non:Thg H .non
 | bl (b:Bool):Thg H (.bl b)
 | int (i:Int):Thg H (.int i)
 | str (l:List Nat) (h:l.length<=1000):Thg H (.str (S l))
 | lst {p:Addr} {xs:List V} (h:H p=some (.lst xs)):Thg H (.ref p)
 | tup {p:Addr} {xs:List V} (h:H p=some (.tup xs)):Thg H (.ref p)
noncomputable def textV (x:V)(lo hi:Int):Bool:=match x with
 | .str z=>decide (lo<=z.length) && decide ((z.length:Int)<=hi)
 | _=>false
noncomputable def formV (x:V)(lo hi:Int)(p:Nat->Bool):Bool:=match x with
 | .str z=>decide (lo<=z.length) && (decide ((z.length:Int)<=hi) && z.cps.toList.all p)
 | _=>false
noncomputable def wholeV (x:V)(lo hi:Int):Bool:=match x with
 | .int i=>decide (lo<=i) && decide (i<=hi)
 | _=>false
noncomputable def T36:List Nat:=[97,98,99,100,101,102,103,104,105,106,107,108,109,110,111,112,113,114,115,116,117,118,119,120,121,122,48,49,50,51,52,53,54,55,56,57]
theorem AG:(Str.ofString "abcdefghijklmnopqrstuvwxyz0123456789")=S T36:=by decide +kernel
noncomputable def inN (c:Nat):Bool:=decide (c∈T36)
theorem Cf (l:List Nat)(c:Nat):occB (S l) (S [c])=decide (c∈l):=by
 have:=PySem.StrLaws.found_one (S l) c;unfold occB;exact this.trans (by simp)
noncomputable def vA:Sp:=λvs H Q _=>∃(x:V) (lo hi:Int),vs=[x,.int lo,.int hi]/\Thg H x/\Q (.bl (textV x lo hi)) H
noncomputable def vB:Sp:=λvs H Q _=>∃x:V,vs=[x]/\Thg H x/\∀H',Same H H'->Q (.bl (formV x 1 12 inN)) H'
noncomputable def t6:Sp:=λvs H Q _=>∃(x:V) (lo hi:Int),vs=[x,.int lo,.int hi]/\Thg H x/\Q (.bl (wholeV x lo hi)) H
theorem gQ {l:List Nat}{p:Nat->Bool}:(l.map p).all id=l.all p:=by simp[List.all_map,Function.comp_def]
theorem jk {l:List Nat}{lo hi:Int}{p:Nat->Bool}(h:textV (.str (S l)) lo hi=true):formV (.str (S l)) lo hi p=l.all p:=by
 simp only[textV,formV,Bool.and_eq_true] at h ⊢;rw[h.1,h.2];simp
theorem kN {x:V}{lo hi:Int}{p:Nat->Bool}(h:¬textV x lo hi=true):formV x lo hi p=false:=by
 cases x with
 | str z=>
  simp only[textV,formV,Bool.and_eq_true] at h ⊢
  by_cases h1:decide (lo<=(z.length:Int))=true
  ·rw[h1,Bool.true_and]
   have h2:¬decide ((z.length:Int)<=hi)=true:=λe=>h ⟨h1,e⟩;rw[Bool.eq_false_iff.mpr h2,Bool.false_and]
  ·rw[Bool.eq_false_iff.mpr h1,Bool.false_and]
 | _=>rfl
theorem nS {H:Hp}{x:V}{lo hi:Int}(t:Thg H x)(h:textV x lo hi=true):∃l:List Nat,x=.str (S l)/\l.length<=1000:=by
 cases t with
 | str l hl=>exact(iw11 l rfl hl)
 | _=>simp[textV] at h
noncomputable def foldK (l:List Nat):Int:=l.foldl (λ(h:Int) (c:Nat)=>Builtin.bitAnd (h * 37+(c:Int)) 65535) 1
noncomputable def sprN (l:List Nat):Int:=Builtin.bitXor (foldK l) (foldK l / 2 ^ (8:Int).toNat)
theorem vC {l:List Nat}{i c:Nat}(h:(S l).cps[i]?=some c):foldK (l.take (i+1))=Builtin.bitAnd (foldK (l.take i) * 37+(c:Int)) 65535:=by
 have h':l[i]?=some c:=by simpa using h
 rw[List.take_add_one,h'];simp[foldK,List.foldl_append]
structure Shf where
 name:List Nat
 rows:Nat
 kind:Str
noncomputable def Shf.v (x:Shf):List V:=[.str (S x.name),.int x.rows,.str x.kind]
noncomputable def okShf (x:Shf):Prop:=(1<=x.name.length/\x.name.length<=12/\x.name.all inN=true)/\(1<=x.rows/\x.rows<=9)/\(x.kind=Str.ofString "table" \/ x.kind=Str.ofString "stream")
structure OkShfs (xs:List Shf):Prop where
 lo:1<=xs.length
 hi:xs.length<=6
 each:∀x∈xs,okShf x
 nd:(xs.map Shf.name).Nodup
structure ShAt (C:Addr)(H:Hp)(s l:Addr)(xs:List Shf):Prop where
 obj:∃dx,H s=some (.ins C dx [("shelves",.ref l)])
 lst:LTups H l (xs.map Shf.v)
theorem ShAt.chg {A:List Addr}{C:Addr}{H H':Hp}{s l:Addr}{xs:List Shf}(h:ShAt C H s l xs)(c:Chg A H H')(hs:s∉A)(hl:l∉A):ShAt C H' s l xs:=by
 obtain⟨dx,e⟩:=h.obj;exact⟨⟨dx,c.keep _ _ e hs⟩,h.lst.chg c hl⟩
noncomputable def startOf (xs:List Shf)(k:Nat):Nat:=((xs.take k).map Shf.rows).sum
theorem bU {xs:List Shf}{k:Nat}{x:Shf}(h:xs[k]?=some x):startOf xs (k+1)=startOf xs k+x.rows:=by
 unfold startOf;rw[List.take_add_one,h];simp
theorem j7 {xs:List Shf}(h:∀x∈xs,x.rows<=9):∀k,startOf xs k<=9 * k:=by
 intro k
 induction k with
 | zero=>simp[startOf]
 | succ k ih=>
  cases e:xs[k]? with
  | none=>
   have:startOf xs (k+1)=startOf xs k:=by unfold startOf;rw[List.take_add_one,e];simp
   omega
  | some x=>
   have:=h x (List.mem_of_getElem? e);rw[bU e];omega
noncomputable def vD (C:Addr):Sp:=λvs H Q _=>∃(s l:Addr) (xs:List Shf),vs=[.ref s]/\ShAt C H s l xs/\xs.length<=1000/\∀H',Same H H'->Q (.int (startOf xs xs.length)) H'
noncomputable def rowNo (xs:List Shf)(k:Nat)(x:Shf)(key:List Nat):Nat:=startOf xs k+(sprN key % (x.rows:Int)).toNat
noncomputable def yt:Sp:=λvs H Q _=>∃l:List Nat,vs=[.str (S l)]/\Q (.int (sprN l)) H
noncomputable def yu:Sp:=λvs H Q _=>∃(l:List Nat) (m:Int),vs=[.str (S l),.int m]/\0 < m/\Q (.int (sprN l % m)) H
noncomputable def it (i:Nat)(xs:List V):V:=xs.getD i .non
noncomputable def ltr36 (n:Int):Nat:=T36.getD (n % 36).toNat 0
theorem oA (n:Int):T36[(n % 36).toNat]?=some (ltr36 n):=by
 have h:(n % 36).toNat < T36.length:=by
  show(n % 36).toNat < 36;omega
 unfold ltr36;rw[List.getD_eq_getElem?_getD,List.getElem?_eq_getElem h];rfl
theorem oB (n:Int):inN (ltr36 n)=true:=by
 unfold inN;exact decide_eq_true (List.mem_of_getElem? (oA n))
theorem yv {n m:Int}(h:ltr36 n=ltr36 m):n % 36=m % 36:=by
 have hn:T36.Nodup:=by decide
 have h1:=oA n;have h2:=oA m;rw[h] at h1;obtain⟨i1,e1⟩:=List.getElem?_eq_some_iff.mp h1;obtain⟨i2,e2⟩:=List.getElem?_eq_some_iff.mp h2;have hp:=List.pairwise_iff_getElem.mp hn;rcases Nat.lt_trichotomy (n % 36).toNat (m % 36).toNat with z | z | z
 ·exact absurd (e1.trans e2.symm) (hp _ _ i1 i2 z)
 ·omega
 ·exact absurd (e2.trans e1.symm) (hp _ _ i2 i1 z)
noncomputable def EE:Sp:=λvs H Q _=>∃x y:Int,vs=[.int x,.int y]/\Q (.bl (decide (x=y))) H
noncomputable def yw:Sp:=λvs H Q _=>∃n:Int,vs=[.int n]/\Q (.str (S [ltr36 n])) H
theorem r9 {te:TE}{σ:St}{H:Hp}{Q:VK}{lo:Int}{n:Nat}(hn:n<=sizeLine)(Pv:Addr->Nat->List V->Hp->Prop)(h0:∀D,H D=none->Pv D 0 [] (upd H D (.lst [])))
  (hl:∀D i ys H',i<=n->Pv D i ys H'->H' D=some (.lst ys)/\ys.length<=i)
  (hs:∀D i ys H',H D=none->i < n->Pv D i ys H'->∀Qe:VK,(∀y H5,H5 D=some (.lst ys)->Pv D (i+1) (ys++[y]) (upd H5 D (.lst (ys++[y])))->Qe y H5)->te (some (.int (lo+i))::σ) H' Qe)
  (hd:∀D ys H',H D=none->Pv D n ys H'->Q (.ref D) H'):compW (Itr lo n) tYes te σ H Q:=by
 intro D hD;refine(iw11 (λi m ys H=>m=n - i/\i<=n/\Pv D i ys H) (iw12 n rfl (Nat.zero_le _) (h0 D hD)) ?_)
 rintro i m ys H2 ⟨rfl,hi,p⟩
 obtain⟨h1,h2⟩:=hl D i ys H2 hi p
 by_cases hlt:i < n
 ·refine .inr ⟨hlt,by omega,λx H3 y=>?_⟩
  obtain⟨rfl,rfl⟩:H3=H2/\x=.int (lo+i):=y;simp only[tYes,if_true];exact hs D i ys H3 hD hlt p _ λy H5 z1 z2=>⟨z1,(iw13 (n - (i+1)) (by omega) rfl hlt z2)⟩
 ·have e:i=n:=by omega
  subst e;exact .inl ⟨Nat.le_refl _,h1,hd D ys H2 hD p⟩
theorem mX {K:W.Frag}{te:TE}{σ:St}{H:Hp}{Q:VK}{a:Addr}{xs:List V}(hn:xs.length<=sizeLine)(Pv:Addr->Nat->List V->Hp->Prop)(h0:∀D,H D=none->Pv D 0 [] (upd H D (.lst [])))
  (hl:∀D i ys H',i<=xs.length->Pv D i ys H'->H' D=some (.lst ys)/\ys.length<=i/\SqL K H' a xs)
  (hs:∀D i ys H' x,H D=none->xs[i]?=some x->Pv D i ys H'->∀Qe:VK,(∀y H5,H5 D=some (.lst ys)->Pv D (i+1) (ys++[y]) (upd H5 D (.lst (ys++[y])))->Qe y H5)->te (some x::σ) H' Qe)
  (hd:∀D ys H',H D=none->Pv D xs.length ys H'->Q (.ref D) H'):compW (Itl K a) tYes te σ H Q:=by
 intro D hD;refine(iw11 (λi m ys H=>m=xs.length - i/\i<=xs.length/\Pv D i ys H) (iw12 xs.length rfl (Nat.zero_le _) (h0 D hD)) ?_)
 rintro i m ys H2 ⟨rfl,hi,p⟩
 (refine pw02 (hl D i ys H2 hi p) λh1 h2 h3=>?_)
 by_cases hlt:i < xs.length
 ·refine .inr ⟨(iw21 xs (xs[i]) h3 (by simp)),by omega,λx H3 y=>?_⟩
  obtain⟨rfl,z⟩:=y;simp only[tYes,if_true];exact hs D i ys _ x hD (z xs h3) p _ λy H5 z1 z2=>⟨z1,(iw13 (xs.length - (i+1)) (by omega) rfl hlt z2)⟩
 ·have e:i=xs.length:=by omega
  subst e;exact .inl ⟨(iw11 xs h3 (Nat.le_refl _)),h1,hd D ys H2 hD p⟩
theorem gR {xs:List Shf}{a b:Nat}{x:Shf}(hx:xs[a]?=some x)(h:a < b):startOf xs a+x.rows<=startOf xs b:=by
 rw[<-bU hx];have mono:∀m n:Nat,m<=n->startOf xs m<=startOf xs n:=by
  intro m n hmn
  induction n with
  | zero=>
   have:m=0:=by omega
   subst this;exact Nat.le_refl _
  | succ n ih=>
   by_cases e:m=n+1
   ·subst e;exact Nat.le_refl _
   ·refine Nat.le_trans (ih (by omega)) ?_
    cases e2:xs[n]? with
    | none=>unfold startOf;rw[List.take_add_one,e2];simp
    | some y=>rw[bU e2];omega
 exact mono _ _ h
theorem TupsAt.drop {H:Hp}{ts:List Addr}{rows:List (List V)}(h:TupsAt H ts rows)(n:Nat):TupsAt H (ts.drop n) (rows.drop n):=by
 unfold TupsAt at h ⊢
 induction h generalizing n with
 | nil=>simp;exact .nil
 | cons r t ih=>
  cases n with
  | zero=>exact .cons r t
  | succ n=>exact ih n
theorem bp {H H':Hp}{b:Addr}(s:Same H H')(h:H' b=none):H b=none:=by
 cases e:H b with
 | none=>rfl
 | some o=>rw[s _ _ e] at h;cases h
theorem Same.wr {H H':Hp}{b:Addr}{o:HO}(s:Same H H')(h:H b=none):Same H (L2.upd H' b o):=λc u hc=>(aj (ay hc h)).trans (s c u hc)
noncomputable def rNotB:R2:=λx y H Q=>∃b c,x=.bl b/\y=.bl c/\Q (.bl (!decide (b=c))) H
section
variable {X:Cx}
theorem xm:OpR X (compareOp .IsNot) rNotB:=by
 intro pins s σ H x y v u Q I rx ry h;(revert h;refine ow22 λb c zz1 zz2 q=>?_;subst zz1;subst zz2);cases (show v=Value.bool b from rx);cases (show u=Value.bool c from ry);refine wpAny_isNot_plain (by cases b<;>cases c<;>rfl) (iw22 (.bl (!decide (b=c))) H I ?_ q);show Value.bool _=Value.bool _;cases b<;>cases c<;>rfl
theorem E3 {H:Hp}{Q:VK}(b c:Bool):rNotB (.bl b) (.bl c) H Q=Q (.bl (!decide (b=c))) H:=by simp[rNotB]
end
section
variable {prog:Program} {w:World} {A:Around} {R:Result->Shared->Prop} {I:Addr} {fp wr:List Addr} {n:Nat} {P:Nat->Value->Prop} {St:Nat->Heap->Prop} {kw:List (Str×Value)}
end
section
variable {prog:Program} {w:World} {A:Around} {E:Value->Shared->Prop} {s:Shared}
end
section
variable {X:Cx}
end
theorem RowAt.same {C:Addr}{H H':Hp}{r d:Addr}{M:RowM}(h:RowAt C H r d M)(s:Same H H'):RowAt C H' r d M:=h.chg (A:=[]) (Chg.of_same s) (by simp) (by simp)
section
variable {X:Cx}
end
end L2
namespace L2
open PySem
noncomputable def TrD (h B:Heap)(e:Addr)(cls:Value)(dc:Option Addr)(a0 fl:Value):Prop:=
 ∃oe vs T oT ts,h.get? e=some oe/\oe.cls=cls/\oe.dict=dc/\oe.data=.fields vs/\vs[2]?=some a0/\vs[1]?=some (.ref T)/\B.get? T=none/\T≠e/\h.get? T=some oT/\oT.data=.fields ts/\ts[3]?=some fl
structure Fly (B:Heap)(l:List Env)(e:Addr)(cls:Value)(dc:Option Addr)(a0 fl:Value)(h:Heap):Prop where
 stay:B.StaysIn h
 new:B.get? e=none
 fun':h.FunFrames B l
 tale:TrD h B e cls dc a0 fl
section
variable {M:Model} {A:Around} {E:Value->Shared->Prop} {s:Shared}
theorem yx (g:Array Value->Array Value)(o:Obj):(o.mapFields g).dict=o.dict:=by
 obtain⟨c,d,t,sl⟩:=o;cases t<;>rfl
theorem qI {B:Heap}{env:Env}{out:List Env}{L e:Addr}{oe:Obj}{vs:Array Value}{top a0:Value}{nx:Bool}{Q:Unit->Shared->Prop}
  (fr:A.frames=some (env::out)) (ff:s.heap.FunFrames B (env::out)) (ef:env.frame=some L) (ge:s.heap.get? e=some oe) (kb:B.StaysIn s.heap) (nb:B.get? e=none) (dt:oe.data=.fields vs) (sz:1 < vs.size) (z0:vs[2]?=some a0)
  (k:∀h',Fly B (env::out) e oe.cls oe.dict a0 (rawInt L) h'->s.heap.UpToSlots h'->Q () { s with heap:=h' }) :
  wpAny M A (do
   let fo <-frameOf env
   let pl <-entryPlaceOf L nx
   let en <-EntryCells.newEntry top fo .none (rawInt L) .none pl
   setField (.ref e) 1 en) Q E s:=by
 have apart:e∉(env::out).filterMap (·.frame):=by
  intro m;(refine pw01 (ff.mem m) λ_=>ow11 λo g nf=>?_);rw[ge] at g;cases g;exact nf vs dt
 refine wpAny_bind (wpAny_frameOf_fun fr ff ef λg1 so=>wpAny_bind (wpAny_entryPlaceOf λpl ip=>?_));unfold EntryCells.newEntry newFields;refine wpAny_bind (wpAny_newObj_type ?_ (ip.sizeOk5 _ _ _ _ _));generalize hen:([top,Value.ref L,Value.none,rawInt L,Value.none]++(if pl.isEmpty then List.replicate 6 Value.none else pl)).toArray=ts;have e3:ts[3]?=some (rawInt L):=by rw[<-hen];simp
 generalize ho:({ cls:=.type "traceback",dict:=none,data:=.fields ts }:Obj)=on;have ge1:g1.get? e=some oe:=(so.2.1 e apart).trans ge;have kb1:B.StaysIn g1:=λb o q=>by
  refine(so.2.1 b λm=>?_).trans (kb b o q);rw[(ff.mem m).1] at q;cases q
 have ge2:(g1.push on).get? e=some oe:=Heap.get?_push_of_some _ ge1;have norec:∀b o,s.heap.get? b=some o->(∀ws,o.data≠.fields ws)->b≠e:=λb o q nf z=>by
  subst z;rw[ge] at q;cases q;exact nf vs dt
 refine wpAny_setField ge2 dt sz (k _ ?_ ?_)
 all_goals have nTe:g1.objs.size≠e:=Nat.ne_of_gt (Heap.lt_size ge1)
 all_goals have dt3:=Obj.data_mapFields dt (·.setIfInBounds 1 (Value.ref g1.objs.size))
 all_goals have ge3:=Heap.get?_update_self (Obj.mapFields (·.setIfInBounds 1 (Value.ref g1.objs.size))) ge2 (Obj.isFreed_of_fields dt3)
 all_goals have gT:((g1.push on).update e (Obj.mapFields (·.setIfInBounds 1 (Value.ref g1.objs.size)))).get? g1.objs.size=some on:=(Heap.get?_update_other _ _ (Ne.symm nTe)).trans (Heap.get?_push_size g1 (by rw[<-ho];rfl))
 all_goals have keep:∀b o,b≠e->g1.get? b=some o->((g1.push on).update e (Obj.mapFields (·.setIfInBounds 1 (Value.ref g1.objs.size)))).get? b=some o:=λb o nbe q=>(Heap.get?_update_other _ _ (Ne.symm nbe)).trans (Heap.get?_push_of_some _ q)
 ·refine⟨λb o q=>keep b o (λz=>by rw[z,nb] at q;cases q) (kb1 b o q),nb,ff.of_keeps λb o q nf=>?_,?_⟩
  ·obtain⟨sl,q'⟩:=so.2.2 b o q
   exact(iw11 _ (keep b _ (norec b o q nf) q') rfl)
  ·refine(iw55 _ _ g1.objs.size on ts ge3 (Obj.cls_mapFields _ _) (yx _ _) dt3 ?_ ⟨by simp[sz],kb1.fresh,nTe,gT,⟨by rw[<-ho],e3⟩⟩)
   rw[Array.getElem?_setIfInBounds_ne (by decide)];exact z0
 ·intro b o q nf
  obtain⟨sl,q'⟩:=so.2.2 b o q;exact⟨sl,keep b _ (norec b o q nf) q'⟩
theorem vE {B:Heap}{env:Env}{out:List Env}{L e:Addr}{oe:Obj}{vs:Array Value}{a0:Value}{Q:Unit->Shared->Prop}
  (fr:A.frames=some (env::out)) (ff:s.heap.FunFrames B (env::out)) (ef:env.frame=some L) (ge:s.heap.get? e=some oe) (kb:B.StaysIn s.heap) (nb:B.get? e=none) (dt:oe.data=.fields vs) (z1:vs[1]?=some .none) (z0:vs[2]?=some a0)
  (k:∀h',Fly B (env::out) e oe.cls oe.dict a0 (rawInt L) h'->s.heap.UpToSlots h'->Q () { s with heap:=h' }):wpAny M A (noteFrame (.ref e) env) Q E s:=by
 unfold noteFrame;simp only[ef];refine wpAny_bind (wpAny_field ge dt z1 ?_);rw[if_neg (by decide)];exact qI fr ff ef ge kb nb dt (Array.getElem?_eq_some_iff.mp z1).1 z0 k
theorem qJ {B:Heap}{env:Env}{out:List Env}{L e:Addr}{cls:Value}{dc:Option Addr}{a0:Value}{Q:Unit->Shared->Prop}
  (fr:A.frames=some (env::out)) (ef:env.frame=some L) (fl:Fly B (env::out) e cls dc a0 .none s.heap)
  (k:∀h',Fly B (env::out) e cls dc a0 (rawInt L) h'->s.heap.UpToSlots h'->Q () { s with heap:=h' }):wpAny M A (noteFrame (.ref e) env) Q E s:=by
 obtain⟨kb,nb,ff,oe,vs,T,oT,ts,ge,hc,hdc,dt,z0,z1,nT,nTe,gT,dT,z3⟩:=fl;subst hc hdc;unfold noteFrame;simp only[ef];refine wpAny_bind (wpAny_field ge dt z1 ?_);rw[if_pos (by simp)];refine wpAny_bind (wpAny_field gT dT z3 ?_);rw[if_neg (by simp[rawInt])];refine wpAny_bind (wpAny_setField gT dT (Array.getElem?_eq_some_iff.mp z3).1 ?_);have oth:∀b,b≠T->(s.heap.update T (Obj.mapFields (·.setIfInBounds 3 Value.none))).get? b=s.heap.get? b:=λb q=>Heap.get?_update_other _ _ (Ne.symm q);have norec:∀b o,s.heap.get? b=some o->(∀ws,o.data≠.fields ws)->b≠T:=λb o q nf z=>by
  subst z;rw[gT] at q;cases q;exact nf ts dT
 refine qI fr (ff.of_keeps λb o q nf=>(iw11 o ((oth b (norec b o q nf)).trans q) rfl)) ef ((oth e (Ne.symm nTe)).trans ge) (λb o q=>(oth b λz=>by rw[z,nT] at q;cases q).trans (kb b o q)) nb dt (Array.getElem?_eq_some_iff.mp z1).1 z0 λh' f' u'=>k h' f' λb o q nf=>u' b o ((oth b (norec b o q nf)).trans q) nf
theorem fA {B:Heap}{l:List Env}{e:Addr}{cls:Value}{dc:Option Addr}{a0 fl:Value}{Q:Unit->Shared->Prop}(f:Fly B l e cls dc a0 fl s.heap)
  (k:∀h',Fly B l e cls dc a0 .none h'->s.heap.UpToSlots h'->Q () { s with heap:=h' }):wpAny M A (setFlight (.ref e) none) Q E s:=by
 obtain⟨kb,nb,ff,oe,vs,T,oT,ts,ge,hc,hdc,dt,z0,z1,nT,nTe,gT,dT,z3⟩:=f;have z3':3 < ts.size:=(Array.getElem?_eq_some_iff.mp z3).1;have oth:∀b,b≠T->(s.heap.update T (Obj.mapFields (·.setIfInBounds 3 ((none:Option Addr).elim Value.none λf=>rawInt f)))).get? b=s.heap.get? b:=λb q=>Heap.get?_update_other _ _ (Ne.symm q);have norec:∀b o,s.heap.get? b=some o->(∀ws,o.data≠.fields ws)->b≠T:=λb o q nf z=>by
  subst z;rw[gT] at q;cases q;exact nf ts dT
 unfold setFlight;refine wpAny_bind (wpAny_field ge dt z1 ?_);rw[if_pos (by simp)];refine wpAny_setField gT dT z3' (k _ ⟨λb o q=>(oth b λz=>by rw[z,nT] at q;cases q).trans (kb b o q),nb,ff.of_keeps λb o q nf=>(iw11 o ((oth b (norec b o q nf)).trans q) rfl),?_⟩ λb o q nf=>⟨o.slots,(oth b (norec b o q nf)).trans q⟩);exact(iw55 oe vs T _ _ ((oth e (Ne.symm nTe)).trans ge) hc hdc dt z0 ⟨z1,nT,nTe,Heap.get?_update_self _ gT (Obj.isFreed_of_fields (Obj.data_mapFields dT _)),⟨Obj.data_mapFields dT _,by simp[z3']⟩⟩)
theorem Fly.pop {B:Heap}{env:Env}{out:List Env}{e:Addr}{cls:Value}{dc:Option Addr}{a0 fl:Value}{h:Heap}(f:Fly B (env::out) e cls dc a0 fl h):Fly B out e cls dc a0 fl h:=
 ⟨f.stay,f.new,let ⟨_,_,z⟩:=f.fun';z,f.tale⟩
theorem t7 {B:Heap}{env:Env}{out:List Env}{L e:Addr}{oe:Obj}{vs:Array Value}{a0:Value}{Q:Unit->Shared->Prop}
  (fr:A.frames=some (env::out)) (ff:s.heap.FunFrames B (env::out)) (ef:env.frame=some L) (ge:s.heap.get? e=some oe) (kb:B.StaysIn s.heap) (nb:B.get? e=none) (dt:oe.data=.fields vs) (z1:vs[1]?=some .none) (z0:vs[2]?=some a0)
  (k:∀h',Fly B out e oe.cls oe.dict a0 .none h'->s.heap.UpToSlots h'->Q () { s with heap:=h' }):wpAny M A (leaving env (.ref e)) Q E s:=by
 unfold leaving;exact wpAny_bind (vE fr ff ef ge kb nb dt z1 z0 λh1 f1 u1=>fA f1 λh2 f2 u2=>k h2 f2.pop (u1.trans u2))
theorem vF {B:Heap}{env:Env}{out:List Env}{L e:Addr}{cls:Value}{dc:Option Addr}{a0:Value}{Q:Unit->Shared->Prop}
  (fr:A.frames=some (env::out)) (ef:env.frame=some L) (fl:Fly B (env::out) e cls dc a0 .none s.heap)
  (k:∀h',Fly B out e cls dc a0 .none h'->s.heap.UpToSlots h'->Q () { s with heap:=h' }):wpAny M A (leaving env (.ref e)) Q E s:=by
 unfold leaving;exact wpAny_bind (qJ fr ef fl λh1 f1 u1=>fA f1 λh2 f2 u2=>k h2 f2.pop (u1.trans u2))
end
end L2
namespace L2
open PySem PySem.Spec PyProof.Rows
structure Bas (l:List Env)(H H':Hp)(h B:Heap):Prop where
 keep:∀b o,h.get? b=some o->H b=none->b∉frs l->B.get? b=some o
 free:∀b o,h.get? b=some o->H b=none->H' b=none
 there:∀b o,h.get? b=some o->b∉frs l->∃o',B.get? b=some o'
 tups:∀b xs,H b=some (.tup xs)->H' b=some (.tup xs)
 frzs:∀b o u,H b=some (.frz o u)->H' b=some (.frz o u)
 tbls:∀b ps,H b=some (.tbl ps)->∃more,H' b=some (.tbl (ps++more))
noncomputable def Slo (l:List Env)(h h':Heap):Prop:=∀b o,b∈frs l->h.get? b=some o->∃sl,h'.get? b=some { o with slots:=sl }
structure Thr (P:Program)(w:World)(l:List Env)(H:Hp)(s:Shared)(ea C:Addr)(dx:Option Addr)(fl:Value)(B:Heap)(H':Hp)(s':Shared):Prop where
 os:s'.os=s.os
 bare:AllBare s'.gens
 fly:∃a0,Fly B l ea (.ref C) dx a0 fl s'.heap
 hok:HOk P w H' B
 bas:Bas l H H' s.heap B
 slo:Slo l s.heap s'.heap
noncomputable def CXv (P:Program)(w:World):CXT:=λl H s E e s'=>∃ea C dx B H',e=.ref ea/\Thr P w l H s ea C dx .none B H' s'/\E (.ref C) dx H'
section
variable {P:Program} {w:World} {l:List Env} {H H':Hp} {s s':Shared} {ea C:Addr} {dx:Option Addr} {fl:Value} {B:Heap}
theorem Thr.stay (t:Thr P w l H s ea C dx fl B H' s'):B.StaysIn s'.heap:=let ⟨_,f⟩:=t.fly;f.stay
theorem Thr.held (t:Thr P w l H s ea C dx fl B H' s'):HOk P w H' s'.heap:=t.hok.kept t.stay
theorem Thr.un (t:Thr P w l H s ea C dx fl B H' s'):Un (frs l) [] H H' s.heap s'.heap where
 keep:=λb o e n hb _=>t.stay b o (t.bas.keep b o e n hb)
 slot:=λb o e _ hb _=>t.slo b o hb e
 free:=λb o e n _=>t.bas.free b o e n
 there:=λb o e _=>by
  by_cases hb:b∈frs l
  ·obtain⟨sl,q⟩:=t.slo b o hb e;exact⟨_,q⟩
  ·obtain⟨o',q⟩:=t.bas.there b o e hb;exact⟨o',t.stay b o' q⟩
 tups:=t.bas.tups
 frzs:=t.bas.frzs
 tbls:=t.bas.tbls
theorem passv0 {X:Cx}:Passes (CXv P w) X E0:=λ_ _ _ _ _ _ _ ⟨_,_,_,_,_,_,_,h⟩=>h.elim
end
section
variable {X:Cx} {pins:List (Addr×Obj)} {σ:St} {H H':Hp} {s s':Shared} {ea C:Addr} {dx:Option Addr} {fl:Value} {B:Heap}
theorem Inv.low (I:Inv X pins σ H s){b:Addr}{o:Obj}(e:X.s₀.heap.get? b=some o)(hb:b∉frs X.outer):b∉frs X.stack:=λz=>by
 rcases List.mem_cons.mp (I.stkSub b z) with r | r
 ·exact absurd (Heap.lt_size e) (by rw[r];exact Nat.not_lt.mpr I.ok.above)
 ·exact hb r
theorem Bas.out (I:Inv X pins σ H s)(hex:X.ex=[])(t:Bas X.stack H H' s.heap B):Bas X.outer X.H₀ H' X.s₀.heap B where
 keep:=λb o e n hb=>t.keep b o (I.base.keep b o e n hb (by rw[hex];simp)) (I.base.free b o e n (by rw[hex];simp)) (I.low e hb)
 free:=λb o e n=>by
  obtain⟨o',q⟩:=I.base.there b o e (by rw[hex];simp);exact t.free b o' q (I.base.free b o e n (by rw[hex];simp))
 there:=λb o e hb=>by
  obtain⟨o',q⟩:=I.base.there b o e (by rw[hex];simp);exact t.there b o' q (I.low e hb)
 tups:=λb xs q=>t.tups b xs (I.base.tups b xs q)
 frzs:=λb o u q=>t.frzs b o u (I.base.frzs b o u q)
 tbls:=λb ps q=>by
  obtain⟨m1,e1⟩:=I.base.tbls b ps q;obtain⟨m2,e2⟩:=t.tbls b _ e1;exact⟨m1++m2,by rw[e2,Array.append_assoc]⟩
theorem Inv.inner (I:Inv X pins σ H s){b:Addr}(hb:b∈frs X.outer):b∈frs X.stack:=by
 rcases I.ok.stk with e | ⟨e,hf⟩
 ·rw[e];exact hb
 ·rw[e]
  unfold frs;rw[List.filterMap_cons,hf];exact List.mem_cons_of_mem _ hb
theorem Slo.out {h':Heap}(I:Inv X pins σ H s)(hex:X.ex=[])(t:Slo X.stack s.heap s'.heap)(u:s'.heap.UpToSlots h'):Slo X.outer X.s₀.heap h':=λb o hb e=>by
 (refine pw01 (I.ok.funs.mem hb) λ_=>ow11 λo1 ho1 nf=>?_);rw[e] at ho1;cases ho1;obtain⟨sl,e1⟩:=I.base.slot b o e (I.ok.frf b hb) hb (by rw[hex];simp);obtain⟨sl2,e2⟩:=t b _ (I.inner hb) e1;obtain⟨sl3,e3⟩:=u b _ e2 nf;exact⟨sl3,e3⟩
end
section
variable {P:Program} {w:World} {K:W.Frag} {mg:Str->Option Value} {base:Heap} {N:List Str} {qual:Str} {scope:Scope} {f:Addr} {cd:Value} {A:Around} {outer:List Env} {s:Shared} {H:Hp} {E:XK}
theorem passX:Passes (CXv P w) (cxOf (CXv P w) P w K mg base N qual scope f cd A outer s H E) E:=by
 rintro pins σ H1 s1 e s' I ⟨ea,C,dx,B,H',rfl,T,q⟩
 obtain⟨a0,fl⟩:=T.fly;show wpAny _ _ (leaving _ _) _ _ _;refine vF I.ok.frames rfl fl λh2 f2 u2=>(iw51 ea C dx B H' rfl ⟨⟨T.os.trans I.os,T.bare,⟨a0,f2⟩,T.hok,T.bas.out I rfl,T.slo.out I rfl u2⟩,q⟩)
end
noncomputable abbrev XObj (C t:Addr)(dx:Option Addr):Obj:={ cls:=.ref C,dict:=dx,data:=.fields #[.ref t,.none,.none,.none,.bool false,.none] }
noncomputable def xo (ea C t:Addr)(dx:Option Addr):HO:=.ext λh=>h.get? ea=some (XObj C t dx)
theorem Dk {P:Program}{w:World}{H:Hp}{h:Heap}{ea C t:Addr}{dx:Option Addr}(e:h.get? ea=some (XObj C t dx)):ObjOk P w H h ea (xo ea C t dx):=
 ⟨e,⟨_,e⟩,λ_ _ q k=>k _ q⟩
theorem sf {P:Program}{w:World}{H:Hp}{h:Heap}{ea C t:Addr}{dx:Option Addr}(x:HOk P w H h)(e:H ea=some (xo ea C t dx)):h.get? ea=some (XObj C t dx):=
 (show ObjOk P w H h ea (xo ea C t dx) from x _ _ e).1
noncomputable def del (H:Hp)(a:Addr):Hp:=λb=>if b=a then none else H b
theorem gS {H:Hp}{a b:Addr}(h:b≠a):del H a b=H b:=by unfold del;rw[if_neg h]
theorem AH {H:Hp}{a:Addr}:del H a a=none:=by unfold del;rw[if_pos rfl]
noncomputable def RaiseTo (X:Cx)(E:XK):Prop:=∀(pins:List (Addr×Obj)) (σ:St) (H:Hp) (s:Shared) (ea C t:Addr) (dx:Option Addr),Inv X pins σ H s->H ea=some (xo ea C t dx)->X.s₀.heap.objs.size<=ea->E (.ref C) dx (del H ea)->X.xe (.ref ea) s
section
variable {X:Cx} {pins:List (Addr×Obj)} {σ:St} {H:Hp} {s:Shared} {ea C t:Addr} {dx:Option Addr}
noncomputable def atThrow (X:Cx)(s:Shared)(ea:Addr):Heap:=W.hideAll s.heap (ea::frs X.stack)
theorem Ed (I:Inv X pins σ H s)(he:H ea=some (xo ea C t dx)):HOk X.prog X.w (del H ea) (atThrow X s ea):=λb u q=>by
 have nb:b≠ea:=λz=>by rw[z,AH] at q;cases q
 rw[gS nb] at q;have nown:∀c y,H c=some (.own y)->c≠ea:=λc y r z=>by rw[z,he] at r;cases r
 have ntup:∀c xs,H c=some (.tup xs)->c≠ea:=λc xs r z=>by rw[z,he] at r;cases r
 have nfr:∀c u,H c=some u->c∉frs X.stack:=λc u r z=>by rw[I.stkFree c z] at r;cases r
 refine(I.hok b u q).stay (λc v hc r=>W.hideAll_get _ r λm=>?_) (λc r=>by rw[gS (nown c b r)];exact r) λc xs r=>by rw[gS (ntup c xs r)];exact r
 rcases List.mem_cons.mp m with z | z
 ·rcases hc with r' | r'
  ·exact nb (r'.symm.trans z)
  ·exact nown c b r' z
 ·rcases hc with r' | r'
  ·rw[r'] at z;exact nfr b u q z
  ·exact nfr c _ r' z
theorem Ee (I:Inv X pins σ H s)(hex:X.ex=[])(he:H ea=some (xo ea C t dx))(hn:X.s₀.heap.objs.size<=ea):Bas X.outer X.H₀ (del H ea) X.s₀.heap (atThrow X s ea) where
 keep:=λb o e n hb=>W.hideAll_get _ (I.base.keep b o e n hb (by rw[hex];simp)) λm=>by
  rcases List.mem_cons.mp m with z | z
  ·exact absurd (Heap.lt_size e) (by rw[z];exact Nat.not_lt.mpr hn)
  ·exact I.low e hb z
 free:=λb o e n=>by
  rw[gS λz=>absurd (Heap.lt_size e) (by rw[z];exact Nat.not_lt.mpr hn)];exact I.base.free b o e n (by rw[hex];simp)
 there:=λb o e hb=>by
  obtain⟨o',q⟩:=I.base.there b o e (by rw[hex];simp);refine⟨o',W.hideAll_get _ q λm=>?_⟩;rcases List.mem_cons.mp m with z | z
  ·exact absurd (Heap.lt_size e) (by rw[z];exact Nat.not_lt.mpr hn)
  ·exact I.low e hb z
 tups:=λb xs q=>by
  have r:=I.base.tups b xs q;rw[gS λz=>by rw[z,he] at r;cases r];exact r
 frzs:=λb o u q=>by
  have r:=I.base.frzs b o u q;rw[gS λz=>by rw[z,he] at r;cases r];exact r
 tbls:=λb ps q=>by
  obtain⟨m,r⟩:=I.base.tbls b ps q;exact⟨m,by rw[gS λz=>by rw[z,he] at r;cases r];exact r⟩
theorem Cg (I:Inv X pins σ H s):s.heap.FunFrames (atThrow X s ea) X.stack:=by
 refine W.funFrames_hide I.stack λenv hm a e=>List.mem_cons_of_mem _ ?_;exact List.mem_filterMap.mpr (iw11 env hm e)
end
section
variable {P:Program} {w:World} {K:W.Frag} {mg:Str->Option Value} {base:Heap} {N:List Str} {qual:Str} {scope:Scope} {f:Addr} {cd:Value} {A:Around} {outer:List Env} {s:Shared} {H:Hp} {E:XK}
theorem raiseX:RaiseTo (cxOf (CXv P w) P w K mg base N qual scope f cd A outer s H E) E:=by
 intro pins σ H1 s1 ea C t dx I he hn q;have ge:=sf I.hok he;show wpAny _ _ (leaving _ _) _ _ _;refine t7 (B:=atThrow _ s1 ea) I.ok.frames (Cg I) rfl ge (λb o z=>W.of_hideAll _ z) (W.hideAll_none _ List.mem_cons_self) rfl rfl rfl λh2 f2 u2=>?_;exact(iw51 ea C dx _ _ rfl ⟨⟨I.os,I.bare,⟨_,f2⟩,Ed I he,Ee I rfl he hn,Slo.out I rfl (λb o _ e=>⟨o.slots,e⟩) u2⟩,q⟩)
end
section
variable {P:Program} {w:World} {K:W.Frag} {mg:Str->Option Value} {base:Heap}
theorem Fun.okX {x qual:Str}{st:Stmt}{f:Addr}{fd:FuncData}{N ps:List Str}{k:Nat}{sp:Sp}(F:Fun K x qual st f fd)(S:FnScope N ps (defScope st))(len:∀vs H Q E,sp vs H Q E->vs.length=ps.length)
  (hbody:∀(cdv:Value) (A:Around) (outer:List Env) (s:Shared) (H:Hp) (vs:List V) (Q:VK) (E:XK),Room k (A.deeper (envOfC qual (defScope st) s.heap.objs.size f cdv))->sp vs H Q E->
   ∃t,PSs (cxOf (CXv P w) P w K mg base N qual (defScope st) f cdv A outer s H E) (defBody st) t/\t { nx:=λ_ H'=>Q .non H',rt:=Q } (start N vs) H):FnOk P w K mg base (CXv P w) (k+1) f fd ps sp:=by
 (refine pw60 F.ex λoc od kV doc pm an=>ow32 λcdv ct osl zz1 lk hcd=>?_;subst zz1);exact xb lk hcd S len λA outer s H vs Q E hr hsp=>hbody cdv A outer s H vs Q E hr hsp
end
end L2
namespace L2
open PySem PySem.Spec PyProof.Rows Builtin Builtin.ObjectAttr
noncomputable def valTail:List Value:=[.type "ValueError",.type "Exception",.type "BaseException",.type "object"]
noncomputable def xOver:List Value->Bool
 | .ref _::r=>xOver r
 | l=>l == valTail
theorem iF:∀{l:List Value},xOver l=true->∃rs:List Addr,l=rs.map Value.ref++valTail
 | [],h=>by cases h
 | v::r,h=>by
  cases v with
  | ref a=>
   obtain⟨rs,e⟩:=iF (l:=r) h;exact⟨a::rs,by rw[e];rfl⟩
  | _=>exact⟨[],beq_iff_eq.mp h⟩
theorem t8 {X:String}{b:Bool}(e:valTail.contains (.type X)=b):∀rs:List Addr,(rs.map Value.ref++valTail).contains (.type X)=b
 | []=>e
 | a::r=>by
  rw[List.map_cons,List.cons_append,List.contains_cons,t8 e r];rfl
theorem du {l:List Value}(h:xOver l=true){X:String}{b:Bool}(e:valTail.contains (.type X)=b):l.contains (.type X)=b:=by
 obtain⟨rs,rfl⟩:=iF h;exact t8 e rs
theorem vG (self:Value){l:List Value}(h:xOver l=true):refuseLoop self "__setattr__" l=pure ():=by
 obtain⟨rs,rfl⟩:=iF h;clear h
 induction rs with
 | nil=>exact PySem.F.store_ValueError.passes self
 | cons a r ih=>rw[List.map_cons,List.cons_append,refuseLoop_ref];exact ih
noncomputable def xIn (K:W.Frag)(C:Addr):Bool:=match K.lookup C with
 | some ⟨.type "type",_,.cls cd,sl⟩=>(match cd.mro,sl.toList with
  | .ref C'::bm,[_,_,_,_,some (.builtin n),_]=>C' == C && (!cd.hasDel && (cd.hasDict && (xOver bm && n == "ValueError.__new__")))
  | _,_=>false)
 | _=>false
theorem kO {K:W.Frag}{C:Addr}(q:xIn K C=true):∃nm qn N bs bm sn sub ab col dd k0 k1 k2 k3 k5,
  K.lookup C=some (excClassObj nm qn C N bs bm true sn sub ab col dd k0 k1 k2 k3 k5 "ValueError.__new__")/\xOver bm=true:=by
 unfold xIn at q
 split at q
 ·rename_i dd cd sl ho
  split at q
  ·rename_i C' bm k0 k1 k2 k3 n k5 hm hs
   simp only[Bool.and_eq_true,beq_iff_eq,Bool.not_eq_true'] at q;(revert q;refine ow04 λzz1 q1 q2 q3 zz2=>?_;subst zz1;subst zz2);obtain⟨nm,bs,mro,ns,qn,hd,sn,sub,ab,col,de⟩:=cd;dsimp only at hm q1 q2;subst hm q1 q2;obtain⟨sl⟩:=sl;dsimp only at hs;subst hs;exact(iw60 nm qn ns bs bm sn (iw60 sub ab col dd k0 k1 (iw31 k2 k3 k5 ho q3)))
  ·cases q
 ·cases q
structure XCls (K:W.Frag)(C:Addr):Prop where
 x:xIn K C=true
 kp:W.keepIn K (.ref C)=true
 sa:W.findIn K (.ref C) "__setattr__"=some (some (.builtin "object.__setattr__"))
 ga:W.findIn K (.ref C) "__getattribute__"=some (some (.builtin "BaseException.__getattribute__"))
 gn:W.findIn K (.ref C) "__getattr__"=some none
 hd:W.hasDictIn K C=true
section
variable {M:Model} {A:Around} {E:Value->Shared->Prop} {h:Heap} {g:Array GenState} {d:Drawn} {t:Nat} {os:OsState}
variable {nm qn:Str} {C N:Addr} {bs bm:List Value} {hdct:Bool} {sn:List Str} {sub:List Value} {ab:Bool} {col:Option Bool} {dd:Option Addr} {k0 k1 k2 k3 k5:Option Value}
theorem Ci {us:List Value}{Q:Unit->Shared->Prop}(hC:h.get? C=some (excClassObj nm qn C N bs bm hdct sn sub ab col dd k0 k1 k2 k3 k5 "ValueError.__new__"))(ho:xOver bm=true)
  (q:Q () ⟨h,g,d,t,os⟩):wpAny M A (checkBuiltinCall "ValueError.__new__" ⟨.ref C::us,[]⟩) Q E ⟨h,g,d,t,os⟩:=by
 have F:=PySem.F.excBase_ValueError;have c1:(Value.ref C::bm).contains (.type "ValueError")=true:=by rw[List.contains_cons,du ho (b:=true) (by decide),Bool.or_true]
 have st:=F.noStar;simp only[checkBuiltinCall,F.newKind,F.newSplit,F.newRow]
 repeat (first | (refine wpAny_loadPart_at hC ?_) | (refine wpAny_isSubtype_exc hC ?_;rw[c1]) | (refine wpAny_staticBase_exc hC ?_) | (refine wpAny_madeBy_exc hC ?_) | (simp only[bne_self_eq_false,Bool.false_eq_true,if_false]) | wp_step)
 exact q
end
section
variable {prog:Program} {w:World} {A:Around} {R:Result->Shared->Prop} {h:Heap} {g:Array GenState} {d:Drawn} {t:Nat} {os:OsState}
variable {nm qn:Str} {C N:Addr} {bs bm:List Value} {hdct:Bool} {sn:List Str} {sub:List Value} {ab:Bool} {col:Option Bool} {dd:Option Addr} {k0 k1 k2 k3 k5:Option Value}
noncomputable abbrev xTup (us:List Value):Obj:={ cls:=.type "tuple",data:=.seq us.toArray }
theorem E4 {us:List Value}(hC:h.get? C=some (excClassObj nm qn C N bs bm hdct sn sub ab col dd k0 k1 k2 k3 k5 "ValueError.__new__"))(ho:xOver bm=true)
  (q:R (.ok (.ret (.ref (h.objs.size+1)))) ⟨(h.push (xTup us)).push (XObj C h.objs.size none),g,d,t,os⟩) (hl:us.length<=sizeLine) :
  codeAny (model prog w) A (.builtin "ValueError.__new__" ⟨.ref C::us,[]⟩) R ⟨h,g,d,t,os⟩:=by
 have F:=PySem.F.excBase_ValueError;have en:=F.ends;have c1:(Value.ref C::bm).contains (.type "ValueError")=true:=by rw[List.contains_cons,du ho (b:=true) (by decide),Bool.or_true]
 have c2:(Value.ref C::bm).contains (.type "AttributeError")=false:=by rw[List.contains_cons,du ho (b:=false) (by decide)];rfl
 have c3:(Value.ref C::bm).contains (.type "NameError")=false:=by rw[List.contains_cons,du ho (b:=false) (by decide)];rfl
 refine codeAny_builtinAt F.entry ?_;unfold Builtin.«BaseException.__new__»;refine PySem.wpAt_bind ?_;show PySem.wpAt _ _ _ (stack >>= _) _ _ _;refine PySem.wpAt_bind (PySem.wpAt_stack λ_ _=>PySem.wpAt_of_wpAny ?_)
 wp_walk
 refine PySem.wpAt_of_wpAny ?_;rw[F.owner]
 repeat (first | (with_reducible refine wpAny_madeHere_exc F.canon hC ?_) | (with_reducible refine wpAny_loadPart_at hC ?_) | (with_reducible refine wpAny_isSubtype_exc hC ?_;first | rw[c1] | rw[c2] | rw[c3]) | wp_step)
 show R _ _;rw[Heap.size_push];exact q
theorem Cj {K:W.Frag}{f:Addr}{hh:Heap}{us:List Value}{Q:Fin->Shared->Prop}{E:Value->Shared->Prop}(X:K.In hh)(c:XCls K C)(hi:W.findIn K (.ref C) "__init__"=some (some (.ref f)))(hf:W.isFn K (.ref f)=true)(hl:us.length<=sizeLine)
  (hq:wpAny (model prog w) A (call (.ref f) (.ref (hh.objs.size+1)::us)) (λr s'=>r=.none/\Q (.done (.ret (.ref (hh.objs.size+1)))) s') E ⟨(hh.push (xTup us)).push (XObj C hh.objs.size none),g,d,t,os⟩) :
  wpAny (model prog w) A (Builtin.«type.__call__» ⟨.ref C::us,[]⟩) Q E ⟨hh,g,d,t,os⟩:=by
 (refine pw60 (kO c.x) λnm qn N bs bm sn=>ow60 λsub ab col dd k0 k1=>ow31 λk2 k3 k5 hK ho=>?_);have hC:=X _ _ hK;have F:=PySem.F.excBase_ValueError;have k:∀b o,hh.get? b=some o->((hh.push (xTup us)).push (XObj C hh.objs.size none)).get? b=some o:=λb o e=>Heap.get?_push_of_some _ (Heap.get?_push_of_some _ e)
 repeat (first | (with_reducible refine wpAny_loadPart_at hC ?_) | (with_reducible refine wpAny_madeBy_exc hC ?_) | wp_step)
 refine codeAny_call_builtin_code (Code.quiet_builtin _ F.quiet) (Ci hC ho ?_);refine E4 hC ho ?_ hl;show wpAny _ _ _ _ _ _;have hC1:=k _ _ hC;have hx:((hh.push (xTup us)).push (XObj C hh.objs.size none)).get? (hh.objs.size+1)=some ({ cls:=.ref C,dict:=none,data:=.fields #[.ref hh.objs.size,.none,.none,.none,.bool false,.none] }:Obj):=by heap_get
 have c4:(Value.ref C::bm).contains (.ref C)=true:=by simp
 unfold isInstance
 repeat (first | (with_reducible refine wpAny_loadPart_at hx ?_) | (with_reducible refine wpAny_isSubtype_exc hC1 ?_;rw[c4]) | wp_step)
 show wpAny _ _ (typeLookup (.ref C) _) _ _ _;refine((W.looks_findIn X hi).keeps k).at ?_;refine wpAny_holding (wpAny_bind (((W.bind_fn X (.ref (hh.objs.size+1)) (beq_iff_eq.mp hf)).keeps k).at ?_));refine wpAny_bind (wpAny_mono hq (λr s' z=>?_) λ_ _ z=>z);obtain⟨rfl,z⟩:=z
 wp_walk
 exact z
theorem x_call {K:W.Frag}{f:Addr}{s:Shared}{us:List Value}{Q:Value->Shared->Prop}{E:Value->Shared->Prop}(X:K.In s.heap)(c:XCls K C)(hi:W.findIn K (.ref C) "__init__"=some (some (.ref f)))(hf:W.isFn K (.ref f)=true)(hl:us.length<=sizeLine)
  (hq:wpAny (model prog w) (A.under (.builtin "type.__call__" ⟨.ref C::us,[]⟩)) (call (.ref f) (.ref (s.heap.objs.size+1)::us)) (λr s'=>r=.none/\Q (.ref (s.heap.objs.size+1)) s') E
   { s with heap:=(s.heap.push (xTup us)).push (XObj C s.heap.objs.size none) }):wpAny (model prog w) A (call (.ref C) us) Q E s:=by
 obtain⟨hh,g,d,t,os⟩:=s;(refine pw60 (kO c.x) λnm qn N bs bm sn=>ow60 λsub ab col dd k0 k1=>ow31 λk2 k3 k5 hK ho=>?_);have hC:=X _ _ hK;dsimp only at hC;have f1:=tc_lookup;have f2:=tc_bind (.ref C);have hT:(⟨hh,g,d,t,os⟩:Shared).TypeIs (.ref C) "type":=(iw11 _ hC rfl)
 refine wpAny_call (codeAny_of_tree ?_);show wpAny _ _ (callAny (.ref C) _) _ _ _
 repeat (any_goals (first | assumption | (with_reducible refine wpAny_loadPart_at hC ?_) | wp_step))
 refine⟨rfl,?_⟩;exact codeAny_call_builtin_at (Code.quiet_builtin _ (s!"d")) entry_typeCall (wpAny_check_type_call_sub hC (Cj X c hi hf hl hq))
end
section
variable {prog:Program} {w:World} {A:Around} {E:Value->Shared->Prop} {s:Shared} {K:W.Frag} {x C:Addr} {name:Str} {v:Value}
theorem E5 {ox:Obj}{od:Option Obj}{expr:Bool}{Q:Value->Shared->Prop}(X:K.In s.heap)(I:W.InstAt s.heap x ox C od)(c:xIn K C=true)(hga:W.findIn K (.ref C) "__getattribute__"=some (some (.builtin "BaseException.__getattribute__")))(hgn:W.findIn K (.ref C) "__getattr__"=some none)
  (hf:W.findObj K C od name=some (.value v)) (hh:W.handedIn v=true) (h:Q v { s with toks:=s.toks+1 }):wpAny (model prog w) A (getAttr (.ref x) name expr) Q E s:=by
 obtain⟨h0,g,d,t,os⟩:=s;(refine pw60 (kO c) λnm qn N bs bm sn=>ow60 λsub ab col dd k0 k1=>ow31 λk2 k3 k5 hK ho=>?_);have L0:=I.type (M:=model prog w);have L1:=W.looks_findIn (M:=model prog w) X hga;have L2:=W.looks_findIn (M:=model prog w) X hgn;have L3:=W.looks_find (M:=model prog w) X I hf;unfold getAttr getAttrBy;refine wpAny_bind (wpAny_mkText (wpAny_holding (wpAny_bind (L0.at (wpAny_bind (L1.at ?_))))));show wpAny _ _ (getAttrByItsOwn _ _ _ _ _ _) _ _ _;unfold getAttrByItsOwn;have G:=PySem.F.excAttr_ValueError.ga;have e1:callGetattribute (.ref x) (.str name t) (.builtin "BaseException.__getattribute__") expr=boundAndCalled (.builtin "BaseException.__getattribute__") (.ref x) (.str name t):=by
  unfold callGetattribute;cases expr<;>rfl
 have LB:W.Looks (model prog w) h0 (isInstance (.ref x) (.type "BaseException")) true:=L0.andThen (W.looks_mroIn X (by
  obtain⟨cd,hc,hcm⟩:∃cd,W.clsIn K C=some cd/\cd.mro=.ref C::bm:=(iw11 _ (by unfold W.clsIn;rw[hK]) rfl)
  unfold W.mroIn
  rw[hc,Option.bind_some,hcm,if_neg (by simp),List.contains_cons,du ho (b:=true) (by decide),Bool.or_true]))
 refine wpAny_bind (show wpAny _ _ (typeLookup (.ref C) "__getattr__") _ _ _ from L2.at ?_);refine wpAny_bind (wpAny_attempt (wpAny_holding ?_));rw[e1];unfold boundAndCalled;rw[G.bind];refine wpAny_bind (wpAny_pure (wpAny_call (codeAny_call_builtin G.plain PySem.F.entry_bexc_ga (@W.check_slot (model prog w) _ _ ⟨h0,g,d,t+1,os⟩ "BaseException.__getattribute__" "BaseException" "__getattribute__" (.ref x) [.str name t] [] _ (s!"d") (s!"d") LB (PySem.F.args_bexc_ga _ _) ?_))));refine wpAny_bind (wpAny_pure (wpAny_bind (wpAny_pure (wpAny_bind (L0.at (wpAny_bind (L3.at ?_)))))));refine wpAny_pure ?_;show wpAny _ _ (handedOut v) _ _ _;rw[W.handedOut_of hh];exact wpAny_pure h
end
end L2
namespace L2
open PySem PySem.Spec PyProof.Rows Builtin Builtin.ObjectAttr
noncomputable def xdo (d:Addr)(fs:List (Str×V)):HO:=.ext λh=>∃mA,h.Ns1 d mA/\∀f,RelO (fs.lookup f) (mA f)
theorem AI {P:Program}{w:World}{H:Hp}{h:Heap}{d:Addr}{fs:List (Str×V)}{mA:Str->Option Value}(e:h.Ns1 d mA)(r:∀f,RelO (fs.lookup f) (mA f)):ObjOk P w H h d (xdo d fs):=by
 refine⟨(iw11 mA e r),?_,λh1 h2 ⟨m,e1,r1⟩ k=>(iw11 m ?_ r1)⟩
 ·(revert e;refine ow31 λo _ _ e1 _=>?_)
  exact⟨o,e1⟩
 ·exact e1.at k
theorem xp {P:Program}{w:World}{H:Hp}{h:Heap}{d:Addr}{fs:List (Str×V)}(x:HOk P w H h)(e:H d=some (xdo d fs)):∃mA,h.Ns1 d mA/\∀f,RelO (fs.lookup f) (mA f):=
 (show ObjOk P w H h d (xdo d fs) from x _ _ e).1
theorem yy {fs:List (Str×V)}{mA:Str->Option Value}(r:∀f,RelO (fs.lookup f) (mA f)):PySem.Within mA (fs.map (·.1)):=λy hy=>by
 cases e:fs.lookup y with
 | none=>
  have:=r y;rw[e] at this;exact absurd (RelO.none_of this) hy
 | some v=>exact List.mem_map.mpr (iw11 (y,v) (PySem.mem_of_lookup e) rfl)
section
variable {prog:Program} {w:World} {A:Around} {E:Value->Shared->Prop} {s:Shared} {K:W.Frag} {x C t dx:Addr} {name:Str} {v:Value}
theorem Dl {ox:Obj}{od:Option Obj}{tk:Tok}{R:Result->Shared->Prop}(X:K.In s.heap)(I:W.InstAt s.heap x ox C od)(c:XCls K C)(ht:W.takerIn K C name=some none)
  (h:∀b,wpAny (model prog w) A.in1 (storeInOwnDict (.ref x) (.ref C) (.str name tk) name v b)
   (λfin s'=>match fin with | .done f=>R (.ok f) s' | .again c'=>c'.quiet=true/\codeAny (model prog w) A c' R s') (λe s'=>R (.error e) s') s) :
  codeAny (model prog w) A (.call (.builtin "object.__setattr__") ⟨[.ref x,.str name tk,v],[]⟩) R s:=by
 have SF:=PySem.F.store_object;(refine pw60 (kO c.x) λnm qn N bs bm sn=>ow60 λsub ab col dd k0 k1=>ow31 λk2 k3 k5 hK ho=>?_);obtain⟨cd,hc,hcm⟩:∃cd,W.clsIn K C=some cd/\cd.mro=.ref C::bm:=(iw11 _ (by unfold W.clsIn;rw[hK]) rfl)
 have hsub:W.Looks (model prog w) s.heap (isInstance (.ref x) (.type "object")) true:=I.type.andThen (W.looks_mroIn X (by
  unfold W.mroIn;rw[hc,Option.bind_some,hcm,if_neg (by simp)]
  rw[List.contains_cons,du ho (b:=true) (by decide),Bool.or_true]))
 refine codeAny_call_builtin SF.slot.plain SF.entry (@W.check_slot (model prog w) _ _ s "object.__setattr__" "object" "__setattr__" (.ref x) [.str name tk,v] [] _ SF.kind SF.split hsub (SF.args (.ref x) (.str name tk) v) ?_);(refine pw11 (Option.bind_eq_some_iff.mp ht) λattr ha hr=>?_);have hm:W.Looks (model prog w) s.heap (mroOf (.ref C)) (.ref C::bm):=hcm▸(W.looks_clsIn X hc).andThen .now;have L3:W.Looks (model prog w) s.heap (storeTaker? attr) none:=by
  cases attr with
  | none=>cases hr;exact .now
  | some a=>
   (refine pw11 (Option.map_eq_some_iff.mp hr) λb hb e=>?_);cases b with
   | true=>cases e
   | false=>exact(W.looks_takesIn X hb).andThen .now
 rw[W.osa_eq,refuse_eq];refine wpAny_bind (wpAny_bind (I.type.here (wpAny_bind (hm.here ?_))));rw[refuseLoop_ref,vG _ ho];refine wpAny_pure (wpAny_bind (I.type.here (wpAny_bind ((W.looks_findIn X ha).here (wpAny_bind (L3.here ?_))))));exact h _
theorem Ef {Q:Unit->Shared->Prop}(X:K.In s.heap)(hx:s.heap.get? x=some (XObj C t none))(c:XCls K C)(ht:W.takerIn K C name=some none)
  (h:∀h' tk,h'.Ns1 s.heap.objs.size (λy=>if y=name then some v else none)->h'.get? x=some (XObj C t (some s.heap.objs.size))->(∀b o,b≠x->s.heap.get? b=some o->h'.get? b=some o)->Q () { s with heap:=h',toks:=tk }) :
  wpAny (model prog w) A (setAttr (.ref x) name v) Q E s:=by
 have J:W.InstAt s.heap x (XObj C t none) C none:=⟨hx,rfl,rfl,trivial⟩
 refine W.set_plain X J c.sa (Dl (s:={ s with toks:=s.toks+1 }) X J c ht λb=>?_);(refine pw11 (W.any_some c.hd) λcd hc hd=>?_);obtain⟨hh,g,dr,tk,os⟩:=s;dsimp only at hx X h ⊢;refine wpAny_bind (wpAny_pure (wpAny_bind (wpAny_bind (wpAny_loadPart hx (wpAny_bind (W.Looks.here (s:=⟨hh,g,dr,tk+1,os⟩) (W.looks_clsIn X hc) ?_))))));rw[hd];have hx1:(hh.push W.emptyDict).get? x=some (XObj C t none):=Heap.get?_push_of_some _ hx;have nx:x≠hh.objs.size:=Nat.ne_of_lt (Heap.lt_size hx);refine wpAny_bind (wpAny_alloc' (wpAny_bind (wpAny_update' hx1 (wpAny_pure (wpAny_bind (wpAny_pure (wpAny_bind ?_)))))));have gd:((hh.push W.emptyDict).update x λo=>{ o with dict:=some hh.objs.size }).get? hh.objs.size=some W.emptyDict:=
  (Heap.get?_update_ne _ _ _ _ (Ne.symm nx)).trans (Heap.get?_push_at rfl rfl)
 have nd:((hh.push W.emptyDict).update x λo=>{ o with dict:=some hh.objs.size }).Ns hh.objs.size (λ_=>none):=(iw33 _ (#[]) _ gd rfl (λe he=>absurd he (by simp)) (λ_=>rfl))
 refine wpAny_nsSet1 (Heap.Ns1.of_empty nd) λh' n' sb=>?_;(refine pw32 (n'.count (Within.cons name v Within.nil)) λoD esD epD hoD hdD hcD=>?_);refine wpAny_bind (wpAny_lookBehind hoD (by rw[hdD];exact pastItsLine_dict (Nat.le_trans hcD (by rw[List.length_cons,List.length_nil,sizeLine_eq];omega))) ?_);refine wpAny_pure (h h' _ n' ?_ λb o hb e=>?_)
 ·refine(sb.2 x nx).trans ?_
  exact Heap.get?_update_self _ hx1 rfl
 ·exact(sb.2 b (Nat.ne_of_lt (Heap.lt_size e))).trans ((Heap.get?_update_ne _ _ _ _ hb).trans (Heap.get?_push_of_some _ e))
theorem Eg {mA:Str->Option Value}{ns:List Str}{Q:Unit->Shared->Prop}(X:K.In s.heap)(hx:s.heap.get? x=some (XObj C t (some dx)))(hn:s.heap.Ns1 dx mA)(ne:dx≠x)(c:XCls K C)(ht:W.takerIn K C name=some none)
  (hw:PySem.Within mA ns) (hz:ns.length<=1000) (h:∀h' tk,h'.Ns1 dx (λy=>if y=name then some v else mA y)->Heap.SameBut dx s.heap h'->Q () { s with heap:=h',toks:=tk }) :
  wpAny (model prog w) A (setAttr (.ref x) name v) Q E s:=by
 (refine pw11 (lM hn) λod ho _=>?_);have J:W.InstAt s.heap x (XObj C t (some dx)) C (some od):=⟨hx,rfl,rfl,ho⟩
 refine W.set_plain X J c.sa (Dl (s:={ s with toks:=s.toks+1 }) X J c ht λb=>?_);(refine pw11 (W.any_some c.hd) λcd hc hd=>?_);refine wpAny_bind (wpAny_pure (wpAny_bind (wpAny_bind (wpAny_loadPart hx (wpAny_bind (W.Looks.here (s:={ s with toks:=s.toks+1 }) (W.looks_clsIn X hc) ?_))))));rw[hd];refine wpAny_pure (a:=some dx) (wpAny_bind (wpAny_pure (wpAny_bind ?_)));refine wpAny_nsSet1 (s:={ s with toks:=s.toks+1 }) hn λh' n' sb=>?_;(refine pw32 (n'.count (Within.cons name v hw)) λoD esD epD hoD hdD hcD=>?_);refine wpAny_bind (wpAny_lookBehind hoD (by rw[hdD];exact pastItsLine_dict (Nat.le_trans hcD (by rw[List.length_cons,sizeLine_eq];omega))) ?_);exact wpAny_pure (h h' _ n' sb)
end
noncomputable def sXs (K:W.Frag)(ta tv:TE)(f:Str):TS:=λD σ H=>tv σ H λy H1=>ta σ H1 λx H2=>∃ea C t,x=.ref ea/\XCls K C/\NoAttr K C f/\
 ((H2 ea=some (xo ea C t none)/\∀d,H2 d=none->d≠ea->D.nx σ (upd (upd H2 d (xdo d [(f,y)])) ea (xo ea C t (some d))))\/
  ∃d fs,d≠ea/\H2 ea=some (xo ea C t (some d))/\H2 d=some (xdo d fs)/\fs.length<=100/\D.nx σ (upd H2 d (xdo d (putF f y fs))))
section
variable {X:Cx} {o value:Expr} {f:Str} {pos pos':Pos} {ta tv:TE}
theorem kP (ha:PE X o ta)(hv:PE X value tv)(hs:swapsWith value (some (.Attribute o f pos')) pos.line X.env=pure false):PS X (.Assign [.Attribute o f pos'] value pos) (sXs X.K ta tv f):=by
 intro pins s σ H D I h;refine plainObj_wpAny_Assign_Attribute (thnE (hv pins s σ H _ I h) λu s1 y H1 I1 ry q=>thn (ha pins s1 σ H1 _ I1 q) λov s2 zz=>pw22 zz λx H2 I2 rx=>ow33 λea C t ex c n q2=>?_) hs;subst ex;obtain rfl:ov=Value.ref ea:=rx;rcases q2 with⟨he,q3⟩ | ⟨d,fs,nd,he,hd,hl,q3⟩
 ·have ge:=sf I2.hok he
  refine Ef I2.kIn ge c n.taker λh' tk n' gx k=>?_;have hfr:H2 s2.heap.objs.size=none:=I2.hok.fresh (Nat.le_refl _);have nde:s2.heap.objs.size≠ea:=Nat.ne_of_gt (Heap.lt_size ge);refine(iw21 σ _ (I2.un (t':=tk) (h':=h') ?_ ?_) (q3 _ hfr nde))
  ·have ne1:∀b,H2 b=none->b≠ea:=λb e z=>by rw[z,he] at e;cases e
   have kp:∀b o,s2.heap.get? b=some o->H2 b=none->h'.get? b=some o:=λb o e n=>k b o (ne1 b n) e;refine⟨λb o e n _ _=>kp b o e n,λb o e n _ _=>⟨o.slots,kp b o e n⟩,λb o e n _=>?_,λb o e _=>?_,λb xs e=>?_,λb o u e=>?_,λb ps e=>⟨#[],?_⟩⟩
   ·rw[aj (ne1 b n),aj (Nat.ne_of_lt (Heap.lt_size e))];exact n
   ·by_cases hb:b=ea
    ·rw[hb];exact⟨_,gx⟩
    ·exact⟨o,k b o hb e⟩
   ·rw[aj (ie e he (by unfold xo;intro z;cases z)),aj (ay e hfr)];exact e
   ·rw[aj (ie e he (by unfold xo;intro z;cases z)),aj (ay e hfr)];exact e
   ·rw[aj (ie e he (by unfold xo;intro z;cases z)),aj (ay e hfr),e];simp
  ·intro b u e
   by_cases hb:b=ea
   ·subst hb;rw[ae] at e;cases e;exact Dk gx
   ·rw[aj hb] at e
    by_cases hb2:b=s2.heap.objs.size
    ·subst hb2;rw[ae] at e;cases e
     refine AI n' λg=>?_;show RelO (List.lookup g [(f,y)]) (if g=f then some u else none)
     by_cases z:g=f
     ·subst z;rw[if_pos rfl];simp only[List.lookup,beq_self_eq_true];exact ry
     ·have zb:(g == f)=false:=beq_eq_false_iff_ne.mpr z
      rw[if_neg z];simp only[List.lookup,zb];trivial
    ·rw[aj hb2] at e
     have nc:∀c z,H2 c=some z->(∀φ,z≠.ext φ)->c≠ea/\c≠s2.heap.objs.size:=λc z r hz=>⟨λw'=>by rw[w',he] at r;exact hz _ (Option.some.inj r).symm,ay r hfr⟩
     refine(I2.hok b u e).stay (λc v hc r=>k c v ?_ r) (λc r=>?_) λc xs r=>?_
     ·rcases hc with z | z
      ·rw[z];exact hb
      ·exact(nc c _ z (λφ w'=>by cases w')).1
     ·rw[aj (nc c _ r (λφ w'=>by cases w')).1,aj (nc c _ r (λφ w'=>by cases w')).2];exact r
     ·rw[aj (nc c _ r (λφ w'=>by cases w')).1,aj (nc c _ r (λφ w'=>by cases w')).2];exact r
 ·have ge:=sf I2.hok he
  (refine pw11 (xp I2.hok hd) λmA hn hr=>?_);refine Eg I2.kIn ge hn nd c n.taker (yy hr) (by rw[List.length_map];omega) λh' tk n' sb=>?_;refine(iw21 σ _ (I2.write (x:=d) (e:=d) (t':=tk) (h':=h') (by rw[hd];exact True.intro) (.inl rfl) (λb o hb e=>(sb.2 b hb).trans e) ?_ (AI n' λg=>?_)) q3)
  ·(revert n';refine ow31 λo _ _ e _=>?_);exact⟨o,e⟩
  ·show RelO ((putF f y fs).lookup g) (if g=f then some u else mA g)
   rw[iC]
   by_cases z:g=f
   ·rw[if_pos z,if_pos z];exact ry
   ·rw[if_neg z,if_neg z];exact hr g
end
noncomputable def oC (C:Addr)(names:List Str):Sp:=λvs H Q _=>∃(ea t:Addr) (ys:List V),vs=.ref ea::ys/\ys.length=names.length/\H ea=some (xo ea C t none)/\
 ∀d H',H d=none->d≠ea->(∀b,b≠d->b≠ea->H' b=H b)->H' ea=some (xo ea C t (some d))->H' d=some (xdo d (names.zip ys))->Q .non H'
noncomputable def tRaise (C:Addr)(names:List Str)(E:XK)(t:TA):TS:=λ_ σ H=>t σ H λys H1=>ys.length=names.length/\∀d H',H1 d=none->Same H1 H'->H' d=some (xdo d (names.zip ys))->E (.ref C) (some d) H'
section
variable {X:Cx} {k:Nat} {f C:Addr} {fd:FuncData} {ps names:List Str} {E:XK} {x:Str} {np cpos pos:Pos} {e:Expr} {es:List Expr} {t:TA}
theorem eG (c:XCls X.K C)(hi:W.findIn X.K (.ref C) "__init__"=some (some (.ref f)))(hf:W.isFn X.K (.ref f)=true)(F:FnOk X.prog X.w X.K X.mg X.base CX0 k f fd ps (oC C names))(hr:Room (k+1) X.A)
  (hg:Gl X x) (hm:X.mg x=some (.ref C)) (hb:Binds X.K fd ps []) (hnl:names.length<=100) (hx:RaiseTo X E) (ha:PA X (e::es) t) (hdb:autoParam ((x == ("__debug__":Str))=false) L2.dft1._auto_1)
  (hst:autoParam (starEach (e::es) X.env=(false,eval e X.env)::starEach es X.env) L2.dft3._auto_1) (hpl:autoParam ((backTo cpos (starEach es X.env)).any (·.1)=false) L2.dft3._auto_1) :
  PS X (.Raise (some (.Call (.Name x np) (e::es) [] cpos)) none pos) (tRaise C names E t):=by
 intro pins s σ H D I h;rw[arm_exec_Raise];show wpAny _ _ (do standAt pos;raiseStmt X.env (some (do let v <-eval (.Call (.Name x np) (e::es) [] cpos) X.env;standAt pos;pure v)) none) _ _ s;refine wpAny_bind (wpAny_standAt ?_);unfold raiseStmt;refine wpAny_bind (wpAny_bind (thn (Q:=λu s1=>∃ea tt dx H2,u=Value.ref ea/\X.s₀.heap.objs.size<=ea/\Inv X pins σ H2 s1/\H2 ea=some (xo ea C tt dx)/\E (.ref C) dx (del H2 ea)) ?_ ?_))
 ·refine wpAny_Call_Name_kw (jd I hg hm ?_ hdb)
  refine W.callWith_K (h₀:=X.base) I.ok.mod.kin c.kp (thn (ha cpos pins s σ H _ I h) λus s1 zz=>pw23 zz λys H1 I1 r hlen q=>⟨I1.kIn,?_⟩) hst hpl;have hul:us.length<=100:=by rw[<-r.length,hlen];exact hnl
  refine x_call I1.kIn c hi hf (Nat.le_trans hul (by decide)) (wpAny_call ?_);have e2:((s1.heap.push (xTup us)).push (XObj C s1.heap.objs.size none)).get? (s1.heap.objs.size+1)=some (XObj C s1.heap.objs.size none):=by
   have:=Heap.get?_push_size (s1.heap.push (xTup us)) (o:=XObj C s1.heap.objs.size none) rfl
   rwa [Heap.size_push] at this
  have I2:=(I1.kept (h':=s1.heap.push (xTup us)) (t':=s1.toks) (λb u q=>Heap.get?_push_of_some _ q)).laid (a:=s1.heap.objs.size+1) (o:=xo (s1.heap.objs.size+1) C s1.heap.objs.size none) (h':=(s1.heap.push (xTup us)).push (XObj C s1.heap.objs.size none)) (t':=s1.toks) (λb u q=>Heap.get?_push_of_some _ q) (Nat.le_of_eq (Heap.size_push _ _)) (Dk e2);have hfr:H1 (s1.heap.objs.size+1)=none:=I1.hok.fresh (Nat.le_succ _);have r2:Vals (V.ref (s1.heap.objs.size+1)::ys) (Value.ref (s1.heap.objs.size+1)::us):=.cons rfl r;have hsp:oC C names (V.ref (s1.heap.objs.size+1)::ys) (upd H1 (s1.heap.objs.size+1) (xo (s1.heap.objs.size+1) C s1.heap.objs.size none))
    (λv H2=>v=.non/\∃tt dx,H2 (s1.heap.objs.size+1)=some (xo (s1.heap.objs.size+1) C tt dx)/\E (.ref C) dx (del H2 (s1.heap.objs.size+1))) E0:=by
   refine(iw33 _ _ ys rfl hlen ae (λd H' hd nd ho hea hdd=>⟨rfl,(iw21 _ _ hea (q d _ ?_ (λb o hb=>?_) ?_))⟩))
   ·rw[aj nd] at hd;exact hd
   ·have n1:b≠s1.heap.objs.size+1:=ay hb hfr
    have n2:b≠d:=λz=>by rw[z,<-aj (H:=H1) nd,hd] at hb;cases hb
    rw[gS n1,ho b n2 n1,aj n1];exact hb
   ·rw[gS nd];exact hdd
  have hl:(Value.ref (s1.heap.objs.size+1)::us++[]).length=ps.length:=by
   have e:=r2.length;rw[F.len _ _ _ _ hsp] at e;rw[List.append_nil];exact e.symm
  have hbd:=hb _ (Value.ref (s1.heap.objs.size+1)::us) I2.kIn hl;rw[List.append_nil] at hbd;refine codeAny_mono (F.run _ X.stack _ _ ⟨Value.ref (s1.heap.objs.size+1)::us,[]⟩ _ _ _ E0 (hr.make C us []) (I2.env0.make C us []) hbd r2 hsp) λr s' hq'=>?_;cases r with
  | error e=>exact False.elim hq'
  | ok fl=>
   cases fl with
   | ret u=>
    (refine pw23 (I2.after hq') λv H' I3 rv ev=>ow21 λtt dx g1 g2=>?_);subst ev;exact⟨rv,(iw44 _ tt dx H' rfl (Nat.le_trans I1.sz (Nat.le_succ _)) I3 g1 g2)⟩
   | next=>exact False.elim hq'
   | brk=>exact False.elim hq'
   | cont=>exact False.elim hq'
 ·rintro u s1 ⟨ea,tt,dx,H2,rfl,hn,I2,he2,q2⟩
  refine wpAny_bind (wpAny_standAt (wpAny_pure ?_));have ge:=sf I2.hok he2;have hE:X.xe (.ref ea) s1:=hx pins σ H2 s1 ea C tt dx I2 he2 hn q2;(refine pw60 (kO c.x) λnm qn N bs bm sn=>ow60 λsub ab col dd k0 k1=>ow31 λk2 k3 k5 hK ho=>?_);have hC:=I2.kIn _ _ hK;have cB:(Value.ref C::bm).contains (.type "BaseException")=true:=by rw[List.contains_cons,du ho (b:=true) (by decide),Bool.or_true]
  obtain⟨hp,g,d,tk,os⟩:=s1;dsimp only at ge hC
  repeat (first | (with_reducible refine wpAny_loadPart_at ge ?_) | (with_reducible refine wpAny_loadPart_at hC ?_) | (with_reducible refine wpAny_isSubtype_exc hC ?_;rw[cB]) | wp_step)
  exact wpAny_raiseNew_none hr.hd hE
end
end L2
namespace L2
open PySem PySem.Spec PyProof.Rows
theorem ObjOk.here {P:Program}{w:World}{H:Hp}{h:Heap}{a:Addr}{o:HO}(x:ObjOk P w H h a o):∃u,h.get? a=some u:=by
 cases o with
 | lst xs=>(revert x;refine ow01 λ_=>ow21 λ_ _ _ e=>?_);exact⟨_,e⟩
 | tup xs=>(revert x;refine ow01 λ_=>ow11 λ_ _=>ow11 λob e _=>?_);exact⟨_,e⟩
 | dK kvs=>(revert x;refine ow02 λ_ _=>ow11 λ_ _=>ow31 λo _ _ e _=>?_);exact⟨_,e⟩
 | dT kvs=>(revert x;refine ow02 λ_ _=>ow11 λ_ _=>ow31 λo _ _ e _=>?_);exact⟨_,e⟩
 | set S n=>(revert x;refine ow41 λo _ _ _ e _=>?_);exact⟨_,e⟩
 | ins C dx fs=>(revert x;refine ow04 λ_ _ _ e _=>?_);exact⟨_,e⟩
 | own y=>exact x
 | xd fs=>(revert x;refine ow11 λ_ zz1 _=>?_;obtain ⟨_,_,_,e,_⟩:=zz1);exact⟨_,e⟩
 | rng lo hi=>(revert x;refine ow30 λ_ _ _ e=>?_);exact⟨_,e⟩
 | frz ob u=>obtain⟨e,_⟩:=x;exact⟨_,e⟩
 | tbl ps=>exact⟨_,(show h.get? a=some _ from x)⟩
 | met f y=>exact⟨_,(show h.get? a=some _ from x)⟩
 | ext φ=>(revert x;refine ow02 λ_ e _=>?_);exact e
noncomputable def Lands (X:Cx)(pins:List (Addr×Obj))(σ:St)(E:XK)(e:Value)(s':Shared):Prop:=
 ∃(s:Shared) (H:Hp) (ea C:Addr) (dx:Option Addr) (B:Heap) (H':Hp),e=.ref ea/\Inv X pins σ H s/\Thr X.prog X.w X.stack H s ea C dx .none B H' s'/\E (.ref C) dx H'
noncomputable abbrev TX:=XK->St->Hp->Prop
noncomputable def PEx (X:Cx)(e:Expr)(t:TX):Prop:=∀(pins:List (Addr×Obj)) (s:Shared) (σ:St) (H:Hp) (E:XK),Inv X pins σ H s->t E σ H->wpAny (model X.prog X.w) X.A (eval e X.env) (λ_ _=>False) (Lands X pins σ E) s
noncomputable def PSx (X:Cx)(st:Stmt)(t:TX):Prop:=∀(pins:List (Addr×Obj)) (s:Shared) (σ:St) (H:Hp) (E:XK),Inv X pins σ H s->t E σ H->wpAny (model X.prog X.w) X.A (exec st X.env) (λ_ _=>False) (Lands X pins σ E) s
noncomputable def PSsx (X:Cx)(st:List Stmt)(t:TX):Prop:=∀(pins:List (Addr×Obj)) (s:Shared) (σ:St) (H:Hp) (E:XK),Inv X pins σ H s->t E σ H->wpAny (model X.prog X.w) X.A (execs st X.env) (λ_ _=>False) (Lands X pins σ E) s
noncomputable def xCall (sp:Sp)(dvs:List V)(t:TA):TX:=λE σ H=>t σ H λvs H1=>sp (vs++dvs) H1 (λ_ _=>False) E
noncomputable def xMeth (C:Addr)(m:Str)(sp:Sp)(dvs:List V)(ta:TE)(t:TA):TX:=λE σ H=>ta σ H λx H1=>∃a dx fs,x=.ref a/\H1 a=some (.ins C dx fs)/\fs.lookup m=none/\t σ H1 λvs H2=>sp (x::(vs++dvs)) H2 (λ_ _=>False) E
noncomputable def xMake (C:Addr)(sp:Sp)(dvs:List V)(t:TA):TX:=λE σ H=>t σ H λvs H1=>∀x dx,H1 x=none->H1 dx=none->dx≠x->sp (.ref x::(vs++dvs)) (upd (upd H1 dx (.own x)) x (.ins C dx [])) (λ_ _=>False) E
noncomputable def xNo:TX:=λ_ _ _=>False
section
variable {X:Cx} {k:Nat} {f C:Addr} {fd:FuncData} {ps:List Str} {sp:Sp} {dvs:List V} {ds:List Value} {E:XK} {x m:Str} {p pos apos:Pos} {e o:Expr} {es:List Expr} {ta:TE} {t:TA} {pins:List (Addr×Obj)} {σ:St} {H:Hp} {s:Shared}
theorem thx {α:Type}{t:Sem α}{Q Q':α->Shared->Prop}{M:Model}{A:Around}{E:Value->Shared->Prop}{s:Shared}(h:wpAny M A t Q (λ_ _=>False) s)(hQ:∀a s,Q a s->Q' a s):wpAny M A t Q' E s:=wpAny_mono h hQ λ_ _ z=>z.elim
theorem E6 {us:List Value}{vs:List V}(F:FnOk X.prog X.w X.K X.mg X.base (CXv X.prog X.w) k f fd ps sp)(hr:Room k X.A)(hb:Binds X.K fd ps ds)(hd:Vals dvs ds)
  (I:Inv X pins σ H s) (r:Vals vs us) (h:sp (vs++dvs) H (λ_ _=>False) E):wpAny (model X.prog X.w) X.A (call (.ref f) us) (λ_ _=>False) (Lands X pins σ E) s:=by
 have r2:Vals (vs++dvs) (us++ds):=r.append hd;have hl:(us++ds).length=ps.length:=by rw[<-r2.length];exact F.len _ _ _ _ h
 refine wpAny_call (codeAny_mono (F.run X.A X.stack s H ⟨us,[]⟩ (us++ds) (vs++dvs) _ E hr I.env0 (hb s us I.kIn hl) r2 h) λr s' hq=>?_);cases r with
 | error e=>
  (revert hq;refine ow30 λea C dx=>ow22 λB H' zz1 T q=>?_;subst zz1);exact(iw60 s H ea C dx B (iw13 H' rfl I T q))
 | ok fl=>
  cases fl with
  | ret u=>(revert hq;refine ow24 λ_ _ _ _ _ _=>ow01 λ_ q=>?_);exact q
  | next=>exact False.elim hq
  | brk=>exact False.elim hq
  | cont=>exact False.elim hq
theorem Cm {pl:Sem Bool}(he:PE X.nox o ta)(c:Cls X.K C)(hm:Meth X.K C m f)(F:FnOk X.prog X.w X.K X.mg X.base (CXv X.prog X.w) k f fd ps sp)(hr:Room k X.A)(hb:Binds X.K fd ps ds)(hd:Vals dvs ds)(ha:PA X.nox (e::es) t)
  (hst:autoParam (starEach (e::es) X.env=(false,eval e X.env)::starEach es X.env) L2.dft3._auto_1) (hpl:autoParam ((backTo pos (starEach es X.env)).any (·.1)=false) L2.dft3._auto_1)
  (ht:autoParam (eval (.Call (.Attribute o m apos) (e::es) [] pos) X.env=(do
   let ov <-eval o X.env
   standAt apos.atName
   let (f,first) <-holding [ov] (getMethod ov m pl)
   callWith pos f first (backTo pos (starEach (e::es) X.env)) (backToKw pos (keywordEach [] X.env)))) L2.dft3._auto_1) :
  PEx X (.Call (.Attribute o m apos) (e::es) [] pos) (xMeth C m sp dvs ta t):=by
 intro pins s σ H E I h;refine W.methodCall_KW (pl:=pl) (thx (he pins s σ H _ (I.wish _) h) λu s1 zz=>pw22 zz λx H1 I1 rx=>ow33 λa dx fs ex ea l q=>?_) ht;subst ex;obtain rfl:u=Value.ref a:=rx;refine gN I1.unwish ea c hm l ?_;refine W.callWith_K (first:=[.ref a]) (h₀:=X.base) I.ok.mod.kin hm.kp (thx (ha pos pins s1 σ H1 _ I1 q) λus s2 zz=>pw22 zz λvs H2 I2 r q2=>⟨I2.kIn,?_⟩) hst hpl;exact E6 (us:=.ref a::us) (vs:=.ref a::vs) F hr hb hd I2.unwish (.cons rfl r) q2
theorem Eh {y:Str}{pos':Pos}{tx:TX}(he:PEx X e tx)(hs:autoParam (swapsWith e (some (.Name y pos')) pos.line X.env=pure false) L2.dft3._auto_1):PSx X (.Assign [.Name y pos'] e pos) tx:=by
 intro pins s σ H E I h;exact wpAny_Assign_Name (thn (he pins s σ H E I h) λ_ _ z=>z.elim) hs
theorem Cn {st:Stmt}{rest:List Stmt}{t:TX}(h1:PSx X st t):PSsx X (st::rest) t:=by
 intro pins s σ H E I h;exact wpAny_execs_cons (thn (h1 pins s σ H E I h) λ_ _ z=>z.elim)
end
noncomputable def xh (ea C:Addr)(dx:Option Addr):HO:=.ext λh=>∃o vs,h.get? ea=some o/\o.cls=.ref C/\o.dict=dx/\o.data=.fields vs
theorem E7 {P:Program}{w:World}{H:Hp}{h:Heap}{ea C:Addr}{dx:Option Addr}{o:Obj}{vs:Array Value}(e:h.get? ea=some o)(e1:o.cls=.ref C)(e2:o.dict=dx)(e3:o.data=.fields vs):ObjOk P w H h ea (xh ea C dx):=
 ⟨(iw23 o vs e e1 e2 e3),⟨_,e⟩,λ_ _ ⟨o,vs,q,r⟩ k=>(iw21 o vs (k _ q) r)⟩
theorem Ei {P:Program}{w:World}{H:Hp}{h:Heap}{ea C:Addr}{dx:Option Addr}(x:HOk P w H h)(e:H ea=some (xh ea C dx)):∃o vs,h.get? ea=some o/\o.cls=.ref C/\o.dict=dx/\o.data=.fields vs:=
 (show ObjOk P w H h ea (xh ea C dx) from x _ _ e).1
noncomputable def tXFld (K:W.Frag)(ta:TE)(f:Str):TE:=λσ H Q=>ta σ H λx H1=>∃ea C d fs v,x=.ref ea/\H1 ea=some (xh ea C (some d))/\H1 d=some (xdo d fs)/\XCls K C/\NoAttr K C f/\fs.lookup f=some v/\Q v H1
section
variable {X:Cx} {e:Expr} {f:Str} {pos:Pos} {ta:TE}
theorem Co (he:PE X e ta)(hb:attributeBase e f X.env (eval e X.env)=eval e X.env):PE X (.Attribute e f pos) (tXFld X.K ta f):=by
 intro pins s σ H Q I h;refine xa hb (thn (he pins s σ H _ I h) λu s1 zz=>pw22 zz λx H1 I1 rx=>ow30 λea C d=>ow24 λfs v ex hea hd c=>ow02 λn l q=>?_);subst ex;obtain rfl:u=Value.ref ea:=rx;(refine pw23 (Ei I1.hok hea) λo vs ge gc gd gf=>?_);(refine pw11 (xp I1.hok hd) λmA hn hr=>?_);(refine pw11 (lM hn) λod ho hl=>?_);(refine pw11 (RelO.some_of (v:=v) (o:=mA f) (by rw[<-l];exact hr f)) λu hu ru=>?_);have J:W.InstAt s1.heap ea o C (some od):=by
  obtain⟨oc,odd,oda,osl⟩:=o;dsimp only at gc gd gf;subst gc gd gf;exact⟨ge,rfl,rfl,ho⟩
 exact E5 I1.kIn J c.x c.ga c.gn (W.findObj_own c.hd n rfl (by rw[hl,hu])) (qq ru) (iw22 v H1 (I1.tok _) ru q)
end
theorem iG {X:Cx}{K:W.Frag}{e:Expr}{f:Str}{pos:Pos}{ta:TE}(he:PE X e ta)(hb:attributeBase e f X.env (eval e X.env)=eval e X.env)(hK:autoParam (X.K=K) L2.dft3._auto_1):PE X (.Attribute e f pos) (tXFld K ta f):=hK▸Co he hb
noncomputable abbrev Cx.han (X:Cx)(ea:Addr):Cx:={ X with A:=X.A.mark (some (.ref ea)),calm:=false }
theorem Inv.han {X:Cx}{pins:List (Addr×Obj)}{σ:St}{H:Hp}{s:Shared}(I:Inv X pins σ H s)(ea:Addr):Inv (X.han ea) pins σ H s:=
 ⟨⟨I.ok.mod,I.ok.kind,I.ok.glob,I.ok.blt,I.ok.above,I.ok.inj,I.ok.has,I.ok.cab,(λz=>nomatch z),I.ok.frames,I.ok.stk,I.ok.exf,I.ok.bs,I.ok.bsz,I.ok.noex,I.ok.exfs,I.ok.funs,I.ok.frf⟩,I.os,I.bare,I.base,I.loc,I.cell,I.free,I.freeC,I.pin,I.hok,I.len⟩
theorem Inv.unhan {X:Cx}{pins:List (Addr×Obj)}{σ:St}{H:Hp}{s:Shared}{ea:Addr}(ok:X.Ok)(I:Inv (X.han ea) pins σ H s):Inv X pins σ H s:=
 ⟨ok,I.os,I.bare,I.base,I.loc,I.cell,I.free,I.freeC,I.pin,I.hok,I.len⟩
section
variable {X:Cx} {pins:List (Addr×Obj)} {σ:St} {H H':Hp} {s s':Shared} {ea C:Addr} {dx:Option Addr} {B:Heap} {fl:Value}
theorem Thr.new (T:Thr X.prog X.w X.stack H s ea C dx fl B H' s')(I:Inv X pins σ H s){b:Addr}{o:Obj}(e:s.heap.get? b=some o):b≠ea:=by
 rintro rfl
 obtain⟨a0,f⟩:=T.fly
 by_cases hb:b∈frs X.stack
 ·obtain⟨sl,e1⟩:=T.slo b o hb e
  (refine pw30 f.tale λoe vs _=>ow24 λ_ _ ge _ _ dt _=>?_);(refine pw01 (f.fun'.mem hb) λ_=>ow11 λo1 ho1 nf=>?_);rw[ge] at ho1;cases ho1;exact nf _ dt
 ·obtain⟨o',e1⟩:=T.bas.there b o e hb
  rw[f.new] at e1;cases e1
theorem Thr.none (T:Thr X.prog X.w X.stack H s ea C dx fl B H' s'):H' ea=none:=by
 obtain⟨a0,f⟩:=T.fly;cases q:H' ea with
 | none=>rfl
 | some u=>
  obtain⟨o,e⟩:=(T.hok ea u q).here;rw[f.new] at e;cases e
theorem Thr.inv (T:Thr X.prog X.w X.stack H s ea C dx fl B H' s')(I:Inv X pins σ H s):Inv X pins σ H' s':=I.call' (ch:=[]) T.os T.un T.held T.bare (λb z=>nomatch z)
theorem Thr.seen (T:Thr X.prog X.w X.stack H s ea C dx fl B H' s')(I:Inv X pins σ H s):Inv X pins σ (upd H' ea (xh ea C dx)) s':=by
 have hn:=T.none;obtain⟨a0,f⟩:=T.fly;(refine pw30 f.tale λoe vs _=>ow24 λ_ _ ge gc gd dt _=>?_);have un:=T.un;refine I.call' (ch:=[]) T.os ⟨un.keep,un.slot,λb o e n hx=>?_,un.there,λb xs e=>?_,λb o u e=>?_,λb ps e=>?_⟩ (λb u e=>?_) T.bare (λb z=>nomatch z)
 ·rw[aj (T.new I e)];exact un.free b o e n hx
 ·have:=un.tups b xs e;rw[aj (ay this hn)];exact this
 ·have:=un.frzs b o u e;rw[aj (ay this hn)];exact this
 ·obtain⟨m,this⟩:=un.tbls b ps e;exact⟨m,by rw[aj (ay this hn)];exact this⟩
 ·by_cases hb:b=ea
  ·subst hb;rw[ae] at e;cases e;exact E7 ge gc gd dt
  ·rw[aj hb] at e
   exact(T.held b u e).stay (λc v _ r=>r) (λc r=>by rw[aj (ay r hn)];exact r) λc xs r=>by rw[aj (ay r hn)];exact r
theorem Thr.on {fl':Value}{h2:Heap}{a0:Value}(T:Thr X.prog X.w X.stack H s ea C dx fl B H' s')(f2:Fly B X.stack ea (.ref C) dx a0 fl' h2)(u:s'.heap.UpToSlots h2)(I:Inv X pins σ H s):Thr X.prog X.w X.stack H s ea C dx fl' B H' { s' with heap:=h2 }:=
 ⟨T.os,T.bare,⟨a0,f2⟩,T.hok,T.bas,λb o hb e=>by
  obtain⟨sl,e1⟩:=T.slo b o hb e;(refine pw01 (I.stack.mem hb) λ_=>ow11 λo1 ho1 nf=>?_);rw[e] at ho1;cases ho1;obtain⟨sl2,e2⟩:=u b _ e1 nf
  exact⟨sl2,e2⟩⟩
end
section
variable {X:Cx} {pins:List (Addr×Obj)} {σ:St} {H:Hp} {s:Shared} {M:Model} {A:Around} {E:Value->Shared->Prop}
theorem nU {n:Str}{i:Nat}{pos:Pos}{Q:Unit->Shared->Prop}(I:Inv X pins σ H s)(hN:X.N.Nodup)(hi:X.N[i]?=some n)(hk:X.env.kindOf n=some .local)(h:∀s',Inv X pins (σ.set i none) H s'->Q () s') :
  wpAny M A (do bindName X.env n .none;unbindBehindTheSuite X.env n pos) Q E s:=by
 (refine pw11 (id I.loc) λm hn hl=>?_);have hcls:(X.env.scope.kind == .class || (X.env.scope.kind == .module && X.env.locals != X.env.globals))=false:=by rw[I.ok.kind];rfl
 refine wpAny_nameGoes_keeps hk hn hcls λh' v hn' hs=>h _ ?_;have low:∀b o,X.s₀.heap.get? b=some o->b≠X.env.locals:=λb o e=>Nat.ne_of_lt (Nat.lt_of_lt_of_le (Heap.lt_size e) I.ok.above);refine⟨I.ok,I.os,I.bare,⟨λb o e n hb hx=>(hs.2 b (low b o e)).trans (I.base.keep b o e n hb hx),λb o e n hb hx=>?_,I.base.free,λb o e hx=>?_,I.base.tups,I.base.frzs,I.base.tbls⟩,(iw11 _ hn' (λj y v' e1 e2 e3=>?_)),λy c e=>?_,I.free,I.freeC,λp hp=>?_,λb ob e=>?_,by simpa using I.len⟩
 ·obtain⟨sl,e1⟩:=I.base.slot b o e n hb hx
  exact⟨sl,(hs.2 b (low b o e)).trans e1⟩
 ·obtain⟨o',e1⟩:=I.base.there b o e hx
  exact⟨o',(hs.2 b (low b o e)).trans e1⟩
 ·by_cases hj:j=i
  ·subst hj
   rw[List.getElem?_set] at e2;simp only[if_true] at e2
   split at e2<;>cases e2
  ·rw[List.getElem?_set_ne (Ne.symm hj)] at e2
   (refine pw11 (hl j y v' e1 e2 e3) λu' r' q=>?_);refine(iw11 u' r' ?_);rcases q with⟨k,e⟩ | ⟨k,c,e,z⟩
   ·refine .inl ⟨k,?_⟩
    have:y≠n:=λe=>hj (n6 hN e1 (e▸hi));simp[this,e]
   ·exact .inr ⟨k,(iw11 c e (z.sameBut hs (I.cne y c e)))⟩
 ·obtain⟨v,z⟩:=I.cell y c e
  exact⟨v,z.sameBut hs (I.cne y c e)⟩
 ·(refine pw04 (I.pin p hp) λe n1 ne nf d=>?_)
  exact⟨(hs.2 _ ne).trans e,n1,ne,nf,d⟩
 ·refine(I.hok b ob e).stay (λc w' hc q=>(hs.2 c ?_).trans q) (λ_ q=>q) λ_ _ q=>q
  rintro rfl
  rcases hc with rfl | hc
  ·rw[I.free] at e;cases e
  ·rw[I.free] at hc;cases hc
end
noncomputable abbrev THs:=Addr->Addr->Option Addr->TS
noncomputable def PH (X:Cx)(hs:List ExceptHandler)(th:THs):Prop:=
 ∀(pins:List (Addr×Obj)) (σ:St) (H H':Hp) (D:Ends) (s s':Shared) (ea C:Addr) (dx:Option Addr) (B:Heap),Inv X pins σ H s->Thr X.prog X.w X.stack H s ea C dx .none B H' s'->th C ea dx D σ H'->
  wpAny (model X.prog X.w) X.A (handleBy (.ref ea) X.env hs) (SP X pins D) X.xe s'
noncomputable def Ends.less (D:Ends)(i:Nat):Ends:={ nx:=λσ H=>D.nx (σ.set i none) H,rt:=D.rt,bk:=λσ H=>D.bk (σ.set i none) H,ct:=λσ H=>D.ct (σ.set i none) H }
noncomputable def tAs (K:W.Frag)(Ck:Addr)(i:Nat)(ts:TS)(rest:THs):THs:=λC ea dx D σ H=>
 (W.exmOne K (.ref C) (.ref Ck)=some true/\ts (D.less i) (σ.set i (some (.ref ea))) (upd H ea (xh ea C dx)))\/(W.exmOne K (.ref C) (.ref Ck)=some false/\rest C ea dx D σ H)
noncomputable def tBare (K:W.Frag)(Ck:Addr)(ts:TS)(rest:THs):THs:=λC ea dx D σ H=>
 (W.exmOne K (.ref C) (.ref Ck)=some true/\ts D σ (upd H ea (xh ea C dx)))\/(W.exmOne K (.ref C) (.ref Ck)=some false/\rest C ea dx D σ H)
noncomputable def tNoH:THs:=λ_ _ _ _ _ _=>False
noncomputable def tTry (tb:TS)(tx:TX)(th:THs):TS:=λD σ H=>tb D σ H\/∃E,tx E σ H/\∀C dx H' ea,E (.ref C) dx H'->H' ea=none->th C ea dx D σ H'
section
variable {X:Cx} {x n:Str} {np hpos pos:Pos} {b₀:Stmt} {suite body:List Stmt} {h₀:ExceptHandler} {rest:List ExceptHandler} {Ck:Addr} {i:Nat} {ts tb:TS} {tx:TX} {tr:THs}
theorem Ej:PH X [] tNoH:=λ_ _ _ _ _ _ _ _ _ _ _ _ _ h=>h.elim
theorem Thr.looks {M:Model}{P:Program}{w:World}{l:List Env}{H H':Hp}{s s':Shared}{ea C:Addr}{dx:Option Addr}{fl:Value}{B:Heap}(T:Thr P w l H s ea C dx fl B H' s'):W.Looks M s'.heap (typeOf (.ref ea)) (.ref C):=by
 obtain⟨a0,f⟩:=T.fly;(refine pw30 f.tale λoe vs _=>ow22 λ_ _ ge gc _=>?_);exact gc▸(W.Looks.ld ge).andThen .now
theorem t9 (hg:Gl X x)(hm:X.mg x=some (.ref Ck))(hN:X.N.Nodup)(hi:X.N[i]?=some n)(hk:X.env.kindOf n=some .local)(hs:∀ea,PSs (X.han ea).nox (b₀::suite) ts)(hr:PH X rest tr)(hdb:autoParam ((x == ("__debug__":Str))=false) L2.dft1._auto_1) :
  PH X (.ExceptHandler (some (.Name x np)) (some n) (b₀::suite) hpos::rest) (tAs X.K Ck i ts tr):=by
 intro pins σ H H' D s s' ea C dx B I T h;have I1:=T.inv I;refine wpAny_handleBy_cons (codeAny_handlers_test (jd (X:=X.han ea) (I1.han ea) hg hm ?_ hdb)) (by intro q;cases q);rcases h with⟨hx,h⟩ | ⟨hx,h⟩
 ·refine W.Looks.here (W.exm_one I1.kIn T.looks hx) ?_
  refine codeAny_handlers_suite_as ?_;obtain⟨a0,f⟩:=T.fly;refine fA f λh2 f2 u2=>?_;have I2:=((T.on f2 u2 I).seen I).han ea;refine kC (X:=X.han ea) (i:=i) (v:=.ref ea) I2 hN hi (.inl hk) rfl (λs3 I3=>?_) (.inr hk);refine wpAny_mono (hs ea pins s3 _ _ _ (I3.wish _) h) (λfl s4 q=>?_) (λ_ _ z=>z.elim);cases fl with
  | next=>(revert q;refine ow21 λσ4 H4 I4 q=>?_);exact nU (X:=X) (I4.unwish.unhan I.ok) hN hi hk λs5 I5=>(iw21 _ _ I5 q)
  | brk=>(revert q;refine ow21 λσ4 H4 I4 q=>?_);exact nU (X:=X) (I4.unwish.unhan I.ok) hN hi hk λs5 I5=>(iw21 _ _ I5 q)
  | cont=>(revert q;refine ow21 λσ4 H4 I4 q=>?_);exact nU (X:=X) (I4.unwish.unhan I.ok) hN hi hk λs5 I5=>(iw21 _ _ I5 q)
  | ret u=>(revert q;refine ow32 λv σ4 H4 I4 r q=>?_);exact nU (X:=X) (I4.unwish.unhan I.ok) hN hi hk λs5 I5=>(iw32 v _ _ I5 r q)
 ·refine W.Looks.here (W.exm_one I1.kIn T.looks hx) ?_
  exact hr pins σ H H' D s s' ea C dx B I T h
theorem Ek (hb:PSs X.nox body tb)(hx:PSsx X body tx)(hh:PH X (h₀::rest) tr)(hk:autoParam (X.stack=X.env::X.outer) L2.dft3._auto_1)(hf:autoParam (X.env.frame=some X.env.locals) L2.dft3._auto_1):PS X (.Try body (h₀::rest) [] [] pos) (tTry tb tx tr):=by
 intro pins s σ H D I h;refine wpAny_Try_except ?_;rcases h with h | ⟨E,h,q⟩
 ·refine wpAny_mono (hb pins s σ H D (I.wish _) h) (λf s1 z=>?_) (λ_ _ z=>z.elim)
  cases f with
  | next=>exact wpAny_execs_nil z.unwish
  | brk=>exact z.unwish
  | cont=>exact z.unwish
  | ret u=>exact z.unwish
 ·refine wpAny_mono (hx pins s σ H E I h) (λ_ _ z=>z.elim) ?_
  rintro e s1 ⟨s0,H0,ea,C,dx,B,H',rfl,I0,T,qE⟩
  obtain⟨a0,f⟩:=T.fly;rw[hk] at f;refine qJ (by rw[I0.ok.frames,hk]) hf f λh1 f1 u1=>?_;rw[<-hk] at f1;have T1:=T.on f1 u1 I0;refine fA f1 λh2 f2 u2=>?_;have T2:=T1.on f2 u2 I0;exact hh pins σ H0 H' D s0 _ ea C dx B I0 T2 (q C dx H' ea qE T2.none)
end
theorem PS.nox {X:Cx}{st:Stmt}{t:TS}(h:PS X.nox st t):PS X st t:=λpins s σ H D I hw=>
 wpAny_mono (h pins s σ H D (I.wish _) hw) (λ_ _ q=>q.unwish) λ_ _ z=>False.elim z
noncomputable def Bears (E:XK)(H:Hp)(C:Addr)(fs:List (Str×V)):Prop:=∀d H',H d=none->Same H H'->H' d=some (xdo d fs)->E (.ref C) (some d) H'
noncomputable def Got (H:Hp)(C:Addr)(fs:List (Str×V)):XK:=λc dx H'=>c=.ref C/\∃d,dx=some d/\H d=none/\Same H H'/\H' d=some (xdo d fs)
theorem Got.at {H H':Hp}{C D ea:Addr}{fs:List (Str×V)}{dx:Option Addr}(g:Got H C fs (.ref D) dx H')(he:H' ea=none):D=C/\∃d,dx=some d/\Same H (upd H' ea (xh ea C (some d)))/\upd H' ea (xh ea C (some d)) ea=some (xh ea C (some d))/\upd H' ea (xh ea C (some d)) d=some (xdo d fs):=by
 (revert g;refine ow01 λe=>ow13 λd zz1 hd sm hdd=>?_;subst zz1);cases e;have ned:d≠ea:=λz=>by rw[z,he] at hdd;cases hdd
 exact⟨rfl,(iw13 d rfl (λb o hb=>(aj (ay (sm _ _ hb) he)).trans (sm _ _ hb)) ae ((aj ned).trans hdd))⟩
end L2
namespace L2
open PySem PySem.Spec PyProof.Rows Builtin Builtin.ObjectAttr
section
variable {prog:Program} {w:World} {A:Around} {E:Value->Shared->Prop} {s:Shared} {K:W.Frag} {x C:Addr} {v:Value}
end
end L2
namespace L2
open PySem PySem.Spec PyProof.Rows PySem.Calls
section
variable {M:Model} {A:Around} {E:Value->Shared->Prop} {h:Heap} {g:Array GenState} {d:Drawn} {t:Nat} {os:OsState}
variable {nm qn:Str} {C N:Addr} {bs bm:List Value} {hdct:Bool} {sn:List Str} {sub:List Value} {ab:Bool} {col:Option Bool} {dd:Option Addr} {k0 k1 k2 k3 k5:Option Value}
end
section
variable {prog:Program} {w:World} {A:Around} {h:Heap} {g:Array GenState} {d:Drawn} {t:Nat} {os:OsState} {C:Addr}
end
noncomputable def tRaise0 (C:Addr)(E:XK):TS:=λ_ _ H=>E (.ref C) none H
section
variable {X:Cx} {k:Nat} {C:Addr} {E:XK} {x:Str} {np cpos pos:Pos}
end
end L2
namespace L2
open PySem PySem.Spec PyProof.Rows Builtin Builtin.ObjectAttr
section
variable {prog:Program} {w:World} {A:Around} {E:Value->Shared->Prop} {s:Shared} {K:W.Frag} {x C:Addr} {v:Value}
end
noncomputable def XD (H:Hp)(dx:Option Addr)(fs:List (Str×V)):Prop:=(dx=none/\fs=[])\/∃d,dx=some d/\H d=some (xdo d fs)
noncomputable def XB (E:XK)(H:Hp)(C:Addr)(fs:List (Str×V)):Prop:=∀dx H',Same H H'->XD H' dx fs->(∀d,dx=some d->H d=none)->E (.ref C) dx H'
theorem XB.bears {E:XK}{H:Hp}{C:Addr}{fs:List (Str×V)}(h:XB E H C fs):Bears E H C fs:=λd H' hd s e=>h (some d) H' s (.inr (iw11 d rfl e)) λd' z=>by cases z;exact hd
section
variable {X:Cx} {e:Expr} {pos:Pos} {rest:List Stmt} {st:Stmt}
end
section
variable {P:Program} {w:World} {K:W.Frag} {mg:Str->Option Value} {base:Heap}
end
section
variable {X:Cx} {ea:Addr} {k:Nat} {f:Addr} {fd:FuncData} {ps:List Str} {sp:Sp} {ds:List Value} {dvs:List V} {x:Str} {p pos:Pos} {e:Expr} {es:List Expr} {t:TA}
end
end L2
namespace L2
theorem AJ (a b:Nat):a ^^^ b=2 * ((a / 2) ^^^ (b / 2))+(if a % 2≠b % 2 then 1 else 0):=by
 have h1:(a ^^^ b) / 2=(a / 2) ^^^ (b / 2):=Nat.xor_div_two;have h2:(a ^^^ b) % 2=(if a % 2≠b % 2 then 1 else 0):=by
  have:=@Nat.xor_mod_two_eq_one a b
  by_cases h:a % 2≠b % 2
  ·rw[if_pos h];rw[this];omega
  ·rw[if_neg h]
   have h3:¬((a ^^^ b) % 2=1):=by rw[this];omega
   omega
 omega
theorem ua (a b:Nat):a &&& b=2 * ((a / 2) &&& (b / 2))+(if a % 2=1/\b % 2=1 then 1 else 0):=by
 have h1:(a &&& b) / 2=(a / 2) &&& (b / 2):=Nat.and_div_two;have h2:(a &&& b) % 2=(if a % 2=1/\b % 2=1 then 1 else 0):=by
  have:=@Nat.and_mod_two_eq_one a b
  by_cases h:a % 2=1/\b % 2=1
  ·rw[if_pos h];exact this.mpr h
  ·rw[if_neg h]
   have h3:¬((a &&& b) % 2=1):=λz=>h (this.mp z);omega
 omega
theorem Cp {X Y A B p q e f:Nat}(h:X+2 * Y=A+B)(h2:e+2 * f=p+q):2 * X+e+2 * (2 * Y+f)=2 * A+p+(2 * B+q):=by omega
theorem Cq (a:Nat):∀b:Nat,(a ^^^ b)+2 * (a &&& b)=a+b:=by
 induction a using Nat.strongRecOn with
 | ind a ih=>
  intro b
  by_cases h:a=0
  ·subst h;simp
  ·rw[AJ a b,ua a b]
   refine(Cp (p:=a % 2) (q:=b % 2) (ih (a / 2) (Nat.div_lt_self (Nat.pos_of_ne_zero h) (by decide)) (b / 2)) ?_).trans (by rw[Nat.div_add_mod,Nat.div_add_mod]);rcases Nat.mod_two_eq_zero_or_one a with h1 | h1<;>rcases Nat.mod_two_eq_zero_or_one b with h2 | h2<;>rw[h1,h2]<;>rfl
theorem oE (a b:Nat):PySem.Builtin.bitAnd (a:Int) (b:Int)=((a &&& b:Nat):Int):=by
 unfold PySem.Builtin.bitAnd;have h1:decide (0<=(a:Int))=true:=by simp
 have h2:decide (0<=(b:Int))=true:=by simp
 rw[h1,h2];rfl
theorem vH (a b:Nat):PySem.Builtin.bitXor (a:Int) (b:Int)=((a ^^^ b:Nat):Int):=by
 have q:=Cq a b;rw[PyProof.Rows.bitXor_and,oE];omega
noncomputable def rot (n:Nat):Nat:=2 * (n % 32768)+n / 32768
theorem El {n:Nat}(h:n < 65536):rot n < 65536:=by unfold rot;omega
theorem AK {a b:Nat}(ha:a < 65536)(hb:b < 65536):a ^^^ b < 65536:=Nat.xor_lt_two_pow (n:=16) ha hb
noncomputable def sumF (h:Nat)(cs:List Nat):Nat:=cs.foldl (λh c=>rot h ^^^ c) h
theorem xq {cs:List Nat}(hc:∀c∈cs,c < 65536):∀{h:Nat},h < 65536->sumF h cs < 65536:=by
 induction cs with
 | nil=>intro h hh;exact hh
 | cons c r ih=>intro h hh;exact ih (λx hx=>hc x (List.mem_cons_of_mem _ hx)) (AK (El hh) (hc c List.mem_cons_self))
theorem AL {n c:Nat}(hn:n < 65536):PySem.Builtin.bitXor (PySem.Builtin.bitOr (PySem.Builtin.bitAnd ((n:Int) * 2) 65535) ((n:Int) / 32768)) (c:Int)=((rot n ^^^ c:Nat):Int):=by
 have e1:(n:Int) * 2 % 65536=((2 * (n % 32768):Nat):Int):=by omega
 have e2:(n:Int) / 32768=((n / 32768:Nat):Int):=by omega
 rw[PyProof.Rows.bitAnd_m16,e1,e2,PyProof.Rows.bitOr_and,oE,ua];have h1:n / 32768 / 2=0:=by omega
 rw[h1,Nat.and_zero,if_neg (by omega)];rw[<-vH];unfold rot;congr 1
theorem yz {l:List Nat}{i c:Nat}(h:l[i]?=some c):sumF 0 (l.take (i+1))=rot (sumF 0 (l.take i)) ^^^ c:=by
 rw[List.take_add_one,h];simp[sumF,List.foldl_append]
end L2
namespace K02
end K02
namespace L2
open PySem PySem.Spec PyProof.Rows
theorem cut1 {t1 tR:TS}{D:Ends}{σ:L2.St}{H:Hp}(h:∀R,R=tR->tSeq t1 R D σ H):tSeq t1 tR D σ H:=h _ rfl
theorem cut2 {t1 t2 tR:TS}{D:Ends}{σ:L2.St}{H:Hp}(h:∀R,R=tR->tSeq t1 (tSeq t2 R) D σ H):tSeq t1 (tSeq t2 tR) D σ H:=h _ rfl
theorem el1 {α:Type}{p:List α->Prop}(h:∀a,p [a]):∀us:List α,us.length=1->p us
 | [a],_=>h a
theorem el2 {α:Type}{p:List α->Prop}(h:∀a b,p [a,b]):∀us:List α,us.length=2->p us
 | [a,b],_=>h a b
theorem el3 {α:Type}{p:List α->Prop}(h:∀a b c,p [a,b,c]):∀us:List α,us.length=3->p us
 | [a,b,c],_=>h a b c
theorem el4 {α:Type}{p:List α->Prop}(h:∀a b c d,p [a,b,c,d]):∀us:List α,us.length=4->p us
 | [a,b,c,d],_=>h a b c d
theorem el5 {α:Type}{p:List α->Prop}(h:∀a b c d e,p [a,b,c,d,e]):∀us:List α,us.length=5->p us
 | [a,b,c,d,e],_=>h a b c d e
theorem el6 {α:Type}{p:List α->Prop}(h:∀a b c d e f,p [a,b,c,d,e,f]):∀us:List α,us.length=6->p us
 | [a,b,c,d,e,f],_=>h a b c d e f
theorem el7 {α:Type}{p:List α->Prop}(h:∀a b c d e f g,p [a,b,c,d,e,f,g]):∀us:List α,us.length=7->p us
 | [a,b,c,d,e,f,g],_=>h a b c d e f g
theorem nx0 {R tR:TS}{D:Ends}{σ:L2.St}{H:Hp}(h:R=tR)(k:tR D σ H):R D σ H:=h▸k
theorem nx1 {R t1 tR:TS}{D:Ends}{σ:L2.St}{H:Hp}(h:R=tSeq t1 tR)(k:∀R,R=tR->tSeq t1 R D σ H):R D σ H:=h▸k _ rfl
theorem nx2 {R t1 t2 tR:TS}{D:Ends}{σ:L2.St}{H:Hp}(h:R=tSeq t1 (tSeq t2 tR))(k:∀R,R=tR->tSeq t1 (tSeq t2 R) D σ H):R D σ H:=h▸k _ rfl
theorem tryH {a:Prop}{α:Type}{B:α->Prop}{h:α->Prop}(k:∀Z:Prop,(a->Z)->(∀E,B E->h E->Z)->Z):a\/∃E,B E/\h E:=k _ .inl λE x y=>.inr (iw11 E x y)
noncomputable def AM:Sp:=λvs H Q _=>∃(A B p:Addr),vs=[.ref A,.ref B,.ref p]/\H p=some (.lst [])/\Q .non H
noncomputable def ub (K:W.Frag):Sp:=λvs H Q _=>∃(q B p:Addr) (e0:List Int),vs=[.ref q,.ref B,.ref p]/\SqL K H q (e0.map V.int)/\H B=some (.lst [])/\H p=some (.lst [])/\∀A H',H A=none->Same H H'->H' A=some (.lst (e0.map V.int))->Q (.ref A) H'
noncomputable def vI (K:W.Frag):Sp:=λvs H Q _=>∃(q p:Addr) (e0:List Int),vs=[.ref q,.ref p]/\SqL K H q (e0.map V.int)/\H p=some (.lst [])/\∀A H',H A=none->Same H H'->H' A=some (.lst (e0.map V.int))->Q (.ref A) H'
theorem n1 {x y:Addr}(h:x≠y):x∉[y]:=λm=>h (List.mem_singleton.mp m)
theorem n2 {x y z:Addr}(h:x≠y/\x≠z):x∉[y,z]:=λm=>(List.mem_cons.mp m).elim h.1 λm=>h.2 (List.mem_singleton.mp m)
noncomputable def rTupOf (K:W.Frag):List V->Hp->VK->Prop:=λxs H Q=>∃p ys,xs=[.ref p]/\((SqL K H p ys/\∀l,H l=none->Q (.ref l) (upd H l (.tup ys)))\/(SqT K H p ys/\Q (.ref p) H))
noncomputable abbrev kTab:Str:=Str.ofString "table"
noncomputable abbrev kStr:Str:=Str.ofString "stream"
noncomputable def kindV:V->Bool
 | .str z=>decide (z=kTab) || decide (z=kStr)
 | _=>false
inductive KThg (H:Hp):V->Prop
 | non:KThg H .non
 | bl (b:Bool):KThg H (.bl b)
 | int (i:Int):KThg H (.int i)
 | str (z:Str):KThg H (.str z)
 | lst {p:Addr} {xs:List V} (h:H p=some (.lst xs)):KThg H (.ref p)
inductive IsShB (H:Hp):V->Bool->Prop
 | good {t:Addr} {x:Shf}:H t=some (.tup x.v)->okShf x->IsShB H (.ref t) true
theorem Thg.same {H H':Hp}{v:V}(h:Thg H v)(s:Same H H'):Thg H' v:=by
 cases h with
 | non=>exact .non
 | bl b=>exact .bl b
 | int i=>exact .int i
 | str l h=>exact .str l h
 | lst h=>exact .lst (s _ _ h)
 | tup h=>exact .tup (s _ _ h)
theorem KThg.same {H H':Hp}{v:V}(h:KThg H v)(s:Same H H'):KThg H' v:=by
 cases h with
 | non=>exact .non
 | bl b=>exact .bl b
 | int i=>exact .int i
 | str z=>exact .str z
 | lst h=>exact .lst (s _ _ h)
inductive AreB (H:Hp):V->Bool->Prop
 | good {p:Addr} {xs:List Shf}:LTups H p (xs.map Shf.v)->OkShfs xs->AreB H (.ref p) true
noncomputable def uc:Sp:=λvs H Q _=>∃v,vs=[v]/\KThg H v/\Q (.bl (kindV v)) H
noncomputable def kQ:Sp:=λvs H Q _=>∃v b,vs=[v]/\IsShB H v b/\∀H',Same H H'->Q (.bl b) H'
noncomputable def nk:Sp:=λvs H Q _=>∃v b,vs=[v]/\AreB H v b/\∀H',Same H H'->Q (.bl b) H'
noncomputable def ud (C CB:Addr):Sp:=λvs H Q E=>∃(x dx:Addr) (v:V),vs=[.ref x,v]/\H x=some (.ins C dx [])/\
 ((∃(p:Addr) (xs:List Shf),v=.ref p/\LTups H p (xs.map Shf.v)/\OkShfs xs/\∀l H',H l=none->Chg [x] H H'->ShAt C H' x l xs->Q .non H')\/(AreB H v false/\XB E H CB []))
noncomputable def vJ (C:Addr):Sp:=λvs H Q _=>∃(s l:Addr) (xs:List Shf),vs=[.ref s]/\ShAt C H s l xs/\∀D H',H D=none->Same H H'->LTups H' D (xs.map Shf.v)->Q (.ref D) H'
noncomputable def oF (C CN:Addr):Sp:=λvs H Q E=>∃(s l:Addr) (xs:List Shf) (nm:List Nat),vs=[.ref s,.str (S nm)]/\ShAt C H s l xs/\OkShfs xs/\
 ((∃k x,xs[k]?=some x/\x.name=nm/\∀D H',H D=none->Same H H'->H' D=some (.lst (rngV (startOf xs k) x.rows))->Q (.ref D) H')\/((∀x∈xs,x.name≠nm)/\XB E H CN [("name",.str (S nm))]))
noncomputable def oG (C CN:Addr):Sp:=λvs H Q E=>∃(s l:Addr) (xs:List Shf) (nm key:List Nat),vs=[.ref s,.str (S nm),.str (S key)]/\ShAt C H s l xs/\OkShfs xs/\
 ((∃k x,xs[k]?=some x/\x.name=nm/\∀H',Same H H'->Q (.int (rowNo xs k x key)) H')\/((∀x∈xs,x.name≠nm)/\XB E H CN [("name",.str (S nm))]))
noncomputable def vK (C CN:Addr):Sp:=λvs H Q E=>∃(s l:Addr) (xs:List Shf) (r:Int),vs=[.ref s,.int r]/\ShAt C H s l xs/\OkShfs xs/\
 ((∃k x,xs[k]?=some x/\(startOf xs k:Int)<=r/\r < startOf xs (k+1)/\∀t,H t=some (.tup x.v)->Q (.ref t) H)\/((r < 0\/(startOf xs xs.length:Int)<=r)/\XB E H CN [("name",.int r)]))
noncomputable def AN (i:Nat)(C CN:Addr):Sp:=λvs H Q E=>∃(s l:Addr) (xs:List Shf) (r:Int),vs=[.ref s,.int r]/\ShAt C H s l xs/\OkShfs xs/\
 ((∃k x,xs[k]?=some x/\(startOf xs k:Int)<=r/\r < startOf xs (k+1)/\Q (it i x.v) H)\/((r < 0\/(startOf xs xs.length:Int)<=r)/\XB E H CN [("name",.int r)]))
noncomputable def sz5 (c:Int):Nat:=(1+mixN c 61 % 12).toNat
noncomputable def at5 (c:Int):Nat:=(mixN c 62 % (1+mixN c 61 % 12)).toNat
noncomputable def nb5 (c:Int):List Nat:=(List.range (sz5 c)).map λ(k:Nat)=>ltr36 (mixN c (70+(0+(k:Int))))
noncomputable def nm5 (c:Int)(k:Nat):List Nat:=(nb5 c).set (at5 c) (ltr36 (mixN c 63 % 36+(0+(k:Int))))
noncomputable def names5 (c:Int)(m:Nat):List (List Nat):=(List.range m).map (nm5 c)
theorem En (c:Int):at5 c < sz5 c:=by
 unfold at5 sz5;have h1:=Int.emod_nonneg (mixN c 62) (show 1+mixN c 61 % 12≠0 by omega);have h2:=Int.emod_lt_of_pos (mixN c 62) (show 0 < 1+mixN c 61 % 12 by omega);omega
theorem AO (c:Int)(k:Nat):1<=(nm5 c k).length/\(nm5 c k).length<=12/\(nm5 c k).all inN=true:=by
 have hl:(nm5 c k).length=sz5 c:=by unfold nm5 nb5;rw[List.length_set,List.length_map,List.length_range]
 have hs:1<=sz5 c/\sz5 c<=12:=by unfold sz5;omega
 refine⟨by omega,by omega,List.all_eq_true.mpr λx hx=>?_⟩;rcases List.mem_or_eq_of_mem_set hx with hx | rfl
 ·(refine pw11 (List.mem_map.mp hx) λk _ zz1=>?_;subst zz1)
  exact oB _
 ·exact oB _
theorem si {c:Int}{k j:Nat}(hk:k < 36)(hj:j < 36)(h:nm5 c k=nm5 c j):k=j:=by
 have e:=congrArg (λl=>l[at5 c]?) h;have hl:(nb5 c).length=sz5 c:=by unfold nb5;rw[List.length_map,List.length_range]
 have:=En c;unfold nm5 at e;simp only[List.getElem?_set,if_true,hl,this] at e;have:=yv (Option.some.inj e);omega
noncomputable def yA:Sp:=λvs H Q _=>∃(c:Int) (m:Nat),vs=[.int c,.int m]/\1<=m/\m<=36/\∀D H',H D=none->Same H H'->H' D=some (.lst ((names5 c m).map λl=>.str (S l)))->Q (.ref D) H'
noncomputable def splitL (c:Nat):List Nat->List (List Nat)
 | []=>[[]]
 | x::r=>if x=c then[]::splitL c r else match splitL c r with
  | []=>[[x]]
  | p::ps=>(x::p)::ps
theorem mY {c:Nat}:∀{p:List Nat},c∉p->splitL c p=[p]
 | [],_=>rfl
 | x::r,h=>by
  rw[List.mem_cons,not_or] at h;rw[splitL,if_neg (Ne.symm h.1),mY h.2]
theorem oH {c:Nat}{r:List Nat}:∀{p:List Nat},c∉p->splitL c (p++c::r)=p::splitL c r
 | [],_=>by rw[List.nil_append,splitL,if_pos rfl]
 | x::p,h=>by
  rw[List.mem_cons,not_or] at h;rw[List.cons_append,splitL,if_neg (Ne.symm h.1),oH h.2]
theorem mZ {c:Nat}:∀{ps:List (List Nat)},ps≠[]->(∀p∈ps,c∉p)->splitL c (joinL [c] ps)=ps
 | [],h,_=>absurd rfl h
 | [p],_,h=>by rw[joinL];exact mY (h p (by simp))
 | p::q::r,_,h=>by
  show splitL c (p++[c]++joinL [c] (q::r))=_;rw[List.append_assoc];show splitL c (p++c::joinL [c] (q::r))=_;rw[oH (h p (by simp)),mZ (by simp) λz hz=>h z (List.mem_cons_of_mem _ hz)]
theorem Cr (c:Nat)(a:List Nat):Txt.split (S a) (S [c])=(splitL c a).map S:=by
 have e1:=StrLaws.join_split (S a) (S [c]);have e2:=StrLaws.split_free (S a) c;have ne:Txt.split (S a) (S [c])≠[]:=by
  intro z;rw[z] at e1;have:a=[]:=by
   have:=congrArg (λz:Str=>z.cps.toList) e1;exact this.symm
  subst this;have:Txt.split (S []) (S [c])=[S []]:=by
   unfold Txt.split;rw[if_pos (by rfl)]
  rw[this] at z;cases z
 have e3:Txt.split (S a) (S [c])=((Txt.split (S a) (S [c])).map λz=>z.cps.toList).map S:=by
  rw[List.map_map]
  conv=>lhs;rw[<-List.map_id (Txt.split (S a) (S [c]))]
  refine List.map_congr_left λz _=>?_;cases z;simp[S]
 generalize hps:(Txt.split (S a) (S [c])).map (λz=>z.cps.toList)=ps at e3;rw[e3,rP] at e1;have e4:joinL [c] ps=a:=ot e1;have e5:=mZ (c:=c) (ps:=ps) (by intro z;rw[z] at hps;exact ne (List.map_eq_nil_iff.mp hps)) λp hp=>by
  rw[<-hps] at hp;(refine pw11 (List.mem_map.mp hp) λz hz zz1=>?_;subst zz1);exact e2 z hz
 rw[e3,<-e5,e4]
theorem yB (c:Nat)(a z:List Nat):Txt.replace (S a) (S [c]) (S z)=S (joinL z (splitL c a)):=by
 have:=StrLaws.replace_one (S a) (S z) c;rw[show(⟨#[c]⟩:Str)=S [c] from rfl,Cr,rP] at this;exact this
section
variable {X:Cx}
noncomputable def rSw:V->List V->Hp->VK->Prop:=λx vs H Q=>∃a b,x=.str a/\vs=[.str b]/\Q (.bl (Txt.startswith a b)) H
noncomputable def rSplit:V->List V->Hp->VK->Prop:=λx vs H Q=>∃a c,x=.str (S a)/\vs=[.str (S [c])]/\a.length<=1000000/\∀l,H l=none->Q (.ref l) (upd H l (.lst ((splitL c a).map λp=>V.str (S p))))
end
theorem lX {M:Model}{Γ:PySem.Ctx}{p:Pos}{t:Sem PySem.Fin}{fs:List Frame}{s s':Shared}{e:End}(h:Runs M Γ p t fs s e s'):s.toks<=s'.toks:=by
 induction h<;>first
  | exact Nat.le_refl _
  | assumption
  | (rename_i ih;exact ih)
  | (rename_i ih1 ih2;exact Nat.le_trans ih1 ih2)
  | (rename_i ih;exact Nat.le_trans (Nat.le_succ _) ih)
theorem vL {M:Model}{Γ:PySem.Ctx}{p:Pos}{g:Nat}{r:Resume}{s s':Shared}{res:GenResult}(h:Wakes M Γ p g r s res s'):s.toks<=s'.toks:=by
 unfold Wakes at h
 split at h
 ·exact h.elim
 ·split at h
  ·(revert h;refine ow23 λe s1 hr _ _ zz1=>?_;subst zz1)
   have:=lX hr;exact this
  ·rw[h.2];exact Nat.le_refl _
  ·rw[h.2];exact Nat.le_refl _
 ·(revert h;refine ow23 λe s1 hr _ _ zz1=>?_;subst zz1)
  have:=lX hr;exact this
 ·rw[h.2];exact Nat.le_refl _
 ·rw[h.2];exact Nat.le_refl _
theorem wp_toks {α:Type}{M:Model}{Γ:PySem.Ctx}(t:Sem α):∀(Q:α->Pos->Shared->Prop) (E:Value->Pos->Shared->Prop) (p:Pos) (s:Shared) (n:Nat),n<=s.toks->Sem.wp M Γ t Q E p s->
  Sem.wp M Γ t (λa p' s'=>Q a p' s'/\n<=s'.toks) (λe p' s'=>E e p' s'/\n<=s'.toks) p s:=by
 induction t with
 | pure a=>intro Q E p s n hn h;rw[Sem.wp] at h ⊢;exact⟨h,hn⟩
 | raise a=>intro Q E p s n hn h;rw[Sem.wp] at h ⊢;exact⟨h,hn⟩
 | load a pt k ih=>intro Q E p s n hn h;rw[Sem.wp] at h ⊢;(revert h;refine ow11 λo h1 h2=>?_);exact(iw11 o h1 (ih _ _ _ _ _ _ hn h2))
 | update a pt f k ih=>intro Q E p s n hn h;rw[Sem.wp] at h ⊢;exact⟨h.1,ih _ _ _ _ _ _ hn h.2⟩
 | fresh k ih=>intro Q E p s n hn h;rw[Sem.wp] at h ⊢;exact ih _ _ _ _ _ _ (Nat.le_trans hn (Nat.le_succ _)) h
 | choose src m k ih=>intro Q E p s n hn h;rw[Sem.wp] at h ⊢;exact⟨h.1,ih _ _ _ _ _ _ hn h.2⟩
 | call c hd g l k ih=>
  intro Q E p s n hn h;rw[Sem.wp] at h ⊢;(revert h;refine ow21 λr s' hr h2=>?_);exact(iw21 r s' hr (ih _ _ _ _ _ _ (Nat.le_trans hn (lX hr)) h2))
 | genState g k ih=>intro Q E p s n hn h;rw[Sem.wp] at h ⊢;(revert h;refine ow11 λo h1 h2=>?_);exact(iw11 o h1 (ih _ _ _ _ _ _ hn h2))
 | resume g r l k ih=>
  intro Q E p s n hn h;rw[Sem.wp] at h ⊢;(revert h;refine ow21 λr s' hr h2=>?_);exact(iw21 r s' hr (ih _ _ _ _ _ _ (Nat.le_trans hn (vL hr)) h2))
 | _=>
  intro Q E p s n hn h;rw[Sem.wp] at h
  first
  | exact h.elim
  | (rw[Sem.wp];rename_i ih;exact ih _ _ _ _ _ _ hn h)
theorem ue {α:Type}{M:Model}{A:Around}{t:Sem α}{Q:α->Shared->Prop}{E:Value->Shared->Prop}{s:Shared}(h:wpAny M A t Q E s) :
  wpAny M A t (λa s'=>Q a s'/\s.toks<=s'.toks) E s:=λΓ p hΓ=>
 Sem.wp_mono M Γ t (λ_ _ _ x=>x) (λ_ _ _ x=>x.1) p s (wp_toks t _ _ p s s.toks (Nat.le_refl _) (h Γ p hΓ))
noncomputable def PE1 (X:Cx)(e:Expr)(t:TE):Prop:=
 ∀(pins:List (Addr×Obj)) (s:Shared) (σ:St) (H:Hp) (Q:VK),0 < s.toks->Inv X pins σ H s->t σ H Q->wpAny (model X.prog X.w) X.A (eval e X.env) (λu s'=>EP X pins σ Q u s'/\0 < s'.toks) X.xe s
noncomputable def PSs1 (X:Cx)(st:List Stmt)(t:TS):Prop:=
 ∀(pins:List (Addr×Obj)) (s:Shared) (σ:St) (H:Hp) (D:Ends),0 < s.toks->Inv X pins σ H s->t D σ H->wpAny (model X.prog X.w) X.A (execs st X.env) (SP X pins D) X.xe s
section
variable {X:Cx} {e:Expr} {te:TE} {pos:Pos}
theorem PE.one (h:PE X e te):PE1 X e te:=λpins s σ H Q h0 I q=>thn (ue (h pins s σ H Q I q)) λ_ _ x=>⟨x.1,Nat.lt_of_lt_of_le h0 x.2⟩
theorem AQ (he:PE1 X e te):PSs1 X [.Return (some e) pos] (tRet te):=by
 intro pins s σ H D h0 I h;refine wpAny_execs_cons (thn (wpAny_Return_some (Q:=SP X pins D) (thn (he pins s σ H _ h0 I h) λv s1 ⟨⟨x,H1,I1,r1,q1⟩,_⟩=>(iw32 x σ H1 I1 r1 q1))) λf s1 q=>?_);cases f with
 | next=>exact wpAny_execs_nil q
 | ret v=>exact q
 | brk=>exact q
 | cont=>exact q
noncomputable def tRepl (K:W.Frag)(c:Nat)(z:List Nat)(to:TE):TE:=λσ H Q=>to σ H λx H1=>∃a,x=.str (S a)/\a.length+(a.length+1) * z.length<=16777216/\Q (.str (S (joinL z (splitL c a)))) H1
theorem uf {o:Expr}{to:TE}{K:W.Frag}{c:Nat}{z:List Nat}{xc xz:Str}{jc jz:Nat}{pc pz apos cpos:Pos}(ec:xc=S [c])(ez:xz=S z)(hcz:(S [c] == S z)=false)(ho:PE1 X o to)
  (hbase:autoParam (attributeBase o "replace" X.env (eval o X.env)=eval o X.env) L2.dft3._auto_1)
  (hfew:autoParam (((backTo cpos (starEach [.Constant (.str xc) jc pc,.Constant (.str xz) jz pz] X.env)).all (λx=>!x.1) && (backToKw cpos (keywordEach [] X.env)).all (λx=>x.1.isSome)
   && decide (([.Constant (.str xc) jc pc,.Constant (.str xz) jz pz]:List Expr).length+([]:List Keyword).length+(if ([]:List Keyword).isEmpty then 0 else 1) < 30))=true) L2.dft3._auto_1)
  (hline:autoParam ((apos.endLine == cpos.line)=true) L2.dft3._auto_1) :
  PE1 X (.Call (.Attribute o "replace" apos) [.Constant (.str xc) jc pc,.Constant (.str xz) jz pz] [] cpos) (tRepl K c z to):=by
 intro pins s σ H Q h0 I h;have ec:=ec;have ez:=ez;subst ec ez;refine wpAny_Call_method_late hbase hfew hline rfl (thn (ho pins s σ H _ h0 I h) λv s1 ⟨⟨x,H1,I1,r1,a,ex,hz,q⟩,h1⟩=>?_);subst ex;obtain⟨t,rfl⟩:=r1;refine(iw24 ("str") ("str.replace") PySem.F.plainAttrs_str PySem.F.slot_str_replace PySem.F.type_str_replace (typeIs_str _ _ _) ⟨(λ_ e=>nomatch e),?_⟩);refine Calls.callWith_builtin rfl (Calls.evalArgs_plain ?_);refine Calls.spliced_cons (Calls.Constant_str (k:=jc) (pos:=pc) ?_);refine Calls.spliced_cons (Calls.Constant_str (k:=jz) (pos:=pz) ?_);refine Calls.spliced_nil ?_;refine thn (ue (SC.replace (by show s1.toks≠0;omega) (by show s1.toks+1≠0;omega) (by show s1.toks≠s1.toks+1;omega) hcz (by rw[ck,ck];exact hz) λt' k=>?_)) λu s2 x=>⟨x.1,Nat.lt_of_lt_of_le (by show 0 < s1.toks+1+1;omega) x.2⟩
 rw[yB];exact(iw22 (.str _) H1 (I1.tok k) ⟨t',rfl⟩ q)
end
theorem yC {kd:Str->Option NameKind}{x:Str}{u:Value}(h:kd x=some .local):bindL kd [(x,u)] (λ_=>none)=λy=>([(x,u)]:List (Str×Value)).reverse.lookup y:=by
 funext y;unfold bindL bindL;rw[if_pos h];show(if y=x then some u else none)=List.lookup y [(x,u)];rw[List.lookup_cons]
 by_cases e:y=x
 ·subst e;simp
 ·rw[if_neg e,beq_eq_false_iff_ne.mpr e];rfl
section
variable {P:Program} {w:World} {K:W.Frag} {mg:Str->Option Value} {base:Heap}
theorem Fun.ok1 {x qual:Str}{st:Stmt}{f:Addr}{fd:FuncData}{N:List Str}{p1:Str}{k:Nat}{sp:Sp}(F:Fun K x qual st f fd)(S:FnScope N [p1] (defScope st))(hnc:∀x∈(defScope st).names,x.2≠.cell)
  (len:∀vs H Q E,sp vs H Q E->vs.length=1)
  (hbody:∀(cdv:Value) (A:Around) (outer:List Env) (s:Shared) (H:Hp) (vs:List V) (Q:VK) (E:XK),Room k (A.deeper (envOfC qual (defScope st) s.heap.objs.size f cdv))->sp vs H Q E->
   ∃t,PSs1 (cxOf CX0 P w K mg base N qual (defScope st) f cdv A outer s H E) (defBody st) t/\t { nx:=λ_ H'=>Q .non H',rt:=Q } (start N vs) H):FnOk P w K mg base CX0 (k+1) f fd [p1] sp:=by
 (refine pw60 F.ex λoc od kV doc pm an=>ow32 λcdv ct osl zz1 lk hcd=>?_;subst zz1);refine⟨len,λA outer s H args us vs Q E hr e0 hb r hsp=>?_⟩;have hl:=len _ _ _ _ hsp;have KX:K.In s.heap:=e0.mod.kin.keeps λb o e=>(e0.bs b o e).1;have lim:s.heap.NoLimit:=e0.mod.nolimit.keeps λb o e=>(e0.bs b o e).1;have hloc:(defScope st).names.lookup p1=some .local:=by
  rcases S.par p1 (by simp) with q | q
  ·exact q
  ·exact absurd rfl (hnc _ (PySem.mem_of_lookup q))
 have hus:us.length=1:=by rw[<-r.length];exact hl
 obtain⟨u,rfl⟩:∃u,us=[u]:=by
  match us,hus with
  | [u],_=>exact⟨u,rfl⟩
 have nocells:∀(l:List (Str×NameKind)) (n:Nat),(∀x∈l,x.2≠.cell)->cellsFrom n l []=[]:=by
  intro l
  induction l with
  | nil=>intro n _;rfl
  | cons a l ih=>
   intro n h;obtain⟨y,kd⟩:=a;unfold cellsFrom;rw[if_neg (λz=>h (y,kd) (by simp) (by simpa using z))];exact ih n λx hx=>h x (List.mem_cons_of_mem _ hx)
 refine codeAny_call_def (binds:=[p1].zip [u]) hr.depth (KX _ _ lk) rfl lim (W.codeRec_of KX hcd) rfl hb hnc (λy hy=>by simp at hy;rw[hy];exact hloc) (λh1 hns hk=>?_) S.co S.gen S.kind;have ee:callEnv (W.fnOf x qual (defArgs st) (defBody st) (defScope st) .none kV doc pm an cdv ct) s.heap.objs.size f=envOfC qual (defScope st) s.heap.objs.size f cdv:=by
  unfold envOfC;rw[nocells _ _ hnc];rfl
 rw[ee];have I:Inv (cxOf CX0 P w K mg base N qual (defScope st) f cdv A outer s H E) [] (start N vs) H { s with heap:=h1,toks:=s.toks+1 }:=by
  refine qy S hr.hd e0 (by rw[hl];rfl) r ⟨⟨(iw20 h1 _ rfl),?_,hk,Nat.le_refl _⟩,?_,?_,?_⟩
  ·show h1.Ns _ _
   rw[show([p1].zip [u]:List (Str×Value))=[(p1,u)] from rfl,yC hloc];exact hns
  ·rw[nocells _ _ hnc];intro n c z;cases z
  ·rw[nocells _ _ hnc];exact .nil
  ·rw[nocells _ _ hnc];intro n c z;cases z
 (refine pw11 (hbody cdv A outer s H vs Q E (hr.deeper _) hsp) λt ht hq=>?_);refine wpAny_mono (ht [] _ (start N vs) H _ (Nat.succ_pos _) I hq) (λfl s' hs=>?_) λe s' hs=>hs;have fin:∀{σ':St} {H':Hp} {v:V} {u:Value},Inv (cxOf CX0 P w K mg base N qual (defScope st) f cdv A outer s H E) [] σ' H' s'->RelV v u->Q v H'->CE outer P w H s Q u s':=
  λ{σ' H' v u} J rv q=>(iw24 v H' J.os J.bare J.base J.hok ⟨rv,q⟩)
 cases fl with
 | ret u=>
  (revert hs;refine ow32 λv σ' H' J rv q=>?_);exact fin J rv q
 | next=>
  (revert hs;refine ow21 λσ' H' J q=>?_);exact fin (v:=V.non) (u:=Value.none) J rfl q
 | brk=>
  (revert hs;refine ow21 λ_ _ _ q=>?_);exact False.elim q
 | cont=>
  (revert hs;refine ow21 λ_ _ _ q=>?_);exact False.elim q
end
theorem yD (c:Nat):∀a:List Nat,splitL c a≠[]
 | []=>by simp[splitL]
 | x::r=>by
  rw[splitL]
  by_cases e:x=c
  ·rw[if_pos e];simp
  ·rw[if_neg e]
   cases h:splitL c r<;>simp
theorem fB (c:Nat)(z:List Nat):∀a:List Nat,joinL z (splitL c a)=a.flatMap λx=>if x=c then z else[x]
 | []=>rfl
 | x::r=>by
  have ih:=fB c z r;have ne:=yD c r;rw[splitL,List.flatMap_cons];cases h:splitL c r with
  | nil=>exact absurd h ne
  | cons p ps=>
   rw[h] at ih
   by_cases e:x=c
   ·rw[if_pos e,if_pos e,<-ih]
    show[]++z++joinL z (p::ps)=_;rw[List.nil_append]
   ·rw[if_neg e,if_neg e,<-ih]
    cases ps with
    | nil=>rfl
    | cons q qs=>
     show(x::p)++z++joinL z (q::qs)=[x]++(p++z++joinL z (q::qs));simp
noncomputable def gd1 (c:Nat):List Nat:=if c=126 then[126,119] else if c=59 then[126,115] else[c]
noncomputable def gd (a:List Nat):List Nat:=a.flatMap gd1
theorem E8 (a:List Nat):joinL [126,115] (splitL 59 (joinL [126,119] (splitL 126 a)))=gd a:=by
 rw[fB,fB,List.flatMap_assoc,gd];congr 1;funext x;unfold gd1
 by_cases h:x=126
 ·subst h;rfl
 ·rw[if_neg h,if_neg h]
  by_cases h':x=59
  ·subst h';rfl
  ·simp[h']
theorem Cs (x:Nat)(a:List Nat):gd (x::a)=gd1 x++gd a:=List.flatMap_cons
theorem Ct (c:Nat):(gd1 c).length<=2:=by
 unfold gd1
 by_cases h:c=126
 ·rw[if_pos h];decide
 ·rw[if_neg h]
  by_cases h':c=59
  ·rw[if_pos h'];decide
  ·rw[if_neg h'];simp
theorem sj:∀a:List Nat,(gd a).length<=2 * a.length
 | []=>Nat.le_refl _
 | x::a=>by
  have:=sj a;have:=Ct x;rw[Cs,List.length_append,List.length_cons];omega
theorem oI:∀{l:List Nat} {x:Nat},x∈l->x<=l.sum
 | y::l,x,h=>by
  rcases List.mem_cons.mp h with rfl | h
  ·rw[List.sum_cons];omega
  ·have:=oI h;rw[List.sum_cons];omega
theorem oJ {α:Type}{l:List α}{i:Nat}{x:α}(h:l[i]?=some x):l.take (i+1)=l.take i++[x]:=by
 obtain⟨hi,rfl⟩:=List.getElem?_eq_some_iff.mp h;exact(List.take_append_getElem hi).symm
noncomputable def vM:Sp:=λvs H Q _=>∃a,vs=[.str (S a)]/\a.length<=1000000/\Q (.str (S (gd a))) H
noncomputable def tx (l:List (List Nat)):List V:=l.map λa=>V.str (S a)
theorem sk {H H':Hp}{a:Addr}(s:Same H H')(h:H' a=none):H a=none:=by
 cases e:H a with
 | none=>rfl
 | some o=>rw[s _ _ e] at h;cases h
noncomputable def yE (K:W.Frag):Sp:=λvs H Q _=>∃p l,vs=[.ref p]/\SqL K H p (tx l)/\(l.map List.length).sum+l.length<=1000000/\∀H',Same H H'->Q (.str (S (joinL [59] (l.map gd)))) H'
theorem oK (m:Nat):strI (m:Int)=(Nat.toDigits 10 m).map Char.toNat:=W.KIN.signs_num m
theorem nV {m k:Nat}(hk:1<=k)(h:m < 10 ^ k):(strI (m:Int)).length<=k:=by
 rw[oK,List.length_map];exact digits10_le hk h
theorem qK:∀d:Nat,d < 10->(Nat.digitChar d).toNat=48+d:=by decide
theorem kR (m:Nat):∀c∈strI (m:Int),48<=c/\c<=57:=by
 rw[oK]
 induction m using Nat.strongRecOn with
 | _ m ih=>
  by_cases h:m < 10
  ·rw[Nat.toDigits_of_lt_base h]
   intro c hc;simp at hc;rw[hc,qK m h];omega
  ·have hm:m % 10 < 10:=Nat.mod_lt m (by decide)
   have t:Nat.toDigits 10 (m / 10)++Nat.toDigits 10 (m % 10)=Nat.toDigits 10 (10 * (m / 10)+m % 10):=Nat.toDigits_append_toDigits (by decide) (by omega) hm;rw[Nat.div_add_mod] at t;rw[<-t,List.map_append,Nat.toDigits_of_lt_base hm];intro c hc;rcases List.mem_append.mp hc with hc | hc
   ·exact ih (m / 10) (by omega) c hc
   ·simp at hc
    rw[hc,qK _ hm];omega
theorem AR (m:Nat):1<=(strI (m:Int)).length:=by
 rw[oK,List.length_map];exact tDigits_len_ge 10 m
noncomputable def zf (w m:Nat):List Nat:=List.replicate (w - (strI (m:Int)).length) 48++strI (m:Int)
theorem lY {w m:Nat}(hw:1<=w)(h:m < 10 ^ w):(zf w m).length=w:=by
 have:=nV hw h;unfold zf;rw[List.length_append,List.length_replicate];omega
theorem Cu (m w:Nat):Txt.zfill (S (strI (m:Int))) (w:Int)=S (zf w m):=by
 unfold Txt.zfill zf;rw[ck]
 by_cases h:(w:Int)<=((strI (m:Int)).length:Int)
 ·rw[if_pos h,show w - (strI (m:Int)).length=0 by omega];rfl
 ·rw[if_neg h,show((w:Int).toNat - (strI (m:Int)).length)=w - (strI (m:Int)).length by omega]
  have h0:=AR m;have hd:=kR m;have hc:PySem.zfilled (S (strI (m:Int))) (w - (strI (m:Int)).length)=Builtin.Str.padded (S (strI (m:Int))) (w - (strI (m:Int)).length) 0 48:=by
   cases hl:strI (m:Int) with
   | nil=>rw[hl] at h0;simp at h0
   | cons c r=>
    have hc:=hd c (by rw[hl];simp);unfold PySem.zfilled
    split
    ·rename_i e;have e':c=43:=by simpa using e
     omega
    ·rename_i e;have e':c=45:=by simpa using e
     omega
    ·rfl
  rw[hc];unfold Builtin.Str.padded;simp[S]
noncomputable def rZf:V->List V->Hp->VK->Prop:=λx vs H Q=>∃m w:Nat,x=.str (S (strI (m:Int)))/\vs=[.int (w:Int)]/\w<=1000/\Q (.str (S (zf w m))) H
section
variable {X:Cx}
open Builtin Builtin.Str in
theorem oM:MtR X "str.zfill" rZf:=by
 intro pins s σ H x vs v us Q I rx rv h;(revert h;refine ow23 λm w zz1 zz2 hw q=>?_;subst zz1;subst zz2);obtain⟨t,rfl⟩:=rx;(refine pw11 (vals1 rv) λu zz1=>ow10 λt' zz2=>?_;subst zz1;subst zz2);refine SC.zfill ?_ λt' k=>?_
 ·unfold PadOk fitsSsize tooLong sizeLine
  rw[Bool.and_eq_true,Bool.not_eq_true',Bool.not_eq_true'];refine⟨?_,decide_eq_false (by omega)⟩;rw[Bool.or_eq_false_iff];exact⟨decide_eq_false (by omega),decide_eq_false (by omega)⟩
 ·rw[Cu]
  exact(iw22 (.str _) H (I.tok k) ⟨t',rfl⟩ q)
end
noncomputable def pfL (n:Nat)(b:List Nat):List Nat:=zf 6 n++[32]++zf 5 (sumF 0 b)++[32]
noncomputable def hdL (n:Nat)(b:List Nat):List Nat:=pfL n b++(zf 4 b.length++[32])
noncomputable def lineL (n:Nat)(b:List Nat):List Nat:=hdL n b++b
structure GoodB (n:Nat)(b:List Nat):Prop where
 n:n < 1000000
 c:∀c∈b,c < 128
 l:b.length < 10000
theorem GoodB.sum {n:Nat}{b:List Nat}(g:GoodB n b):sumF 0 b < 65536:=xq (λc hc=>Nat.lt_trans (g.c c hc) (by decide)) (by decide)
theorem GoodB.pf {n:Nat}{b:List Nat}(g:GoodB n b):(pfL n b).length=13:=by
 have:=g.sum;unfold pfL;simp only[List.length_append,List.length_cons,List.length_nil];rw[lY (by decide) g.n,lY (by decide) (Nat.lt_trans this (by decide))]
theorem GoodB.hd {n:Nat}{b:List Nat}(g:GoodB n b):(hdL n b).length=18:=by
 unfold hdL;rw[List.length_append,g.pf,List.length_append,lY (by decide) g.l];rfl
section
variable {n:Nat} {b:List Nat} {i c:Nat}
end
theorem eI {H H':Hp}{C:Addr}{fs:List (Str×V)}(s:Same H H'):Bears (Got H C fs) H' C fs:=λd H'' hd s2 e=>⟨rfl,(iw13 d rfl (sk s hd) (s.trans s2) e)⟩
noncomputable def Eo:Sp:=λvs H Q _=>∃l:List Nat,vs=[.str (S l)]/\(∀c∈l,c < 128)/\Q (.int (sumF 0 l:Nat)) H
noncomputable def yF:Sp:=λvs H Q _=>∃x y:Int,vs=[.int x,.int y]/\Q (.bl (decide (x=y))) H
noncomputable def yG:Sp:=λvs H Q _=>∃(n:Nat) (b:List Nat),vs=[.int (n:Int),.str (S b)]/\GoodB n b/\∀H',Same H H'->Q (.str (S (lineL n b))) H'
end L2
namespace L2
open PySem PySem.Spec PyProof.Rows Builtin Builtin.ObjectAttr
end L2
namespace L2
open PySem PySem.Spec PyProof.Rows
section
variable {X:Cx} {K:W.Frag} {o e:Expr} {to:TE} {tx:TX} {name:Str} {apos cpos:Pos} {T id:String}
end
noncomputable def sgA:List (List Nat)->List (List Nat)
 | []=>[]
 | [b]=>[46::b]
 | b::c::r=>(43::b)::sgA (c::r)
theorem fC:∀act:List (List Nat),(sgA act).length=act.length
 | []=>rfl
 | [_]=>rfl
 | b::c::r=>by rw[sgA,List.length_cons,fC (c::r)];rfl
theorem xr:∀(act:List (List Nat)) (k:Nat) (b:List Nat),act[k]?=some b->(sgA act)[k]?=some ((if k+1 < act.length then 43 else 46)::b)
 | [],k,b,h=>by simp at h
 | [c],k,b,h=>by
  cases k with
  | zero=>cases h;rfl
  | succ k=>simp at h
 | c::d::r,k,b,h=>by
  cases k with
  | zero=>cases h;rfl
  | succ k=>
   have:=xr (d::r) k b h;rw[sgA,List.getElem?_cons_succ,this];simp only[List.length_cons,Nat.add_lt_add_iff_right]
noncomputable def lns:Nat->List (List Nat)->List (List Nat)
 | _,[]=>[]
 | n,b::r=>lineL n b::lns (n+1) r
theorem kS:∀(n:Nat) (bs:List (List Nat)),(lns n bs).length=bs.length
 | _,[]=>rfl
 | n,b::r=>by rw[lns,List.length_cons,kS (n+1) r];rfl
theorem xt:∀(n:Nat) (a b:List (List Nat)),lns n (a++b)=lns n a++lns (n+a.length) b
 | n,[],b=>rfl
 | n,x::a,b=>by
  rw[List.cons_append,lns,lns,xt (n+1) a b,List.length_cons,List.cons_append];congr 3;omega
theorem ug (n:Nat)(a:List (List Nat))(b:List Nat):lns n (a++[b])=lns n a++[lineL (n+a.length) b]:=xt n a [b]
noncomputable def okB (b:List Nat):Prop:=(∀c∈b,c < 128)/\b.length<=4000
structure BookAt (C:Addr)(H:Hp)(r l:Addr)(ls:List (List Nat)):Prop where
 obj:∃dx,H r=some (.ins C dx [("lines",.ref l)])
 lst:H l=some (.lst (tx ls))
theorem BookAt.ne {C:Addr}{H:Hp}{r l:Addr}{ls:List (List Nat)}(R:BookAt C H r l ls):r≠l:=λz=>by
 obtain⟨dx,h⟩:=R.obj;rw[z,R.lst] at h;cases h
theorem BookAt.same {C:Addr}{H H':Hp}{r l:Addr}{ls:List (List Nat)}(R:BookAt C H r l ls)(s:Same H H'):BookAt C H' r l ls:=⟨let ⟨dx,h⟩:=R.obj;⟨dx,s _ _ h⟩,s _ _ R.lst⟩
noncomputable def vN (C:Addr):Sp:=λvs H Q _=>∃x dx,vs=[.ref x]/\H x=some (.ins C dx [])/\∀l H',H l=none->l≠x->Chg [x] H H'->BookAt C H' x l []->Q .non H'
noncomputable def uh (C:Addr):Sp:=λvs H Q _=>∃(r p l:Addr) (ls act:List (List Nat)),vs=[.ref r,.ref p]/\BookAt C H r l ls/\H p=some (.lst (tx act))/\p≠l/\(∀b∈act,okB b)/\ls.length+act.length<=5000/\
 ∀H',Chg [l] H H'->BookAt C H' r l (ls++lns ls.length (sgA act))->Q (.int ((ls.length+act.length:Nat):Int)) H'
noncomputable def vO (C:Addr):Sp:=λvs H Q _=>∃(r l:Addr) (ls:List (List Nat)),vs=[.ref r]/\BookAt C H r l ls/\∀p H',H p=none->Same H H'->H' p=some (.lst (tx ls))->Q (.ref p) H'
noncomputable abbrev Spot:=Int×Int
noncomputable def spotV (x:Spot):List V:=[.int x.1,.int x.2]
structure SendM where
 L:Str->Option Int
 T:Str->Int
 P:Str->List Spot
 sz:Nat
noncomputable def send0:SendM:=⟨λ_=>none,λ_=>0,λ_=>[],0⟩
noncomputable def sendF (l t p:Addr):List (Str×V):=[("lives",.ref l),("lasts",.ref t),("spots",.ref p)]
structure SendAt (C:Addr)(H:Hp)(r l t p:Addr)(Z:List Addr)(M:SendM):Prop where
 obj:∃dx,H r=some (.ins C dx (sendF l t p))
 liv:∃kvs,H l=some (.dK kvs)/\kvs.length<=M.sz/\∀z,valV kvs (.inr z)=(M.L z).map V.int
 las:∃kvs,H t=some (.dK kvs)/\kvs.length<=M.sz/\∀z,valV kvs (.inr z)=(M.L z).map λ_=>V.int (M.T z)
 spo:∃kvs,H p=some (.dK kvs)/\kvs.length<=M.sz/\∀z,(M.L z).isSome=true->∃q,valV kvs (.inr z)=some (.ref q)/\LTups H q ((M.P z).map spotV)/\q∉Z
 len:∀z,(M.P z).length<=8
 rl:r≠l
 rt:r≠t
 rp:r≠p
 lt:l≠t
 lp:l≠p
 tp:t≠p
theorem SendAt.chg {A:List Addr}{C:Addr}{H H':Hp}{r l t p:Addr}{Z:List Addr}{M:SendM}(h:SendAt C H r l t p Z M)(c:Chg A H H')(hr:r∉A)(hl:l∉A)(ht:t∉A)(hp:p∉A)(hz:∀b∈A,b∈Z\/∀xs,H b≠some (.lst xs)):SendAt C H' r l t p Z M:=by
 obtain⟨dx,e⟩:=h.obj;(refine pw12 h.liv λk1 e1 l1 v1=>?_);(refine pw12 h.las λk2 e2 l2 v2=>?_);(refine pw12 h.spo λk3 e3 l3 v3=>?_);refine⟨⟨dx,c.keep _ _ e hr⟩,(iw12 k1 (c.keep _ _ e1 hl) l1 v1),(iw12 k2 (c.keep _ _ e2 ht) l2 v2),(iw12 k3 (c.keep _ _ e3 hp) l3 (λz hzz=>?_)),h.len,h.rl,h.rt,h.rp,h.lt,h.lp,h.tp⟩;(refine pw12 (v3 z hzz) λq a1 a2 a3=>?_);refine(iw12 q a1 (a2.chg c λm=>?_) a3);rcases hz q m with y | y
 ·exact a3 y
 ·(revert a2;refine ow11 λts b1 _=>?_)
  exact y _ b1
theorem iH (l t p:Addr):(sendF l t p).lookup (Str.ofString "lives")=some (.ref l):=rfl
theorem eJ (l t p:Addr):(sendF l t p).lookup (Str.ofString "lasts")=some (.ref t):=rfl
theorem iI (l t p:Addr):(sendF l t p).lookup (Str.ofString "spots")=some (.ref p):=rfl
noncomputable def SendM.hail (M:SendM)(n:Str):SendM:={ M with
 L:=λz=>if z=n then some ((M.L n).getD 0+1) else M.L z
 T:=λz=>if z=n then(if (M.L n).getD 0=0 then 0 else M.T n) else M.T z
 P:=λz=>if z=n then(if (M.L n).getD 0=0 then[] else M.P n) else M.P z
 sz:=M.sz+1 }
noncomputable def SendM.note (M:SendM)(n:Str)(k:Int)(x:Spot):SendM:={ M with
 T:=λz=>if z=n then k else M.T z
 P:=λz=>if z=n then(M.P n++[x]).drop ((M.P n++[x]).length - 8) else M.P z
 sz:=M.sz+1 }
noncomputable def yH (C:Addr):Sp:=λvs H Q _=>∃(x dx:Addr),vs=[.ref x]/\H x=some (.ins C dx [])/\
 ∀l t p H',H l=none->H t=none->H p=none->Chg [x] H H'->SendAt C H' x l t p [] send0->Q .non H'
noncomputable def yI (C:Addr):Sp:=λvs H Q _=>∃(r l t p:Addr) (Z:List Addr) (M:SendM) (n:Str),vs=[.ref r,.str n]/\SendAt C H r l t p Z M/\M.sz<=100000/\(∀v,M.L n=some v->1<=v)/\(∀b∈Z,∃o,H b=some o)/\
 ∀u H',Chg [l,t,p] H H'->SendAt C H' r l t p Z (M.hail n)->H u=none->H' u=some (.tup [.int ((M.L n).getD 0+1),.int ((M.hail n).T n)])->Q (.ref u) H'
noncomputable def yJ (C:Addr):Sp:=λvs H Q _=>∃(r l t p:Addr) (Z:List Addr) (M:SendM) (n:Str),vs=[.ref r,.str n]/\SendAt C H r l t p Z M/\Q (.int ((M.L n).getD 0)) H
noncomputable def yK (C:Addr):Sp:=λvs H Q _=>∃(r l t p:Addr) (Z:List Addr) (M:SendM) (n:Str),vs=[.ref r,.str n]/\SendAt C H r l t p Z M/\Q (.int (if (M.L n).isSome=true then M.T n else 0)) H
noncomputable def yL (C CN:Addr):Sp:=λvs H Q E=>∃(r l t p:Addr) (Z:List Addr) (M:SendM) (n:Str),vs=[.ref r,.str n]/\SendAt C H r l t p Z M/\
 (((M.L n).isSome=true/\Q .non H)\/(M.L n=none/\Bears E H CN [("name",.str n)]))
noncomputable def vP (C CN CF:Addr):Sp:=λvs H Q E=>∃(r l t p:Addr) (Z:List Addr) (M:SendM) (n:Str) (k:Int),vs=[.ref r,.str n,.int k]/\SendAt C H r l t p Z M/\
 ((M.L n=none/\Bears E H CN [("name",.str n)])\/∃v,M.L n=some v/\((k=v/\Q .non H)\/(k≠v/\Bears E H CF [("life",.int v)])))
noncomputable def yM (C CN CG CT:Addr):Sp:=λvs H Q E=>∃(r l t p:Addr) (Z:List Addr) (M:SendM) (n:Str) (k:Int),vs=[.ref r,.str n,.int k]/\SendAt C H r l t p Z M/\
 ((M.L n=none/\Bears E H CN [("name",.str n)])\/((M.L n).isSome=true/\(
  (M.T n+1 < k/\Bears E H CG [("due",.int (M.T n+1))])\/(k=M.T n+1/\Q .non H)\/(k < M.T n+1 - (M.P n).length/\Bears E H CT [("number",.int k)])\/
  (∃(i:Nat) (x:Spot),k=M.T n+1 - (M.P n).length+i/\(M.P n)[i]?=some x/\∀u,H u=some (.tup (spotV x))->Q (.ref u) H))))
noncomputable def yN (C CN CG CT:Addr):Sp:=λvs H Q E=>∃(r l t p:Addr) (Z:List Addr) (M:SendM) (n:Str) (k a b:Int),vs=[.ref r,.str n,.int k,.int a,.int b]/\SendAt C H r l t p Z M/\(M.L n).isSome=true/\
 k=M.T n+1/\M.sz<=100000/\(∀b∈Z,∃o,H b=some o)/\∀H',Chg [t,p] H H'->SendAt C H' r l t p Z (M.note n k (a,b))->Q .non H'
theorem yO (l:List V):cutV l (some (-8)) none=l.drop (l.length - 8):=by
 unfold cutV;rw[HT.tw];have e:HT.sIx l.length 0 (some (-8))=l.length - 8:=by
  show(if (-8:Int) < 0 then(-8+(l.length:Int)).toNat else min (-8:Int).toNat l.length)=_;rw[if_pos (by decide)];omega
 rw[e,List.take_of_length_le (by rw[List.length_drop];omega)]
section
variable {X:Cx}
end
section
variable {X:Cx} {o:Expr} {apos cpos:Pos} {td:TE}
end
section
variable {X:Cx} {o:Expr} {apos cpos:Pos} {td:TE}
end
end L2
namespace L2
open PySem PySem.Spec
open AutoSeq1 (wpAny_loadPart')
section
variable {prog:Program} {w:World} {A:Around} {E:Value->Shared->Prop} {s:Shared}
theorem lZ {T newId initId:String}{Bn Bi:Builtin}{args:List Value}{kw:List (Str×Value)}{S:Spec}{Q Q₁:Value->Shared->Prop}(ft:TypeCalled T newId initId)
  (hct:checkTypeCall T ⟨args,kw⟩=pure ()) (hcn:checkBuiltinCall newId ⟨.type T::args,kw⟩=pure ())
  (entryN:entryFor table newId=some Bn) (entryI:entryFor table initId=some Bi) (g:Meets (Bn ⟨.type T::args,kw⟩) S)
  (h:S A.in1 (wants Q₁ E) s)
  (hnext:∀obj s₁,Q₁ obj s₁->s₁.TypeIs obj T/\argsOk initId ⟨obj::args,kw⟩/\∃Si,Meets (Bi ⟨obj::args,kw⟩) Si/\Si A.in1 (wants (λr s₂=>r=.none/\Q obj s₂) E) s₁) :
  wpAny (model prog w) A (call (.type T) args kw) Q E s:=by
 (refine pw20 ft.mro λc tl hmro=>?_);have hmade:=ft.made;have hsub:=ft.sub;refine wpAny_call (codeAny_of_tree ?_);show wpAny _ _ (callAny (.type T) _) _ _ _;refine wpAny_pure ⟨Code.quiet_builtin _ (s!"d"),codeAny_builtin F.entry_type_call ?_⟩;rw[Around.under_plain (weight_type_call_type T args kw) (units_type_call_type T args kw)];have h1:=ft.notType;have h2:=ft.canCreate
 repeat (any_goals (first | assumption | wp_step))
 refine codeAny_mono (codeAny_call_builtin ft.plain entryN (wpAny_of_eq hcn (g prog w A.in1 _ s h))) λr s₁ hr=>?_;cases r with
 | error e=>exact hr
 | ok fl=>
  cases fl with
  | ret obj=>
   (refine pw02 (hnext _ _ hr) λhT hok=>ow11 λSi gi hsi=>?_);have hli:=ft.init.lookup;have hbi:=ft.init.bind obj
   repeat (any_goals (first | assumption | wp_step))
   refine codeAny_mono (codeAny_call_builtin ft.init.plain entryI (ft.init.check _ _ _ _ _ _ _ _ hT hok (gi prog w A.in1 _ s₁ hsi))) λr₂ s₂ hr₂=>?_;cases r₂ with
   | error e=>exact hr₂
   | ok fl₂=>
    cases fl₂ with
    | ret r=>
     obtain⟨rfl,hq⟩:=hr₂
     repeat (any_goals (first | assumption | wp_step))
    | _=>exact hr₂.elim
  | _=>exact hr.elim
end
theorem jC {T newId:String}{self:Value}{a:Value}{rest:List Value}{kw:List (Str×Value)}(hl:typeLookup (.type T) "__init__"=pure (some (.builtin "object.__init__")))
  (hm:Bind.madeBy (.type T)=pure (some newId)) (hne:(some newId != some "object.__new__")=true) :
  Meets (Builtin.«object.__init__» ⟨self::a::rest,kw⟩) (λ_ R s=>s.TypeIs self T/\R (.ok (.ret .none)) s):=by
 refine Meets.of_wp λprog w A R s hs=>?_;obtain⟨hT,hq⟩:=hs
 repeat (any_goals (first | assumption | wp_step))
 exact(iw11 _ rfl hq)
theorem iw (a b:Value):checkTypeCall "enumerate" ⟨[a],[("start",b)]⟩=pure ():=by kernel_rfl
theorem iJ (a b:Value):checkBuiltinCall "enumerate.__new__" ⟨[.type "enumerate",a],[("start",b)]⟩=pure ():=by kernel_rfl
theorem jD (a b c:Value):argsOk "object.__init__" ⟨[a,b],[("start",c)]⟩:=by unfold argsOk;kernel_rfl
theorem iy (l:Addr)(items:Array Value)(n:Nat)(dct:Option Addr)(sl:Array (Option Value))(t:Tok) :
  Meets (Builtin.«enumerate.__new__» ⟨[.type "enumerate",.ref l],[("start",.int 1 t)]⟩) (λ_ R s=>s.heap.get? l=some { cls:=.type "list",dict:=dct,data:=.seq items n,slots:=sl }/\
   R (.ok (.ret (.ref (s.heap.push { cls:=.type "list_iterator",data:=.fields #[.ref l,.int 0 0] }).objs.size)))
    { s with heap:=(s.heap.push { cls:=.type "list_iterator",data:=.fields #[.ref l,.int 0 0] }).push { cls:=.type "enumerate",data:=.fields #[.none,.bool false,.ref s.heap.objs.size,rawInt 1,.none,.none] } }):=
 .of_wp λprog w A R s h=>by
  obtain⟨hp,g,d,tk,os⟩:=s;obtain⟨hl,h⟩:=h;have hsub:=sub_enumerate;have hL:Heap.IsList (Shared.heap ⟨hp,g,d,tk,os⟩) l items:=(iw12 _ hl rfl (iw10 n rfl))
  wp_walk using wpAny_loadPart' hl
  refine wpAny_stack_any λst=>wpAny_pure ?_
  split
  ·rename_i c _ _ _ _ _
   cases (c == Value.type "enumerate")
   ·wp_walk using wpAny_loadPart' hl,wpAny_pyIter_list hL
    exact(iw11 _ rfl h)
   ·wp_walk using wpAny_loadPart' hl,wpAny_pyIter_list hL
    exact(iw11 _ rfl h)
  ·wp_walk using wpAny_loadPart' hl,wpAny_pyIter_list hL
   exact(iw11 _ rfl h)
section
variable {prog:Program} {w:World} {A:Around} {E:Value->Shared->Prop} {s:Shared}
theorem iK {l:Addr}{items:Array Value}{t:Tok}{Q:Value->Shared->Prop}(hL:s.heap.IsList l items)
  (h:∀h',IsEnum h' (s.heap.objs.size+1) s.heap.objs.size 1 .none->h'.IsListIter s.heap.objs.size l 0->h'.objs.size=s.heap.objs.size+2->
   (∀b o,s.heap.get? b=some o->h'.get? b=some o)->Q (.ref (s.heap.objs.size+1)) { s with heap:=h' }) :
  wpAny (model prog w) A (call (.type "enumerate") [.ref l] [("start",.int 1 t)]) Q E s:=by
 (revert hL;refine ow12 λzz1 hl hc=>ow10 λn hd=>?_;obtain ⟨c,dct,dt,sl⟩:=zz1);replace hc:c=.type "list":=hc;replace hd:dt=.seq items n:=hd;subst hc hd;refine lZ (Q₁:=λobj s₁=>s₁.TypeIs obj "enumerate" /\ Q obj s₁) F.called_enumerate (iw _ _) (iJ _ _) F.entry_enumerate_new F.entry_object_init (iy l items n dct sl t) ⟨hl,?_⟩
  (λobj _ hq=>⟨hq.1,jD _ _ _,(iw11 _ (jC F.called_enumerate.init.lookup F.called_enumerate.made (by decide)) ⟨hq.1,rfl,hq.2⟩)⟩)
 have hz:(s.heap.push { cls:=.type "list_iterator",data:=.fields #[.ref l,.int 0 0] }).objs.size=s.heap.objs.size+1:=Heap.size_push ..;show _/\_;rw[hz]
 have he:IsEnum ((s.heap.push { cls:=.type "list_iterator",data:=.fields #[.ref l,.int 0 0] }).push
   { cls:=.type "enumerate",data:=.fields #[.none,.bool false,.ref s.heap.objs.size,rawInt 1,.none,.none] }) (s.heap.objs.size+1) s.heap.objs.size 1 .none:=by
  have:=Heap.get?_push_size (s.heap.push { cls:=.type "list_iterator",data:=.fields #[.ref l,.int 0 0] })
   (o:={ cls:=.type "enumerate",data:=.fields #[.none,.bool false,.ref s.heap.objs.size,rawInt 1,.none,.none] }) rfl
  rw[hz] at this;exact this
 refine⟨(iw11 _ he rfl),h _ he (iw12 _ (Heap.get?_push_of_some _ (Heap.get?_push_size _ rfl)) rfl rfl) (by rw[Heap.size_push,hz]) λb o x=>Heap.get?_push_of_some _ (Heap.get?_push_of_some _ x)⟩
end
section
variable {M:Model} {A:Around} {E:Value->Shared->Prop} {s:Shared} {env:Env}
theorem kT {pos:Pos}{T:String}{first:List Value}{args:List (Bool×Sem Value)}{keywords:List (Option Str×Sem Value)}{Q:Value->Shared->Prop}
  (hplain:args.any (·.1)=false) (hkw:keywords.any (·.1.isNone)=false)
  (h:wpAny M A (evalArgs (.type T) true args keywords) (λa s₁=>wpAny M A (call (.type T) (first++a.pos) a.kw) Q E s₁) E s) :
  wpAny M A (callWith pos (.type T) first args keywords) Q E s:=by
 unfold callWith;refine wpAny_bind (wpAny_holding (wpAny_mono h (λa s₁ h₁=>wpAny_bind (wpAny_standAt ?_)) λ_ _ x=>x));simp only[hplain,hkw,Bool.or_false];refine wpAny_bind (wpAny_pure ?_);exact wpAny_bind (wpAny_mono h₁ (λr s₂ hr=>wpAny_bind (wpAny_holding (wpAny_point (wpAny_pure hr)))) λ_ _ x=>x)
theorem l6 {pos:Pos}{T:String}{e:Expr}{rest:List Expr}{kws:List Keyword}{Q:Value->Shared->Prop}
  (h:wpAny M A (spliced (backTo pos (starEach (e::rest) env))) (λvs s₁=>wpAny M A (evalAll ((backToKw pos (keywordEach kws env)).map (·.2)))
   (λkvs s₂=>wpAny M A (call (.type T) vs (((backToKw pos (keywordEach kws env)).filterMap (·.1)).zip kvs)) Q E s₂) E s₁) E s)
  (he:autoParam (backTo pos (starEach (e::rest) env)=(false,eval e env)::backTo pos (starEach rest env)) L2.dft3._auto_1)
  (hplain:autoParam ((backTo pos (starEach (e::rest) env)).any (·.1)=false) L2.dft3._auto_1)
  (hall:autoParam ((backToKw pos (keywordEach kws env)).all (·.1.isSome)=true) L2.dft3._auto_1)
  (hkw:autoParam ((backToKw pos (keywordEach kws env)).any (·.1.isNone)=false) L2.dft3._auto_1) :
  wpAny M A (callWith pos (.type T) [] (backTo pos (starEach (e::rest) env)) (backToKw pos (keywordEach kws env))) Q E s:=by
 refine kT hplain hkw ?_;rw[he] at h ⊢;exact PyProof.Rows.evalArgs_kwB hall h
end
end L2
namespace L2
open PySem PySem.Spec PyProof.Rows
section
variable {prog:Program} {w:World} {A:Around} {E:Value->Shared->Prop} {s:Shared}
theorem gU {e it l:Addr}{i:Nat}{j:Int}{items:Array Value}{old:Value}{Q:Option Value->Shared->Prop}(hh:A.handled=none)
  (he:IsEnum s.heap e it j old) (hit:s.heap.IsListIter it l i) (hl:s.heap.IsList l items) (hx:items[i]?=none)
  (hQ:∀h',Heap.ExtBut it s.heap h'->Q none { s with heap:=h' }):wpAny (model prog w) A (pyNext (.ref e)) Q E s:=by
 have hT:s.TypeIs (.ref e) "enumerate":=(iw11 _ he rfl)
 unfold pyNext
 refine wpAny_bind (wpAny_attempt (wpAny_callSpecial?_slot (name:=Str.ofString "__next__") hT F.slot_enumerate_next
  (wpAny_call_entry F.slot_enumerate_next hT F.entry_enumerate_next ?_ (F.args_enumerate_next_1 _))))
 show wpAny _ _ (field (.ref e) 2 >>= _) _ _ _;refine wpAny_bind (wpAny_field he rfl (x:=.ref it) rfl ?_);refine wpAny_bind (wpAny_nextOf_list_end hh hit hl hx λh' x he' hx'=>?_);(revert hx';refine ow11 λo ho hc=>?_);refine wpAny_bind (wpAny_isInstance (T:="StopIteration") (b:=true) (iw11 o ho hc) isSubtype_stop ?_);exact wpAny_pure (hQ _ he')
end
theorem ui {prog:Program}{w:World}{A:Around}{it:Addr}{fp:List Addr}{n:Nat}{P:Nat->Value->Prop}{St:Nat->Heap->Prop}(D:Draws prog w A it fp n P St) :
  Draws prog w A it fp (n+1) (λi=>P (i - 1)) (λi h=>1<=i/\St (i - 1) h) where
 live:=λi h st=>D.live _ _ st.2
 frame:=λi h h' st k=>⟨st.1,D.frame _ _ _ st.2 k⟩
 item:=λi s Q E hi st hQ=>D.item (i - 1) s Q E (by omega) st.2 λx h' tk hP hs sb=>hQ x h' tk hP ⟨by omega,by rw[show i+1 - 1=i - 1+1 by omega];exact hs⟩ sb
 done:=λs Q E st hE=>D.done s Q E st.2 hE
noncomputable def Ite1 (K:W.Frag)(a:Addr):It:=
 ⟨λi H=>∃xs x,SqL K H a xs/\xs[i]?=some x,
  λi H v H'=>∃T x,v=.ref T/\H T=none/\H'=upd H T (.tup [.int ((i:Nat)+1),x])/\∀xs,SqL K H a xs->xs[i]?=some x,
  λi H=>∃xs,SqL K H a xs/\xs.length<=i⟩
theorem vQ {P:Program}{w:World}{K:W.Frag}{elts:List Expr}{k0:Nat}{pos:Pos}(a e it:Addr)(hei:e≠it) :
  Turn P w K (.Tuple elts k0 pos) (Ite1 K a) [e,it] e (λi h=>(∃old,IsEnum h e it (((i:Nat):Int)+1) old)/\h.IsListIter it a i) where
 mem:=by simp
 obj:=λi h st c hc=>by
  obtain⟨⟨old,he⟩,⟨o1,e1,c1,d1⟩⟩:=st;simp only[List.mem_cons,List.not_mem_nil,or_false] at hc;rcases hc with rfl | rfl
  ·exact(iw11 _ he (λv q=>by cases q))
  ·exact(iw11 _ e1 (λv q=>by rw[d1] at q;cases q))
 keep:=λi h h' st k=>by
  obtain⟨⟨old,he⟩,h1⟩:=st;exact⟨⟨old,k _ (by simp) _ he⟩,h1.at λo e=>k _ (by simp) o e⟩
 item:=by
  intro X hP hw hK hc i pins s σ H E I hf st hg;subst hP hw hK;obtain⟨⟨old,he⟩,h1⟩:=st;(revert hg;refine ow21 λxs x hx ex=>?_);(refine pw12 (I.list hx) λits rv p _=>?_);(refine pw11 (rv.get ex) λu hu ru=>?_);have nai:a≠it:=λz=>by
   subst z;(refine pw12 p.isList λo ho hc' _=>?_);(revert h1;refine ow12 λo2 ho2 hc2 _=>?_);rw[ho] at ho2;cases ho2;rw[hc'] at hc2;injection hc2 with z;exact absurd z (by decide)
  have nea:e≠a:=λz=>by
   subst z;(refine pw12 p.isList λo ho hc' _=>?_);have he':=he;unfold IsEnum at he';rw[ho] at he';cases he';injection hc' with z;exact absurd z (by decide)
  have D:=ui (Draws.list (prog:=X.prog) (w:=X.w) (A:=X.A.in1) (I.ok.hd hc) it a nai its.toArray);have hil:i < its.length:=(List.getElem?_eq_some_iff.mp hu).1;refine wpAny_pyNext_enum_itemD D (i:=i+1) (by rw[show(((i+1:Nat)):Int)=(i:Int)+1 by omega];exact he) ⟨by omega,h1,p.isList⟩ (by simp;omega) hei (by simp;exact⟨hei,nea⟩) λx' h' tk hPx a1 a2' a3 a4 hk=>?_;obtain rfl:x'=u:=by
   have hPx':its.toArray[i]?=some x':=hPx;have hu':its.toArray[i]?=some u:=by simpa using hu
   exact Option.some.inj (hPx'.symm.trans hu')
  have a2:h'.IsListIter it a (i+1):=a2'.2.1;rw[show(((i+1:Nat)):Int)=(i:Int)+1 by omega] at a1 a3;refine(iw11 _ rfl (wpAny_letOwnedTupleGo_enum a1 λh'' he'' sb=>?_));have fT:FpOk X pins H s.heap.objs.size:=I.fpOk (Nat.le_refl _) I.fresh;have I1:Inv X pins σ H { s with heap:=h'',toks:=tk+1 }:=I.turnedL (t':=tk+1) (l:=[e,it]) (λc o hc q=>sb.extBut _ _ (λz=>hc (by simp[z])) (hk c o (λz=>hc (by simp[z])) (λz=>hc (by simp[z])) q)) hf;have hTe:s.heap.objs.size≠e:=Nat.ne_of_gt (Heap.lt_size he);have hT'':h''.get? s.heap.objs.size=some { cls:=.type "tuple",data:=.seq #[.int ((i:Int)+1) tk,x'] }:=sb.extBut _ _ hTe a3;have I2:Inv X pins σ (upd H s.heap.objs.size (.tup [.int ((i:Nat)+1),x])) { s with heap:=h'',toks:=tk+1 }:=I1.track (t':=tk+1) fT ⟨(by show 2<=sizeLine;decide),(iw11 ([.int ((i:Int)+1) tk,x']) (.cons ⟨_,rfl⟩ (.cons ru .nil)) (iw12 _ hT'' rfl (iw10 _ rfl)))⟩ (λ_ _=>trivial);refine(iw24 (.ref s.heap.objs.size) _ I2 rfl (iw23 _ x rfl I.fresh rfl (λzs hq=>by rw[I.gv hq hx];exact ex)) ?_ (λc hc=>?_))
  ·exact⟨⟨x',by rw[show(((i+1:Nat)):Int)=(i:Int)+1 by omega];exact he''⟩,a2.extBut sb.extBut (Ne.symm hei)⟩
  ·have hcl:c < s.heap.objs.size:=by
    (revert h1;refine ow11 λo1 e1 _=>?_);simp only[List.mem_cons,List.not_mem_nil,or_false] at hc;rcases hc with rfl | rfl
    ·exact Heap.lt_size he
    ·exact Heap.lt_size e1
   rw[aj (Nat.ne_of_lt hcl)];exact(hf c hc).1
 done:=by
  intro X hP hw hK hc i pins s σ H E I hf st hg;subst hP hw hK;obtain⟨⟨old,he⟩,h1⟩:=st;(revert hg;refine ow11 λxs hx hend=>?_);(refine pw12 (I.list hx) λits rv p _=>?_);have l1:=rv.length;refine gU (I.ok.hd hc) he h1 p.isList (by simp;omega) λh' hk=>⟨rfl,?_⟩
  exact I.turnedL (t':=s.toks) (l:=[e,it]) (λc o hc q=>hk c o (λz=>hc (by simp[z])) q) hf
 self:=λ_ _ _ _ _ st h=>by
  obtain⟨⟨old,he⟩,_⟩:=st;exact wpAny_pyIter_enum he h
section
variable {X:Cx}
noncomputable def iEnum1 (K:W.Frag)(te:TE):TI:=λσ H R=>te σ H λv H1=>∃a xs,v=.ref a/\SqL K H1 a xs/\R (Ite1 K a) H1
theorem AS {K:W.Frag}{elts:List Expr}{k0:Nat}{tpos:Pos}{e:Expr}{te:TE}{p pos kp ip:Pos}{cj}(hg:Gl X "enumerate")(hm:X.mg "enumerate"=none)(hE:PE X e te)(hK:autoParam (X.K=K) L2.dft3._auto_1)
  (he:autoParam (backTo pos (starEach [e] X.env)=[(false,eval e X.env)]) L2.dft3._auto_1) (h2:autoParam (((backTo pos (starEach [e] X.env)).any (·.1)=false)) L2.dft3._auto_1) :
  PI X (.Tuple elts k0 tpos) (.Call (.Name "enumerate" p) [e] [⟨some "start",.Constant (.int 1) cj ip,kp⟩] pos) (iEnum1 K te):=by
 subst hK;intro pins s σ H R I h;refine wpAny_Call_Name_kw (dP I hg hm boot_enumerate ?_ (by decide) (by decide));refine l6 ?_ he h2;rw[he];refine Calls.spliced_cons (thnE (hE pins s σ H _ I h) λu s1 v H1 I1 r1 q1=>?_);refine Calls.spliced_nil (kws_cons (thnE (ah pins s1 σ H1 (λy H2=>y=.int 1/\H2=H1) I1 ⟨rfl,rfl⟩) λu2 s2 v2 H2 I2 r2 q2=>kws_nil ?_));obtain⟨e2,e3⟩:=q2;subst e2 e3;obtain⟨t2,rfl⟩:=r2;(revert q1;refine ow22 λa xs zz1 hx q=>?_;subst zz1);cases r1;(refine pw12 (I2.list hx) λits rx px _=>?_);refine iK px.isList λh' z1 z2 z3 hk=>?_;have I3:Inv X pins σ H2 { s2 with heap:=h' }:=I2.kept (t':=s2.toks) hk;refine wpAny_pyIter_enum z1 (iw55 _ _ _ _ H2 rfl I3 (vQ a _ _ (Nat.ne_of_gt (Nat.lt_succ_self _))) ⟨⟨_,(show((0:Nat):Int)+1=1 from rfl)▸z1⟩,z2⟩ (λc hc=>?_) q);have hcl:s2.heap.objs.size<=c:=by
  simp only[List.mem_cons,List.not_mem_nil,or_false] at hc;rcases hc with rfl | rfl<;>omega
 exact I2.fpOk hcl (I2.hok.fresh hcl)
end
theorem vR {K:W.Frag}{a:Addr}{xs:List V}{g:TG}{tb:TS}{D:Ends}{σ:St}{H:Hp}(Pv:Nat->St->Hp->Prop)(h0:Pv 0 σ H)(hl:∀i σ H,i<=xs.length->Pv i σ H->SqL K H a xs)
  (hs:∀i x T σ H,xs[i]?=some x->H T=none->Pv i σ H->g (.ref T) σ (upd H T (.tup [.int ((i:Nat)+1),x])) λσ2 H2=>tb { D with nx:=Pv (i+1),ct:=Pv (i+1),bk:=D.nx } σ2 H2)
  (hd:∀σ H,Pv xs.length σ H->D.nx σ H):forW (Ite1 K a) g tb D σ H:=by
 refine(iw11 (λi m σ H=>m=xs.length - i/\i<=xs.length/\Pv i σ H) (iw12 _ rfl (Nat.zero_le _) h0) ?_)
 rintro i m σ H ⟨rfl,hi,p⟩
 have lx:=hl i σ H hi p
 by_cases hlt:i < xs.length
 ·refine .inr ⟨(iw21 xs (xs[i]) lx (by simp)),(iw11 (Pv (i+1)) (λσ' H' p'=>(iw13 (xs.length - (i+1)) (by omega) rfl hlt p')) (λv H' y=>?_))⟩
  (revert y;refine ow23 λT x zz1 hT zz2 h1=>?_;subst zz1;subst zz2);exact hs i x T σ _ (h1 xs lx) hT p
 ·have e:i=xs.length:=by omega
  subst e;exact .inl ⟨(iw11 xs lx (by omega)),hd σ H p⟩
noncomputable abbrev Dd:=Str×Int×Str
structure DeedsM where
 ds:List Dd
 B:Str->Option Int
 sz:Nat
noncomputable def deeds0:DeedsM:=⟨[],λ_=>none,0⟩
noncomputable def deedsF (dl bz:Addr):List (Str×V):=[("deeds",.ref dl),("busy",.ref bz)]
noncomputable def deedF (x:Dd)(sp pl:Addr):List (Str×V):=[("sender",.str x.1),("ends",.int x.2.1),("fate",.str x.2.2),("spots",.ref sp),("pledges",.ref pl)]
structure DeedsAt (C CD:Addr)(H:Hp)(r dl bz:Addr)(us:List Addr)(M:DeedsM):Prop where
 obj:∃dx,H r=some (.ins C dx (deedsF dl bz))
 lst:H dl=some (.lst (us.map V.ref))
 len:us.length=M.ds.length
 each:∀(i:Nat) u x,us[i]?=some u->M.ds[i]?=some x->∃dx sp pl,H u=some (.ins CD dx (deedF x sp pl))
 nd:us.Nodup
 bsy:∃kvs,H bz=some (.dK kvs)/\kvs.length<=M.sz/\∀z,valV kvs (.inr z)=(M.B z).map V.int
 ru:r∉us
theorem DeedsAt.chg {A:List Addr}{C CD:Addr}{H H':Hp}{r dl bz:Addr}{us:List Addr}{M:DeedsM}(h:DeedsAt C CD H r dl bz us M)(c:Chg A H H')(hr:r∉A)(hd:dl∉A)(hb:bz∉A)(hu:∀u∈us,u∉A):DeedsAt C CD H' r dl bz us M:=by
 obtain⟨dx,e⟩:=h.obj;(refine pw12 h.bsy λkvs e2 l2 v2=>?_);refine⟨⟨dx,c.keep _ _ e hr⟩,c.keep _ _ h.lst hd,h.len,λi u x h1 h2=>?_,h.nd,(iw12 kvs (c.keep _ _ e2 hb) l2 v2),h.ru⟩;(refine pw30 (h.each i u x h1 h2) λdx sp pl e3=>?_);exact(iw30 dx sp pl (c.keep _ _ e3 (hu u (List.mem_of_getElem? h1))))
theorem Cv (dl bz:Addr):(deedsF dl bz).lookup (Str.ofString "busy")=some (.ref bz):=rfl
noncomputable def yP (C CD:Addr):Sp:=λvs H Q _=>∃(x dx:Addr),vs=[.ref x]/\H x=some (.ins C dx [])/\∀dl bz H',H dl=none->H bz=none->Chg [x] H H'->DeedsAt C CD H' x dl bz [] deeds0->Q .non H'
noncomputable def yQ (C CD:Addr):Sp:=λvs H Q _=>∃(r dl bz:Addr) (us:List Addr) (M:DeedsM) (s:Str),vs=[.ref r,.str s]/\DeedsAt C CD H r dl bz us M/\Q (.int ((M.B s).getD 0)) H
noncomputable def compTW (J:It)(n:Nat)(g:TG)(tt:TT)(te:TE)(σ:St)(H1:Hp)(Q:VK):Prop:=∀D,H1 D=none->∃W:Nat->Nat->List V->Hp->Prop,(∃m,W 0 m [] (upd H1 D (.lst [])))/\∀i m ys H2,W i m ys H2->
 (J.stop i H2/\H2 D=some (.lst ys)/\Q (.ref D) H2)\/(J.go i H2/\ys.length < sizeLine/\∀x H3,J.yld i H2 x H3->∀o:St,o.length=n->g x (o++σ) H3 λσ' H3'=>(∃o':St,o'.length=n/\σ'=o'++σ)/\tt σ' H3' λb H4=>
  if b=true then te σ' H4 λy H5=>H5 D=some (.lst ys)/\∃m',m' < m/\W (i+1) m' (ys++[y]) (upd H5 D (.lst (ys++[y]))) else ∃m',m' < m/\W (i+1) m' ys H4)
theorem EF (n:Nat)(wi:TI)(g:TG)(tt:TT)(te:TE)(σ:St)(H:Hp)(Q:VK):tCompT n wi g tt te σ H Q=wi σ H λJ H1=>compTW J n g tt te σ H1 Q:=rfl
theorem uj {K:W.Frag}{n:Nat}{g:TG}{tt:TT}{te:TE}{σ:St}{H:Hp}{Q:VK}{a:Addr}{rows:List (List V)}(hl:LTups H a rows)(hn:rows.length<=1000)(hw:∀xs∈rows,xs.length=n)(q:List V->Bool)(f:List V->V)
  (hg:∀t xs H' (o:St) (R:St->Hp->Prop),xs∈rows->Same H H'->H' t=some (.tup xs)->o.length=n->R (xs.map some++σ) H'->g (.ref t) (o++σ) H' R)
  (ht:∀xs H',xs∈rows->Same H H'->∀Qt:Bool->Hp->Prop,(∀H'',Same H' H''->Qt (q xs) H'')->tt (xs.map some++σ) H' Qt)
  (he:∀xs H',xs∈rows->q xs=true->Same H H'->∀Qe:VK,(∀H'',Same H' H''->Qe (f xs) H'')->te (xs.map some++σ) H' Qe)
  (hd:∀D H',H D=none->Same H H'->H' D=some (.lst ((rows.filter q).map f))->Q (.ref D) H'):compTW (Itl K a) n g tt te σ H Q:=by
 (revert hl;refine ow11 λts e hT=>?_);have hlen:=hT.length;intro D hD;refine(iw11 (λi m ys H2=>m=rows.length - i/\i<=rows.length/\ys=((rows.take i).filter q).map f/\Same H H2/\H2 D=some (.lst ys)) (iw14 _ rfl (Nat.zero_le _) rfl (Same.upd hD) ae) ?_)
 rintro i m ys H2 ⟨rfl,hi,rfl,sm,hD2⟩
 have sq:SqL K H2 a (ts.map V.ref):=.inl (.inl (sm _ _ e))
 by_cases hlt:i < rows.length
 ·have hsz:(((rows.take i).filter q).map f).length < sizeLine:=by
   rw[List.length_map];have h1:=List.length_filter_le q (rows.take i);rw[List.length_take] at h1;exact Nat.lt_of_le_of_lt (show((rows.take i).filter q).length<=1000 by omega) (by decide)
  refine .inr ⟨(iw21 (ts.map V.ref) (V.ref (ts[i]'(by omega))) sq (by simp)),hsz,?_⟩
  rintro x H3 ⟨rfl,hx⟩ o ho
  have hx':=hx _ sq;rw[List.getElem?_map] at hx';(refine pw11 (Option.map_eq_some_iff.mp hx') λt ht1 zz1=>?_;subst zz1);(refine pw11 (hT.get ht1) λxs hxs hxt=>?_);have hm:=List.mem_of_getElem? hxs;have htk:rows.take (i+1)=rows.take i++[xs]:=by rw[List.take_add_one,hxs];rfl
  refine hg t xs H3 o _ hm sm (sm _ _ hxt) ho ⟨(iw11 (xs.map some) (by rw[List.length_map];exact hw xs hm) rfl),ht xs H3 hm sm _ λH4 s4=>?_⟩
  by_cases c:q xs=true
  ·rw[if_pos c]
   refine he xs H4 hm c (sm.trans s4) _ λH5 s5=>⟨s5 _ _ (s4 _ _ hD2),(iw15 (rows.length - (i+1)) (by omega) rfl hlt ?_ ?_ ae)⟩
   ·rw[htk,List.filter_append,List.map_append,List.filter_cons_of_pos c,List.filter_nil];rfl
   ·intro b o' hb
    rw[aj (ay hb hD)];exact s5 _ _ (s4 _ _ (sm _ _ hb))
  ·rw[if_neg c]
   refine(iw15 (rows.length - (i+1)) (by omega) rfl hlt ?_ (sm.trans s4) (s4 _ _ hD2));rw[htk,List.filter_append,List.filter_cons_of_neg c,List.filter_nil,List.append_nil]
 ·have:i=rows.length:=by omega
  subst this;refine .inl ⟨(iw11 (ts.map V.ref) sq (by rw[List.length_map];omega)),hD2,?_⟩;rw[List.take_length] at hD2;exact hd D H2 hD sm hD2
structure ReadM where
 R:Str->Option (Int×Int)
 sz:Nat
noncomputable def read0:ReadM:=⟨λ_=>none,0⟩
noncomputable def readF (a b:Addr):List (Str×V):=[("rows",.ref a),("places",.ref b)]
structure ReadAt (C:Addr)(H:Hp)(r a b:Addr)(M:ReadM):Prop where
 obj:∃dx,H r=some (.ins C dx (readF a b))
 row:∃kvs,H a=some (.dK kvs)/\kvs.length<=M.sz/\(∀z,valV kvs (.inr z)=(M.R z).map λx=>V.int x.1)/\∀p,valV kvs (.inl p)=none
 pla:∃kvs,H b=some (.dK kvs)/\kvs.length<=M.sz/\∀z,valV kvs (.inr z)=(M.R z).map λx=>V.int x.2
 ra:r≠a
 rb:r≠b
 ab:a≠b
theorem ReadAt.chg {A:List Addr}{C:Addr}{H H':Hp}{r a b:Addr}{M:ReadM}(h:ReadAt C H r a b M)(c:Chg A H H')(hr:r∉A)(ha:a∉A)(hb:b∉A):ReadAt C H' r a b M:=by
 obtain⟨dx,e⟩:=h.obj;(refine pw12 h.row λk1 e1 l1 v1=>?_);(refine pw12 h.pla λk2 e2 l2 v2=>?_);exact⟨⟨dx,c.keep _ _ e hr⟩,(iw12 k1 (c.keep _ _ e1 ha) l1 v1),(iw12 k2 (c.keep _ _ e2 hb) l2 v2),h.ra,h.rb,h.ab⟩
noncomputable def yR (C:Addr):Sp:=λvs H Q _=>∃(x dx:Addr),vs=[.ref x]/\H x=some (.ins C dx [])/\
 ∀a b H',H a=none->H b=none->Chg [x] H H'->ReadAt C H' x a b read0->Q .non H'
inductive StrEnts (P:Params):List DictEntry->Prop
 | nil:StrEnts P []
 | cons {x:Str} {t:Tok} {u:Value} {r:List DictEntry}:StrEnts P r->StrEnts P (⟨PyData.keyHash P x,.str x t,u⟩::r)
theorem StrEnts.mem {P:Params}{l:List DictEntry}(h:StrEnts P l):∀e∈l,∃x t,e.key=.str x t/\e.hash=PyData.keyHash P x:=by
 induction h with
 | nil=>intro e he;cases he
 | cons _ ih=>
  intro e he;rcases List.mem_cons.mp he with rfl | he
  ·exact(iw21 _ _ rfl rfl)
  ·exact ih e he
noncomputable def findE (es:Array DictEntry)(x:Str):Option Value:=findBy keyIs es (.inr x)
noncomputable def DCon (w:World)(K:W.Frag)(mg:Str->Option Value)(x:Str)(F:List (Str×V)):Prop:=∃(p:Addr) (es:Array DictEntry) (ep:Nat),mg x=some (.ref p)/\K.lookup p=some { cls:=.type "dict",dict:=none,data:=.dict es ep,slots:=#[] }/\
 StrEnts w.params es.toList/\∀kv∈F,∃u,findE es kv.1=some u/\RelV kv.2 u
theorem uk {es:Array DictEntry}:∀kv∈([]:List (Str×V)),∃u,findE es kv.1=some u/\RelV kv.2 u:=λ_ h=>nomatch h
theorem jl {es:Array DictEntry}{k:Str}{v:V}{u:Value}{F:List (Str×V)}(h:findE es k=some u)(r:RelV v u)(t:∀kv∈F,∃u,findE es kv.1=some u/\RelV kv.2 u):∀kv∈(k,v)::F,∃u,findE es kv.1=some u/\RelV kv.2 u:=λkv hkv=>by
 rcases List.mem_cons.mp hkv with rfl | hkv
 ·exact(iw11 u h r)
 ·exact t kv hkv
noncomputable def tIxD (F:List (Str×V))(te:TE):TE:=λσ H Q=>te σ H λy H1=>∃kv∈F,y=.str kv.1/\Q kv.2 H1
section
variable {X:Cx}
theorem vS {w:World}{K:W.Frag}{x:Str}{F:List (Str×V)}{e:Expr}{te:TE}{p pos:Pos}(c:DCon w K X.mg x F)(he:PE X e te)(hs:PlainIx e)(hg:autoParam (Gl X x) L2.dft3._auto_1)(hw:autoParam (X.w=w) L2.dft3._auto_1)(hK:autoParam (X.K=K) L2.dft3._auto_1)(hd:autoParam ((x == ("__debug__":Str))=false) L2.dft1._auto_1) :
  PE X (.Subscript (.Name x p) e pos) (tIxD F te):=by
 subst hw;subst hK;intro pins s σ H Q I h;(revert c;refine ow33 λa es ep hm hl hk hf=>?_);refine Subscript_ (binT (R:=λv y H2=>v=.ref a/\∃kv∈F,y=.str kv.1/\Q kv.2 H2) (rq (v:=.ref a) hg hm rfl hd) he I ?_ λv u s2 y z H2 I2 ry rz q=>?_)
 ·show te σ H _
  refine(show te σ H (λy H1=>V.ref a=V.ref a/\∃kv∈F,y=.str kv.1/\Q kv.2 H1) from ?_);have e:(λ(y:V) (H1:Hp)=>V.ref a=V.ref a/\∃kv∈F,y=.str kv.1/\Q kv.2 H1)=λy H1=>∃kv∈F,y=.str kv.1/\Q kv.2 H1:=by
   funext y H1;simp
  rw[e];exact h
 ·(revert q;refine ow01 λzz1=>ow12 λkv hkv zz2 q=>?_;subst zz1;subst zz2)
  cases (show v=Value.ref a from ry);(refine pw11 (hf kv hkv) λw' hw rw'=>?_);have ho:=I2.kIn _ _ hl;have hT:s2.TypeIs (.ref a) "dict":=(iw11 _ ho rfl)
  have hM:s2.heap.MapOf (mixKind X.prog X.w) a (findBy keyIs es):=(iw34 _ es ep ho ⟨rfl,rfl,rfl⟩ rfl (λe he=>by
   (refine pw21 (hk.mem e (by simpa using he)) λx t e1 e2=>?_)
   exact(iw11 (.inr x) (by rw[e1];exact mP _ _ x t) e2)) (λk=>rfl))
  refine tail_any hT PySem.F.slot_dict_getitem.lookup (wpAny_getItem_of (knd:=mixKind X.prog X.w) (k:=.inr kv.1) (kF (k:=.inr kv.1) rz) hM hw ?_) (hs _ _);exact(iw22 kv.2 H2 (I2.tok _) rw' q)
inductive Cals (X:Cx) (E:XK):List (Addr×Sp)->Prop
 | nil:Cals X E []
 | cons {CX:CXT} {k:Nat} {f:Addr} {fd:FuncData} {ps:List Str} {sp:Sp} {L:List (Addr×Sp)} (F:FnOk X.prog X.w X.K X.mg X.base CX k f fd ps sp) (hr:Room k X.A) (hk:W.keepIn X.K (.ref f)=true) (hb:Binds X.K fd ps []) (hx:Passes CX X E):Cals X E L->Cals X E ((f,sp)::L)
theorem Cals.get {E:XK}:∀{L:List (Addr×Sp)},Cals X E L->∀{f:Addr} {sp:Sp},(f,sp)∈L->∃(CX:CXT) (k:Nat) (fd:FuncData) (ps:List Str),FnOk X.prog X.w X.K X.mg X.base CX k f fd ps sp/\Room k X.A/\W.keepIn X.K (.ref f)=true/\Binds X.K fd ps []/\Passes CX X E
 | _,.nil,_,_,h=>nomatch h
 | _,.cons F hr hk hb hx r,f,sp,h=>by
  rcases List.mem_cons.mp h with e | h
  ·cases e
   exact(iw44 _ _ _ _ F hr hk hb hx)
  ·exact r.get h
noncomputable def tCallV (L:List (Addr×Sp))(E:XK)(te:TE)(t:TA):TE:=λσ H Q=>te σ H λx H1=>∃f sp,x=.ref f/\(f,sp)∈L/\t σ H1 λvs H2=>sp vs H2 Q E
theorem AU {x:Str}{e:Expr}{es:List Expr}{te:TE}{t:TA}{E:XK}{L:List (Addr×Sp)}{p pos:Pos}(c:Cals X E L)(hx:PE X (.Name x p) te)(ha:PA X (e::es) t)
  (he:autoParam (starEach (e::es) X.env=(false,eval e X.env)::starEach es X.env) L2.dft3._auto_1) (hpl:autoParam ((backTo pos (starEach es X.env)).any (·.1)=false) L2.dft3._auto_1) :
  PE X (.Call (.Name x p) (e::es) [] pos) (tCallV L E te t):=by
 intro pins s σ H Q I h;refine wpAny_Call_Name_kw (thn (hx pins s σ H _ I h) λv s1 zz=>pw22 zz λy H1 I1 r1=>ow22 λf sp ey hm q1=>?_);subst ey;cases (show v=Value.ref f from r1);(refine pw44 (c.get hm) λCX k fd ps F hr hk hb hp=>?_);refine W.callWith_K (h₀:=X.base) I.ok.mod.kin hk (thnA (ha pos pins s1 σ H1 _ I1 q1) λus s2 vs H2 I2 r q=>⟨I2.kIn,?_⟩) he hpl;exact rD (dvs:=[]) (ds:=[]) F hr hb .nil hp I2 r (by rw[List.append_nil];exact q)
end
noncomputable def vT:Sp:=λvs H Q _=>∃c:Nat,vs=[.str (S [c])]/\Q (.bl (okSign c)) H
noncomputable def yS:Sp:=λvs H Q _=>∃x:V,vs=[x]/\Thg H x/\∀H',Same H H'->Q (.bl (formV x 1 24 okSign)) H'
noncomputable def vU:Sp:=λvs H Q _=>∃x:V,vs=[x]/\Thg H x/\∀H',Same H H'->Q (.bl (decide (x=.non) || formV x 0 200 okSign)) H'
noncomputable def gC:Sp:=λ_ _ _ _=>False
theorem FnOk.never {P:Program}{w:World}{K:W.Frag}{mg:Str->Option Value}{base:Heap}{CX:CXT}{k:Nat}{f:Addr}{fd:FuncData}{ps:List Str}:FnOk P w K mg base CX k f fd ps gC:=
 ⟨λ_ _ _ _ h=>h.elim,λ_ _ _ _ _ _ _ _ _ _ _ _ _ h=>h.elim⟩
noncomputable def textsL:List Str:=["sender","key","group","shelf","taker","reader"]
noncomputable def wordT (o:Option (List Nat)):List Nat:=match o with
 | none=>[45]
 | some w=>61::w
noncomputable def PartV (p:Str)(v:V)(t:List Nat):Prop:=(p∈textsL/\v=.str (S t))\/(p="word" /\ ∃o,v=wV o/\t=wordT o)\/(p∉textsL/\p ≠ "word" /\ p ≠ "owner" /\ ∃n:Nat,v=.int (n:Int)/\n < 10 ^ 12/\t=strI (n:Int))
noncomputable def sr:Sp:=λvs H Q _=>∃o:Option (List Nat),vs=[wV o]/\(∀w,o=some w->w.length<=1000)/\Q (.str (S (wordT o))) H
noncomputable def vV:Sp:=λvs H Q _=>∃(p:Str) (v:V) (t:List Nat),vs=[.str p,v]/\PartV p v t/\t.length<=1000/\Q (.str (S t)) H
section
variable {prog:Program} {w:World} {A:Around} {E:Value->Shared->Prop} {s:Shared}
theorem vW {it t:Addr}{i:Nat}{items:Array Value}{x:Value}{Q:Value->Shared->Prop}(hit:s.heap.IsTupleIter it t i)(ht:s.heap.IsTuple t items)(hx:items[i]?=some x)
  (hQ:∀h',h'.IsTupleIter it t (i+1)->Heap.SameBut it s.heap h'->Q x { s with heap:=h' }):wpAny (model prog w) A (Builtin.SmallTypes.nextOf (.ref it)) Q E s:=by
 (refine pw12 (id hit) λo ho hc hd=>?_);(revert ht;refine ow12 λol hol _=>ow10 λnl hdl=>?_);unfold Builtin.SmallTypes.nextOf;refine wpAny_bind (wpAny_callSpecial?_slot (name:=Str.ofString "__next__") hit.typeIs PySem.F.slot_tuple_iterator_next (wpAny_call_entry PySem.F.slot_tuple_iterator_next hit.typeIs PySem.F.entry_tuple_iterator_next ?_ (PySem.F.args_tuple_iterator_next_1 _)));show wpAny _ _ (field (.ref it) 0 >>= _) _ _ s;refine wpAny_bind (wpAny_field ho hd (x:=.ref t) rfl ?_);show wpAny _ _ (if (Value.ref t == Value.none)=true then _ else _) _ _ s;rw[if_neg (show ¬((Value.ref t == Value.none)=true) from Bool.false_ne_true)];show wpAny _ _ (field (.ref it) 1 >>= _) _ _ s;refine wpAny_bind (wpAny_field ho hd (x:=.int i 0) rfl ?_);show wpAny _ _ (seqItems? (.ref t) >>= _) _ _ s;refine wpAny_bind (wpAny_seqItems hol hdl ?_);simp only[Int.toNat_natCast,hx];refine wpAny_bind (wpAny_setField ho hd (by simp) (wpAny_pure (iw11 x rfl ?_)));have hi:(s.heap.update it (Obj.mapFields (·.setIfInBounds 1 (rawInt ((i:Int)+1))))).IsTupleIter it t (i+1):=
  (iw12 _ (Heap.get?_update_self _ ho (Obj.isFreed_of_fields (Obj.data_mapFields hd _))) ((Obj.cls_mapFields ..).trans hc) (by rw[Obj.data_mapFields hd];simp[rawInt]))
 first
  | exact wpAny_pure (hQ _ hi (Heap.SameBut.update ..))
  | exact hQ _ hi (Heap.SameBut.update ..)
theorem oN {it t:Addr}{i:Nat}{items:Array Value}{Q:Value->Shared->Prop}(hh:A.handled=none)(hit:s.heap.IsTupleIter it t i)(ht:s.heap.IsTuple t items)(hx:items[i]?=none)
  (hE:∀h' e,Heap.ExtBut it s.heap h'->(∃o,h'.get? e=some o/\o.cls=.type "StopIteration")->E (.ref e) { s with heap:=h' }):wpAny (model prog w) A (Builtin.SmallTypes.nextOf (.ref it)) Q E s:=by
 (refine pw12 (id hit) λo ho hc hd=>?_);(revert ht;refine ow12 λol hol _=>ow10 λnl hdl=>?_);unfold Builtin.SmallTypes.nextOf;refine wpAny_bind (wpAny_callSpecial?_slot (name:=Str.ofString "__next__") hit.typeIs PySem.F.slot_tuple_iterator_next (wpAny_call_entry PySem.F.slot_tuple_iterator_next hit.typeIs PySem.F.entry_tuple_iterator_next ?_ (PySem.F.args_tuple_iterator_next_1 _)));show wpAny _ _ (field (.ref it) 0 >>= _) _ _ s;refine wpAny_bind (wpAny_field ho hd (x:=.ref t) rfl ?_);show wpAny _ _ (if (Value.ref t == Value.none)=true then _ else _) _ _ s;rw[if_neg (show ¬((Value.ref t == Value.none)=true) from Bool.false_ne_true)];show wpAny _ _ (field (.ref it) 1 >>= _) _ _ s;refine wpAny_bind (wpAny_field ho hd (x:=.int i 0) rfl ?_);show wpAny _ _ (seqItems? (.ref t) >>= _) _ _ s;refine wpAny_bind (wpAny_seqItems hol hdl ?_);simp only[Int.toNat_natCast,hx];refine wpAny_bind (wpAny_rule (wpAny_bind (wpAny_setField ho hd (by simp) ?_)));show wpAny _ _ (newExc (.type "StopIteration") [] >>= _) _ _ _;refine wpAny_bind ?_;simp only[newExc,newTuple];refine wpAny_bind (wpAny_newObj_type ?_ (by size_fits));refine wpAny_bind (m:=firstArgMember _ _) (wpAny_of_eq (a:=Value.none) (by first | rfl | (simp only[firstArgMember];rfl)) ?_);refine wpAny_newObj_type ?_ (by size_fits);simp only[raiseNew];refine wpAny_bind (wpAny_handled ?_);rw[show A.in1.handled=none from hh];refine wpAny_bind (wpAny_pure (wpAny_throw ?_));exact hE _ _ (((Heap.SameBut.update ..).extBut.push _).push _) (iw11 _ (Heap.get?_push_size _ rfl) rfl)
theorem yT {z TI TO i1 i2 l1 l2:Addr}{k1 k2:Nat}{xs ys:Array Value}{x y a b:Value}{Q:Value->Shared->Prop}(D:ZipApart z TI TO i1 i2 l1 l2)
  (hz:IsZip s.heap z TI TO .none) (hTI:IsPair s.heap TI (.ref i1) (.ref i2)) (hTO:IsPair s.heap TO a b)
  (h1:s.heap.IsTupleIter i1 l1 k1) (h2:s.heap.IsListIter i2 l2 k2) (hl1:s.heap.IsTuple l1 xs) (hl2:s.heap.IsList l2 ys) (hx:xs[k1]?=some x) (hy:ys[k2]?=some y)
  (hQ:∀h',IsZip h' z TI TO (rawInt s.heap.objs.size)->IsPair h' TO x y->h'.IsTupleIter i1 l1 (k1+1)->h'.IsListIter i2 l2 (k2+1)->IsPair h' s.heap.objs.size x y->h'.objs.size=s.heap.objs.size+1->
   (∀c o,c≠z->c≠TO->c≠i1->c≠i2->s.heap.get? c=some o->h'.get? c=some o)->Q (.ref s.heap.objs.size) { s with heap:=h' }) :
  wpAny (model prog w) A (Builtin.«zip.__next__» ⟨[.ref z],[]⟩) (λfin s'=>∃v,fin=.done (.ret v)/\Q v s') E s:=by
 show wpAny _ _ (field (.ref z) 2 >>= _) _ _ _;refine wpAny_bind (wpAny_field hz rfl (x:=.bool false) rfl ?_);show wpAny _ _ (field (.ref z) 3 >>= _) _ _ _;refine wpAny_bind (wpAny_field hz rfl (x:=.ref TI) rfl (wpAny_bind (wpAny_seqItems hTI rfl ?_)));show wpAny _ _ (Builtin.SmallTypes.ownedTupleIsFree (.ref z) >>= _) _ _ _;refine wpAny_bind ?_;unfold Builtin.SmallTypes.ownedTupleIsFree;refine wpAny_bind (wpAny_field hz rfl (x:=.none) rfl (wpAny_pure ?_));simp only[if_true];refine wpAny_bind (wpAny_rule (wpAny_bind (wpAny_field hz rfl (x:=.ref TO) rfl (wpAny_bind (wpAny_setField_rec hz (by simp) λg1 z1 b1=>?_)))));replace z1:IsZip g1 z TI TO .ellipsis:=z1;refine wpAny_bind ?_;simp only[List.zipIdx_cons,List.zipIdx_nil,List.forIn_cons,List.forIn_nil];refine wpAny_bind (wpAny_bind (wpAny_onRaise ?_));show wpAny _ _ (Builtin.SmallTypes.nextOf (.ref i1) >>= _) _ _ _;refine wpAny_bind (vW (h1.extBut b1.extBut D.i1z) (hl1.extBut b1.extBut D.l1z) hx λg2 t2 b2=>wpAny_pure ?_);have o2:IsPair g2 TO a b:=b2.extBut _ _ D.TOi1 (b1.extBut _ _ D.TOz hTO);refine wpAny_bind (wpAny_seqItems o2 rfl (wpAny_bind (wpAny_updateSeq_pair o2 λg3 o3 b3=>wpAny_bind (wpAny_letGo (wpAny_pure ?_)))));replace o3:IsPair g3 TO x b:=o3;refine wpAny_bind (wpAny_bind (wpAny_onRaise ?_));show wpAny _ _ (Builtin.SmallTypes.nextOf (.ref i2) >>= _) _ _ _;refine wpAny_bind (wpAny_nextOf_list_item (((h2.extBut b1.extBut D.i2z).extBut b2.extBut D.i12.symm).extBut b3.extBut D.TOi2.symm) (((hl2.extBut b1.extBut D.l2z).extBut b2.extBut D.l2i1).extBut b3.extBut D.l2TO) hy λg4 t4 b4=>wpAny_pure ?_);have o4:IsPair g4 TO x b:=b4.extBut _ _ D.TOi2 o3;refine wpAny_bind (wpAny_seqItems o4 rfl (wpAny_bind (wpAny_updateSeq_pair o4 λg5 o5 b5=>wpAny_bind (wpAny_letGo (wpAny_pure (wpAny_pure ?_))))));replace o5:IsPair g5 TO x y:=o5;refine wpAny_bind (wpAny_seqItems o5 rfl (wpAny_bind (wpAny_newTuple ?_)));have sz:g5.objs.size=s.heap.objs.size:=by rw[b5.1,b4.1,b3.1,b2.1,b1.1]
 have z5:IsZip g5 z TI TO .ellipsis:=b5.extBut _ _ D.TOz.symm (b4.extBut _ _ D.i2z.symm (b3.extBut _ _ D.TOz.symm (b2.extBut _ _ D.i1z.symm z1)));have k5:∀c o,c≠z->c≠TO->c≠i1->c≠i2->s.heap.get? c=some o->g5.get? c=some o:=λc o c1 c2 c3 c4 e=>b5.extBut _ _ c2 (b4.extBut _ _ c4 (b3.extBut _ _ c2 (b2.extBut _ _ c3 (b1.extBut _ _ c1 e))));have t5:g5.IsTupleIter i1 l1 (k1+1):=((t2.extBut b3.extBut D.TOi1.symm).extBut b4.extBut D.i12).extBut b5.extBut D.TOi1.symm;have l5:g5.IsListIter i2 l2 (k2+1):=t4.extBut b5.extBut D.TOi2.symm;have zlt:z < g5.objs.size:=Heap.lt_size z5;show wpAny _ _ (Builtin.SmallTypes.ownedTupleHandOut (.ref z) (.ref g5.objs.size) >>= _) _ _ _;refine wpAny_bind ?_;unfold Builtin.SmallTypes.ownedTupleHandOut;have z6:IsZip (g5.push { cls:=.type "tuple",data:=.seq #[x,y] }) z TI TO .ellipsis:=Heap.get?_push_of_some _ z5;refine wpAny_bind (wpAny_setField_rec z6 (by simp) λg7 z7 b7=>?_);replace z7:IsZip g7 z TI TO (rawInt g5.objs.size):=z7;refine wpAny_setField_rec z7 (by simp) λg8 z8 b8=>?_;replace z8:IsZip g8 z TI TO (rawInt g5.objs.size):=z8;have up:∀c o,c≠z->g5.get? c=some o->g8.get? c=some o:=λc o c1 e=>b8.extBut _ _ c1 (b7.extBut _ _ c1 (Heap.get?_push_of_some _ e));have p8:IsPair g8 g5.objs.size x y:=b8.extBut _ _ (Nat.ne_of_gt zlt) (b7.extBut _ _ (Nat.ne_of_gt zlt) (Heap.get?_push_size _ rfl));have s8:g8.objs.size=g5.objs.size+1:=by rw[b8.1,b7.1,Heap.size_push]
 rw[sz] at z8 p8 s8;refine wpAny_pure (iw11 _ rfl ?_);show Q (.ref g5.objs.size) _;rw[sz];(revert t5;refine ow11 λe1 q1 r1=>?_);(revert l5;refine ow11 λe2 q2 r2=>?_);exact hQ g8 z8 (up _ _ D.TOz o5) (iw11 e1 (up _ _ D.i1z q1) r1) (iw11 e2 (up _ _ D.i2z q2) r2) p8 s8 λc o c1 c2 c3 c4 e=>up c o c1 (k5 c o c1 c2 c3 c4 e)
theorem yU {z TI TO i1 i2 l1 l2:Addr}{k1 k2:Nat}{xs ys:Array Value}{x y a b:Value}{Q:Option Value->Shared->Prop}(D:ZipApart z TI TO i1 i2 l1 l2)
  (hz:IsZip s.heap z TI TO .none) (hTI:IsPair s.heap TI (.ref i1) (.ref i2)) (hTO:IsPair s.heap TO a b)
  (h1:s.heap.IsTupleIter i1 l1 k1) (h2:s.heap.IsListIter i2 l2 k2) (hl1:s.heap.IsTuple l1 xs) (hl2:s.heap.IsList l2 ys) (hx:xs[k1]?=some x) (hy:ys[k2]?=some y)
  (hQ:∀h',IsZip h' z TI TO (rawInt s.heap.objs.size)->IsPair h' TO x y->h'.IsTupleIter i1 l1 (k1+1)->h'.IsListIter i2 l2 (k2+1)->IsPair h' s.heap.objs.size x y->h'.objs.size=s.heap.objs.size+1->
   (∀c o,c≠z->c≠TO->c≠i1->c≠i2->s.heap.get? c=some o->h'.get? c=some o)->Q (some (.ref s.heap.objs.size)) { s with heap:=h' }):wpAny (model prog w) A (pyNext (.ref z)) Q E s:=by
 have hT:s.TypeIs (.ref z) "zip":=(iw11 _ hz rfl)
 unfold pyNext
 exact wpAny_bind (wpAny_attempt (wpAny_callSpecial?_slot (name:=Str.ofString "__next__") hT PySem.F.slot_zip_next (wpAny_call_entry PySem.F.slot_zip_next hT PySem.F.entry_zip_next
  (yT D hz hTI hTO h1 h2 hl1 hl2 hx hy λh' a1 a2 a3 a4 a5 a6 a7=>wpAny_pure (hQ h' a1 a2 a3 a4 a5 a6 a7)) (PySem.F.args_zip_next_1 _))))
theorem AV {z TI TO i1 i2 l1 l2:Addr}{k1 k2:Nat}{xs:Array Value}{a b:Value}{Q:Option Value->Shared->Prop}(hh:A.handled=none)(D:ZipApart z TI TO i1 i2 l1 l2)
  (hz:IsZip s.heap z TI TO .none) (hTI:IsPair s.heap TI (.ref i1) (.ref i2)) (hTO:IsPair s.heap TO a b) (h1:s.heap.IsTupleIter i1 l1 k1) (hl1:s.heap.IsTuple l1 xs) (hx:xs[k1]?=none)
  (hQ:∀h',(∀c o,c≠z->c≠TO->c≠i1->c≠i2->s.heap.get? c=some o->h'.get? c=some o)->Q none { s with heap:=h' }):wpAny (model prog w) A (pyNext (.ref z)) Q E s:=by
 have hT:s.TypeIs (.ref z) "zip":=(iw11 _ hz rfl)
 unfold pyNext;refine wpAny_bind (wpAny_attempt (wpAny_callSpecial?_slot (name:=Str.ofString "__next__") hT PySem.F.slot_zip_next (wpAny_call_entry PySem.F.slot_zip_next hT PySem.F.entry_zip_next ?_ (PySem.F.args_zip_next_1 _))));show wpAny _ _ (field (.ref z) 2 >>= _) _ _ _;refine wpAny_bind (wpAny_field hz rfl (x:=.bool false) rfl ?_);show wpAny _ _ (field (.ref z) 3 >>= _) _ _ _;refine wpAny_bind (wpAny_field hz rfl (x:=.ref TI) rfl (wpAny_bind (wpAny_seqItems hTI rfl ?_)));show wpAny _ _ (Builtin.SmallTypes.ownedTupleIsFree (.ref z) >>= _) _ _ _;refine wpAny_bind ?_;unfold Builtin.SmallTypes.ownedTupleIsFree;refine wpAny_bind (wpAny_field hz rfl (x:=.none) rfl (wpAny_pure ?_));simp only[if_true];refine wpAny_bind (wpAny_rule (wpAny_bind (wpAny_field hz rfl (x:=.ref TO) rfl (wpAny_bind (wpAny_setField_rec hz (by simp) λg1 z1 b1=>?_)))));replace z1:IsZip g1 z TI TO .ellipsis:=z1;refine wpAny_bind ?_;simp only[List.zipIdx_cons,List.zipIdx_nil,List.forIn_cons,List.forIn_nil];refine wpAny_bind (wpAny_bind (wpAny_onRaise ?_));show wpAny _ _ (Builtin.SmallTypes.nextOf (.ref i1) >>= _) _ _ _;refine wpAny_bind (oN hh (h1.extBut b1.extBut D.i1z) (hl1.extBut b1.extBut D.l1z) hx λg2 e b2 he=>?_);(revert he;refine ow11 λoe hoe hce=>?_);have z2:IsZip g2 z TI TO .ellipsis:=b2 _ _ D.i1z.symm z1;have ez:e≠z:=λx=>by subst x;rw[z2] at hoe;cases hoe;simp at hce
 refine wpAny_setField_rec z2 (by simp) λg3 _ b3=>?_;refine wpAny_bind (wpAny_isInstance (T:="StopIteration") (b:=true) (iw11 oe (b3.extBut _ _ ez hoe) hce) isSubtype_stop ?_);exact wpAny_pure (hQ _ λc o c1 _ c3 _ x=>b3.extBut _ _ c1 (b2 _ _ c3 (b1.extBut _ _ c1 x)))
end
section
variable {prog:Program} {w:World} {A:Around} {E:Value->Shared->Prop} {s:Shared}
noncomputable def zt1 (h:Heap)(l1:Addr):Heap:=h.push { cls:=.type "tuple_iterator",data:=.fields #[.ref l1,.int 0 0] }
noncomputable def zt2 (h:Heap)(l1 l2:Addr):Heap:=(zt1 h l1).push { cls:=.type "list_iterator",data:=.fields #[.ref l2,.int 0 0] }
noncomputable def zt3 (h:Heap)(l1 l2:Addr):Heap:=(zt2 h l1 l2).push { cls:=.type "tuple",data:=.seq #[.ref h.objs.size,.ref (zt1 h l1).objs.size] }
noncomputable def zt4 (h:Heap)(l1 l2:Addr):Heap:=(zt3 h l1 l2).push { cls:=.type "tuple",data:=.seq #[.none,.none] }
noncomputable def zt5 (h:Heap)(l1 l2:Addr):Heap:=(zt4 h l1 l2).push { cls:=.type "zip",data:=.fields #[.none,.bool false,.bool false,.ref (zt2 h l1 l2).objs.size,.ref (zt3 h l1 l2).objs.size] }
theorem vX (l1 l2:Addr)(xs ys:Array Value) :
  Meets (Builtin.«zip.__new__» ⟨[.type "zip",.ref l1,.ref l2],[]⟩) (λ_ R s=>s.heap.IsTuple l1 xs/\s.heap.IsList l2 ys/\R (.ok (.ret (.ref (zt4 s.heap l1 l2).objs.size))) { s with heap:=zt5 s.heap l1 l2 }):=
 .of_wp λprog w A R s h=>by
  obtain⟨hp,g,d,tk,os⟩:=s;(revert h;refine ow02 λhl1 hl2 h=>?_);have hsub:=sub_zip;have hL1:Heap.IsTuple (Shared.heap ⟨hp,g,d,tk,os⟩) l1 xs:=hl1;have hL2:Heap.IsList (Shared.heap ⟨hp.push { cls:=.type "tuple_iterator",data:=.fields #[.ref l1,.int 0 0] },g,d,tk,os⟩) l2 ys:=Heap.IsList.push hl2 _
  wp_walk using wpAny_pyIter_tuple hL1,wpAny_pyIter_list hL2
  exact(iw11 _ rfl h)
theorem yV {l1 l2:Addr}{xs ys:Array Value}{Q:Value->Shared->Prop}(hl1:s.heap.IsTuple l1 xs)(hl2:s.heap.IsList l2 ys)
  (h:∀h',IsZip h' (s.heap.objs.size+4) (s.heap.objs.size+2) (s.heap.objs.size+3) .none->IsPair h' (s.heap.objs.size+2) (.ref s.heap.objs.size) (.ref (s.heap.objs.size+1))->
   IsPair h' (s.heap.objs.size+3) .none .none->h'.IsTupleIter s.heap.objs.size l1 0->h'.IsListIter (s.heap.objs.size+1) l2 0->
   (∀c o,s.heap.get? c=some o->h'.get? c=some o)->Q (.ref (s.heap.objs.size+4)) { s with heap:=h' }):wpAny (model prog w) A (call (.type "zip") [.ref l1,.ref l2]) Q E s:=by
 refine callType_new PySem.F.called_zip (by decide) (PySem.F.typeCall_zip_2 _ _) (PySem.F.newCall_zip_2 _ _) (λobj=>PySem.F.args_object_init_3 obj _ _) PySem.F.entry_zip_new (vX l1 l2 xs ys) ⟨hl1,hl2,?_⟩;have z1:(zt1 s.heap l1).objs.size=s.heap.objs.size+1:=Heap.size_push ..;have z2:(zt2 s.heap l1 l2).objs.size=s.heap.objs.size+2:=by unfold zt2;rw[Heap.size_push,z1]
 have z3:(zt3 s.heap l1 l2).objs.size=s.heap.objs.size+3:=by unfold zt3;rw[Heap.size_push,z2]
 have z4:(zt4 s.heap l1 l2).objs.size=s.heap.objs.size+4:=by unfold zt4;rw[Heap.size_push,z3]
 have g5:(zt5 s.heap l1 l2).get? (zt4 s.heap l1 l2).objs.size=some _:=Heap.get?_push_size _ rfl;have g4:(zt5 s.heap l1 l2).get? (zt3 s.heap l1 l2).objs.size=some _:=Heap.get?_push_of_some _ (Heap.get?_push_size _ rfl);have g3:(zt5 s.heap l1 l2).get? (zt2 s.heap l1 l2).objs.size=some _:=Heap.get?_push_of_some _ (Heap.get?_push_of_some _ (Heap.get?_push_size _ rfl));have g2:(zt5 s.heap l1 l2).get? (zt1 s.heap l1).objs.size=some _:=Heap.get?_push_of_some _ (Heap.get?_push_of_some _ (Heap.get?_push_of_some _ (Heap.get?_push_size _ rfl)));have g1:(zt5 s.heap l1 l2).get? s.heap.objs.size=some _:=Heap.get?_push_of_some _ (Heap.get?_push_of_some _ (Heap.get?_push_of_some _ (Heap.get?_push_of_some _ (Heap.get?_push_size _ rfl))));show _/\_;rw[z2,z3,z4] at g5;rw[z1,z2] at g3;rw[z3] at g4;rw[z1] at g2;rw[z4];exact⟨(iw11 _ g5 rfl),h _ g5 g3 g4 (iw12 _ g1 rfl rfl) (iw12 _ g2 rfl rfl) λc o x=>Heap.get?_push_of_some _ (Heap.get?_push_of_some _ (Heap.get?_push_of_some _ (Heap.get?_push_of_some _ (Heap.get?_push_of_some _ x))))⟩
end
noncomputable def ItzT (K:W.Frag)(a b:Addr):It:=
 ⟨λi H=>∃xs ys x y,SqT K H a xs/\SqL K H b ys/\xs[i]?=some x/\ys[i]?=some y,
  λi H v H'=>∃T x y,v=.ref T/\H T=none/\H'=upd H T (.tup [x,y])/\(∀xs,SqT K H a xs->xs[i]?=some x)/\∀ys,SqL K H b ys->ys[i]?=some y,
  λi H=>∃xs ys,SqT K H a xs/\SqL K H b ys/\xs.length<=i⟩
theorem AW {X:Cx}{pins:List (Addr×Obj)}{σ:St}{H:Hp}{s:Shared}{a b:Addr}{xs:List V}(I:Inv X pins σ H s)(h:SqT X.K H a xs)(f:FpOk X pins H b):a≠b:=by
 intro z;subst z;rcases h with h | ⟨o,its,n,hk,_⟩
 ·rcases h with h | ⟨od,h⟩
  ·rw[f.1] at h;cases h
  ·rw[f.1] at h;cases h
 ·have e:=I.ok.mod.kin _ _ hk
  rcases f.2.2.2.1 with q | q
  ·exact I.ok.noex a o e q
  ·exact absurd (Nat.lt_of_lt_of_le (Heap.lt_size (I.ok.bs a o e).1) q) (Nat.lt_irrefl _)
theorem yW {P:Program}{w:World}{K:W.Frag}{elts:List Expr}{k0:Nat}{pos:Pos}(a b z TI TO i1 i2:Addr)(h12:i1≠i2)(hTT:TI≠TO) :
  Turn P w K (.Tuple elts k0 pos) (ItzT K a b) [z,TI,TO,i1,i2] z (λi h=>IsZip h z TI TO .none/\IsPair h TI (.ref i1) (.ref i2)/\(∃x y,IsPair h TO x y)/\h.IsTupleIter i1 a i/\h.IsListIter i2 b i) where
 mem:=by simp
 obj:=λi h st c hc=>by
  (revert st;refine ow04 λhz hTI zz1 zz2 zz3=>?_;obtain ⟨x,y,hTO⟩:=zz1;obtain ⟨o1,e1,c1,d1⟩:=zz2;obtain ⟨o2,e2,c2,d2⟩:=zz3);simp only[List.mem_cons,List.not_mem_nil,or_false] at hc;rcases hc with rfl | rfl | rfl | rfl | rfl
  ·exact(iw11 _ hz (λv q=>by cases q))
  ·exact(iw11 _ hTI (λv q=>by cases q))
  ·exact(iw11 _ hTO (λv q=>by cases q))
  ·exact(iw11 _ e1 (λv q=>by rw[d1] at q;cases q))
  ·exact(iw11 _ e2 (λv q=>by rw[d2] at q;cases q))
 keep:=λi h h' st k=>by
  (revert st;refine ow04 λhz hTI zz1 zz2 h2=>?_;obtain ⟨x,y,hTO⟩:=zz1;obtain ⟨o1,e1,r1⟩:=zz2);exact⟨k _ (by simp) _ hz,k _ (by simp) _ hTI,(iw20 x y (k _ (by simp) _ hTO)),(iw11 o1 (k _ (by simp) _ e1) r1),h2.at λo e=>k _ (by simp) o e⟩
 item:=by
  intro X hP hw hK hc i pins s σ H E I hf st hg;subst hP hw hK;(revert st;refine ow04 λhz hTI zz1 h1 h2=>?_;obtain ⟨x0,y0,hTO⟩:=zz1);(revert hg;refine ow43 λxs ys x y hx hy ex ey=>?_);(refine pw12 (I.tuple hx) λits rv p _=>?_);(refine pw12 (I.list hy) λits' rv' p' _=>?_);(refine pw11 (rv.get ex) λu hu ru=>?_);(refine pw11 (rv'.get ey) λu' hu' ru'=>?_);have hp:s.heap.IsTuple a its.toArray:=p;have D:ZipApart z TI TO i1 i2 a b:=by
   (refine pw12 (id h1) λo1 e1 c1 d1=>?_);(refine pw12 (id h2) λo2 e2 c2 d2=>?_);(refine pw12 (id hp) λoa ea ca _=>?_);(refine pw12 (id p'.isList) λob eb cb _=>?_);have ne:∀{c d:Addr} {o o':Obj},s.heap.get? c=some o->s.heap.get? d=some o'->o.cls≠o'.cls->c≠d:=λ{c d o o'} h h' n q=>by
    subst q;rw[h] at h';cases h';exact n rfl
   exact⟨ne hTI hz (by simp),ne hTO hz (by simp),ne e1 hz (by rw[c1];simp),ne e2 hz (by rw[c2];simp),hTT,ne hTI e1 (by rw[c1];simp),ne hTI e2 (by rw[c2];simp),ne hTO e1 (by rw[c1];simp),ne hTO e2 (by rw[c2];simp),h12,
    ne ea hz (by rw[ca];simp),AW I hx (hf TO (by simp)),ne ea e1 (by rw[ca,c1];simp),ne ea e2 (by rw[ca,c2];simp),ne eb hz (by rw[cb];simp),ne eb hTO (by rw[cb];simp),ne eb e1 (by rw[cb,c1];simp),ne eb e2 (by rw[cb,c2];simp)⟩
  refine yU D hz hTI hTO h1 h2 hp p'.isList (x:=u) (y:=u') (by simpa using hu) (by simpa using hu') λh' a1 a2 a3 a4 a5 a6 hk=>?_;refine(iw11 _ rfl (wpAny_letOwnedTupleGo_zip a1 λh'' hz'' sb=>?_));have fT:FpOk X pins H s.heap.objs.size:=I.fpOk (Nat.le_refl _) I.fresh;have I1:Inv X pins σ H { s with heap:=h'' }:=I.turnedL (t':=s.toks) (l:=[z,TI,TO,i1,i2]) (λc o hc e=>sb.extBut _ _ (λq=>hc (by simp[q])) (hk c o (λq=>hc (by simp[q])) (λq=>hc (by simp[q])) (λq=>hc (by simp[q])) (λq=>hc (by simp[q])) e)) hf;have hTz:s.heap.objs.size≠z:=Nat.ne_of_gt (Heap.lt_size hz);have hT'':h''.get? s.heap.objs.size=some { cls:=.type "tuple",data:=.seq #[u,u'] }:=sb.extBut _ _ hTz a5;have I2:Inv X pins σ (upd H s.heap.objs.size (.tup [x,y])) { s with heap:=h'' }:=I1.track (t':=s.toks) fT ⟨(by show 2<=sizeLine;decide),(iw11 ([u,u']) (.cons ru (.cons ru' .nil)) (iw12 _ hT'' rfl (iw10 _ rfl)))⟩ (λ_ _=>trivial);refine(iw24 (.ref s.heap.objs.size) _ I2 rfl (iw34 _ x y rfl I.fresh rfl (λzs hq=>by rw[I.qp hq hx];exact ex) (λzs hq=>by rw[I.gv hq hy];exact ey)) ?_ (λc hc=>?_))
  ·exact⟨hz'',sb.extBut _ _ D.TIz (hk _ _ D.TIz D.TITO D.TIi1 D.TIi2 hTI),(iw20 u u' (sb.extBut _ _ D.TOz a2)),a3.extBut sb.extBut D.i1z,a4.extBut sb.extBut D.i2z⟩
  ·have hcl:c < s.heap.objs.size:=by
    (revert h1;refine ow11 λo1 e1 _=>?_);(revert h2;refine ow11 λo2 e2 _=>?_);simp only[List.mem_cons,List.not_mem_nil,or_false] at hc;rcases hc with rfl | rfl | rfl | rfl | rfl
    ·exact Heap.lt_size hz
    ·exact Heap.lt_size hTI
    ·exact Heap.lt_size hTO
    ·exact Heap.lt_size e1
    ·exact Heap.lt_size e2
   rw[aj (Nat.ne_of_lt hcl)];exact(hf c hc).1
 done:=by
  intro X hP hw hK hc i pins s σ H E I hf st hg;subst hP hw hK;(revert st;refine ow04 λhz hTI zz1 h1 h2=>?_;obtain ⟨x0,y0,hTO⟩:=zz1);(revert hg;refine ow22 λxs ys hx hy hend=>?_);(refine pw12 (I.tuple hx) λits rv p _=>?_);(refine pw12 (I.list hy) λits' rv' p' _=>?_);have hp:s.heap.IsTuple a its.toArray:=p;have D:ZipApart z TI TO i1 i2 a b:=by
   (refine pw12 (id h1) λo1 e1 c1 d1=>?_);(refine pw12 (id h2) λo2 e2 c2 d2=>?_);(refine pw12 (id hp) λoa ea ca _=>?_);(refine pw12 (id p'.isList) λob eb cb _=>?_);have ne:∀{c d:Addr} {o o':Obj},s.heap.get? c=some o->s.heap.get? d=some o'->o.cls≠o'.cls->c≠d:=λ{c d o o'} h h' n q=>by
    subst q;rw[h] at h';cases h';exact n rfl
   exact⟨ne hTI hz (by simp),ne hTO hz (by simp),ne e1 hz (by rw[c1];simp),ne e2 hz (by rw[c2];simp),hTT,ne hTI e1 (by rw[c1];simp),ne hTI e2 (by rw[c2];simp),ne hTO e1 (by rw[c1];simp),ne hTO e2 (by rw[c2];simp),h12,
    ne ea hz (by rw[ca];simp),AW I hx (hf TO (by simp)),ne ea e1 (by rw[ca,c1];simp),ne ea e2 (by rw[ca,c2];simp),ne eb hz (by rw[cb];simp),ne eb hTO (by rw[cb];simp),ne eb e1 (by rw[cb,c1];simp),ne eb e2 (by rw[cb,c2];simp)⟩
  have l1:=rv.length;refine AV (k2:=0) (I.ok.hd hc) D hz hTI hTO h1 hp (by simp;omega) λh' hk=>⟨rfl,?_⟩
  exact I.turnedL (t':=s.toks) (l:=[z,TI,TO,i1,i2]) (λc o hc e=>hk c o (λq=>hc (by simp[q])) (λq=>hc (by simp[q])) (λq=>hc (by simp[q])) (λq=>hc (by simp[q])) e) hf
 self:=λ_ _ _ _ _ st h=>wpAny_pyIter_zip st.1 h
section
variable {X:Cx}
noncomputable def iZipT (K:W.Frag)(ta:TA):TI:=λσ H R=>ta σ H λvs H1=>∃a b xs ys,vs=[.ref a,.ref b]/\SqT K H1 a xs/\SqL K H1 b ys/\R (ItzT K a b) H1
theorem Cw {K:W.Frag}{elts:List Expr}{k0:Nat}{tpos:Pos}{a b:Expr}{ta:TA}{p pos:Pos}(hg:Gl X "zip")(hm:X.mg "zip"=none)(ha:PA X [a,b] ta)(hs:autoParam (starEach [a,b] X.env=[(false,eval a X.env),(false,eval b X.env)]) L2.dft3._auto_1)(hs2:autoParam (starEach [b] X.env=[(false,eval b X.env)]) L2.dft3._auto_1)
  (hK:autoParam (X.K=K) L2.dft3._auto_1):PI X (.Tuple elts k0 tpos) (.Call (.Name "zip" p) [a,b] [] pos) (iZipT K ta):=by
 subst hK;intro pins s σ H R I h;refine Call_ (dP I hg hm boot_zip (PyProof.Rows.callWith_type1 (thnA (ha pos pins s σ H _ I h) λus s1 vs H1 I1 r1 q1=>?_) (by rw[hs,hs2]) (by rw[hs2];rfl)));(revert q1;refine ow43 λl1 l2 xs ys zz1 hx hy q=>?_;subst zz1);(refine pw22 (vals2 r1) λu v zz1 ru rv=>?_;subst zz1);cases ru;cases rv;(refine pw12 (I1.tuple hx) λits rx px _=>?_);(refine pw12 (I1.list hy) λits' ry py _=>?_);refine yV (xs:=its.toArray) px py.isList λh' z1 z2 z3 z4 z5 hk=>?_;have I2:Inv X pins σ H1 { s1 with heap:=h' }:=I1.kept (t':=s1.toks) hk;refine wpAny_pyIter_zip z1 (iw55 _ _ _ _ H1 rfl I2 (yW l1 l2 _ _ _ _ _ (Nat.ne_of_lt (Nat.lt_succ_self _)) (Nat.ne_of_lt (Nat.lt_succ_self _))) ⟨z1,z2,(iw20 _ _ z3),z4,z5⟩ (λc hc=>?_) q);have hcl:s1.heap.objs.size<=c:=by
  simp only[List.mem_cons,List.not_mem_nil,or_false] at hc;rcases hc with rfl | rfl | rfl | rfl | rfl<;>omega
 exact I1.fpOk hcl (I1.hok.fresh hcl)
end
theorem yX {K:W.Frag}{a b:Addr}{xs ys:List V}{g:TG}{tb:TS}{D:Ends}{σ:St}{H:Hp}(Pv:Nat->St->Hp->Prop)(hxy:xs.length=ys.length)(h0:Pv 0 σ H)(hl:∀i σ H,i<=xs.length->Pv i σ H->SqT K H a xs/\SqL K H b ys)
  (hs:∀i x y T σ H,xs[i]?=some x->ys[i]?=some y->H T=none->Pv i σ H->g (.ref T) σ (upd H T (.tup [x,y])) λσ2 H2=>tb { D with nx:=Pv (i+1),ct:=Pv (i+1),bk:=D.nx } σ2 H2)
  (hd:∀σ H,Pv xs.length σ H->D.nx σ H):forW (ItzT K a b) g tb D σ H:=by
 refine(iw11 (λi m σ H=>m=xs.length - i/\i<=xs.length/\Pv i σ H) (iw12 _ rfl (Nat.zero_le _) h0) ?_)
 rintro i m σ H ⟨rfl,hi,p⟩
 obtain⟨lx,ly⟩:=hl i σ H hi p
 by_cases hlt:i < xs.length
 ·refine .inr ⟨(iw30 xs ys (xs[i]) (iw13 (ys[i]'(by omega)) lx ly (by simp) (by simp))),(iw11 (Pv (i+1)) (λσ' H' p'=>(iw13 (xs.length - (i+1)) (by omega) rfl hlt p')) (λv H' y=>?_))⟩
  (revert y;refine ow34 λT x y zz1 hT zz2 h1 h2=>?_;subst zz1;subst zz2);exact hs i x y T σ _ (h1 xs lx) (h2 ys ly) hT p
 ·have e:i=xs.length:=by omega
  subst e;exact .inl ⟨(iw22 xs ys lx ly (Nat.le_refl _)),hd σ H p⟩
theorem AX (z:Str)(l:List Str):inV (.str z) (l.map V.str)=decide (z∈l):=by
 unfold inV
 induction l with
 | nil=>rfl
 | cons x r ih=>
  rw[List.map_cons,List.any_cons,ih];show((x == z) || decide (z∈r))=_
  by_cases e:z=x
  ·subst e;simp
  ·have e1:(x == z)=false:=by rw[beq_eq_false_iff_ne];exact Ne.symm e
   rw[e1];simp[e]
noncomputable abbrev Part:=Str×V×List Nat
noncomputable def evK (n:Str)(ps:List Part):List (Key×V):=(.inr "event",.str n)::ps.map λx=>(.inr x.1,x.2.1)
structure EvOk (n:Str)(ps:List Part):Prop where
 part:∀x∈ps,PartV x.1 x.2.1 x.2.2/\x.2.2.length<=201/\∀c∈x.2.2,c < 128
 nd:((Str.ofString "event")::ps.map (·.1)).Nodup
 len:ps.length<=7
noncomputable def hailP (n:List Nat)(k:Nat):List Part:=[("sender",.str (S n),n),("life",.int (k:Int),strI (k:Int))]
noncomputable def putP (n:List Nat)(k dd r pl:Nat)(key:List Nat)(wo:Option (List Nat)):List Part:=
 [("sender",.str (S n),n),("number",.int (k:Int),strI (k:Int)),("deed",.int (dd:Int),strI (dd:Int)),("row",.int (r:Int),strI (r:Int)),("place",.int (pl:Int),strI (pl:Int)),("key",.str (S key),key),("word",wV wo,wordT wo)]
inductive EvN (ph pp:Addr):Str->List Str->Addr->Prop
 | hail:EvN ph pp "hail" ["sender","life"] ph
 | put:EvN ph pp "put" ["sender","number","deed","row","place","key","word"] pp
noncomputable def um (ph pp:Addr):Sp:=λvs H Q _=>∃(n:Str) (p pa:Addr) (ps:List Part),vs=[.str n,.ref p]/\H p=some (.lst (ps.map λx=>x.2.1))/\EvN ph pp n (ps.map (·.1)) pa/\EvOk n ps/\
 ∀D H',H D=none->Same H H'->H' D=some (.dK (evK n ps))->Q (.ref D) H'
noncomputable def uo (ph pp:Addr):Sp:=λvs H Q _=>∃(n:Str) (D pa:Addr) (ps:List Part),vs=[.ref D]/\H D=some (.dK (evK n ps))/\EvN ph pp n (ps.map (·.1)) pa/\EvOk n ps/\
 ∀b H',Same H H'->okB b->Q (.str (S b)) H'
theorem yY {kvs:List (Key×V)}{k:Key}{v:V}(h:k∉kvs.map (·.1)):putK kvs k v=kvs++[(k,v)]:=by
 unfold putK;rw[if_neg];rw[List.any_eq_true]
 rintro⟨x,hx,e⟩
 exact h (List.mem_map.mpr (iw11 x hx (by simpa using e)))
theorem l8 {z:List Nat}{c:Nat}:∀{ls:List (List Nat)},c∈joinL z ls->c∈z\/∃l∈ls,c∈l
 | [],h=>by simp[joinL] at h
 | [a],h=>.inr (iw11 a (by simp) (by simpa [joinL] using h))
 | a::b::r,h=>by
  have h':c∈a++(z++joinL z (b::r)):=by simpa [joinL] using h
  rcases List.mem_append.mp h' with h1 | h1
  ·exact .inr (iw11 a (by simp) h1)
  ·rcases List.mem_append.mp h1 with h2 | h2
   ·exact .inl h2
   ·rcases l8 h2 with q | ⟨l,hl,q⟩
    ·exact .inl q
    ·exact .inr (iw11 l (List.mem_cons_of_mem _ hl) q)
theorem oO {z:List Nat}{m:Nat}:∀{ls:List (List Nat)},(∀l∈ls,l.length<=m)->(joinL z ls).length<=ls.length * (m+z.length)
 | [],_=>by simp[joinL]
 | [a],h=>by have:=h a (by simp);simp[joinL];omega
 | a::b::r,h=>by
  have h1:=h a (by simp);have h2:=oO (z:=z) (ls:=b::r) λl hl=>h l (List.mem_cons_of_mem _ hl);have e:joinL z (a::b::r)=a++(z++joinL z (b::r)):=by simp[joinL]
  rw[e];simp only[List.length_append,List.length_cons] at h2 ⊢;rw[Nat.add_mul (r.length+1) 1];omega
theorem Dm {a:List Nat}(h:∀c∈a,c < 128):∀c∈gd a,c < 128:=by
 intro c hc;unfold gd at hc;(refine pw11 (List.mem_flatMap.mp hc) λx hx hc=>?_);have:=h x hx;unfold gd1 at hc
 split at hc
 ·simp at hc;omega
 ·split at hc
  ·simp at hc;omega
  ·simp at hc;omega
theorem bodyB {n:List Nat}{ps:List Part}{m:Str}(ok:EvOk m ps)(hn:n.length<=8)(hc:∀c∈n,c < 128):okB (joinL [59] ((n::ps.map λx=>x.2.2).map gd)):=by
 constructor
 ·intro c h
  rcases l8 h with q | ⟨l,hl,q⟩
  ·simp at q;omega
  ·(refine pw11 (List.mem_map.mp hl) λa ha zz1=>?_;subst zz1)
   refine Dm ?_ c q;rcases List.mem_cons.mp ha with rfl | ha
   ·exact hc
   ·(refine pw11 (List.mem_map.mp ha) λx hx zz1=>?_;subst zz1)
    exact(ok.part x hx).2.2
 ·have h1:=oO (z:=[59]) (m:=402) (ls:=(n::ps.map λx=>x.2.2).map gd) (λl hl=>by
   (refine pw11 (List.mem_map.mp hl) λa ha zz1=>?_;subst zz1);have:=sj a;rcases List.mem_cons.mp ha with rfl | ha
   ·omega
   ·(refine pw11 (List.mem_map.mp ha) λx hx zz1=>?_;subst zz1)
    have:=(ok.part x hx).2.1
    omega)
  have h2:=ok.len;simp at h1 ⊢;omega
theorem vY {K:W.Frag}{te:TE}{σ:St}{H:Hp}{Q:VK}{a:Addr}{xs:List V}(hl:∀H,SqT K H a xs)(hn:xs.length<=sizeLine)(f:V->V)
  (he:∀x H',x∈xs->Same H H'->∀Qe:VK,(∀H'',Same H' H''->Qe (f x) H'')->te (some x::σ) H' Qe)
  (hd:∀D H',H D=none->Same H H'->H' D=some (.lst (xs.map f))->Q (.ref D) H'):compW (Itt K a) tYes te σ H Q:=λD hD=>
 jf (J:=Itt K a) xs.length hn hD (λi=>xs.getD i .non) (λi=>f (xs.getD i .non)) (λ_=>true) (λH' s=>(iw11 xs (hl H') (Nat.le_refl _)))
  (λi H' s h=>(iw21 xs (xs[i]) (hl H') (by simp)))
  (λi H' x H'' s hi y=>by
   obtain⟨rfl,z⟩:=y;have hz:=z xs (hl _);refine⟨rfl,?_⟩;rw[List.getD_eq_getElem?_getD,hz]
   rfl)
  (λi H' h s Qt q=>q H' (Same.refl _))
  (λi H' h hp s Qe q=>he _ H' (by rw[List.getD_eq_getElem?_getD,List.getElem?_eq_getElem h];exact List.getElem_mem h) s Qe q)
  (λH' s h=>hd D H' hD s (by
   rw[h];congr 2;rw[cQ];refine List.ext_getElem (by simp) λi h1 h2=>?_;simp at h1 h2 ⊢;rw[List.getElem?_eq_getElem h2]
   rfl))
theorem oP:∀{ps:List Part} {x:Part},(ps.map (·.1)).Nodup->x∈ps->valV (ps.map λy=>((.inr y.1:Key),y.2.1)) (.inr x.1)=some x.2.1
 | y::r,x,nd,hx=>by
  rw[List.map_cons,List.nodup_cons] at nd;rw[List.map_cons];rcases List.mem_cons.mp hx with rfl | hx
  ·exact bY rfl
  ·rw[bO (λq=>nd.1 (by rw[Sum.inr.inj q];exact List.mem_map.mpr (iw11 x hx rfl)))]
   exact oP nd.2 hx
noncomputable def partF (ps:List Part):V->V:=λv=>match v with
 | .str p=>.str (S (((ps.find? λx=>decide (x.1=p)).map λx=>x.2.2).getD []))
 | v=>v
theorem oQ:∀{ps:List Part} {x:Part},(ps.map (·.1)).Nodup->x∈ps->partF ps (.str x.1)=.str (S x.2.2)
 | y::r,x,nd,hx=>by
  rw[List.map_cons,List.nodup_cons] at nd;rcases List.mem_cons.mp hx with rfl | hx
  ·simp[partF]
  ·have h1:y.1≠x.1:=λq=>nd.1 (by rw[q];exact List.mem_map.mpr (iw11 x hx rfl))
   have:=oQ nd.2 hx;simp only[partF,List.find?_cons,h1,decide_false] at this ⊢;exact this
theorem yZ {ps:List Part}(nd:(ps.map (·.1)).Nodup):((ps.map (·.1)).map V.str).map (partF ps)=tx (ps.map λx=>x.2.2):=by
 unfold tx;rw[List.map_map,List.map_map,List.map_map];refine List.map_congr_left λx hx=>?_;exact oQ nd hx
noncomputable def nameOk (l:List Nat):Prop:=formV (.str (S l)) 1 12 inN=true
noncomputable def keyOk (l:List Nat):Prop:=formV (.str (S l)) 1 24 okSign=true
noncomputable def wordOk (o:Option (List Nat)):Prop:=(decide (wV o=.non) || formV (wV o) 0 200 okSign)=true
noncomputable def uq:Sp:=λvs H Q _=>∃(p:Addr) (ls:List (List Nat)),vs=[.ref p]/\H p=some (.lst (tx ls))/\ls.length<=9/\(∀l∈ls,nameOk l/\l.length<=1000)/\∀H',Same H H'->Q .non H'
noncomputable def w3V (x:Int×Int×Int):List V:=[.int x.1,.int x.2.1,.int x.2.2]
noncomputable def su:Sp:=λvs H Q _=>∃(p:Addr) (xs:List (Int×Int×Int)),vs=[.ref p]/\LTups H p (xs.map w3V)/\xs.length<=9/\(∀x∈xs,x.2.1<=x.1/\x.1<=x.2.2)/\∀H',Same H H'->Q .non H'
noncomputable def sv:Sp:=λvs H Q _=>∃(k:List Nat) (o:Option (List Nat)),vs=[.str (S k),wV o]/\keyOk k/\k.length<=1000/\wordOk o/\(∀w,o=some w->w.length<=1000)/\∀H',Same H H'->Q .non H'
noncomputable def ur:Sp:=λvs H Q _=>∃b:Bool,vs=[.bl b]/\Q .non H
structure CK where
 C:Addr
 S:Addr
 B:Addr
 H:Addr
 R:Addr
 N:Addr
 D:Addr
 Rd:Addr
structure CA where
 c:Addr
 st:Addr
 bk:Addr
 bl:Addr
 sh:Addr
 shl:Addr
 rl:Addr
 sn:Addr
 l:Addr
 t:Addr
 p:Addr
 de:Addr
 dl:Addr
 bz:Addr
 gr:Addr
 rd:Addr
 ra:Addr
 rb:Addr
 rs:List Addr
 ds:List Addr
structure CM where
 xs:List Shf
 Ms:List RowM
 S:SendM
 ls:List (List Nat)
noncomputable def CA.fix (A:CA):List Addr:=[A.c,A.st,A.bk,A.bl,A.sh,A.shl,A.rl,A.sn,A.l,A.t,A.p,A.de,A.dl,A.bz,A.gr,A.rd,A.ra,A.rb]++(A.rs++A.ds)
noncomputable def stF (A:CA):List (Str×V):=[("shelves",.ref A.sh),("rows",.ref A.rl),("senders",.ref A.sn),("deeds",.ref A.de),("groups",.ref A.gr),("readers",.ref A.rd),("turn",.int 0)]
noncomputable def ceF (A:CA):List (Str×V):=[("state",.ref A.st),("book",.ref A.bk)]
structure StAt (k:CK)(H:Hp)(A:CA)(Z:List Addr)(M:CM):Prop where
 sta:∃dx,H A.st=some (.ins k.S dx (stF A))
 shv:ShAt k.H H A.sh A.shl M.xs
 okx:OkShfs M.xs
 rowl:H A.rl=some (.lst (A.rs.map V.ref))
 row:∀(i:Nat) r d m,A.rs[i]?=some r->A.ds[i]?=some d->M.Ms[i]?=some m->RowAt k.R H r d m
 len:A.rs.length=startOf M.xs M.xs.length
 lend:A.ds.length=A.rs.length
 lenm:M.Ms.length=A.rs.length
 snd:SendAt k.N H A.sn A.l A.t A.p Z M.S
 dee:DeedsAt k.D 0 H A.de A.dl A.bz [] deeds0
 rdr:ReadAt k.Rd H A.rd A.ra A.rb read0
 grp:H A.gr=some (.dK [])
 zin:A.bl∈Z/\A.rl∈Z/\A.shl∈Z/\A.dl∈Z
 zo:∀b∈Z,∃o,H b=some o
 nd:A.fix.Nodup
structure CeAt (k:CK)(H:Hp)(A:CA)(Z:List Addr)(M:CM):Prop where
 cel:∃dx,H A.c=some (.ins k.C dx (ceF A))
 book:BookAt k.B H A.bk A.bl M.ls
 st:StAt k H A Z M
theorem iL {B:List Addr}{H H':Hp}(c:Chg B H H')(hb:∀b∈B,∃o,H' b=some o):∀b,(∃o,H b=some o)->∃o,H' b=some o:=λb zz=>pw10 zz λo e=>by
 by_cases m:b∈B
 ·exact hb b m
 ·exact⟨o,c.keep _ _ e m⟩
theorem mi {l:List Addr}{x:Addr}(i:Nat)(h:l[i]?=some x):x∈l:=List.mem_of_getElem? h
theorem StAt.chg {B:List Addr}{k:CK}{H H':Hp}{A:CA}{Z:List Addr}{M:CM}(h:StAt k H A Z M)(c:Chg B H H')(hB:∀b∈B,b∉A.fix)(hz:∀b∈B,b∈Z\/∀xs,H b≠some (.lst xs))(hs:∀b∈B,∃o,H' b=some o):StAt k H' A Z M:=by
 have n:∀{a:Addr},a∈A.fix->a∉B:=λha hb=>hB _ hb ha;have f:∀{a:Addr},a∈[A.c,A.st,A.bk,A.bl,A.sh,A.shl,A.rl,A.sn,A.l,A.t,A.p,A.de,A.dl,A.bz,A.gr,A.rd,A.ra,A.rb]->a∉B:=λha=>n (List.mem_append_left _ ha);obtain⟨dx,e⟩:=h.sta
 exact⟨⟨dx,c.keep _ _ e (f (mi 1 rfl))⟩,h.shv.chg c (f (mi 4 rfl)) (f (mi 5 rfl)),h.okx,c.keep _ _ h.rowl (f (mi 6 rfl)),
  λi r d m h1 h2 h3=>(h.row i r d m h1 h2 h3).chg c (n (List.mem_append_right _ (List.mem_append_left _ (List.mem_of_getElem? h1)))) (n (List.mem_append_right _ (List.mem_append_right _ (List.mem_of_getElem? h2)))),h.len,h.lend,h.lenm,
  h.snd.chg c (f (mi 7 rfl)) (f (mi 8 rfl)) (f (mi 9 rfl)) (f (mi 10 rfl)) hz,h.dee.chg c (f (mi 11 rfl)) (f (mi 12 rfl)) (f (mi 13 rfl)) (λ_ hu=>nomatch hu),h.rdr.chg c (f (mi 15 rfl)) (f (mi 16 rfl)) (f (mi 17 rfl)),c.keep _ _ h.grp (f (mi 14 rfl)),h.zin,λb hb=>iL c hs b (h.zo b hb),h.nd⟩
theorem StAt.same {k:CK}{H H':Hp}{A:CA}{Z:List Addr}{M:CM}(h:StAt k H A Z M)(s:Same H H'):StAt k H' A Z M:=h.chg (B:=[]) (Chg.of_same s) (λ_ z=>nomatch z) (λ_ z=>nomatch z) (λ_ z=>nomatch z)
theorem CeAt.chg {B:List Addr}{k:CK}{H H':Hp}{A:CA}{Z:List Addr}{M:CM}(h:CeAt k H A Z M)(c:Chg B H H')(hB:∀b∈B,b∉A.fix)(hz:∀b∈B,b∈Z\/∀xs,H b≠some (.lst xs))(hs:∀b∈B,∃o,H' b=some o):CeAt k H' A Z M:=by
 have f:∀{a:Addr},a∈[A.c,A.st,A.bk,A.bl,A.sh,A.shl,A.rl,A.sn,A.l,A.t,A.p,A.de,A.dl,A.bz,A.gr,A.rd,A.ra,A.rb]->a∉B:=λha hb=>hB _ hb (List.mem_append_left _ ha);obtain⟨dx,e⟩:=h.cel;obtain⟨dx2,e2⟩:=h.book.obj;exact⟨⟨dx,c.keep _ _ e (f (by simp))⟩,⟨⟨dx2,c.keep _ _ e2 (f (by simp))⟩,c.keep _ _ h.book.lst (f (by simp))⟩,h.st.chg c hB hz hs⟩
theorem CeAt.same {k:CK}{H H':Hp}{A:CA}{Z:List Addr}{M:CM}(h:CeAt k H A Z M)(s:Same H H'):CeAt k H' A Z M:=h.chg (B:=[]) (Chg.of_same s) (λ_ z=>nomatch z) (λ_ z=>nomatch z) (λ_ z=>nomatch z)
theorem iM (A:CA):(stF A).lookup (Str.ofString "shelves")=some (.ref A.sh):=rfl
theorem kU (A:CA):(stF A).lookup (Str.ofString "rows")=some (.ref A.rl):=rfl
theorem cn (A:CA):(stF A).lookup (Str.ofString "senders")=some (.ref A.sn):=rfl
theorem ma (A:CA):(stF A).lookup (Str.ofString "deeds")=some (.ref A.de):=rfl
theorem jm (A:CA):(ceF A).lookup (Str.ofString "state")=some (.ref A.st):=rfl
theorem uu (A:CA):(ceF A).lookup (Str.ofString "book")=some (.ref A.bk):=rfl
noncomputable def CM.hail (M:CM)(n:Str):CM:={ M with S:=M.S.hail n }
noncomputable def CM.put (M:CM)(i:Nat)(m:RowM)(x:Ltr)(n:Str)(k:Int):CM:={ M with Ms:=M.Ms.set i (m.add x),S:=M.S.note n k ((i:Int),m.last) }
theorem CA.sy {A:CA}(nd:A.fix.Nodup){a:Addr}(ha:a∈[A.c,A.st,A.bk,A.bl,A.sh,A.shl,A.rl,A.sn,A.l,A.t,A.p,A.de,A.dl,A.bz,A.gr,A.rd,A.ra,A.rb]):a∉A.rs/\a∉A.ds:=by
 unfold CA.fix at nd;have:=(List.nodup_append.mp nd).2.2;exact⟨λz=>this a ha a (List.mem_append_left _ z) rfl,λz=>this a ha a (List.mem_append_right _ z) rfl⟩
theorem CA.nd18 {A:CA}(nd:A.fix.Nodup):[A.c,A.st,A.bk,A.bl,A.sh,A.shl,A.rl,A.sn,A.l,A.t,A.p,A.de,A.dl,A.bz,A.gr,A.rd,A.ra,A.rb].Nodup:=(List.nodup_append.mp nd).1
theorem CA.ndR {A:CA}(nd:A.fix.Nodup):(A.rs++A.ds).Nodup:=(List.nodup_append.mp nd).2.1
theorem a9 {l A:List Addr}{x:Addr}(h:l.Nodup)(i:Nat)(js:List Nat)(hx:l[i]?=some x)(hA:A.map some=js.map λj=>l[j]?)(hij:i∉js):x∉A:=λm=>by
 have m2:some x∈A.map some:=List.mem_map.mpr (iw11 x m rfl);rw[hA] at m2;(refine pw11 (List.mem_map.mp m2) λj hj ej=>?_);obtain⟨hi,ei⟩:=List.getElem?_eq_some_iff.mp hx;obtain⟨hj',ej'⟩:=List.getElem?_eq_some_iff.mp ej;have hne:i≠j:=λz=>hij (by rw[z];exact hj);have hp:=List.pairwise_iff_getElem.mp h;rcases Nat.lt_or_gt_of_ne hne with z | z
 ·exact hp i j hi hj' z (ei.trans ej'.symm)
 ·exact hp j i hj' hi z (ej'.trans ei.symm)
theorem StAt.sends {k:CK}{H H':Hp}{A:CA}{Z:List Addr}{M:CM}{S':SendM}(h:StAt k H A Z M)(c:Chg [A.l,A.t,A.p] H H')(s':SendAt k.N H' A.sn A.l A.t A.p Z S'):StAt k H' A Z { M with S:=S' }:=by
 have n18:=CA.nd18 h.nd
 have nr:∀a∈[A.l,A.t,A.p],a∉A.rs/\a∉A.ds:=λa ha=>CA.sy h.nd (by
  simp only[List.mem_cons,List.not_mem_nil,or_false] at ha;rcases ha with rfl | rfl | rfl
  ·exact mi 8 rfl
  ·exact mi 9 rfl
  ·exact mi 10 rfl)
 obtain⟨dx,e⟩:=h.sta;have hs:∀b∈[A.l,A.t,A.p],∃o,H' b=some o:=λb hb=>by
  (refine pw11 s'.liv λk1 e1 _=>?_);(refine pw11 s'.las λk2 e2 _=>?_);(refine pw11 s'.spo λk3 e3 _=>?_);simp only[List.mem_cons,List.not_mem_nil,or_false] at hb;rcases hb with rfl | rfl | rfl
  ·exact⟨_,e1⟩
  ·exact⟨_,e2⟩
  ·exact⟨_,e3⟩
 refine⟨⟨dx,c.keep _ _ e (a9 n18 1 [8,9,10] rfl rfl (by decide))⟩,h.shv.chg c (a9 n18 4 [8,9,10] rfl rfl (by decide)) (a9 n18 5 [8,9,10] rfl rfl (by decide)),h.okx,c.keep _ _ h.rowl (a9 n18 6 [8,9,10] rfl rfl (by decide)),λi r d m h1 h2 h3=>?_,h.len,h.lend,h.lenm,s',
  h.dee.chg c (a9 n18 11 [8,9,10] rfl rfl (by decide)) (a9 n18 12 [8,9,10] rfl rfl (by decide)) (a9 n18 13 [8,9,10] rfl rfl (by decide)) (λ_ hu=>nomatch hu),h.rdr.chg c (a9 n18 15 [8,9,10] rfl rfl (by decide)) (a9 n18 16 [8,9,10] rfl rfl (by decide)) (a9 n18 17 [8,9,10] rfl rfl (by decide)),c.keep _ _ h.grp (a9 n18 14 [8,9,10] rfl rfl (by decide)),h.zin,λb hb=>iL c hs b (h.zo b hb),h.nd⟩
 have m1:=List.mem_of_getElem? h1;have m2:=List.mem_of_getElem? h2;exact(h.row i r d m h1 h2 h3).chg c (λz=>(nr r z).1 m1) (λz=>(nr d z).2 m2)
theorem qL {l:List Addr}(nd:l.Nodup){i j:Nat}{a:Addr}(h1:l[i]?=some a)(h2:l[j]?=some a):i=j:=by
 by_cases e:i=j
 ·exact e
 ·exact absurd rfl (EW nd h1 h2 e)
theorem StAt.rowd {k:CK}{H H':Hp}{A:CA}{Z:List Addr}{M:CM}{i:Nat}{r d:Addr}{m':RowM}(h:StAt k H A Z M)(hr:A.rs[i]?=some r)(hd:A.ds[i]?=some d)(c:Chg [r,d] H H')(R':RowAt k.R H' r d m'):StAt k H' A Z { M with Ms:=M.Ms.set i m' }:=by
 have mr:=List.mem_of_getElem? hr;have md:=List.mem_of_getElem? hd;have f:∀{a:Addr},a∈[A.c,A.st,A.bk,A.bl,A.sh,A.shl,A.rl,A.sn,A.l,A.t,A.p,A.de,A.dl,A.bz,A.gr,A.rd,A.ra,A.rb]->a∉[r,d]:=λha z=>by
  have:=CA.sy h.nd ha;simp only[List.mem_cons,List.not_mem_nil,or_false] at z;rcases z with rfl | rfl
  ·exact this.1 mr
  ·exact this.2 md
 have ndR:=CA.ndR h.nd;have ndr:=(List.nodup_append.mp ndR).1;have ndd:=(List.nodup_append.mp ndR).2.1;have ndx:=(List.nodup_append.mp ndR).2.2;obtain⟨dx,e⟩:=h.sta;obtain⟨dxr,er⟩:=R'.obj;(refine pw11 R'.dict λkd ed _=>?_);have hs:∀b∈[r,d],∃o,H' b=some o:=λb hb=>by
  simp only[List.mem_cons,List.not_mem_nil,or_false] at hb;rcases hb with rfl | rfl
  ·exact⟨_,er⟩
  ·exact⟨_,ed⟩
 have hi:i < A.rs.length:=(List.getElem?_eq_some_iff.mp hr).1;have hz:∀b∈[r,d],b∈Z\/∀xs,H b≠some (.lst xs):=λb hb=>.inr λxs z=>by
  have hm:M.Ms[i]?=some (M.Ms[i]'(by rw[h.lenm];exact hi)):=by simp
  obtain⟨dx0,e0⟩:=(h.row i r d _ hr hd hm).obj;(refine pw11 ((h.row i r d _ hr hd hm).dict) λkv0 e1 _=>?_);simp only[List.mem_cons,List.not_mem_nil,or_false] at hb;rcases hb with rfl | rfl
  ·rw[e0] at z;cases z
  ·rw[e1] at z;cases z
 refine⟨⟨dx,c.keep _ _ e (f (mi 1 rfl))⟩,h.shv.chg c (f (mi 4 rfl)) (f (mi 5 rfl)),h.okx,c.keep _ _ h.rowl (f (mi 6 rfl)),λj r1 d1 m1 h1 h2 h3=>?_,h.len,h.lend,by simp[h.lenm],
  h.snd.chg c (f (mi 7 rfl)) (f (mi 8 rfl)) (f (mi 9 rfl)) (f (mi 10 rfl)) hz,h.dee.chg c (f (mi 11 rfl)) (f (mi 12 rfl)) (f (mi 13 rfl)) (λ_ hu=>nomatch hu),h.rdr.chg c (f (mi 15 rfl)) (f (mi 16 rfl)) (f (mi 17 rfl)),c.keep _ _ h.grp (f (mi 14 rfl)),h.zin,λb hb=>iL c hs b (h.zo b hb),h.nd⟩
 by_cases ej:j=i
 ·subst ej
  rw[hr] at h1;rw[hd] at h2;cases h1;cases h2;have:M.Ms.set j m'=M.Ms.set j m':=rfl;rw[List.getElem?_set_self (by rw[h.lenm];exact hi)] at h3;cases h3;exact R'
 ·rw[List.getElem?_set_ne (Ne.symm ej)] at h3
  have q1:=List.mem_of_getElem? h1;have q2:=List.mem_of_getElem? h2;refine(h.row j r1 d1 m1 h1 h2 h3).chg c ?_ ?_
  ·simp only[List.mem_cons,List.not_mem_nil,or_false,not_or]
   exact⟨λz=>ej (qL ndr h1 (z▸hr)),λz=>ndx r1 q1 d md z⟩
  ·simp only[List.mem_cons,List.not_mem_nil,or_false,not_or]
   exact⟨λz=>ndx r mr d1 q2 z.symm,λz=>ej (qL ndd h2 (z▸hd))⟩
noncomputable def mf (k:CK):Sp:=λvs H Q _=>∃(A:CA) (Z:List Addr) (M:CM) (D:Addr) (n:List Nat) (kk:Nat),vs=[.ref A.st,.ref D]/\StAt k H A Z M/\H D=some (.dK (evK "hail" (hailP n kk)))/\M.S.sz<=100000/\(∀v,M.S.L (S n)=some v->1<=v)/\
 ∀H',Chg [A.l,A.t,A.p] H H'->StAt k H' A Z (M.hail (S n))->Q .non H'
noncomputable def oR (k:CK):Sp:=λvs H Q _=>∃(A:CA) (Z:List Addr) (M:CM) (D:Addr) (n:List Nat) (kk i pl:Nat) (key:List Nat) (wo:Option (List Nat)) (r d:Addr) (m:RowM),vs=[.ref A.st,.ref D]/\StAt k H A Z M/\H D=some (.dK (evK "put" (putP n kk 0 i pl key wo)))/\D≠d/\D≠A.t/\D≠A.p/\
 A.rs[i]?=some r/\A.ds[i]?=some d/\M.Ms[i]?=some m/\m.last<=10000/\M.S.sz<=100000/\(M.S.L (S n)).isSome=true/\(kk:Int)=M.S.T (S n)+1/\
 ∀H',Chg [r,d,A.l,A.t,A.p] H H'->StAt k H' A Z (M.put i m (key,wo,0) (S n) kk)->Q .non H'
noncomputable def y4 (k:CK):Sp:=λvs H Q E=>∃(st D:Addr),vs=[.ref st,.ref D]/\((mf k [.ref st,.ref D] H Q E/\∃ps,H D=some (.dK (evK "hail" ps)))\/(oR k [.ref st,.ref D] H Q E/\∃ps,H D=some (.dK (evK "put" ps))))
theorem y6 (n:List Nat)(k:Nat):valV (evK "hail" (hailP n k)) (.inr (Str.ofString "sender"))=some (.str (S n)):=by rfl
section
variable (n:List Nat) (k dd r pl:Nat) (key:List Nat) (wo:Option (List Nat))
theorem y8:valV (evK "put" (putP n k dd r pl key wo)) (.inr (Str.ofString "sender"))=some (.str (S n)):=by rfl
theorem y9:valV (evK "put" (putP n k dd r pl key wo)) (.inr (Str.ofString "number"))=some (.int (k:Int)):=by rfl
theorem xu:valV (evK "put" (putP n k dd r pl key wo)) (.inr (Str.ofString "deed"))=some (.int (dd:Int)):=by rfl
theorem Ep:valV (evK "put" (putP n k dd r pl key wo)) (.inr (Str.ofString "row"))=some (.int (r:Int)):=by rfl
theorem Er:valV (evK "put" (putP n k dd r pl key wo)) (.inr (Str.ofString "key"))=some (.str (S key)):=by rfl
theorem Cy:valV (evK "put" (putP n k dd r pl key wo)) (.inr (Str.ofString "word"))=some (wV wo):=by rfl
end
theorem dg {H:Hp}{D:Addr}{kvs:List (Key×V)}{x:Str}{v:V}(h:H D=some (.dK kvs))(e:valV kvs (.inr x)=some v):DGet H D (.str x) (some v):=by
 have g:=DGet.k (k:=.inr x) h;rw[e] at g;exact g
noncomputable def uv (k:CK):Sp:=λvs H Q _=>∃(A:CA) (Z:List Addr) (M:CM) (n:List Nat) (kk:Nat),vs=[.ref A.st,.str (S n)]/\StAt k H A Z M/\nameOk n/\(kk:Int)=(M.S.L (S n)).getD 0+1/\kk < 10 ^ 9/\
 ∀t ev u D H',Same H H'->H ev=none->H D=none->H' t=some (.tup [.ref ev,.ref u])->H' ev=some (.lst [.ref D])->H' D=some (.dK (evK "hail" (hailP n kk)))->H' u=some (.tup [.int (kk:Int),.int (if (M.S.L (S n)).isSome=true then M.S.T (S n) else 0)])->Q (.ref t) H'
theorem nameOk.len {n:List Nat}(h:nameOk n):1<=n.length/\n.length<=12/\∀c∈n,c < 128:=by
 unfold nameOk formV at h;simp only[ck,Bool.and_eq_true,decide_eq_true_eq] at h;refine⟨by omega,by omega,λc hc=>?_⟩;have:=List.all_eq_true.mp h.2.2 c (by simpa [S] using hc);have h2:c∈T36:=by simpa [inN] using this
 have key:∀c∈T36,c < 128:=by decide
 exact key c h2
theorem oS {p:Str}{l:List Nat}(hp:p∈textsL):PartV p (.str (S l)) l:=.inl ⟨hp,rfl⟩
theorem iN {p:Str}{m:Nat}(h1:p∉textsL)(h2:p ≠ "word")(h3:p ≠ "owner")(hm:m < 10 ^ 12):PartV p (.int (m:Int)) (strI (m:Int))/\(strI (m:Int)).length<=201/\∀c∈strI (m:Int),c < 128:=
 ⟨.inr (.inr ⟨h1,h2,h3,(iw12 m rfl hm rfl)⟩),Nat.le_trans (nV (k:=12) (by decide) hm) (by decide),λc hc=>by have:=kR m c hc;omega⟩
theorem qM {n:List Nat}{k:Nat}(hn:nameOk n)(hk:k < 10 ^ 9):EvOk "hail" (hailP n k):=by
 (refine pw02 hn.len λ_ n1 n2=>?_);refine⟨λx hx=>?_,by show List.Nodup [Str.ofString "event",Str.ofString "sender",Str.ofString "life"];decide +kernel,by show 2<=7;decide⟩;simp only[hailP,List.mem_cons,List.not_mem_nil,or_false] at hx;rcases hx with rfl | rfl
 ·exact⟨oS (p:="sender") (s!"d"),by show n.length<=201;omega,n2⟩
 ·exact iN (p:="life") (s!"d") (s!"d") (s!"d") (by omega)
theorem keyOk.len {n:List Nat}(h:keyOk n):n.length<=24/\∀c∈n,c < 128:=by
 unfold keyOk formV at h;simp only[ck,Bool.and_eq_true,decide_eq_true_eq] at h;refine⟨by omega,λc hc=>?_⟩;have:=List.all_eq_true.mp h.2.2 c (by simpa [S] using hc);unfold okSign at this;simp only[Bool.and_eq_true,decide_eq_true_eq] at this;omega
theorem uw {wo:Option (List Nat)}(h:wordOk wo)(hl:∀w,wo=some w->w.length<=200):(wordT wo).length<=201/\∀c∈wordT wo,c < 128:=by
 cases wo with
 | none=>exact⟨by decide,by decide⟩
 | some w=>
  have h0:=hl w rfl;have h1:formV (.str (S w)) 0 200 okSign=true:=by
   unfold wordOk at h;simpa [wV] using h
  unfold formV at h1;simp only[ck,Bool.and_eq_true,decide_eq_true_eq] at h1;refine⟨by show w.length+1<=201;omega,λc hc=>?_⟩;rcases List.mem_cons.mp hc with rfl | hc
  ·decide
  ·have:=List.all_eq_true.mp h1.2.2 c (by simpa [S] using hc)
   unfold okSign at this;simp only[Bool.and_eq_true,decide_eq_true_eq] at this;omega
theorem ux {n key:List Nat}{wo:Option (List Nat)}{k dd r pl:Nat}(hn:nameOk n)(hk:k < 10 ^ 10)(hd:dd < 10 ^ 10)(hr:r < 10 ^ 10)(hp:pl < 10 ^ 10)(hky:keyOk key)(hw:wordOk wo)(hwl:∀w,wo=some w->w.length<=200):EvOk "put" (putP n k dd r pl key wo):=by
 (refine pw02 hn.len λ_ n1 n2=>?_);obtain⟨k1,k2⟩:=hky.len;obtain⟨w1,w2⟩:=uw hw hwl;refine⟨λx hx=>?_,by show List.Nodup [Str.ofString "event",Str.ofString "sender",Str.ofString "number",Str.ofString "deed",Str.ofString "row",Str.ofString "place",Str.ofString "key",Str.ofString "word"];decide +kernel,by show 7<=7;decide⟩;simp only[putP,List.mem_cons,List.not_mem_nil,or_false] at hx;rcases hx with rfl | rfl | rfl | rfl | rfl | rfl | rfl
 ·exact⟨oS (p:="sender") (s!"d"),by show n.length<=201;omega,n2⟩
 ·exact iN (p:="number") (s!"d") (s!"d") (s!"d") (by omega)
 ·exact iN (p:="deed") (s!"d") (s!"d") (s!"d") (by omega)
 ·exact iN (p:="row") (s!"d") (s!"d") (s!"d") (by omega)
 ·exact iN (p:="place") (s!"d") (s!"d") (s!"d") (by omega)
 ·exact⟨oS (p:="key") (s!"d"),by show key.length<=201;omega,k2⟩
 ·exact⟨.inr (.inl ⟨rfl,(iw11 wo rfl rfl)⟩),w1,w2⟩
structure PutP (k:CK)(H:Hp)(A:CA)(Z:List Addr)(M:CM)(n shf key:List Nat)(wo:Option (List Nat))(life num:Nat)(dd j:Nat)(x:Shf):Prop where
 st:StAt k H A Z M
 nm:nameOk n
 sh:nameOk shf
 ky:keyOk key
 wd:wordOk wo
 wl:∀w,wo=some w->w.length<=200
 lf:1<=life/\life<=1000000000
 nu:1<=num/\num<=1000000000
 dd:dd<=1000000000
 pos:M.xs[j]?=some x
 xn:x.name=shf
noncomputable def vZ (k:CK)(CN CF CG CT CD:Addr):Sp:=λvs H Q E=>∃(A:CA) (Z:List Addr) (M:CM) (n shf key:List Nat) (wo:Option (List Nat)) (life num dd j:Nat) (x:Shf) (lt:Addr),vs=[.ref A.st,.str (S n),.int (life:Int),.int (num:Int),.str (S shf),.ref lt,.int (dd:Int)]/\H lt=some (.tup [.str (S key),wV wo])/\PutP k H A Z M n shf key wo life num dd j x/\
 ((M.S.L (S n)=none/\∀H',Same H H'->Bears E H' CN [("name",.str (S n))])\/(∃v,M.S.L (S n)=some v/\(
  ((life:Int)≠v/\∀H',Same H H'->Bears E H' CF [("life",.int v)])\/((life:Int)=v/\(
   (M.S.T (S n)+1 < (num:Int)/\∀H',Same H H'->Bears E H' CG [("due",.int (M.S.T (S n)+1))])\/
   ((num:Int) < M.S.T (S n)+1 - (M.S.P (S n)).length/\∀H',Same H H'->Bears E H' CT [("number",.int (num:Int))])\/
   (∃(i:Nat) (y:Spot),(num:Int)=M.S.T (S n)+1 - (M.S.P (S n)).length+i/\(M.S.P (S n))[i]?=some y/\∀t ev u H',Same H H'->H' t=some (.tup [.ref ev,.ref u])->H' ev=some (.lst [])->H' u=some (.tup (spotV y))->Q (.ref t) H')\/
   ((num:Int)=M.S.T (S n)+1/\dd≠0/\∀H',Same H H'->Bears E H' CD [("name",.str (S n))])\/
   ((num:Int)=M.S.T (S n)+1/\dd=0/\∃(i pl:Nat) (m:RowM),(i:Int)=rowNo M.xs j x key/\M.Ms[i]?=some m/\m.last=(pl:Int)/\pl < 10 ^ 9/\
    ∀t ev u D H',Same H H'->H ev=none->H D=none->H' t=some (.tup [.ref ev,.ref u])->H' ev=some (.lst [.ref D])->H' D=some (.dK (evK "put" (putP n num 0 i pl key wo)))->H' u=some (.tup [.int (i:Int),.int (pl:Int)])->Q (.ref t) H'))))))
theorem nX {k:CK}{H:Hp}{A:CA}{Z:List Addr}{M:CM}(h:StAt k H A Z M):A.rs.length<=9 * M.xs.length:=by
 rw[h.len];exact j7 (λx hx=>(h.okx.each x hx).2.1.2) _
noncomputable def uy (k:CK):Sp:=λvs H Q _=>∃(A:CA) (Z:List Addr) (M:CM) (r:Nat),vs=[.ref A.st,.int (r:Int)]/\StAt k H A Z M/\r < A.rs.length/\Q .non H
noncomputable def sC (k:CK):Sp:=λvs H Q _=>∃(A:CA) (Z:List Addr) (M:CM) (r:Nat),vs=[.ref A.st,.int (r:Int)]/\StAt k H A Z M/\r < A.rs.length/\∀H',Same H H'->Q .non H'
noncomputable def uz (C:Addr):Sp:=λvs H Q _=>∃(r dl bz:Addr),vs=[.ref r]/\DeedsAt C 0 H r dl bz [] deeds0/\∀p H',H p=none->Same H H'->H' p=some (.lst [])->Q (.ref p) H'
noncomputable def uA (k:CK):Sp:=λvs H Q _=>∃(A:CA) (Z:List Addr) (M:CM) (r:Nat) (m:RowM),vs=[.ref A.st,.int (r:Int)]/\StAt k H A Z M/\M.Ms[r]?=some m/\∀H',Same H H'->Q (.int m.last) H'
noncomputable def sD (k:CK):Sp:=λvs H Q _=>∃(A:CA) (Z:List Addr) (M:CM) (r start most:Nat) (m:RowM),vs=[.ref A.st,.int (r:Int),.int (start:Int),.int (most:Int),.bl true]/\StAt k H A Z M/\M.Ms[r]?=some m/\m.last<=100000/\m.first<=(start:Int)/\start<=1000000000/\1<=most/\most<=1000/\
 ∀D H',H D=none->Same H H'->LTups H' D ((m.seenP start m.last most).map m.rowV)->Q (.ref D) H'
theorem oU {xs:List Shf}{r:Nat}:∀n,n<=xs.length->r < startOf xs n->∃k x,xs[k]?=some x/\startOf xs k<=r/\r < startOf xs (k+1)
 | 0,_,h=>by simp[startOf] at h
 | n+1,hn,h=>by
  by_cases e:r < startOf xs n
  ·exact oU n (by omega) e
  ·exact(iw22 n (xs[n]'(by omega)) (by simp) (by omega) h)
noncomputable def v5:Sp:=λvs H Q _=>∃(p:Addr) (xs:List Shf),vs=[.ref p]/\LTups H p (xs.map Shf.v)/\OkShfs xs/\xs.length<=3/\∀b H',Same H H'->okB b->Q (.str (S b)) H'
structure St0 (k:CK)(H:Hp)(A:CA)(xs:List Shf):Prop where
 sta:∃dx,H A.st=some (.ins k.S dx (stF A))
 shv:ShAt k.H H A.sh A.shl xs
 okx:OkShfs xs
 rowl:H A.rl=some (.lst (A.rs.map V.ref))
 row:∀(i:Nat) r d,A.rs[i]?=some r->A.ds[i]?=some d->RowAt k.R H r d row0
 len:A.rs.length=startOf xs xs.length
 lend:A.ds.length=A.rs.length
 snd:SendAt k.N H A.sn A.l A.t A.p [] send0
 dee:DeedsAt k.D 0 H A.de A.dl A.bz [] deeds0
 rdr:ReadAt k.Rd H A.rd A.ra A.rb read0
 grp:H A.gr=some (.dK [])
noncomputable def CA.new (A:CA):List Addr:=[A.sh,A.shl,A.rl,A.sn,A.l,A.t,A.p,A.de,A.dl,A.bz,A.gr,A.rd,A.ra,A.rb]++(A.rs++A.ds)
structure Fr (H H':Hp)(L:List Addr):Prop where
 nd:L.Nodup
 no:∀b∈L,H b=none
 yes:∀b∈L,∃o,H' b=some o
noncomputable def Liv (H H':Hp):Prop:=∀b,(∃o,H b=some o)->∃o,H' b=some o
theorem Liv.refl (H:Hp):Liv H H:=λ_ h=>h
theorem Liv.trans {H H1 H2:Hp}(a:Liv H H1)(b:Liv H1 H2):Liv H H2:=λc h=>b c (a c h)
theorem Liv.back {H H':Hp}{b:Addr}(h:Liv H H')(e:H' b=none):H b=none:=by
 cases q:H b with
 | none=>rfl
 | some o=>obtain⟨o',e'⟩:=h b ⟨o,q⟩;rw[e] at e';cases e'
theorem Same.liv {H H':Hp}(s:Same H H'):Liv H H':=λb zz=>pw10 zz λo e=>⟨o,s b o e⟩
theorem Chg.liv1 {x:Addr}{H H':Hp}{o:HO}(c:Chg [x] H H')(e:H' x=some o):Liv H H':=λb hb=>iL c (λb hb=>by rw[List.mem_singleton.mp hb];exact⟨o,e⟩) b hb
theorem Liv.wr {H:Hp}{b:Addr}{o:HO}:Liv H (upd H b o):=λc zz=>pw10 zz λu e=>by
 by_cases z:c=b
 ·subst z;exact⟨o,ae⟩
 ·exact⟨u,by rw[aj z];exact e⟩
theorem Fr.nil {H:Hp}:Fr H H []:=⟨List.nodup_nil,λ_ h=>(nomatch h),λ_ h=>(nomatch h)⟩
theorem Fr.liv {H H1 H2:Hp}{L:List Addr}(f:Fr H H1 L)(l:Liv H1 H2):Fr H H2 L:=⟨f.nd,f.no,λb hb=>l b (f.yes b hb)⟩
theorem Fr.add {H H1 H2:Hp}{L:List Addr}{b:Addr}(f:Fr H H1 L)(l0:Liv H H1)(hb:H1 b=none)(l:Liv H1 H2)(e:∃o,H2 b=some o):Fr H H2 (b::L):=
 ⟨List.nodup_cons.mpr ⟨λz=>by (obtain⟨o,q⟩:=f.yes b z;rw[hb] at q;cases q),f.nd⟩,λc hc=>by
  rcases List.mem_cons.mp hc with rfl | hc
  ·exact l0.back hb
  ·exact f.no c hc,λc hc=>by
  rcases List.mem_cons.mp hc with rfl | hc
  ·exact e
  ·exact l c (f.yes c hc)⟩
theorem Fr.perm {H H1:Hp}{L L':List Addr}(f:Fr H H1 L)(p:L.Perm L'):Fr H H1 L':=⟨p.nodup_iff.mp f.nd,λb hb=>f.no b (p.mem_iff.mpr hb),λb hb=>f.yes b (p.mem_iff.mpr hb)⟩
noncomputable def v7 (k:CK):Sp:=λvs H Q _=>∃(x dx p:Addr) (xs:List Shf),vs=[.ref x,.ref p]/\H x=some (.ins k.S dx [])/\LTups H p (xs.map Shf.v)/\OkShfs xs/\
 ∀A H',A.st=x->Chg [x] H H'->Fr H H' A.new->St0 k H' A xs->Q .non H'
theorem Fr.adds {H H1 H2:Hp}{L:List Addr}(M:List Addr)(f:Fr H H1 L)(l0:Liv H H1)(nd:M.Nodup)(hb:∀b∈M,H1 b=none)(l:Liv H1 H2)(e:∀b∈M,∃o,H2 b=some o):Fr H H2 (M++L):=
 ⟨List.nodup_append.mpr ⟨nd,f.nd,λa ha b hb' z=>by subst z;obtain⟨o,q⟩:=f.yes a hb';rw[hb a ha] at q;cases q⟩,
  λc hc=>by
  rcases List.mem_append.mp hc with h | h
  ·exact l0.back (hb c h)
  ·exact f.no c h,
  λc hc=>by
  rcases List.mem_append.mp hc with h | h
  ·exact e c h
  ·exact l c (f.yes c h)⟩
theorem kW {L M:List Addr}(h:∀a,L.count a=M.count a):L.Perm M:=List.perm_iff_count.mpr h
theorem cS {H H2:Hp}{s dx:Addr}{o:HO}(hs:H s=none)(hd:H dx=none)(c:Chg [s] (upd (upd H dx (.own s)) s o) H2):Same H H2:=λb u e=>by
 have n1:b≠s:=λz=>by rw[z,hs] at e;cases e
 have n2:b≠dx:=λz=>by rw[z,hd] at e;cases e
 exact c.keep b u (by rw[aj n1,aj n2];exact e) (by simp;exact n1)
theorem bq {H:Hp}{s dx l:Addr}{o:HO}(h:upd (upd H dx (.own s)) s o l=none):H l=none/\l≠s/\l≠dx:=by
 have n1:l≠s:=λz=>by rw[z,ae] at h;cases h
 rw[aj n1] at h;have n2:l≠dx:=λz=>by rw[z,ae] at h;cases h
 rw[aj n2] at h;exact⟨h,n1,n2⟩
structure RowsMade (C:Addr)(H H':Hp)(D:Addr)(ys:List V)(i:Nat)(rs ds:List Addr):Prop where
 eq:ys=rs.map V.ref
 lr:rs.length=i
 ld:ds.length=i
 row:∀(j:Nat) r d,rs[j]?=some r->ds[j]?=some d->RowAt C H' r d row0
 lst:H' D=some (.lst ys)
 same:Same H H'
 fr:Fr H H' (D::(rs++ds))
theorem RowsMade.zero {C:Addr}{H:Hp}{D:Addr}(hD:H D=none):RowsMade C H (upd H D (.lst [])) D [] 0 [] []:=
 ⟨rfl,rfl,rfl,λj r d h=>by simp at h,ae,Same.upd hD,Fr.add (Fr.nil) (Liv.refl _) hD (Same.upd hD).liv ⟨_,ae⟩⟩
theorem RowsMade.succ {C:Addr}{H H' H5:Hp}{D:Addr}{ys:List V}{i:Nat}{rs ds:List Addr}{r d:Addr}(h:RowsMade C H H' D ys i rs ds)(s5:Same H' H5)(hr:H' r=none)(hd:H' d=none)(nrd:d≠r)(R:RowAt C H5 r d row0) :
  H5 D=some (.lst ys)/\RowsMade C H (upd H5 D (.lst (ys++[.ref r]))) D (ys++[.ref r]) (i+1) (rs++[r]) (ds++[d]):=by
 have hD0:=h.fr.no D (by simp);have n1:r≠D:=λz=>by rw[z,h.lst] at hr;cases hr
 have n2:d≠D:=λz=>by rw[z,h.lst] at hd;cases hd
 have f5:=h.fr.adds [r,d] h.same.liv (by simp;exact λz=>nrd z.symm) (λb hb=>by
  simp only[List.mem_cons,List.not_mem_nil,or_false] at hb;rcases hb with rfl | rfl
  ·exact hr
  ·exact hd) s5.liv (λb hb=>by
  obtain⟨dx,e⟩:=R.obj;(refine pw11 R.dict λkv e2 _=>?_);simp only[List.mem_cons,List.not_mem_nil,or_false] at hb;rcases hb with rfl | rfl
  ·exact⟨_,e⟩
  ·exact⟨_,e2⟩)
 have c6:Chg [D] H5 (upd H5 D (.lst (ys++[.ref r]))):=Chg.upd (by simp) (λxs z=>by rw[s5 _ _ h.lst] at z;cases z);have nd:=h.fr.nd;rw[List.nodup_cons] at nd;refine⟨s5 _ _ h.lst,by rw[h.eq];simp,by simp[h.lr],by simp[h.ld],λj r1 d1 h1 h2=>?_,ae,Same.wr (h.same.trans s5) hD0,?_⟩
 ·by_cases ej:j < i
  ·rw[List.getElem?_append_left (by rw[h.lr];exact ej)] at h1
   rw[List.getElem?_append_left (by rw[h.ld];exact ej)] at h2;have m1:=List.mem_of_getElem? h1;have m2:=List.mem_of_getElem? h2;exact((h.row j r1 d1 h1 h2).same s5).chg c6 (by simp;exact λz=>nd.1 (z▸List.mem_append_left _ m1)) (by simp;exact λz=>nd.1 (z▸List.mem_append_right _ m2))
  ·have l1:=(List.getElem?_eq_some_iff.mp h1).1
   rw[List.length_append,h.lr] at l1;have ej2:j=i:=by simp at l1;omega
   subst ej2;rw[List.getElem?_append_right (by rw[h.lr];exact Nat.le_refl _),h.lr,Nat.sub_self] at h1;rw[List.getElem?_append_right (by rw[h.ld];exact Nat.le_refl _),h.ld,Nat.sub_self] at h2;cases h1;cases h2;exact R.chg c6 (by simp;exact n1) (by simp;exact n2)
 ·refine(f5.liv Liv.wr).perm (kW λa=>?_)
  simp only[List.count_append,List.count_cons,List.count_nil,List.cons_append,List.nil_append];omega
theorem setx {H H':Hp}{x dx C:Addr}{fs fs':List (Str×V)}(hx:H x=some (.ins C dx fs))(e:upd H x (.ins C dx fs')=H'):Chg [x] H H'/\H' x=some (.ins C dx fs')/\Liv H H':=by
 subst e;exact⟨Chg.upd (by simp) (λxs z=>by rw[hx] at z;cases z),ae,Liv.wr⟩
theorem Fr.two {H H1 H2:Hp}{L:List Addr}{a b:Addr}(f:Fr H H1 L)(l0:Liv H H1)(l:Liv H1 H2)(n:a≠b)(ha:H1 a=none)(hb:H1 b=none)(ea:∃o,H2 a=some o)(eb:∃o,H2 b=some o):Fr H H2 ([a,b]++L):=
 f.adds [a,b] l0 (by simp;exact n) (λc hc=>by
  simp only[List.mem_cons,List.not_mem_nil,or_false] at hc;rcases hc with rfl | rfl
  ·exact ha
  ·exact hb) l (λc hc=>by
  simp only[List.mem_cons,List.not_mem_nil,or_false] at hc;rcases hc with rfl | rfl
  ·exact ea
  ·exact eb)
theorem Fr.three {H H1 H2:Hp}{L:List Addr}{a b c:Addr}(f:Fr H H1 L)(l0:Liv H H1)(l:Liv H1 H2)(n1:a≠b)(n2:a≠c)(n3:b≠c)(ha:H1 a=none)(hb:H1 b=none)(hc:H1 c=none)(ea:∃o,H2 a=some o)(eb:∃o,H2 b=some o)(ec:∃o,H2 c=some o):Fr H H2 ([a,b,c]++L):=
 f.adds [a,b,c] l0 (by simp;exact⟨⟨n1,n2⟩,n3⟩) (λd hd=>by
  simp only[List.mem_cons,List.not_mem_nil,or_false] at hd;rcases hd with rfl | rfl | rfl
  ·exact ha
  ·exact hb
  ·exact hc) l (λd hd=>by
  simp only[List.mem_cons,List.not_mem_nil,or_false] at hd;rcases hd with rfl | rfl | rfl
  ·exact ea
  ·exact eb
  ·exact ec)
theorem Fr.four {H H1 H2:Hp}{L:List Addr}{a b c d:Addr}(f:Fr H H1 L)(l0:Liv H H1)(l:Liv H1 H2)(nd:[a,b,c,d].Nodup)(ha:H1 a=none)(hb:H1 b=none)(hc:H1 c=none)(hd:H1 d=none)(ea:∃o,H2 a=some o)(eb:∃o,H2 b=some o)(ec:∃o,H2 c=some o)(ed:∃o,H2 d=some o):Fr H H2 ([a,b,c,d]++L):=
 f.adds [a,b,c,d] l0 nd (λx hx=>by
  simp only[List.mem_cons,List.not_mem_nil,or_false] at hx;rcases hx with rfl | rfl | rfl | rfl
  ·exact ha
  ·exact hb
  ·exact hc
  ·exact hd) l (λx hx=>by
  simp only[List.mem_cons,List.not_mem_nil,or_false] at hx;rcases hx with rfl | rfl | rfl | rfl
  ·exact ea
  ·exact eb
  ·exact ec
  ·exact ed)
theorem AY (A:CA):([A.rd,A.ra,A.rb]++(A.gr::([A.de,A.dl,A.bz]++([A.sn,A.l,A.t,A.p]++((A.rl::(A.rs++A.ds))++[A.sh,A.shl]))))).Perm A.new:=kW λa=>by
 unfold CA.new;simp only[List.count_append,List.count_cons,List.count_nil,List.cons_append,List.nil_append,Nat.add_zero,Nat.zero_add]
 ac_rfl
noncomputable def shTx (xs:List Shf)(i:Nat):List (List Nat):=(Str.ofString "shelves").cps.toList::(xs.take i).flatMap λx=>[x.name,strI (x.rows:Int),x.kind.cps.toList]
theorem za {xs:List Shf}{i:Nat}{y:Shf}(h:xs[i]?=some y):tx (shTx xs (i+1))=tx (shTx xs i)++[.str (S y.name),.str (S (strI (y.rows:Int))),.str y.kind]:=by
 unfold shTx tx;rw[List.take_add_one,h];simp[<-BM]
theorem Es {c:Nat}(h:inN c=true):c < 128:=by
 have h2:c∈T36:=by simpa [inN] using h
 have key:∀c∈T36,c < 128:=by decide
 exact key c h2
theorem sE {xs:List Shf}(ok:OkShfs xs)(i:Nat):∀l∈shTx xs i,l.length<=12/\∀c∈l,c < 128:=λl hl=>by
 unfold shTx at hl;rcases List.mem_cons.mp hl with rfl | hl
 ·decide +kernel
 ·(refine pw11 (List.mem_flatMap.mp hl) λx hx hl=>?_)
  have o:=ok.each x (List.mem_of_mem_take hx);simp only[List.mem_cons,List.not_mem_nil,or_false] at hl;rcases hl with rfl | rfl | rfl
  ·exact⟨o.1.2.1,λc hc=>Es (List.all_eq_true.mp o.1.2.2 c hc)⟩
  ·exact⟨Nat.le_trans (nV (k:=1) (by decide) (by have:=o.2.1;omega)) (by decide),λc hc=>by have:=kR _ c hc;omega⟩
  ·rcases o.2.2 with e | e<;>rw[e]<;>decide +kernel
theorem oV {xs:List Shf}(i:Nat):(shTx xs i).length<=1+3 * xs.length:=by
 unfold shTx;rw[List.length_cons,List.length_flatMap];have h:∀l:List Shf,(l.map λx=>[x.name,strI (x.rows:Int),x.kind.cps.toList].length).sum=3 * l.length:=by
  intro l
  induction l with
  | nil=>rfl
  | cons a l ih=>rw[List.map_cons,List.sum_cons,ih,List.length_cons];simp;omega
 rw[h,List.length_take];omega
theorem bodySh {xs:List Shf}(ok:OkShfs xs)(h3:xs.length<=3)(i:Nat):okB (joinL [59] ((shTx xs i).map gd)):=by
 constructor
 ·intro c h
  rcases l8 h with q | ⟨l,hl,q⟩
  ·simp at q;omega
  ·(refine pw11 (List.mem_map.mp hl) λa ha zz1=>?_;subst zz1)
   exact Dm (sE ok i a ha).2 c q
 ·have h1:=oO (z:=[59]) (m:=24) (ls:=(shTx xs i).map gd) (λl hl=>by
   (refine pw11 (List.mem_map.mp hl) λa ha zz1=>?_;subst zz1);have:=sj a;have:=(sE ok i a ha).1
   omega)
  have h2:=oV (xs:=xs) i;rw[List.length_map,List.length_singleton] at h1;omega
theorem uB:∀{l:List (List Nat)},(∀a∈l,a.length<=12)->(l.map List.length).sum<=12 * l.length
 | [],_=>by simp
 | a::l,h=>by
  have:=h a (by simp);have:=uB (l:=l) λb hb=>h b (by simp[hb]);simp only[List.map_cons,List.sum_cons,List.length_cons];omega
theorem StAt.lines {k:CK}{H H':Hp}{A:CA}{Z:List Addr}{M:CM}(h:StAt k H A Z M)(c:Chg [A.bl] H H')(hs:∃o,H' A.bl=some o)(ls:List (List Nat)):StAt k H' A Z { M with ls:=ls }:=by
 have n18:=CA.nd18 h.nd;have nr:=CA.sy h.nd (a:=A.bl) (mi 3 rfl);obtain⟨dx,e⟩:=h.sta;have hz:∀b∈[A.bl],b∈Z\/∀xs,H b≠some (.lst xs):=λb hb=>.inl (by rw[List.mem_singleton.mp hb];exact h.zin.1)
 refine⟨⟨dx,c.keep _ _ e (a9 n18 1 [3] rfl rfl (by decide))⟩,h.shv.chg c (a9 n18 4 [3] rfl rfl (by decide)) (a9 n18 5 [3] rfl rfl (by decide)),h.okx,c.keep _ _ h.rowl (a9 n18 6 [3] rfl rfl (by decide)),λi r d m h1 h2 h3=>?_,h.len,h.lend,h.lenm,
  h.snd.chg c (a9 n18 7 [3] rfl rfl (by decide)) (a9 n18 8 [3] rfl rfl (by decide)) (a9 n18 9 [3] rfl rfl (by decide)) (a9 n18 10 [3] rfl rfl (by decide)) hz,h.dee.chg c (a9 n18 11 [3] rfl rfl (by decide)) (a9 n18 12 [3] rfl rfl (by decide)) (a9 n18 13 [3] rfl rfl (by decide)) (λ_ hu=>nomatch hu),h.rdr.chg c (a9 n18 15 [3] rfl rfl (by decide)) (a9 n18 16 [3] rfl rfl (by decide)) (a9 n18 17 [3] rfl rfl (by decide)),c.keep _ _ h.grp (a9 n18 14 [3] rfl rfl (by decide)),h.zin,λb hb=>iL c (λb hb=>by rw[List.mem_singleton.mp hb];exact hs) b (h.zo b hb),h.nd⟩
 have m1:=List.mem_of_getElem? h1;have m2:=List.mem_of_getElem? h2;exact(h.row i r d m h1 h2 h3).chg c (by simp;exact λz=>nr.1 (z▸m1)) (by simp;exact λz=>nr.2 (z▸m2))
theorem CeAt.wrote {k:CK}{H H':Hp}{A:CA}{Z:List Addr}{M:CM}{ls:List (List Nat)}(h:CeAt k H A Z M)(c:Chg [A.bl] H H')(b:BookAt k.B H' A.bk A.bl ls):CeAt k H' A Z { M with ls:=ls }:=by
 have n18:=CA.nd18 h.st.nd;obtain⟨dx,e⟩:=h.cel;exact⟨⟨dx,c.keep _ _ e (a9 n18 0 [3] rfl rfl (by decide))⟩,b,h.st.lines c ⟨_,b.lst⟩ ls⟩
theorem CeAt.stood {k:CK}{H H':Hp}{A:CA}{Z B:List Addr}{M M':CM}(h:CeAt k H A Z M)(c:Chg B H H')(hB:∀b∈B,b∈A.l::A.t::A.p::(A.rs++A.ds))(s':StAt k H' A Z M')(e:M'.ls=M.ls):CeAt k H' A Z M':=by
 have n18:=CA.nd18 h.st.nd;have no:∀(m:Nat) (a:Addr),[A.c,A.st,A.bk,A.bl,A.sh,A.shl,A.rl,A.sn,A.l,A.t,A.p,A.de,A.dl,A.bz,A.gr,A.rd,A.ra,A.rb][m]?=some a->m∉[8,9,10]->a∉B:=λm a ha hm hb=>by
  have n1:=CA.sy h.st.nd (mi m ha);have n2:=a9 (A:=[A.l,A.t,A.p]) n18 m [8,9,10] ha rfl hm;rcases List.mem_append.mp (show a∈[A.l,A.t,A.p]++(A.rs++A.ds) from hB a hb) with z | z
  ·exact n2 z
  ·exact(List.mem_append.mp z).elim n1.1 n1.2
 obtain⟨dx,e1⟩:=h.cel;obtain⟨dx2,e2⟩:=h.book.obj;exact⟨⟨dx,c.keep _ _ e1 (no 0 _ rfl (by decide))⟩,⟨⟨dx2,c.keep _ _ e2 (no 2 _ rfl (by decide))⟩,by rw[e];exact c.keep _ _ h.book.lst (no 3 _ rfl (by decide))⟩,s'⟩
theorem CeAt.there {k:CK}{H:Hp}{A:CA}{Z:List Addr}{M:CM}(h:CeAt k H A Z M):∀b∈A.fix,∃o,H b=some o:=λb hb=>by
 obtain⟨dx1,e1⟩:=h.cel;obtain⟨dx2,e2⟩:=h.book.obj;obtain⟨dx3,e3⟩:=h.st.sta;obtain⟨dx4,e4⟩:=h.st.shv.obj;(refine pw11 h.st.shv.lst λ_ e5 _=>?_);obtain⟨dx6,e6⟩:=h.st.snd.obj;(refine pw11 h.st.snd.liv λ_ e7 _=>?_);(refine pw11 h.st.snd.las λ_ e8 _=>?_);(refine pw11 h.st.snd.spo λ_ e9 _=>?_);obtain⟨_,e10⟩:=h.st.dee.obj;(refine pw11 h.st.dee.bsy λ_ e11 _=>?_);obtain⟨_,e12⟩:=h.st.rdr.obj;(refine pw11 h.st.rdr.row λ_ e13 _=>?_);(refine pw11 h.st.rdr.pla λ_ e14 _=>?_);unfold CA.fix at hb;rcases List.mem_append.mp hb with hb | hb
 ·simp only[List.mem_cons,List.not_mem_nil,or_false] at hb
  rcases hb with rfl | rfl | rfl | rfl | rfl | rfl | rfl | rfl | rfl | rfl | rfl | rfl | rfl | rfl | rfl | rfl | rfl | rfl
  ·exact⟨_,e1⟩
  ·exact⟨_,e3⟩
  ·exact⟨_,e2⟩
  ·exact⟨_,h.book.lst⟩
  ·exact⟨_,e4⟩
  ·exact⟨_,e5⟩
  ·exact⟨_,h.st.rowl⟩
  ·exact⟨_,e6⟩
  ·exact⟨_,e7⟩
  ·exact⟨_,e8⟩
  ·exact⟨_,e9⟩
  ·exact⟨_,e10⟩
  ·exact⟨_,h.st.dee.lst⟩
  ·exact⟨_,e11⟩
  ·exact⟨_,h.st.grp⟩
  ·exact⟨_,e12⟩
  ·exact⟨_,e13⟩
  ·exact⟨_,e14⟩
 ·rcases List.mem_append.mp hb with hb | hb
  ·obtain⟨i,hi⟩:=List.getElem?_of_mem hb
   have hil:=(List.getElem?_eq_some_iff.mp hi).1;have hd:A.ds[i]?=some (A.ds[i]'(by rw[h.st.lend];exact hil)):=by simp
   have hm:M.Ms[i]?=some (M.Ms[i]'(by rw[h.st.lenm];exact hil)):=by simp
   obtain⟨_,e⟩:=(h.st.row i b _ _ hi hd hm).obj;exact⟨_,e⟩
  ·obtain⟨i,hi⟩:=List.getElem?_of_mem hb
   have hil:=(List.getElem?_eq_some_iff.mp hi).1;have hr:A.rs[i]?=some (A.rs[i]'(by rw[<-h.st.lend];exact hil)):=by simp
   have hm:M.Ms[i]?=some (M.Ms[i]'(by rw[h.st.lenm,<-h.st.lend];exact hil)):=by simp
   (refine pw11 ((h.st.row i _ b _ hr hi hm).dict) λ_ e _=>?_);exact⟨_,e⟩
theorem CeAt.notin {k:CK}{H:Hp}{A:CA}{Z:List Addr}{M:CM}(h:CeAt k H A Z M){b:Addr}(e:H b=none):b∉A.fix:=λz=>by
 obtain⟨o,q⟩:=h.there b z;rw[e] at q;cases q
noncomputable def CM.wr (M:CM)(ls:List (List Nat)):CM:={ M with ls:=ls }
noncomputable def zc (k:CK):Sp:=λvs H Q _=>∃(A:CA) (Z:List Addr) (M:CM) (t ev u:Addr),vs=[.ref A.c,.ref t]/\CeAt k H A Z M/\H t=some (.tup [.ref ev,.ref u])/\
 ((H ev=some (.lst [])/\Q (.ref u) H)\/∃D,H ev=some (.lst [.ref D])/\M.ls.length<=4000/\ev∉A.fix/\D∉A.fix/\M.S.sz<=100000/\
  ((∃n kk,H D=some (.dK (evK "hail" (hailP n kk)))/\EvOk "hail" (hailP n kk)/\(∀v,M.S.L (S n)=some v->1<=v)/\∀H' ls,Chg A.fix H H'->CeAt k H' A Z ((M.wr ls).hail (S n))->ls.length=M.ls.length+1->Q (.ref u) H')\/
   (∃n kk i pl key wo m,H D=some (.dK (evK "put" (putP n kk 0 i pl key wo)))/\EvOk "put" (putP n kk 0 i pl key wo)/\M.Ms[i]?=some m/\m.last<=10000/\(M.S.L (S n)).isSome=true/\(kk:Int)=M.S.T (S n)+1/\
    ∀H' ls,Chg A.fix H H'->CeAt k H' A Z ((M.wr ls).put i m (key,wo,0) (S n) kk)->ls.length=M.ls.length+1->Q (.ref u) H')))
noncomputable def wa (k:CK):Sp:=λvs H Q _=>∃(A:CA) (Z:List Addr) (M:CM) (n:List Nat) (kk:Nat),vs=[.ref A.c,.str (S n)]/\CeAt k H A Z M/\nameOk n/\(kk:Int)=(M.S.L (S n)).getD 0+1/\kk < 10 ^ 9/\M.ls.length<=4000/\M.S.sz<=100000/\(∀v,M.S.L (S n)=some v->1<=v)/\
 ∀u H' ls,Chg A.fix H H'->CeAt k H' A Z ((M.wr ls).hail (S n))->ls.length=M.ls.length+1->H' u=some (.tup [.int (kk:Int),.int (if (M.S.L (S n)).isSome=true then M.S.T (S n) else 0)])->Q (.ref u) H'
structure PutC (k:CK)(H:Hp)(A:CA)(Z:List Addr)(M:CM)(n shf key:List Nat)(wo:Option (List Nat))(life num:Nat)(dd j:Nat)(x:Shf):Prop where
 ce:CeAt k H A Z M
 nm:nameOk n
 sh:nameOk shf
 ky:keyOk key
 wd:wordOk wo
 wl:∀w,wo=some w->w.length<=200
 lf:1<=life/\life<=1000000000
 nu:1<=num/\num<=1000000000
 dd:dd<=1000000000
 pos:M.xs[j]?=some x
 xn:x.name=shf
noncomputable def mh (k:CK)(CN CF CG CT CD:Addr):Sp:=λvs H Q E=>∃(A:CA) (Z:List Addr) (M:CM) (n shf key:List Nat) (wo:Option (List Nat)) (life num dd j:Nat) (x:Shf),vs=[.ref A.c,.str (S n),.int (life:Int),.int (num:Int),.str (S shf),.str (S key),wV wo,.int (dd:Int)]/\PutC k H A Z M n shf key wo life num dd j x/\
 ((M.S.L (S n)=none/\∀H',Same H H'->Bears E H' CN [("name",.str (S n))])\/(∃v,M.S.L (S n)=some v/\(
  ((life:Int)≠v/\∀H',Same H H'->Bears E H' CF [("life",.int v)])\/((life:Int)=v/\(
   (M.S.T (S n)+1 < (num:Int)/\∀H',Same H H'->Bears E H' CG [("due",.int (M.S.T (S n)+1))])\/
   ((num:Int) < M.S.T (S n)+1 - (M.S.P (S n)).length/\∀H',Same H H'->Bears E H' CT [("number",.int (num:Int))])\/
   (∃(i:Nat) (y:Spot),(num:Int)=M.S.T (S n)+1 - (M.S.P (S n)).length+i/\(M.S.P (S n))[i]?=some y/\∀u H',Same H H'->H' u=some (.tup (spotV y))->Q (.ref u) H')\/
   ((num:Int)=M.S.T (S n)+1/\dd≠0/\∀H',Same H H'->Bears E H' CD [("name",.str (S n))])\/
   ((num:Int)=M.S.T (S n)+1/\dd=0/\∃(i pl:Nat) (m:RowM),(i:Int)=rowNo M.xs j x key/\M.Ms[i]?=some m/\m.last=(pl:Int)/\pl<=10000/\M.ls.length<=4000/\M.S.sz<=100000/\
    ∀u H' ls,Chg A.fix H H'->CeAt k H' A Z ((M.wr ls).put i m (key,wo,0) (S n) num)->ls.length=M.ls.length+1->H' u=some (.tup [.int (i:Int),.int (pl:Int)])->Q (.ref u) H'))))))
noncomputable def wb (k:CK):Sp:=λvs H Q _=>∃(A:CA) (Z:List Addr) (M:CM) (r start most:Nat) (m:RowM),vs=[.ref A.c,.int (r:Int),.int (start:Int),.int (most:Int),.bl true]/\CeAt k H A Z M/\M.Ms[r]?=some m/\m.last<=100000/\m.first<=(start:Int)/\start<=1000000000/\1<=most/\most<=1000/\
 ∀D H',H D=none->Same H H'->LTups H' D ((m.seenP start m.last most).map m.rowV)->Q (.ref D) H'
noncomputable def p9 (k:CK):Sp:=λvs H Q _=>∃(A:CA) (Z:List Addr) (M:CM),vs=[.ref A.c]/\CeAt k H A Z M/\∀p H',H p=none->Same H H'->H' p=some (.lst (tx M.ls))->Q (.ref p) H'
noncomputable def wc (k:CK):Sp:=λvs H Q _=>∃(x dx p:Addr) (xs:List Shf),vs=[.ref x,.ref p]/\H x=some (.ins k.C dx [])/\LTups H p (xs.map Shf.v)/\OkShfs xs/\xs.length<=3/\
 ∀A Z H' ls,A.c=x->(∀b∈A.fix,b=x\/H b=none)->Chg [x] H H'->CeAt k H' A Z ⟨xs,List.replicate (startOf xs xs.length) row0,send0,ls⟩->ls.length=1->Q .non H'
theorem CeAt.setZ {k:CK}{H:Hp}{A:CA}{Z:List Addr}{M:CM}(h:CeAt k H A Z M)(h0:∀z,M.S.L z=none)(Z':List Addr)(hz:∀b∈Z',∃o,H b=some o):CeAt k H A (Z'++Z) M:=
 let s:=h.st
 ⟨h.cel,h.book,⟨s.sta,s.shv,s.okx,s.rowl,s.row,s.len,s.lend,s.lenm,⟨s.snd.obj,s.snd.liv,s.snd.las,by
  (refine pw12 s.snd.spo λkv e1 e2 _=>?_)
  exact(iw12 kv e1 e2 (λz hz=>by rw[h0 z] at hz;cases hz)),s.snd.len,s.snd.rl,s.snd.rt,s.snd.rp,s.snd.lt,s.snd.lp,s.snd.tp⟩,s.dee,s.rdr,s.grp,
  ⟨List.mem_append_right _ s.zin.1,List.mem_append_right _ s.zin.2.1,List.mem_append_right _ s.zin.2.2.1,List.mem_append_right _ s.zin.2.2.2⟩,λb hb=>(List.mem_append.mp hb).elim (hz b) (s.zo b),s.nd⟩⟩
section
variable {P:Program} {w:World} {K:W.Frag} {mg:Str->Option Value} {base:Heap}
theorem FunD.okX {x qual:Str}{st:Stmt}{f:Addr}{fd:FuncData}{items:List Value}{N ps:List Str}{k:Nat}{sp:Sp}(F:FunD K x qual st f fd items)(S:FnScope N ps (defScope st))(len:∀vs H Q E,sp vs H Q E->vs.length=ps.length)
  (hbody:∀(cdv:Value) (A:Around) (outer:List Env) (s:Shared) (H:Hp) (vs:List V) (Q:VK) (E:XK),Room k (A.deeper (envOfC qual (defScope st) s.heap.objs.size f cdv))->sp vs H Q E->
   ∃t,PSs (cxOf (CXv P w) P w K mg base N qual (defScope st) f cdv A outer s H E) (defBody st) t/\t { nx:=λ_ H'=>Q .non H',rt:=Q } (start N vs) H):FnOk P w K mg base (CXv P w) (k+1) f fd ps sp:=by
 (refine pw60 F.ex λoc od kV doc pm an=>ow60 λcdv ct osl tD o n=>ow02 λzz1 lk=>ow01 λhcd _=>?_;subst zz1);exact xb lk hcd S len λA outer s H vs Q E hr hsp=>hbody cdv A outer s H vs Q E hr hsp
end
theorem uC (A:CA)(x bk bl:Addr):(x::([bk,bl]++(A.new++[A.st]))).Perm ({ A with c:=x,bk:=bk,bl:=bl }:CA).fix:=kW λa=>by
 unfold CA.new CA.fix;simp only[List.count_append,List.count_cons,List.count_nil,List.cons_append,List.nil_append,Nat.add_zero,Nat.zero_add]
 ac_rfl
theorem Chg.past {A:List Addr}{H H1 H2:Hp}{b:Addr}(c:Chg A H H1)(d:Chg [b] H1 H2)(h:H b=none):Chg A H H2:=
 ⟨λx o e n=>d.keep x o (c.keep x o e n) (by simp;exact λz=>by rw[z,h] at e;cases e),λx xs e=>d.tup x xs (c.tup x xs e)⟩
noncomputable def zd:Sp:=λvs H Q _=>∃(c:Int) (m:Nat),vs=[.int c,.int m]/\m<=36/\∀D H' (ks:List (List Nat)),H D=none->Same H H'->H' D=some (.lst (tx ks))->ks.length=m->(∀l∈ks,keyOk l)->Q (.ref D) H'
noncomputable def sF (k:CK):Sp:=λvs H Q _=>∃(A:CA) (Z:List Addr) (M:CM) (n shf key:List Nat) (wo:Option (List Nat)) (life num dd j:Nat) (x:Shf) (lt:Addr),vs=[.ref A.c,.str (S n),.int (life:Int),.int (num:Int),.ref lt]/\H lt=some (.tup [.str (S shf),.str (S key),wV wo,.int (dd:Int)])/\PutC k H A Z M n shf key wo life num dd j x/\
 ((M.S.L (S n)=none/\∀u H',Same H H'->H' u=some (.tup [.str (Str.ofString "no such"),.str (S n)])->Q (.ref u) H')\/(∃v,M.S.L (S n)=some v/\(
  ((life:Int)≠v/\∀u H',Same H H'->H' u=some (.tup [.str (Str.ofString "fenced"),.int v])->Q (.ref u) H')\/((life:Int)=v/\(
   (M.S.T (S n)+1 < (num:Int)/\∀u H',Same H H'->H' u=some (.tup [.str (Str.ofString "gap"),.int (M.S.T (S n)+1)])->Q (.ref u) H')\/
   ((num:Int) < M.S.T (S n)+1 - (M.S.P (S n)).length/\∀u H',Same H H'->H' u=some (.tup [.str (Str.ofString "old"),.int (num:Int)])->Q (.ref u) H')\/
   (∃(i:Nat) (y:Spot),(num:Int)=M.S.T (S n)+1 - (M.S.P (S n)).length+i/\(M.S.P (S n))[i]?=some y/\∀u H',Same H H'->H' u=some (.tup (spotV y))->Q (.ref u) H')\/
   ((num:Int)=M.S.T (S n)+1/\dd≠0/\∀u H',Same H H'->H' u=some (.tup [.str (Str.ofString "no deed"),.str (S n)])->Q (.ref u) H')\/
   ((num:Int)=M.S.T (S n)+1/\dd=0/\∃(i pl:Nat) (m:RowM),(i:Int)=rowNo M.xs j x key/\M.Ms[i]?=some m/\m.last=(pl:Int)/\pl<=10000/\M.ls.length<=4000/\M.S.sz<=100000/\
    ∀u H' ls,Chg A.fix H H'->CeAt k H' A Z ((M.wr ls).put i m (key,wo,0) (S n) num)->ls.length=M.ls.length+1->H' u=some (.tup [.int (i:Int),.int (pl:Int)])->Q (.ref u) H'))))))
structure Kp where
 lv:Nat
 sp:List Spot
noncomputable def kpK (x:Kp)(q:Addr):List (Key×V):=[(.inr "lives",.int (x.lv:Int)),(.inr "spots",.ref q)]
noncomputable def dueV (x:Kp)(n:List Nat)(life num dd:Nat):Option (List V):=
 if x.lv=0 then some [.str (Str.ofString "no such"),.str (S n)] else
 if life≠x.lv then some [.str (Str.ofString "fenced"),.int (x.lv:Int)] else
 if x.sp.length+1 < num then some [.str (Str.ofString "gap"),.int ((x.sp.length:Int)+1)] else
 if num+8<=x.sp.length then some [.str (Str.ofString "old"),.int (num:Int)] else
 if num<=x.sp.length then some (spotV (x.sp.getD (num - 1) (0,0))) else
 if dd≠0 then some [.str (Str.ofString "no deed"),.str (S n)] else none
noncomputable def Cz:Sp:=λvs H Q _=>∃(d q:Addr) (x:Kp) (n:List Nat) (life num dd:Nat),vs=[.ref d,.str (S n),.int (life:Int),.int (num:Int),.int (dd:Int)]/\H d=some (.dK (kpK x q))/\LTups H q (x.sp.map spotV)/\1<=num/\
 ((dueV x n life num dd=none/\∀H',Same H H'->Q .non H')\/∃t,dueV x n life num dd=some t/\∀u H',Same H H'->H' u=some (.tup t)->Q (.ref u) H')
noncomputable def wayN (e:Int):Nat:=(mixN e 1 % 10).toNat
noncomputable def we:Sp:=λvs H Q _=>∃(d q:Addr) (x:Kp) (e:Int),vs=[.int e,.ref d]/\H d=some (.dK (kpK x q))/\LTups H q (x.sp.map spotV)/\x.lv<=1000/\x.sp.length<=1000/\
 ∀u H' (life num dd:Nat),Same H H'->1<=life->life<=2000->1<=num->num<=2000->dd<=3->H' u=some (.tup [.int (wayN e:Int),.int (life:Int),.int (num:Int),.int (dd:Int)])->Q (.ref u) H'
theorem gD (x:Kp)(q:Addr):valV (kpK x q) (.inr (Str.ofString "lives"))=some (.int (x.lv:Int)):=rfl
theorem eK (x:Kp)(q:Addr):valV (kpK x q) (.inr (Str.ofString "spots"))=some (.ref q):=rfl
theorem AZ {b:List Nat}{at0 x:Nat}(h1:1<=b.length)(h2:b.length<=24)(h3:∀c∈b,okSign c=true)(h4:okSign x=true):keyOk (b.set at0 x):=by
 unfold keyOk formV;simp only[ck,List.length_set,Bool.and_eq_true,decide_eq_true_eq];refine⟨by omega,by omega,List.all_eq_true.mpr λc hc=>?_⟩;have hc':c∈b.set at0 x:=by simpa [S] using hc
 rcases List.mem_or_eq_of_mem_set hc' with h | rfl
 ·exact h3 c h
 ·exact h4
structure LwA where
 kl:Addr
 el:Addr
 d:Nat->Addr
 q:Nat->Addr
 nm:Nat->List Nat
 many:Nat
structure LwM where
 kp:Nat->Kp
 es:List Nat
noncomputable def LwA.all (W:LwA):List Addr:=[W.kl,W.el,W.d 0,W.d 1,W.d 2,W.q 0,W.q 1,W.q 2]
structure LwOb (H:Hp)(W:LwA)(X:LwM):Prop where
 kl:H W.kl=some (.lst [.ref (W.d 0),.ref (W.d 1),.ref (W.d 2),.ref W.el])
 kd:∀i,i < 3->H (W.d i)=some (.dK (kpK (X.kp i) (W.q i)))
 ks:∀i,i < 3->LTups H (W.q i) ((X.kp i).sp.map spotV)
 ke:H W.el=some (.lst (X.es.map λ(e:Nat)=>V.int (e:Int)))
structure LwSep (A:CA)(Z:List Addr)(W:LwA):Prop where
 nf:∀b∈W.all,b∉A.fix
 nd:W.all.Nodup
 zq:∀i,i < 3->W.q i∈Z
 ze:W.el∈Z
structure LwRel (M:CM)(W:LwA)(X:LwM)(s:Nat):Prop where
 nmo:∀i,i < 4->nameOk (W.nm i)
 nmi:∀i j,i < 4->j < 4->W.nm i=W.nm j->i=j
 xs:M.xs=[⟨W.nm 3,W.many,kStr⟩]
 ms:M.Ms.length=X.es.length
 me:∀(i:Nat) m e,M.Ms[i]?=some m->X.es[i]?=some e->m.last=(e:Int)/\m.first=0
 sl:∀i,i < 3->M.S.L (S (W.nm i))=if (X.kp i).lv=0 then none else some ((X.kp i).lv:Int)
 sT:∀i,i < 3->(X.kp i).lv≠0->M.S.T (S (W.nm i))=((X.kp i).sp.length:Int)
 sP:∀i,i < 3->(X.kp i).lv≠0->M.S.P (S (W.nm i))=(X.kp i).sp.drop ((X.kp i).sp.length - 8)
 k2:X.kp 2=⟨0,[]⟩
 k1:∀i,i < 2->1<=(X.kp i).lv
 blv:∀i,i < 3->(X.kp i).lv<=1+s
 bsp:∀i,i < 3->(X.kp i).sp.length<=s
 bes:∀e∈X.es,e<=s
 bls:M.ls.length<=3+s
 bsz:M.S.sz<=3+s
 sum:X.es.sum=(X.kp 0).sp.length+(X.kp 1).sp.length
structure LwAt (k:CK)(H:Hp)(A:CA)(Z:List Addr)(M:CM)(W:LwA)(X:LwM)(s:Nat):Prop where
 ce:CeAt k H A Z M
 ob:LwOb H W X
 sep:LwSep A Z W
 rel:LwRel M W X s
theorem lt3 {P:Nat->Prop}(h0:P 0)(h1:P 1)(h2:P 2):∀i,i < 3->P i
 | 0,_=>h0
 | 1,_=>h1
 | 2,_=>h2
theorem LwA.BJ (W:LwA):∀i,i < 3->W.d i∈W.all:=lt3 (by simp[LwA.all]) (by simp[LwA.all]) (by simp[LwA.all])
theorem LwA.E9 (W:LwA):∀i,i < 3->W.q i∈W.all:=lt3 (by simp[LwA.all]) (by simp[LwA.all]) (by simp[LwA.all])
theorem LwOb.chg {B:List Addr}{H H':Hp}{W:LwA}{X:LwM}(h:LwOb H W X)(c:Chg B H H')(hB:∀b∈W.all,b∉B):LwOb H' W X:=
 ⟨c.keep _ _ h.kl (hB _ (by simp[LwA.all])),λi hi=>c.keep _ _ (h.kd i hi) (hB _ (W.BJ i hi)),λi hi=>(h.ks i hi).chg c (hB _ (W.E9 i hi)),c.keep _ _ h.ke (hB _ (by simp[LwA.all]))⟩
theorem LwRel.mono {M:CM}{W:LwA}{X:LwM}{s:Nat}(h:LwRel M W X s):LwRel M W X (s+1):=
 { h with
  blv:=λi hi=>Nat.le_trans (h.blv i hi) (by omega)
  bsp:=λi hi=>Nat.le_trans (h.bsp i hi) (by omega)
  bes:=λe he=>Nat.le_trans (h.bes e he) (by omega)
  bls:=Nat.le_trans h.bls (by omega)
  bsz:=Nat.le_trans h.bsz (by omega) }
theorem LwAt.same {k:CK}{H H':Hp}{A:CA}{Z:List Addr}{M:CM}{W:LwA}{X:LwM}{s:Nat}(h:LwAt k H A Z M W X s)(e:Same H H'):LwAt k H' A Z M W X s:=
 ⟨h.ce.same e,h.ob.chg (B:=[]) (Chg.of_same e) (λ_ _=>by simp),h.sep,h.rel⟩
theorem LwAt.mono {k:CK}{H:Hp}{A:CA}{Z:List Addr}{M:CM}{W:LwA}{X:LwM}{s:Nat}(h:LwAt k H A Z M W X s):LwAt k H A Z M W X (s+1):=⟨h.ce,h.ob,h.sep,h.rel.mono⟩
noncomputable def LwM.hail (X:LwM)(i:Nat):LwM:={ X with kp:=λj=>if j=i then⟨(X.kp i).lv+1,(X.kp i).sp⟩ else X.kp j }
noncomputable def LwM.put (X:LwM)(i r pl:Nat):LwM:={ kp:=λj=>if j=i then⟨(X.kp i).lv,(X.kp i).sp++[((r:Int),(pl:Int))]⟩ else X.kp j,es:=X.es.set r (pl+1) }
theorem LwRel.hail {M:CM}{W:LwA}{X:LwM}{s i:Nat}{ls:List (List Nat)}(h:LwRel M W X s)(hi:i < 2)(hl:ls.length=M.ls.length+1):LwRel ((M.wr ls).hail (S (W.nm i))) W (X.hail i) (s+1):=by
 have ne:∀j,j < 3->j≠i->¬S (W.nm j)=S (W.nm i):=λj hj e z=>e (h.nmi j i (by omega) (by omega) (ot z));have k1:=h.k1 i hi;have L0:M.S.L (S (W.nm i))=some ((X.kp i).lv:Int):=by rw[h.sl i (by omega),if_neg (by omega)]
 have g:(M.S.L (S (W.nm i))).getD 0=((X.kp i).lv:Int):=by rw[L0];rfl
 have e2:(X.hail i).kp 2=X.kp 2:=by show(if 2=i then _ else _)=_;rw[if_neg (by omega)]
 have len:∀j,((X.hail i).kp j).sp=(X.kp j).sp:=λj=>by
  show(if j=i then _ else _:Kp).sp=_
  split
  ·rename_i e;rw[e]
  ·rfl
 refine⟨h.nmo,h.nmi,h.xs,h.ms,h.me,λj hj=>?_,λj hj hv=>?_,λj hj hv=>?_,e2.trans h.k2,λj hj=>?_,λj hj=>?_,λj hj=>?_,λe he=>Nat.le_trans (h.bes e he) (by omega),?_,?_,?_⟩
 ·show(if S (W.nm j)=S (W.nm i) then some ((M.S.L (S (W.nm i))).getD 0+1) else M.S.L (S (W.nm j)))=if ((if j=i then _ else _:Kp)).lv=0 then none else some (((if j=i then _ else _:Kp)).lv:Int)
  by_cases e:j=i
  ·subst e
   rw[if_pos rfl,if_pos rfl,g,if_neg (by show ¬_+1=0;omega)];rfl
  ·rw[if_neg (ne j hj e),if_neg e,h.sl j hj]
 ·rw[len]
  show(if S (W.nm j)=S (W.nm i) then(if (M.S.L (S (W.nm i))).getD 0=0 then 0 else M.S.T (S (W.nm i))) else M.S.T (S (W.nm j)))=_
  by_cases e:j=i
  ·subst e
   rw[if_pos rfl,if_neg (by rw[g];omega),h.sT j hj (by omega)]
  ·rw[if_neg (ne j hj e)]
   refine h.sT j hj ?_;have:((X.hail i).kp j)=X.kp j:=by show(if j=i then _ else _)=_;rw[if_neg e]
   rw[<-this];exact hv
 ·rw[len]
  show(if S (W.nm j)=S (W.nm i) then(if (M.S.L (S (W.nm i))).getD 0=0 then[] else M.S.P (S (W.nm i))) else M.S.P (S (W.nm j)))=_
  by_cases e:j=i
  ·subst e
   rw[if_pos rfl,if_neg (by rw[g];omega),h.sP j hj (by omega)]
  ·rw[if_neg (ne j hj e)]
   refine h.sP j hj ?_;have:((X.hail i).kp j)=X.kp j:=by show(if j=i then _ else _)=_;rw[if_neg e]
   rw[<-this];exact hv
 ·show 1<=((if j=i then _ else _:Kp)).lv
  split
  ·show 1<=_+1;omega
  ·exact h.k1 j hj
 ·show((if j=i then _ else _:Kp)).lv<=_
  have:=h.blv j hj;have:=h.blv i (by omega)
  split
  ·show _+1<=_;omega
  ·omega
 ·rw[len];exact Nat.le_trans (h.bsp j hj) (by omega)
 ·show ls.length<=_;have:=h.bls;omega
 ·show M.S.sz+1<=_;have:=h.bsz;omega
 ·rw[len,len];exact h.sum
theorem sum_set:∀(l:List Nat) (r p:Nat),l[r]?=some p->(l.set r (p+1)).sum=l.sum+1
 | [],r,p,h=>by simp at h
 | a::l,0,p,h=>by
  simp at h;subst h;simp;omega
 | a::l,r+1,p,h=>by
  rw[List.getElem?_cons_succ] at h;rw[List.set_cons_succ,List.sum_cons,List.sum_cons,sum_set l r p h];omega
theorem drop8 {α:Type}(l:List α)(x:α):((l.drop (l.length - 8))++[x]).drop (((l.drop (l.length - 8))++[x]).length - 8)=(l++[x]).drop ((l++[x]).length - 8):=by
 simp only[List.length_append,List.length_drop,List.length_singleton]
 by_cases h:l.length < 8
 ·rw[show l.length - 8=0 by omega,List.drop_zero,show l.length - 0+1 - 8=l.length+1 - 8 by omega]
 ·rw[show l.length - (l.length - 8)+1 - 8=1 by omega,List.drop_append_of_le_length (by simp;omega),List.drop_drop,List.drop_append_of_le_length (by omega),show l.length - 8+1=l.length+1 - 8 by omega]
theorem LwRel.put {M:CM}{W:LwA}{X:LwM}{s i r pl:Nat}{ls:List (List Nat)}{m:RowM}{x:Ltr}{num:Nat}(h:LwRel M W X s)(hi:i < 2)(hl:ls.length=M.ls.length+1)(hm:M.Ms[r]?=some m)(he:X.es[r]?=some pl)(hn:num=(X.kp i).sp.length+1):LwRel ((M.wr ls).put r m x (S (W.nm i)) (num:Int)) W (X.put i r pl) (s+1):=by
 have ne:∀j,j < 3->j≠i->¬S (W.nm j)=S (W.nm i):=λj hj e z=>e (h.nmi j i (by omega) (by omega) (ot z));have k1:=h.k1 i hi;obtain⟨m1,m2⟩:=h.me r m pl hm he;have e2:(X.put i r pl).kp 2=X.kp 2:=by show(if 2=i then _ else _)=_;rw[if_neg (by omega)]
 have lv:∀j,((X.put i r pl).kp j).lv=(X.kp j).lv:=λj=>by
  show(if j=i then _ else _:Kp).lv=_
  split
  ·rename_i e;rw[e]
  ·rfl
 have sp1:((X.put i r pl).kp i).sp=(X.kp i).sp++[((r:Int),(pl:Int))]:=by show(if i=i then _ else _:Kp).sp=_;rw[if_pos rfl]
 have sp2:∀j,j≠i->((X.put i r pl).kp j).sp=(X.kp j).sp:=λj hj=>by show(if j=i then _ else _:Kp).sp=_;rw[if_neg hj]
 have hpl:pl<=s:=h.bes pl (List.mem_of_getElem? he);refine⟨h.nmo,h.nmi,h.xs,?_,λj m' e' h1 h2=>?_,λj hj=>?_,λj hj hv=>?_,λj hj hv=>?_,e2.trans h.k2,λj hj=>?_,λj hj=>?_,λj hj=>?_,λe he'=>?_,?_,?_,?_⟩
 ·show(M.Ms.set r _).length=(X.es.set r _).length
  rw[List.length_set,List.length_set];exact h.ms
 ·have h1':(M.Ms.set r (m.add x))[j]?=some m':=h1
  have h2':(X.es.set r (pl+1))[j]?=some e':=h2
  by_cases e:j=r
  ·subst e
   rw[List.getElem?_set_self (List.getElem?_eq_some_iff.mp hm).1] at h1';rw[List.getElem?_set_self (List.getElem?_eq_some_iff.mp he).1] at h2';cases h1';cases h2';exact⟨by show m.last+1=_;omega,m2⟩
  ·rw[List.getElem?_set_ne (Ne.symm e)] at h1' h2'
   exact h.me j m' e' h1' h2'
 ·rw[lv];exact h.sl j hj
 ·rw[lv] at hv
  show(if S (W.nm j)=S (W.nm i) then(num:Int) else M.S.T (S (W.nm j)))=_
  by_cases e:j=i
  ·subst e
   rw[if_pos rfl,sp1,hn,List.length_append];rfl
  ·rw[if_neg (ne j hj e),sp2 j e]
   exact h.sT j hj hv
 ·rw[lv] at hv
  show(if S (W.nm j)=S (W.nm i) then(M.S.P (S (W.nm i))++[((r:Int),m.last)]).drop ((M.S.P (S (W.nm i))++[((r:Int),m.last)]).length - 8) else M.S.P (S (W.nm j)))=_
  by_cases e:j=i
  ·subst e
   rw[if_pos rfl,sp1,h.sP j hj hv,m1];exact drop8 _ _
  ·rw[if_neg (ne j hj e),sp2 j e]
   exact h.sP j hj hv
 ·rw[lv];exact h.k1 j hj
 ·rw[lv];exact Nat.le_trans (h.blv j hj) (by omega)
 ·have:=h.bsp j hj
  by_cases e:j=i
  ·subst e
   rw[sp1,List.length_append,List.length_singleton];omega
  ·rw[sp2 j e];omega
 ·rcases List.mem_or_eq_of_mem_set he' with h1 | rfl
  ·exact Nat.le_trans (h.bes e h1) (by omega)
  ·omega
 ·show ls.length<=_;have:=h.bls;omega
 ·show M.S.sz+1<=_;have:=h.bsz;omega
 ·show(X.es.set r (pl+1)).sum=_
  rw[sum_set _ _ _ he,h.sum];have hi':i=0\/i=1:=by omega
  rcases hi' with rfl | rfl
  ·rw[sp1,sp2 1 (by decide),List.length_append,List.length_singleton];omega
  ·rw[sp1,sp2 0 (by decide),List.length_append,List.length_singleton];omega
noncomputable def LwA.wr (W:LwA)(A:CA):List Addr:=A.fix++[W.el,W.d 0,W.d 1,W.q 0,W.q 1]
noncomputable def A3 (k:CK):Sp:=λvs H Q _=>∃(A:CA) (Z:List Addr) (M:CM) (W:LwA) (X:LwM) (s:Nat) (sl lt:Addr) (e:Int) (key wd:List Nat),vs=[.ref A.c,.ref sl,.ref W.kl,.int e,.ref lt]/\LwAt k H A Z M W X s/\s<=200/\H sl=some (.lst (tx [W.nm 0,W.nm 1,W.nm 2]))/\sl∉W.wr A/\H lt=some (.tup [.str (S (W.nm 3)),.str (S key),.str (S wd)])/\keyOk key/\wordOk (some wd)/\wd.length<=23/\
 ∀H' M' X',Chg (W.wr A) H H'->LwAt k H' A Z M' W X' (s+1)->Q (.bl true) H'
theorem tupEq {K:W.Frag}{H:Hp}{Q:VK}{u v:Addr}{t:List V}(hu:H u=some (.tup t))(hv:H v=some (.tup t))(hf:t.all flatV=true)(ho:∀x∈t,okV x)(q:Q (.bl true) H):rEqq K (.ref u) (.ref v) H Q:=
 qG (n:=1) (.tup (.inl (.inl hu)) (cR hf)) (.tup (.inl (.inl hv)) (cR hf)) (oz λe he=>by
  (refine pw11 (List.mem_map.mp he) λv hv zz1=>?_;subst zz1)
  exact rW 0 (ho v hv)) rfl q
theorem xv {l:List Nat}(h:okS l):okV (.str (S l)):=by
 show okS (S l).cps.toList;simpa [S] using h
theorem nameOk.okS {l:List Nat}(h:nameOk l):L2.okS l:=λc hc=>by have:=h.len.2.2 c hc;omega
theorem keyOk.okS {l:List Nat}(h:keyOk l):L2.okS l:=λc hc=>by have:=h.len.2 c hc;omega
theorem CC {x:Kp}{n:List Nat}{life num dd:Nat}{t:List V}(hn:okS n)(h:dueV x n life num dd=some t):t.length=2/\t.all flatV=true/\∀v∈t,okV v:=by
 have lit:∀(z:String),okS (Str.ofString z).cps.toList->okV (.str (Str.ofString z)):=λz h=>h;have two:∀{a b:V},okV a->okV b->∀v∈[a,b],okV v:=λha hb v hv=>by
  simp only[List.mem_cons,List.not_mem_nil,or_false] at hv;rcases hv with rfl | rfl
  ·exact ha
  ·exact hb
 unfold dueV at h
 split at h
 ·cases h;exact⟨rfl,rfl,two (lit _ (by unfold okS;decide +kernel)) (xv hn)⟩
 split at h
 ·cases h;exact⟨rfl,rfl,two (lit _ (by unfold okS;decide +kernel)) trivial⟩
 split at h
 ·cases h;exact⟨rfl,rfl,two (lit _ (by unfold okS;decide +kernel)) trivial⟩
 split at h
 ·cases h;exact⟨rfl,rfl,two (lit _ (by unfold okS;decide +kernel)) trivial⟩
 split at h
 ·cases h;exact⟨rfl,rfl,two trivial trivial⟩
 split at h
 ·cases h;exact⟨rfl,rfl,two (lit _ (by unfold okS;decide +kernel)) (xv hn)⟩
 ·cases h
section
variable {k:CK} {H:Hp} {A:CA} {Z:List Addr} {M:CM} {W:LwA} {X:LwM} {s j:Nat} {key:List Nat} {wo:Option (List Nat)} {life num dd:Nat} {x:Shf} {lt:Addr} {Q:VK} {E:XK}
theorem A4 {t:List V}(h:LwRel M W X s)(hj:j < 3)(hP:PutC k H A Z M (W.nm j) (W.nm 3) key wo life num dd 0 x)(hlt:H lt=some (.tup [.str (S (W.nm 3)),.str (S key),wV wo,.int (dd:Int)]))(hd:dueV (X.kp j) (W.nm j) life num dd=some t)
  (q:∀u H',Same H H'->H' u=some (.tup t)->Q (.ref u) H'):sF k [.ref A.c,.str (S (W.nm j)),.int (life:Int),.int (num:Int),.ref lt] H Q E:=by
 refine(iw60 A Z M (W.nm j) (W.nm 3) key (iw60 wo life num dd 0 x (iw13 lt rfl hlt hP ?_)));have sl:=h.sl j hj;have hn:=hP.nu;unfold dueV at hd
 by_cases c1:(X.kp j).lv=0
 ·rw[if_pos c1] at hd sl
  cases hd;exact .inl ⟨sl,q⟩
 rw[if_neg c1] at hd sl;have sT:=h.sT j hj c1;have sP:=h.sP j hj c1;have lP:((M.S.P (S (W.nm j))).length:Int)=min (X.kp j).sp.length 8:=by rw[sP,List.length_drop];omega
 refine .inr (iw11 _ sl ?_)
 by_cases c2:life≠(X.kp j).lv
 ·rw[if_pos c2] at hd
  cases hd;exact .inl ⟨by omega,q⟩
 rw[if_neg c2] at hd;refine .inr ⟨by omega,?_⟩;rw[sT,lP]
 by_cases c3:(X.kp j).sp.length+1 < num
 ·rw[if_pos c3] at hd
  cases hd;exact .inl ⟨by omega,q⟩
 rw[if_neg c3] at hd
 by_cases c4:num+8<=(X.kp j).sp.length
 ·rw[if_pos c4] at hd
  cases hd;exact .inr (.inl ⟨by omega,q⟩)
 rw[if_neg c4] at hd
 by_cases c5:num<=(X.kp j).sp.length
 ·rw[if_pos c5] at hd
  cases hd;refine .inr (.inr (.inl (iw22 (num - 1 - ((X.kp j).sp.length - 8)) ((X.kp j).sp.getD (num - 1) (0,0)) (by omega) ?_ q)));rw[sP,List.getElem?_drop,show(X.kp j).sp.length - 8+(num - 1 - ((X.kp j).sp.length - 8))=num - 1 by omega,List.getD_eq_getElem?_getD,List.getElem?_eq_getElem (show num - 1 < (X.kp j).sp.length by omega)];rfl
 rw[if_neg c5] at hd
 by_cases c6:dd≠0
 ·rw[if_pos c6] at hd
  cases hd;exact .inr (.inr (.inr (.inl ⟨by omega,c6,q⟩)))
 ·rw[if_neg c6] at hd
  cases hd
theorem A5 (h:LwRel M W X s)(hs:s<=200)(hj:j < 3)(hP:PutC k H A Z M (W.nm j) (W.nm 3) key wo life num dd 0 x)(hlt:H lt=some (.tup [.str (S (W.nm 3)),.str (S key),wV wo,.int (dd:Int)]))(hd:dueV (X.kp j) (W.nm j) life num dd=none)
  (q:j < 2->num=(X.kp j).sp.length+1->∀u H' ls r pl m,Chg A.fix H H'->CeAt k H' A Z ((M.wr ls).put r m (key,wo,0) (S (W.nm j)) num)->ls.length=M.ls.length+1->M.Ms[r]?=some m->X.es[r]?=some pl->pl<=s->H' u=some (.tup [.int (r:Int),.int (pl:Int)])->Q (.ref u) H'):sF k [.ref A.c,.str (S (W.nm j)),.int (life:Int),.int (num:Int),.ref lt] H Q E:=by
 refine(iw60 A Z M (W.nm j) (W.nm 3) key (iw60 wo life num dd 0 x (iw13 lt rfl hlt hP ?_)));have sl:=h.sl j hj;have hn:=hP.nu;unfold dueV at hd;have c1:¬(X.kp j).lv=0:=λc=>by rw[if_pos c] at hd;cases hd
 rw[if_neg c1] at hd sl;have c2:¬life≠(X.kp j).lv:=λc=>by rw[if_pos c] at hd;cases hd
 rw[if_neg c2] at hd;have c3:¬(X.kp j).sp.length+1 < num:=λc=>by rw[if_pos c] at hd;cases hd
 rw[if_neg c3] at hd;have c4:¬num+8<=(X.kp j).sp.length:=λc=>by rw[if_pos c] at hd;cases hd
 rw[if_neg c4] at hd;have c5:¬num<=(X.kp j).sp.length:=λc=>by rw[if_pos c] at hd;cases hd
 rw[if_neg c5] at hd;have c6:¬dd≠0:=λc=>by rw[if_pos c] at hd;cases hd
 have sT:=h.sT j hj c1;have hj2:j < 2:=by
  refine Classical.byContradiction λz=>c1 ?_;have:j=2:=by omega
  rw[this,h.k2]
 have hx:x=⟨W.nm 3,W.many,kStr⟩:=by
  have:=hP.pos;rw[h.xs] at this;exact(Option.some.inj this).symm
 have okx:=hP.ce.st.okx.each x (List.mem_of_getElem? hP.pos);have hr0:rowNo M.xs 0 x key < x.rows:=by
  unfold rowNo startOf;have h1:=okx.2.1;have h2:=Int.emod_lt_of_pos (sprN key) (show(0:Int) < x.rows by omega);have h3:=Int.emod_nonneg (sprN key) (show(x.rows:Int)≠0 by omega);simp;omega
 have hml:M.Ms.length=x.rows:=by
  rw[hP.ce.st.lenm,hP.ce.st.len,h.xs,hx];simp[startOf]
 have hm:M.Ms[rowNo M.xs 0 x key]?=some (M.Ms[rowNo M.xs 0 x key]'(by omega)):=by simp
 have he:X.es[rowNo M.xs 0 x key]?=some (X.es[rowNo M.xs 0 x key]'(by rw[<-h.ms];omega)):=by simp
 have hpl:=h.bes _ (List.mem_of_getElem? he);obtain⟨e1,e2⟩:=h.me _ _ _ hm he;refine .inr (iw11 _ sl (.inr ⟨by omega,.inr (.inr (.inr (.inr ⟨by rw[sT];omega,by omega,(iw34 _ _ _ rfl hm e1 (by omega) ⟨?_,?_,λu H' ls c C hl hu=>?_⟩)⟩)))⟩))
 ·have:=h.bls;omega
 ·have:=h.bsz;omega
 ·exact q hj2 (by omega) u H' ls _ _ _ c C hl hm he hpl hu
end
theorem LwA.nds {W:LwA}(nd:W.all.Nodup):(∀i,i < 3->W.d i≠W.kl/\W.d i≠W.el/\W.q i≠W.kl/\W.q i≠W.el)/\(∀i j,i < 3->j < 3->W.d i≠W.q j)/\(∀i j,i < 3->j < 3->W.d i=W.d j->i=j)/\(∀i j,i < 3->j < 3->W.q i=W.q j->i=j)/\W.kl≠W.el:=by
 unfold LwA.all at nd;simp only[List.nodup_cons,List.mem_cons,List.not_mem_nil,or_false,not_or,not_false_eq_true,List.nodup_nil,and_true] at nd;have c3:∀i:Nat,i < 3->i=0\/i=1\/i=2:=λi hi=>by omega
 refine⟨λi hi=>?_,λi j hi hj=>?_,λi j hi hj=>?_,λi j hi hj=>?_,by grind⟩
 ·rcases c3 i hi with rfl | rfl | rfl<;>grind
 ·rcases c3 i hi with rfl | rfl | rfl<;>rcases c3 j hj with rfl | rfl | rfl<;>grind
 ·rcases c3 i hi with rfl | rfl | rfl<;>rcases c3 j hj with rfl | rfl | rfl<;>grind
 ·rcases c3 i hi with rfl | rfl | rfl<;>rcases c3 j hj with rfl | rfl | rfl<;>grind
theorem LwOb.hail {H H':Hp}{W:LwA}{X:LwM}{i:Nat}(h:LwOb H W X)(nd:W.all.Nodup)(hi:i < 3)(c:Chg [W.d i] H H')(e:H' (W.d i)=some (.dK (kpK ⟨(X.kp i).lv+1,(X.kp i).sp⟩ (W.q i)))):LwOb H' W (X.hail i):=by
 (refine pw04 (LwA.nds nd) λn1 n2 n3 n4 n5=>?_);have sp:∀j,((X.hail i).kp j).sp=(X.kp j).sp:=λj=>by
  show(if j=i then _ else _:Kp).sp=_
  split
  ·rename_i e;rw[e]
  ·rfl
 refine⟨c.keep _ _ h.kl (by simp;exact(n1 i hi).1.symm),λj hj=>?_,λj hj=>?_,c.keep _ _ h.ke (by simp;exact(n1 i hi).2.1.symm)⟩
 ·by_cases z:j=i
  ·subst z
   rw[e];show _=some (HO.dK (kpK (if j=j then _ else _) _));rw[if_pos rfl]
  ·have:(X.hail i).kp j=X.kp j:=by show(if j=i then _ else _)=_;rw[if_neg z]
   rw[this];exact c.keep _ _ (h.kd j hj) (by simp;exact λy=>z (n3 j i hj hi y))
 ·rw[sp]
  exact(h.ks j hj).chg c (by simp;exact(n2 i j hi hj).symm)
theorem LwOb.put {H H1 H2:Hp}{W:LwA}{X:LwM}{i r pl:Nat}{t:Addr}(h:LwOb H W X)(nd:W.all.Nodup)(hi:i < 3)(c1:Chg [W.el] H H1)(e1:H1 W.el=some (.lst ((X.es.set r (pl+1)).map λ(e:Nat)=>V.int (e:Int))))(c2:Chg [W.q i] H1 H2)(e2:∀ts,H1 (W.q i)=some (.lst ts)->H2 (W.q i)=some (.lst (ts++[.ref t])))(ht:H2 t=some (.tup [.int (r:Int),.int (pl:Int)])):LwOb H2 W (X.put i r pl):=by
 (refine pw04 (LwA.nds nd) λn1 n2 n3 n4 n5=>?_);have lv:∀j,((X.put i r pl).kp j).lv=(X.kp j).lv:=λj=>by
  show(if j=i then _ else _:Kp).lv=_
  split
  ·rename_i e;rw[e]
  ·rfl
 refine⟨c2.keep _ _ (c1.keep _ _ h.kl (by simp;exact n5)) (by simp;exact(n1 i hi).2.2.1.symm),λj hj=>?_,λj hj=>?_,c2.keep _ _ e1 (by simp;exact(n1 i hi).2.2.2.symm)⟩
 ·have:kpK ((X.put i r pl).kp j) (W.q j)=kpK (X.kp j) (W.q j):=by unfold kpK;rw[lv]
  rw[this];exact c2.keep _ _ (c1.keep _ _ (h.kd j hj) (by simp;exact(n1 j hj).2.1)) (by simp;exact n2 j i hj hi)
 ·have g:=(h.ks j hj).chg c1 (by simp;exact(n1 j hj).2.2.2)
  by_cases z:j=i
  ·subst z
   have sp1:((X.put j r pl).kp j).sp=(X.kp j).sp++[((r:Int),(pl:Int))]:=by show(if j=j then _ else _:Kp).sp=_;rw[if_pos rfl]
   rw[sp1,List.map_append];(revert g;refine ow11 λts et hT=>?_);refine(iw11 (ts++[t]) (by rw[e2 _ et,List.map_append];rfl) ((hT.chg c2).snoc ht))
  ·have sp2:((X.put i r pl).kp j).sp=(X.kp j).sp:=by show(if j=i then _ else _:Kp).sp=_;rw[if_neg z]
   rw[sp2];exact g.chg c2 (by simp;exact λy=>z (n4 j i hj hi y))
theorem A6 {m:RowM}{pl:Nat}{x:Ltr}(h1:m.last=(pl:Int))(h2:m.first=0):((m.add x).seenP (pl:Int) (m.add x).last 1).map (m.add x).rowV=[[.int (pl:Int),.str (S x.1),wV x.2.1]]:=by
 have e:(m.add x).L (pl:Int)=some x:=by
  show(if (pl:Int)=m.last then some x else _)=_;rw[if_pos h1.symm]
 have l:(m.add x).last=(pl:Int)+1:=by show m.last+1=_;rw[h1]
 have f:(m.add x).first=0:=h2;unfold RowM.seenP RowM.standing;rw[l,f,show max (pl:Int) 0=(pl:Int) by omega,show(min ((pl:Int)+1) ((pl:Int)+1) - (pl:Int)).toNat=1 by omega];simp[List.range_succ,e,RowM.rowV]
theorem LTups.one {H:Hp}{D t:Addr}{r:List V}(h:H D=some (.lst [.ref t]))(ht:H t=some (.tup r)):LTups H D [r]:=(iw11 ([t]) h (.cons ht .nil))
theorem oW (c:Int)(k:Nat):nameOk (nm5 c k):=by
 have h:=AO c k;unfold nameOk formV;simp only[ck,Bool.and_eq_true,decide_eq_true_eq];refine⟨by omega,by omega,?_⟩;simpa [S] using h.2.2
theorem mkKp {Hx Hw:Hp}{p3 p4:Addr}{v:List (Key×V)}(h3:Hx p3=none)(h4:upd Hx p3 (.dK []) p4=none)(e:upd (upd (upd Hx p3 (.dK [])) p4 (.lst [])) p3 (.dK v)=Hw):Same Hx Hw/\Hw p3=some (.dK v)/\Hw p4=some (.lst [])/\p3≠p4/\Hx p4=none:=by
 subst e;have n:p4≠p3:=λz=>by rw[z,ae] at h4;cases h4
 have h4':Hx p4=none:=by rw[aj n] at h4;exact h4
 refine⟨λb o hb=>?_,ae,by rw[aj n,ae],n.symm,h4'⟩;rw[aj (ay hb h3),aj (ay hb h4'),aj (ay hb h3)];exact hb
noncomputable def kp1:Kp:=⟨1,[]⟩
noncomputable def kp0:Kp:=⟨0,[]⟩
noncomputable def rMulQ:R2:=λx y H Q=>rMulA x y H Q\/rRep x y H Q
theorem CH {X:Cx}:OpR X (binaryOp .Mult) rMulQ:=gP.or DJ
theorem tupNe {K:W.Frag}{H:Hp}{Q:VK}{u v:Addr}{t:List V}(hu:H u=some (.tup t))(hv:H v=some (.tup t))(hf:t.all flatV=true)(ho:∀x∈t,okV x)(q:Q (.bl false) H):rNeq K (.ref u) (.ref v) H Q:=
 yk (n:=1) (.tup (.inl (.inl hu)) (cR hf)) (.tup (.inl (.inl hv)) (cR hf)) (oz λe he=>by
  (refine pw11 (List.mem_map.mp he) λv hv zz1=>?_;subst zz1)
  exact rW 0 (ho v hv)) rfl q
noncomputable def three {α:Type}(a b c:α):Nat->α
 | 0=>a
 | 1=>b
 | _=>c
noncomputable def M0 (c:Int)(many:Nat)(ls:List (List Nat)):CM:=⟨[⟨nm5 c 3,many,kStr⟩],List.replicate many row0,send0,ls⟩
noncomputable def X0 (many:Nat):LwM:=⟨three kp1 kp1 kp0,List.replicate many 0⟩
theorem uD:∀n:Nat,(List.replicate n 0).sum=0
 | 0=>rfl
 | n+1=>by rw[List.replicate_succ,List.sum_cons,uD n]
theorem rel0 {c:Int}{many:Nat}{ls ls1 ls2:List (List Nat)}{W:LwA}(hn:W.nm=nm5 c)(hm:W.many=many)(h1:ls.length=1)(h2:ls1.length=ls.length+1)(h3:ls2.length=ls1.length+1) :
  LwRel (((((M0 c many ls).wr ls1).hail (S (nm5 c 0))).wr ls2).hail (S (nm5 c 1))) W (X0 many) 0:=by
 have ne:∀i j,i < 4->j < 4->i≠j->¬S (nm5 c i)=S (nm5 c j):=λi j hi hj e z=>e (si (by omega) (by omega) (ot z));have n01:=ne 0 1 (by decide) (by decide) (by decide);have n10:=ne 1 0 (by decide) (by decide) (by decide);have n20:=ne 2 0 (by decide) (by decide) (by decide);have n21:=ne 2 1 (by decide) (by decide) (by decide);have L:∀z,(((((M0 c many ls).wr ls1).hail (S (nm5 c 0))).wr ls2).hail (S (nm5 c 1))).S.L z=if z=S (nm5 c 1) then some 1 else if z=S (nm5 c 0) then some 1 else none:=λz=>by
  show(if z=S (nm5 c 1) then some (((if S (nm5 c 1)=S (nm5 c 0) then some ((none:Option Int).getD 0+1) else none):Option Int).getD 0+1) else if z=S (nm5 c 0) then some ((none:Option Int).getD 0+1) else none)=_;rw[if_neg n10];rfl
 have l1:((((M0 c many ls).wr ls1).hail (S (nm5 c 0))).wr ls2).S.L (S (nm5 c 1))=none:=by
  show(if S (nm5 c 1)=S (nm5 c 0) then some ((none:Option Int).getD 0+1) else none)=none;rw[if_neg n10]
 have Tz:∀z,(((((M0 c many ls).wr ls1).hail (S (nm5 c 0))).wr ls2).hail (S (nm5 c 1))).S.T z=0:=λz=>by
  show(if z=S (nm5 c 1) then _ else if z=S (nm5 c 0) then _ else _)=(0:Int)
  split
  ·rw[l1]
   rfl
  ·split
   ·rfl
   ·rfl
 have Pz:∀z,(((((M0 c many ls).wr ls1).hail (S (nm5 c 0))).wr ls2).hail (S (nm5 c 1))).S.P z=[]:=λz=>by
  show(if z=S (nm5 c 1) then _ else if z=S (nm5 c 0) then _ else _)=([]:List Spot)
  split
  ·rw[l1]
   rfl
  ·split
   ·rfl
   ·rfl
 refine⟨λi hi=>by rw[hn];exact oW c i,λi j hi hj e=>by rw[hn] at e;exact si (by omega) (by omega) e,by rw[hn,hm];rfl,?_,λi m e h1 h2=>?_,λi hi=>?_,λi hi _=>?_,λi hi _=>?_,rfl,?_,?_,?_,?_,?_,?_,?_⟩
 ·show(List.replicate many row0).length=(List.replicate many 0).length
  rw[List.length_replicate,List.length_replicate]
 ·have a1:=List.eq_of_mem_replicate (List.mem_of_getElem? (show(List.replicate many row0)[i]?=some m from h1))
  have a2:=List.eq_of_mem_replicate (List.mem_of_getElem? (show(List.replicate many 0)[i]?=some e from h2));rw[a1,a2];exact⟨rfl,rfl⟩
 ·rw[L,hn]
  match i,hi with
  | 0,_=>rw[if_neg n01,if_pos rfl];rfl
  | 1,_=>rw[if_pos rfl];rfl
  | 2,_=>rw[if_neg n21,if_neg n20];rfl
 ·rw[Tz]
  match i,hi with
  | 0,_=>rfl
  | 1,_=>rfl
  | 2,_=>rfl
 ·rw[Pz]
  match i,hi with
  | 0,_=>rfl
  | 1,_=>rfl
  | 2,_=>rfl
 ·intro i hi
  match i,hi with
  | 0,_=>exact Nat.le_refl _
  | 1,_=>exact Nat.le_refl _
 ·intro i hi
  match i,hi with
  | 0,_=>exact Nat.le_refl _
  | 1,_=>exact Nat.le_refl _
  | 2,_=>exact Nat.zero_le _
 ·intro i hi
  match i,hi with
  | 0,_=>exact Nat.le_refl _
  | 1,_=>exact Nat.le_refl _
  | 2,_=>exact Nat.le_refl _
 ·intro e he
  rw[List.eq_of_mem_replicate he];exact Nat.le_refl _
 ·show ls2.length<=3;omega
 ·show 0+1+1<=3;decide
 ·exact uD many
theorem word72 (c:Int):wordOk (some ([119]++strI (mixN c 7)))/\([119]++strI (mixN c 7)).length<=23/\(strI (mixN c 7)).length<=10:=by
 have b:=xk c 7;obtain⟨m,hm⟩:∃m:Nat,mixN c 7=(m:Int):=⟨(mixN c 7).toNat,by omega⟩
 rw[hm] at b ⊢;have l:=nV (m:=m) (k:=10) (by decide) (by omega);have dg:=kR m;refine⟨?_,by simp;omega,l⟩;unfold wordOk formV wV;simp only[ck,Bool.or_eq_true,Bool.and_eq_true,decide_eq_true_eq];refine .inr ⟨by omega,by simp;omega,List.all_eq_true.mpr λx hx=>?_⟩;have hx':x∈[119]++strI (m:Int):=by simpa [S] using hx
 unfold okSign;rcases List.mem_append.mp hx' with h | h
 ·rw[List.mem_singleton.mp h];decide
 ·have:=dg x h
  simp;omega
theorem uE:∀l:List Nat,(l.map λ(e:Nat)=>(e:Int)).sum=(l.sum:Int)
 | []=>rfl
 | a::l=>by rw[List.map_cons,List.sum_cons,List.sum_cons,uE l];omega
structure FT (K:W.Frag)(mg:Str->Option Value)(x:Str)(st:Stmt)(ps:List Str)(f:Addr)(d:FuncData):Prop where
 F:Fun K x x st f d
 b:Binds K d ps []
 m:mg x=some (.ref f)
structure FM (K:W.Frag)(C:Addr)(x q:Str)(st:Stmt)(ps:List Str)(f:Addr)(d:FuncData):Prop where
 F:Fun K x q st f d
 b:Binds K d ps []
 m:Meth K C x f
structure FI (K:W.Frag)(q:Str)(st:Stmt)(ps:List Str)(f:Addr)(d:FuncData):Prop where
 F:Fun K "__init__" q st f d
 b:Binds K d ps []
section
variable {K:W.Frag} {h:Heap} {mg:Str->Option Value} {C:Addr} {x q:Str} {st:Stmt} {ps:List Str} {f:Addr} {oc:Value} {od an:Option Addr} {osl:Array (Option Value)} {kV doc pm cdv ct:Value}
theorem gE (l:K.lookup f=some ⟨oc,od,.func (W.fnOf "__init__" q (defArgs st) (defBody st) (defScope st) .none kV doc pm an cdv ct),osl⟩)(c:W.codeIn K cdv q=true)(k:W.keepIn K (.ref f)=true)
  (e:∀(kV doc pm:Value) (an:Option Addr) (cdv ct:Value) (us:List Value),us.length=ps.length->bindArgs (W.fnOf "__init__" q (defArgs st) (defBody st) (defScope st) .none kV doc pm an cdv ct) ⟨us,[]⟩=pure (ps.zip us)) :
  FI K q st ps f (W.fnOf "__init__" q (defArgs st) (defBody st) (defScope st) .none kV doc pm an cdv ct):=⟨lO l c k,(lO l c k).binds e⟩
theorem b6 (a:W.findIn K (.ref C) x=some (some (.ref f)))(i:W.isFn K (.ref f)=true)(l:K.lookup f=some ⟨oc,od,.func (W.fnOf x q (defArgs st) (defBody st) (defScope st) .none kV doc pm an cdv ct),osl⟩)(c:W.codeIn K cdv q=true)(k:W.keepIn K (.ref f)=true)
  (e:∀(kV doc pm:Value) (an:Option Addr) (cdv ct:Value) (us:List Value),us.length=ps.length->bindArgs (W.fnOf x q (defArgs st) (defBody st) (defScope st) .none kV doc pm an cdv ct) ⟨us,[]⟩=pure (ps.zip us)) :
  FM K C x q st ps f (W.fnOf x q (defArgs st) (defBody st) (defScope st) .none kV doc pm an cdv ct):=⟨lO l c k,(lO l c k).binds e,a,i,k⟩
theorem aJ (X:K.In h)(G:h.Ns mainGlobals mg)(a:W.nsIn K mainGlobals x=some (some (.ref f)))(l:K.lookup f=some ⟨oc,od,.func (W.fnOf x x (defArgs st) (defBody st) (defScope st) .none kV doc pm an cdv ct),osl⟩)(c:W.codeIn K cdv x=true)(k:W.keepIn K (.ref f)=true)
  (e:∀(kV doc pm:Value) (an:Option Addr) (cdv ct:Value) (us:List Value),us.length=ps.length->bindArgs (W.fnOf x x (defArgs st) (defBody st) (defScope st) .none kV doc pm an cdv ct) ⟨us,[]⟩=pure (ps.zip us)) :
  FT K mg x st ps f (W.fnOf x x (defArgs st) (defBody st) (defScope st) .none kV doc pm an cdv ct):=⟨lO l c k,(lO l c k).binds e,W.mg_of X G a⟩
end
noncomputable abbrev Em (K:W.Frag)(C D:Addr)(b:Bool):Prop:=W.exmOne K (.ref C) (.ref D)=some b
noncomputable abbrev Xi (K:W.Frag)(C f:Addr):Prop:=W.findIn K (.ref C) "__init__"=some (some (.ref f))
noncomputable abbrev Xf (K:W.Frag)(f:Addr):Prop:=W.isFn K (.ref f)=true
theorem wg {K:W.Frag}{a:Addr}{td:Option Addr}{tn:Nat}{tsl:Array (Option Value)}{vs:List V}{us:List Value}(r:Vals vs us)(hn:us.length<=sizeLine)(l:K.lookup a=some ⟨.type "tuple",td,.seq us.toArray tn,tsl⟩):∀H,SqT K H a vs:=λ_=>.inr (iw34 _ _ _ l rfl rfl hn r)
noncomputable def tokV:V->Tok->Value
 | .non,_=>.none
 | .bl b,_=>.bool b
 | .int i,t=>.int i t
 | .str x,t=>.str x t
 | .byt b,t=>.bytes b t
 | .flt b,t=>.float b t
 | .ref a,_=>.ref a
 | .ty n,_=>.type n
theorem relT {v:V}{t:Tok}:RelV v (tokV v t):=by cases v<;>first | rfl | exact⟨t,rfl⟩
theorem jO {mg:Str->Option Value}{x:Str}{v:V}{t:Tok}(h:mg x=some (tokV v t)):GConst mg x v:=(iw11 _ h relT)
noncomputable abbrev iT (z:Int){t:Tok}:Value:=.int z t
theorem Dn {w:World}{K:W.Frag}{mg:Str->Option Value}{x:Str}{F:List (Str×V)}{p:Addr}{es:Array DictEntry}{ep:Nat}(g:mg x=some (.ref p))(l:K.lookup p=some { cls:=.type "dict",dict:=none,data:=.dict es ep,slots:=#[] })
  (k:StrEnts w.params es.toList) (d:∀kv∈F,∃u,findE es kv.1=some u/\RelV kv.2 u):DCon w K mg x F:=(iw33 _ _ _ g l k d)
theorem Dp {K:W.Frag}{mg:Str->Option Value}{x:Str}{a:Addr}{td:Option Addr}{tn:Nat}{tsl:Array (Option Value)}{vs:List V}{us:List Value}(g:mg x=some (.ref a))(r:Vals vs us)(hn:us.length<=sizeLine)(l:K.lookup a=some ⟨.type "tuple",td,.seq us.toArray tn,tsl⟩):TConst K mg x vs:=(iw11 _ g (wg r hn l))
theorem el8 {α:Type}{p:List α->Prop}(h:∀a b c d e f g i,p [a,b,c,d,e,f,g,i]):∀us:List α,us.length=8->p us
 | [a,b,c,d,e,f,g,i],_=>h a b c d e f g i
theorem el9 {α:Type}{p:List α->Prop}(h:∀a b c d e f g i j,p [a,b,c,d,e,f,g,i,j]):∀us:List α,us.length=9->p us
 | [a,b,c,d,e,f,g,i,j],_=>h a b c d e f g i j
end L2
namespace K72
open PySem PySem.Spec PyProof.Rows L2
noncomputable def top (i:Nat):Stmt:=PySem.Challenge.pw_lettercell_k72_numbers_sent_again.main.body.getD i (.Pass ⟨0,0,0,0⟩)
noncomputable abbrev fD:Stmt:=inClass (top 6) 0
theorem j8:FnScope ["self","name"] ["self","name"] (defScope fD):=s!"f"
noncomputable abbrev fE:Stmt:=inClass (top 9) 0
theorem j9:FnScope ["self","life"] ["self","life"] (defScope fE):=s!"f"
noncomputable abbrev iO:Stmt:=inClass (top 10) 0
theorem nv:FnScope ["self","due"] ["self","due"] (defScope iO):=s!"f"
noncomputable abbrev fF:Stmt:=inClass (top 11) 0
theorem ka:FnScope ["self","number"] ["self","number"] (defScope fF):=s!"f"
noncomputable abbrev fG:Stmt:=inClass (top 17) 0
theorem kc:FnScope ["self","name"] ["self","name"] (defScope fG):=s!"f"
noncomputable abbrev qN:Stmt:=top 24
theorem wj:FnScope ["text"] ["text"] (defScope qN):=s!"f"
noncomputable abbrev oX:Stmt:=top 25
theorem zg:FnScope ["fields"] ["fields"] (defScope oX):=s!"f"
noncomputable abbrev uF:Stmt:=top 26
theorem jn:FnScope ["text","c","sign"] ["text"] (defScope uF):=s!"f"
noncomputable abbrev qO:Stmt:=top 27
theorem oY:FnScope ["number","body","figures"] ["number","body"] (defScope qO):=s!"f"
noncomputable abbrev m3:Stmt:=top 31
theorem sG:FnScope ["word"] ["word"] (defScope m3):=s!"f"
noncomputable abbrev kX:Stmt:=top 32
theorem Bp:FnScope ["owner"] ["owner"] (defScope kX):=s!"f"
noncomputable abbrev qP:Stmt:=top 33
theorem wk:FnScope ["part","value"] ["part","value"] (defScope qP):=s!"f"
noncomputable abbrev oZ:Stmt:=top 34
theorem fH:FnScope ["name","values","event","part","value"] ["name","values"] (defScope oZ):=s!"f"
noncomputable abbrev kf:Stmt:=top 35
theorem m4:FnScope ["event","name"] ["event"] (defScope kf):=s!"f"
noncomputable abbrev eL:Stmt:=top 36
theorem bj:FnScope ["shelves","texts","name","many","kind"] ["shelves"] (defScope eL):=s!"f"
noncomputable abbrev iP:Stmt:=top 37
theorem ny:FnScope ["state","event"] ["state","event"] (defScope iP):=s!"f"
noncomputable abbrev jP:Stmt:=top 38
theorem eM:FnScope ["state","event","row","place"] ["state","event"] (defScope jP):=s!"f"
noncomputable abbrev uG:Stmt:=top 59
theorem qQ:FnScope ["state","event","happening"] ["state","event"] (defScope uG):=s!"f"
noncomputable abbrev qR:Stmt:=top 66
theorem wm:FnScope ["thing","least","most"] ["thing","least","most"] (defScope qR):=s!"f"
noncomputable abbrev qS:Stmt:=top 67
theorem wq:FnScope ["sign"] ["sign"] (defScope qS):=s!"f"
noncomputable abbrev mj:Stmt:=top 68
theorem wt:FnScope ["thing"] ["thing"] (defScope mj):=s!"f"
noncomputable abbrev o6:Stmt:=top 69
theorem zh:FnScope ["thing"] ["thing"] (defScope o6):=s!"f"
noncomputable abbrev ml:Stmt:=top 70
theorem wu:FnScope ["thing"] ["thing"] (defScope ml):=s!"f"
noncomputable abbrev o7:Stmt:=top 71
theorem uH:FnScope ["thing","low","high"] ["thing","low","high"] (defScope o7):=s!"f"
noncomputable abbrev uI:Stmt:=top 72
theorem jo:FnScope ["key","h","sign"] ["key"] (defScope uI):=s!"f"
noncomputable abbrev uJ:Stmt:=top 73
theorem zi:FnScope ["key","many"] ["key","many"] (defScope uJ):=s!"f"
noncomputable abbrev gj:Stmt:=top 80
theorem o9:FnScope ["names"] ["names"] (defScope gj):=s!"f"
noncomputable abbrev eN:Stmt:=top 81
theorem nz:FnScope ["bounded"] ["bounded"] (defScope eN):=s!"f"
noncomputable abbrev iQ:Stmt:=top 82
theorem nA:FnScope ["key","word"] ["key","word"] (defScope iQ):=s!"f"
noncomputable abbrev jQ:Stmt:=top 83
theorem pb:FnScope ["thing"] ["thing"] (defScope jQ):=s!"f"
noncomputable abbrev jR:Stmt:=top 84
theorem pd:FnScope ["state","row"] ["state","row"] (defScope jR):=s!"f"
noncomputable abbrev m5:Stmt:=top 88
theorem sH:FnScope ["state","row"] ["state","row"] (defScope m5):=s!"f"
noncomputable abbrev pe:Stmt:=top 91
theorem fI:FnScope ["state","sender","events","deed","life"] ["state","sender"] (defScope pe):=s!"f"
noncomputable abbrev qT:Stmt:=top 92
theorem gW:FnScope ["state","sender","life","number","shelf","letter","deed","row","known","place"] ["state","sender","life","number","shelf","letter","deed"] (defScope qT):=s!"f"
noncomputable abbrev m6:Stmt:=top 106
theorem kY:FnScope ["state","row","start","most","whole","kept"] ["state","row","start","most","whole"] (defScope m6):=s!"f"
noncomputable abbrev ig:Stmt:=inClass (top 108) 0
theorem mq:FnScope ["self"] ["self"] (defScope ig):=s!"f"
noncomputable abbrev kZ:Stmt:=inClass (top 108) 1
theorem cC:FnScope ["self","bodies","last","k","body","sign"] ["self","bodies"] (defScope kZ):=s!"f"
noncomputable abbrev m7:Stmt:=inClass (top 108) 2
theorem sI:FnScope ["self"] ["self"] (defScope m7):=s!"f"
noncomputable abbrev gF:Stmt:=inClass (top 118) 0
theorem k4:FnScope ["self"] ["self"] (defScope gF):=s!"f"
noncomputable abbrev ij:Stmt:=inClass (top 118) 4
theorem mv:FnScope ["self","sender"] ["self","sender"] (defScope ij):=s!"f"
noncomputable abbrev gG:Stmt:=inClass (top 118) 6
theorem xw:FnScope ["self","number"] ["self","number"] (defScope gG):=s!"f"
noncomputable abbrev k6:Stmt:=inClass (top 118) 7
theorem Bq:FnScope ["self","number","row","place"] ["self","number","row","place"] (defScope k6):=s!"f"
noncomputable abbrev gk:Stmt:=inClass (top 118) 16
theorem pj:FnScope ["self"] ["self"] (defScope gk):=s!"f"
noncomputable abbrev k7:Stmt:=top 120
theorem Br:FnScope ["ends","spot"] ["ends","spot"] (defScope k7):=s!"f"
noncomputable abbrev fJ:Stmt:=top 121
theorem wx:FnScope ["ends","spots","spot"] ["ends","spots"] (defScope fJ):=s!"f"
noncomputable abbrev xx:Stmt:=top 122
theorem Fb:FnScope ["ends","paper","deed","spots","other","spot"] ["ends","paper","deed","spots","other"] (defScope xx):=s!"f"
noncomputable abbrev k8:Stmt:=top 123
theorem gm:FnScope ["ends","paper","pairs","number","pair","other"] ["ends","paper","pairs"] (defScope k8):=s!"f"
noncomputable abbrev qU:Stmt:=top 124
theorem gX:FnScope ["ends","paper","pairs","now","many"] ["ends","paper","pairs"] (defScope qU):=s!"f"
noncomputable abbrev uK:Stmt:=top 125
theorem zj:FnScope ["ends","pairs"] ["ends","pairs"] (defScope uK):=s!"f"
noncomputable abbrev iR:Stmt:=inClass (top 132) 0
theorem nB:FnScope ["self"] ["self"] (defScope iR):=s!"f"
noncomputable abbrev qV:Stmt:=inClass (top 132) 1
theorem pk:FnScope ["self","key","word","deed","place"] ["self","key","word","deed"] (defScope qV):=s!"f"
noncomputable abbrev uL:Stmt:=inClass (top 132) 2
theorem zk:FnScope ["self","place"] ["self","place"] (defScope uL):=s!"f"
noncomputable abbrev pq:Stmt:=inClass (top 132) 3
theorem fK:FnScope ["self","start","limit","most","found","place","letter"] ["self","start","limit","most"] (defScope pq):=s!"f"
noncomputable abbrev qW:Stmt:=top 133
theorem wy:FnScope ["thing"] ["thing"] (defScope qW):=s!"f"
noncomputable abbrev pw:Stmt:=top 134
theorem uM:FnScope ["thing"] ["thing"] (defScope pw):=s!"f"
noncomputable abbrev dG:Stmt:=top 135
theorem pA:FnScope ["thing"] ["thing"] (defScope dG):=s!"f"
noncomputable abbrev eO:Stmt:=inClass (top 136) 0
theorem jE:FnScope ["self","shelves"] ["self","shelves"] (defScope eO):=s!"f"
noncomputable abbrev iS:Stmt:=inClass (top 136) 1
theorem nC:FnScope ["self"] ["self"] (defScope iS):=s!"f"
noncomputable abbrev cx:Stmt:=inClass (top 136) 2
theorem iU:FnScope ["self"] ["self"] (defScope cx):=s!"f"
noncomputable abbrev fL:Stmt:=inClass (top 136) 3
theorem bV:FnScope ["self","name","start","shelf"] ["self","name"] (defScope fL):=s!"f"
noncomputable abbrev dO:Stmt:=inClass (top 136) 4
theorem bA:FnScope ["self","row","end","shelf"] ["self","row"] (defScope dO):=s!"f"
noncomputable abbrev eQ:Stmt:=inClass (top 136) 5
theorem jF:FnScope ["self","row"] ["self","row"] (defScope eQ):=s!"f"
noncomputable abbrev fM:Stmt:=inClass (top 136) 7
theorem eR:FnScope ["self","name","key","rows"] ["self","name","key"] (defScope fM):=s!"f"
noncomputable abbrev eV:Stmt:=inClass (top 139) 0
theorem jG:FnScope ["self"] ["self"] (defScope eV):=s!"f"
noncomputable abbrev iV:Stmt:=inClass (top 139) 1
theorem ik:FnScope ["self","name","life"] ["self","name"] (defScope iV):=s!"f"
noncomputable abbrev iW:Stmt:=inClass (top 139) 2
theorem nE:FnScope ["self","name"] ["self","name"] (defScope iW):=s!"f"
noncomputable abbrev il:Stmt:=inClass (top 139) 3
theorem mw:FnScope ["self","name","life"] ["self","name","life"] (defScope il):=s!"f"
noncomputable abbrev fN:Stmt:=inClass (top 139) 4
theorem bW:FnScope ["self","name","number","due","kept","oldest"] ["self","name","number"] (defScope fN):=s!"f"
noncomputable abbrev iX:Stmt:=inClass (top 139) 5
theorem iq:FnScope ["self","name","number","row","place","due"] ["self","name","number","row","place"] (defScope iX):=s!"f"
noncomputable abbrev fO:Stmt:=inClass (top 139) 6
theorem kg:FnScope ["self","name"] ["self","name"] (defScope fO):=s!"f"
noncomputable abbrev fP:Stmt:=inClass (top 139) 7
theorem kh:FnScope ["self","name"] ["self","name"] (defScope fP):=s!"f"
noncomputable abbrev eW:Stmt:=inClass (top 141) 0
theorem jH:FnScope ["self"] ["self"] (defScope eW):=s!"f"
noncomputable abbrev dv:Stmt:=inClass (top 144) 0
theorem k9:FnScope ["self","shelves"] ["self","shelves"] (defScope dv):=s!"f"
noncomputable abbrev dw:Stmt:=inClass (top 144) 4
theorem la:FnScope ["self","row"] ["self","row"] (defScope dw):=s!"f"
noncomputable abbrev fQ:Stmt:=inClass (top 146) 0
theorem ki:FnScope ["self","shelves"] ["self","shelves"] (defScope fQ):=s!"f"
noncomputable abbrev gY:Stmt:=inClass (top 146) 1
theorem gp:FnScope ["self","asked","events","event"] ["self","asked"] (defScope gY):=s!"f"
noncomputable abbrev jS:Stmt:=inClass (top 146) 2
theorem pB:FnScope ["self","sender"] ["self","sender"] (defScope jS):=s!"f"
noncomputable abbrev lg:Stmt:=inClass (top 146) 3
theorem qb:FnScope ["self","sender","life","number","shelf","key","word","deed"] ["self","sender","life","number","shelf","key","word","deed"] (defScope lg):=s!"f"
noncomputable abbrev jT:Stmt:=inClass (top 146) 22
theorem pC:FnScope ["self","row","start","most","whole"] ["self","row","start","most","whole"] (defScope jT):=s!"f"
noncomputable abbrev gH:Stmt:=inClass (top 146) 32
theorem lh:FnScope ["self"] ["self"] (defScope gH):=s!"f"
noncomputable abbrev m8:Stmt:=top 148
theorem sJ:FnScope ["_law_script","_law_k"] ["_law_script","_law_k"] (defScope m8):=s!"f"
noncomputable abbrev qX:Stmt:=top 149
theorem pD:FnScope ["_law_cell","_law_k","_law_number"] ["_law_cell","_law_k"] (defScope qX):=s!"f"
noncomputable abbrev uN:Stmt:=top 150
theorem mx:FnScope ["_law_number","_law_many","_law_some"] ["_law_number","_law_many"] (defScope uN):=s!"f"
noncomputable abbrev pE:Stmt:=top 151
theorem uO:FnScope ["_law_number"] ["_law_number"] (defScope pE):=s!"f"
noncomputable abbrev my:Stmt:=top 152
theorem cJ:FnScope ["_law_cell","_law_many","_law_size","_law_at","_law_base","_law_names_here","_law_k","_law_signs"] ["_law_cell","_law_many"] (defScope my):=s!"f"
noncomputable abbrev pF:Stmt:=top 153
theorem dz:FnScope ["_law_cell","_law_many","_law_size","_law_base","_law_at","_law_keys_here","_law_k","_law_signs"] ["_law_cell","_law_many"] (defScope pF):=s!"f"
noncomputable abbrev qY:Stmt:=top 154
theorem wz:FnScope ["_law_found","_law_due_here"] ["_law_found","_law_due_here"] (defScope qY):=s!"f"
noncomputable abbrev xy:Stmt:=top 155
theorem bP:FnScope ["_law_cellar","_law_sender","_law_life","_law_number","_law_letter_here","_law_told","e"] ["_law_cellar","_law_sender","_law_life","_law_number","_law_letter_here"] (defScope xy):=s!"f"
noncomputable abbrev xA:Stmt:=top 156
theorem uP:FnScope ["_law_kept","_law_sender","_law_life","_law_number","_law_deed","_law_last"] ["_law_kept","_law_sender","_law_life","_law_number","_law_deed"] (defScope xA):=s!"f"
noncomputable abbrev pG:Stmt:=top 157
theorem bG:FnScope ["_law_each","_law_kept","_law_way","_law_life","_law_number","_law_deed"] ["_law_each","_law_kept"] (defScope pG):=s!"f"
noncomputable abbrev uQ:Stmt:=top 158
theorem bQ:FnScope ["_law_cellar","_law_senders","_law_kept","_law_each","_law_letter_here","_law_at","_law_way","_law_life","_law_number","_law_deed","_law_before","_law_due_here","_law_found","_law_row"] ["_law_cellar","_law_senders","_law_kept","_law_each","_law_letter_here"] (defScope uQ):=s!"f"
noncomputable abbrev Dq:Stmt:=top 159
theorem gq:FnScope ["_law_script","_law_cell","_law_many","_law_names_here","_law_cellar","_law_senders","_law_keys_here","_law_kept","_law_each","_law_letter_here"] ["_law_script"] (defScope Dq):=s!"f"
set_option genInjectivity false in
structure Adr where
 {C_BadWord C_Fenced C_Gap C_NoDeed C_NoSuch C_TooOld C_Shelves C_Deeds C_Cellar C_State C_Book C_Readers C_Row C_Senders f_NoSuch___init__ f_Fenced___init__ f_Gap___init__ f_TooOld___init__ f_NoDeed___init__ f_guarded f_joined f_sum_of f_line_of f_word_text f_owner_text f_text_of f_event_of f_body_for f_body_for_shelves f_hail_happens f_put_happens f_happen f_is_text f_is_sign f_is_name f_is_key f_is_word f_is_whole f_spread f_row_in f_check_names f_check_wholes f_check_letter f_check_truth f_check_there f_asked_row f_hail_act f_put_act f_read_from f_Book___init__ f_Book_write f_Book_told f_Deeds___init__ f_Deeds_open_of f_Deeds_numbered f_Deeds_hold f_Deeds_pairs f_is_beneath f_row_not_beneath f_lower f_lower_once f_lowered f_fronts f_Row___init__ f_Row_add f_Row_at f_Row_seen f_is_kind f_is_shelf f_are_shelves f_Shelves___init__ f_Shelves_told f_Shelves_many_rows f_Shelves_rows_of f_Shelves_shelf_with f_Shelves_shelf_at f_Shelves_row_for f_Senders___init__ f_Senders_hail f_Senders_need f_Senders_allow f_Senders_spot_of f_Senders_note f_Senders_life_of f_Senders_last_of f_Readers___init__ f_State___init__ f_State_front_at f_Cellar___init__ f_Cellar_act f_Cellar_hail f_Cellar_put f_Cellar_read f_Cellar_written f_l_cell_at f_l_mixed f_l_sign f_l_letter f_l_names f_l_keys f_l_whole f_l_put f_l_due f_l_turned f_l_step f_law p_PARTS_put p_PARTS_hail:Addr}
 {d_NoSuch___init__ d_Fenced___init__ d_Gap___init__ d_TooOld___init__ d_NoDeed___init__ d_guarded d_joined d_sum_of d_line_of d_word_text d_owner_text d_text_of d_event_of d_body_for d_body_for_shelves d_hail_happens d_put_happens d_happen d_is_text d_is_sign d_is_name d_is_key d_is_word d_is_whole d_spread d_row_in d_check_names d_check_wholes d_check_letter d_check_truth d_check_there d_asked_row d_hail_act d_put_act d_read_from d_Book___init__ d_Book_write d_Book_told d_Deeds___init__ d_Deeds_open_of d_Deeds_numbered d_Deeds_hold d_Deeds_pairs d_is_beneath d_row_not_beneath d_lower d_lower_once d_lowered d_fronts d_Row___init__ d_Row_add d_Row_at d_Row_seen d_is_kind d_is_shelf d_are_shelves d_Shelves___init__ d_Shelves_told d_Shelves_many_rows d_Shelves_rows_of d_Shelves_shelf_with d_Shelves_shelf_at d_Shelves_row_for d_Senders___init__ d_Senders_hail d_Senders_need d_Senders_allow d_Senders_spot_of d_Senders_note d_Senders_life_of d_Senders_last_of d_Readers___init__ d_State___init__ d_State_front_at d_Cellar___init__ d_Cellar_act d_Cellar_hail d_Cellar_put d_Cellar_read d_Cellar_written d_l_cell_at d_l_mixed d_l_sign d_l_letter d_l_names d_l_keys d_l_whole d_l_put d_l_due d_l_turned d_l_step d_law:FuncData}
 {e1_Row_add i_Row_add e1_Cellar_put e2_Cellar_put i_Cellar_put e1_Cellar_read e2_Cellar_read i_Cellar_read:List Value}
structure Txt (w:World)(K:W.Frag)(mg:Str->Option Value)(a:Adr):Prop where
 wA:mg "Shelves"=some (.ref a.C_Shelves)
 A7:mg "Deeds"=some (.ref a.C_Deeds)
 zl:mg "Cellar"=some (.ref a.C_Cellar)
 A8:mg "State"=some (.ref a.C_State)
 CI:mg "Book"=some (.ref a.C_Book)
 wB:mg "Readers"=some (.ref a.C_Readers)
 Et:mg "Row"=some (.ref a.C_Row)
 wC:mg "Senders"=some (.ref a.C_Senders)
 Eu:mg "BadWord"=some (.ref a.C_BadWord)
 qZ:mg "Fenced"=some (.ref a.C_Fenced)
 A9:mg "Gap"=some (.ref a.C_Gap)
 rf:mg "NoDeed"=some (.ref a.C_NoDeed)
 jq:mg "NoSuch"=some (.ref a.C_NoSuch)
 rg:mg "TooOld"=some (.ref a.C_TooOld)
 zm:Mk K a.C_Shelves a.f_Shelves___init__
 CJ:Mk K a.C_Deeds a.f_Deeds___init__
 Ba:Mk K a.C_Cellar a.f_Cellar___init__
 CL:Mk K a.C_State a.f_State___init__
 Ew:Mk K a.C_Book a.f_Book___init__
 zp:Mk K a.C_Readers a.f_Readers___init__
 Fc:Mk K a.C_Row a.f_Row___init__
 zr:Mk K a.C_Senders a.f_Senders___init__
 zt:Xi K a.C_Fenced a.f_Fenced___init__
 zu:Xf K a.f_Fenced___init__
 Ey:Xi K a.C_Gap a.f_Gap___init__
 Ez:Xf K a.f_Gap___init__
 zw:Xi K a.C_NoDeed a.f_NoDeed___init__
 zx:Xf K a.f_NoDeed___init__
 mz:Xi K a.C_NoSuch a.f_NoSuch___init__
 mB:Xf K a.f_NoSuch___init__
 zy:Xi K a.C_TooOld a.f_TooOld___init__
 zz:Xf K a.f_TooOld___init__
 cm:FI K "NoSuch.__init__" fD ["self","name"] a.f_NoSuch___init__ a.d_NoSuch___init__
 fR:FI K "Fenced.__init__" fE ["self","life"] a.f_Fenced___init__ a.d_Fenced___init__
 iY:FI K "Gap.__init__" iO ["self","due"] a.f_Gap___init__ a.d_Gap___init__
 fS:FI K "TooOld.__init__" fF ["self","number"] a.f_TooOld___init__ a.d_TooOld___init__
 fU:FI K "NoDeed.__init__" fG ["self","name"] a.f_NoDeed___init__ a.d_NoDeed___init__
 jr:FT K mg "guarded" qN ["text"] a.f_guarded a.d_guarded
 eX:FT K mg "joined" oX ["fields"] a.f_joined a.d_joined
 lj:FT K mg "sum_of" uF ["text"] a.f_sum_of a.d_sum_of
 jt:FT K mg "line_of" qO ["number","body"] a.f_line_of a.d_line_of
 fV:FT K mg "word_text" m3 ["word"] a.f_word_text a.d_word_text
 gZ:FT K mg "owner_text" kX ["owner"] a.f_owner_text a.d_owner_text
 ju:FT K mg "text_of" qP ["part","value"] a.f_text_of a.d_text_of
 bK:FT K mg "event_of" oZ ["name","values"] a.f_event_of a.d_event_of
 g9:FT K mg "body_for" kf ["event"] a.f_body_for a.d_body_for
 bX:FT K mg "body_for_shelves" eL ["shelves"] a.f_body_for_shelves a.d_body_for_shelves
 eY:FT K mg "hail_happens" iP ["state","event"] a.f_hail_happens a.d_hail_happens
 gs:FT K mg "put_happens" jP ["state","event"] a.f_put_happens a.d_put_happens
 ll:FT K mg "happen" uG ["state","event"] a.f_happen a.d_happen
 cg:FT K mg "is_text" qR ["thing","least","most"] a.f_is_text a.d_is_text
 dA:FT K mg "is_sign" qS ["sign"] a.f_is_sign a.d_is_sign
 dB:FT K mg "is_name" mj ["thing"] a.f_is_name a.d_is_name
 lq:FT K mg "is_key" o6 ["thing"] a.f_is_key a.d_is_key
 jv:FT K mg "is_word" ml ["thing"] a.f_is_word a.d_is_word
 cK:FT K mg "is_whole" o7 ["thing","low","high"] a.f_is_whole a.d_is_whole
 lu:FT K mg "spread" uI ["key"] a.f_spread a.d_spread
 lz:FT K mg "row_in" uJ ["key","many"] a.f_row_in a.d_row_in
 bL:FT K mg "check_names" gj ["names"] a.f_check_names a.d_check_names
 aV:FT K mg "check_wholes" eN ["bounded"] a.f_check_wholes a.d_check_wholes
 cV:FT K mg "check_letter" iQ ["key","word"] a.f_check_letter a.d_check_letter
 dH:FT K mg "check_truth" jQ ["thing"] a.f_check_truth a.d_check_truth
 dI:FT K mg "check_there" jR ["state","row"] a.f_check_there a.d_check_there
 fW:FT K mg "asked_row" m5 ["state","row"] a.f_asked_row a.d_asked_row
 hG:FT K mg "hail_act" pe ["state","sender"] a.f_hail_act a.d_hail_act
 jw:FT K mg "put_act" qT ["state","sender","life","number","shelf","letter","deed"] a.f_put_act a.d_put_act
 fX:FT K mg "read_from" m6 ["state","row","start","most","whole"] a.f_read_from a.d_read_from
 iu:FI K "Book.__init__" ig ["self"] a.f_Book___init__ a.d_Book___init__
 cW:FM K a.C_Book "write" "Book.write" kZ ["self","bodies"] a.f_Book_write a.d_Book_write
 iZ:FM K a.C_Book "told" "Book.told" m7 ["self"] a.f_Book_told a.d_Book_told
 gI:FI K "Deeds.__init__" gF ["self"] a.f_Deeds___init__ a.d_Deeds___init__
 b9:FM K a.C_Deeds "open_of" "Deeds.open_of" ij ["self","sender"] a.f_Deeds_open_of a.d_Deeds_open_of
 zA:FM K a.C_Deeds "numbered" "Deeds.numbered" gG ["self","number"] a.f_Deeds_numbered a.d_Deeds_numbered
 CO:FM K a.C_Deeds "hold" "Deeds.hold" k6 ["self","number","row","place"] a.f_Deeds_hold a.d_Deeds_hold
 gu:FM K a.C_Deeds "pairs" "Deeds.pairs" gk ["self"] a.f_Deeds_pairs a.d_Deeds_pairs
 CP:FT K mg "is_beneath" k7 ["ends","spot"] a.f_is_beneath a.d_is_beneath
 xB:FT K mg "row_not_beneath" fJ ["ends","spots"] a.f_row_not_beneath a.d_row_not_beneath
 Fn:FT K mg "lower" xx ["ends","paper","deed","spots","other"] a.f_lower a.d_lower
 dU:FT K mg "lower_once" k8 ["ends","paper","pairs"] a.f_lower_once a.d_lower_once
 jx:FT K mg "lowered" qU ["ends","paper","pairs"] a.f_lowered a.d_lowered
 lA:FT K mg "fronts" uK ["ends","pairs"] a.f_fronts a.d_fronts
 i0:FI K "Row.__init__" iR ["self"] a.f_Row___init__ a.d_Row___init__
 zB:Meth K a.C_Row "add" a.f_Row_add
 zC:FunD K "add" "Row.add" qV a.f_Row_add a.d_Row_add a.i_Row_add
 zD:Binds K a.d_Row_add ["self","key","word","deed"] []
 EA:Binds K a.d_Row_add ["self","key","word","deed"] a.e1_Row_add
 EB:Vals [.int 0] a.e1_Row_add
 pH:FM K a.C_Row "at" "Row.at" uL ["self","place"] a.f_Row_at a.d_Row_at
 kj:FM K a.C_Row "seen" "Row.seen" pq ["self","start","limit","most"] a.f_Row_seen a.d_Row_seen
 jy:FT K mg "is_kind" qW ["thing"] a.f_is_kind a.d_is_kind
 hJ:FT K mg "is_shelf" pw ["thing"] a.f_is_shelf a.d_is_shelf
 dJ:FT K mg "are_shelves" dG ["thing"] a.f_are_shelves a.d_are_shelves
 eZ:FI K "Shelves.__init__" eO ["self","shelves"] a.f_Shelves___init__ a.d_Shelves___init__
 fb:FM K a.C_Shelves "told" "Shelves.told" iS ["self"] a.f_Shelves_told a.d_Shelves_told
 cy:FM K a.C_Shelves "many_rows" "Shelves.many_rows" cx ["self"] a.f_Shelves_many_rows a.d_Shelves_many_rows
 cX:FM K a.C_Shelves "rows_of" "Shelves.rows_of" fL ["self","name"] a.f_Shelves_rows_of a.d_Shelves_rows_of
 cp:FM K a.C_Shelves "shelf_with" "Shelves.shelf_with" dO ["self","row"] a.f_Shelves_shelf_with a.d_Shelves_shelf_with
 cL:FM K a.C_Shelves "shelf_at" "Shelves.shelf_at" eQ ["self","row"] a.f_Shelves_shelf_at a.d_Shelves_shelf_at
 cY:FM K a.C_Shelves "row_for" "Shelves.row_for" fM ["self","name","key"] a.f_Shelves_row_for a.d_Shelves_row_for
 fc:FI K "Senders.__init__" eV ["self"] a.f_Senders___init__ a.d_Senders___init__
 fe:FM K a.C_Senders "hail" "Senders.hail" iV ["self","name"] a.f_Senders_hail a.d_Senders_hail
 a8:FM K a.C_Senders "need" "Senders.need" iW ["self","name"] a.f_Senders_need a.d_Senders_need
 dR:FM K a.C_Senders "allow" "Senders.allow" il ["self","name","life"] a.f_Senders_allow a.d_Senders_allow
 cZ:FM K a.C_Senders "spot_of" "Senders.spot_of" fN ["self","name","number"] a.f_Senders_spot_of a.d_Senders_spot_of
 fg:FM K a.C_Senders "note" "Senders.note" iX ["self","name","number","row","place"] a.f_Senders_note a.d_Senders_note
 bH:FM K a.C_Senders "life_of" "Senders.life_of" fO ["self","name"] a.f_Senders_life_of a.d_Senders_life_of
 da:FM K a.C_Senders "last_of" "Senders.last_of" fP ["self","name"] a.f_Senders_last_of a.d_Senders_last_of
 fh:FI K "Readers.__init__" eW ["self"] a.f_Readers___init__ a.d_Readers___init__
 gJ:FI K "State.__init__" dv ["self","shelves"] a.f_State___init__ a.d_State___init__
 dC:FM K a.C_State "front_at" "State.front_at" dw ["self","row"] a.f_State_front_at a.d_State_front_at
 fY:FI K "Cellar.__init__" fQ ["self","shelves"] a.f_Cellar___init__ a.d_Cellar___init__
 df:FM K a.C_Cellar "act" "Cellar.act" gY ["self","asked"] a.f_Cellar_act a.d_Cellar_act
 bM:FM K a.C_Cellar "hail" "Cellar.hail" jS ["self","sender"] a.f_Cellar_hail a.d_Cellar_hail
 lB:Meth K a.C_Cellar "put" a.f_Cellar_put
 sM:FunD K "put" "Cellar.put" lg a.f_Cellar_put a.d_Cellar_put a.i_Cellar_put
 lC:Binds K a.d_Cellar_put ["self","sender","life","number","shelf","key","word","deed"] []
 Bs:Binds K a.d_Cellar_put ["self","sender","life","number","shelf","key","word","deed"] a.e1_Cellar_put
 Bt:Vals [.int 0] a.e1_Cellar_put
 Bu:Binds K a.d_Cellar_put ["self","sender","life","number","shelf","key","word","deed"] a.e2_Cellar_put
 Bv:Vals [.non,.int 0] a.e2_Cellar_put
 qc:Meth K a.C_Cellar "read" a.f_Cellar_read
 qf:FunD K "read" "Cellar.read" jT a.f_Cellar_read a.d_Cellar_read a.i_Cellar_read
 Bw:Binds K a.d_Cellar_read ["self","row","start","most","whole"] []
 pI:Binds K a.d_Cellar_read ["self","row","start","most","whole"] a.e1_Cellar_read
 pJ:Vals [.bl true] a.e1_Cellar_read
 Bb:Binds K a.d_Cellar_read ["self","row","start","most","whole"] a.e2_Cellar_read
 Bc:Vals [.int 10,.bl true] a.e2_Cellar_read
 ba:FM K a.C_Cellar "written" "Cellar.written" gH ["self"] a.f_Cellar_written a.d_Cellar_written
 cu:FT K mg "_law_cell_at" m8 ["_law_script","_law_k"] a.f_l_cell_at a.d_l_cell_at
 ao:FT K mg "_law_mixed" qX ["_law_cell","_law_k"] a.f_l_mixed a.d_l_mixed
 fi:FT K mg "_law_sign" uN ["_law_number","_law_many"] a.f_l_sign a.d_l_sign
 cM:FT K mg "_law_letter" pE ["_law_number"] a.f_l_letter a.d_l_letter
 jA:FT K mg "_law_names" my ["_law_cell","_law_many"] a.f_l_names a.d_l_names
 lD:FT K mg "_law_keys" pF ["_law_cell","_law_many"] a.f_l_keys a.d_l_keys
 jB:FT K mg "_law_whole" qY ["_law_found","_law_due_here"] a.f_l_whole a.d_l_whole
 nY:FT K mg "_law_put" xy ["_law_cellar","_law_sender","_law_life","_law_number","_law_letter_here"] a.f_l_put a.d_l_put
 nZ:FT K mg "_law_due" xA ["_law_kept","_law_sender","_law_life","_law_number","_law_deed"] a.f_l_due a.d_l_due
 hV:FT K mg "_law_turned" pG ["_law_each","_law_kept"] a.f_l_turned a.d_l_turned
 lE:FT K mg "_law_step" uQ ["_law_cellar","_law_senders","_law_kept","_law_each","_law_letter_here"] a.f_l_step a.d_l_step
 Dr:FT K mg "law" Dq ["_law_script"] a.f_law a.d_law
 bw:Cls K a.C_Shelves
 bx:NoAttr K a.C_Shelves "shelves"
 fj:Cls K a.C_Deeds
 jU:NoAttr K a.C_Deeds "busy"
 i4:NoAttr K a.C_Deeds "deeds"
 aN:Cls K a.C_Cellar
 dh:NoAttr K a.C_Cellar "book"
 bC:NoAttr K a.C_Cellar "state"
 aI:Cls K a.C_State
 di:NoAttr K a.C_State "deeds"
 nF:NoAttr K a.C_State "groups"
 mC:NoAttr K a.C_State "readers"
 cD:NoAttr K a.C_State "rows"
 aY:NoAttr K a.C_State "senders"
 bR:NoAttr K a.C_State "shelves"
 qg:NoAttr K a.C_State "turn"
 dM:Cls K a.C_Book
 bN:NoAttr K a.C_Book "lines"
 pK:Cls K a.C_Readers
 lF:NoAttr K a.C_Readers "places"
 nG:NoAttr K a.C_Readers "rows"
 cz:Cls K a.C_Row
 sN:NoAttr K a.C_Row "drawn"
 dD:NoAttr K a.C_Row "end"
 ia:NoAttr K a.C_Row "first"
 fk:NoAttr K a.C_Row "letters"
 aB:Cls K a.C_Senders
 aZ:NoAttr K a.C_Senders "lasts"
 br:NoAttr K a.C_Senders "lives"
 bt:NoAttr K a.C_Senders "spots"
 EG:XCls K a.C_BadWord
 Ds:W.findIn K (.ref a.C_BadWord) "__init__"=some (some (.builtin "ValueError.__init__"))
 xC:Em K a.C_BadWord a.C_Fenced false
 Bd:Em K a.C_BadWord a.C_Gap false
 xD:Em K a.C_BadWord a.C_NoDeed false
 xE:Em K a.C_BadWord a.C_NoSuch false
 xF:Em K a.C_BadWord a.C_TooOld false
 pL:XCls K a.C_Fenced
 i5:NoAttr K a.C_Fenced "life"
 mD:Em K a.C_Fenced a.C_Fenced true
 Bx:Em K a.C_Fenced a.C_Gap false
 zE:Em K a.C_Fenced a.C_NoDeed false
 zF:Em K a.C_Fenced a.C_NoSuch false
 zG:Em K a.C_Fenced a.C_TooOld false
 Be:XCls K a.C_Gap
 pM:NoAttr K a.C_Gap "due"
 qh:Em K a.C_Gap a.C_Fenced false
 wD:Em K a.C_Gap a.C_Gap true
 By:Em K a.C_Gap a.C_NoDeed false
 Bz:Em K a.C_Gap a.C_NoSuch false
 BA:Em K a.C_Gap a.C_TooOld false
 pN:XCls K a.C_NoDeed
 i6:NoAttr K a.C_NoDeed "name"
 mE:Em K a.C_NoDeed a.C_Fenced false
 qi:Em K a.C_NoDeed a.C_Gap false
 mF:Em K a.C_NoDeed a.C_NoDeed true
 zH:Em K a.C_NoDeed a.C_NoSuch false
 mG:Em K a.C_NoDeed a.C_TooOld false
 i7:XCls K a.C_NoSuch
 i8:NoAttr K a.C_NoSuch "name"
 mH:Em K a.C_NoSuch a.C_Fenced false
 qj:Em K a.C_NoSuch a.C_Gap false
 mI:Em K a.C_NoSuch a.C_NoDeed false
 mJ:Em K a.C_NoSuch a.C_NoSuch true
 mK:Em K a.C_NoSuch a.C_TooOld false
 pO:XCls K a.C_TooOld
 gK:NoAttr K a.C_TooOld "number"
 mL:Em K a.C_TooOld a.C_Fenced false
 qk:Em K a.C_TooOld a.C_Gap false
 zI:Em K a.C_TooOld a.C_NoDeed false
 zJ:Em K a.C_TooOld a.C_NoSuch false
 mM:Em K a.C_TooOld a.C_TooOld true
 rh:mg "all"=none
 Bf:mg "bool"=none
 m9:mg "enumerate"=none
 Bg:mg "int"=none
 bc:mg "isinstance"=none
 cf:mg "len"=none
 ib:mg "list"=none
 xG:mg "max"=none
 Fd:mg "min"=none
 Bh:mg "ord"=none
 ic:mg "range"=none
 Fe:mg "set"=none
 Ff:mg "sorted"=none
 ng:mg "str"=none
 Dt:mg "sum"=none
 xH:mg "tuple"=none
 Fg:mg "zip"=none
 fm:GConst mg "GREATEST" (.int 1000000000)
 sO:L2.DCon w K mg "HAPPENINGS" [("hail",.ref a.f_hail_happens),("put",.ref a.f_put_happens)]
 wF:GConst mg "KEY_MOST" (.int 24)
 CQ:TConst K mg "KINDS" [.str "table",.str "stream"]
 pP:GConst mg "LETTERS_MOST" (.int 1000)
 uR:GConst mg "NAME_MOST" (.int 12)
 sQ:GConst mg "NAME_SIGNS" (.str "abcdefghijklmnopqrstuvwxyz0123456789")
 xI:L2.DCon w K mg "PARTS" [("hail",.ref a.p_PARTS_hail),("put",.ref a.p_PARTS_put)]
 wG:GConst mg "PER_CENT" (.int 37)
 uS:GConst mg "ROWS_MOST" (.int 9)
 pQ:GConst mg "SHELVES_MOST" (.int 6)
 sR:GConst mg "SPOTS_KEPT" (.int 8)
 CS:TConst K mg "TEXTS" [.str "sender",.str "key",.str "group",.str "shelf",.str "taker",.str "reader"]
 uT:GConst mg "WORD_MOST" (.int 200)
 EC:∀(s:Shared) (u:Value),BindsTo s a.d_law ⟨[u],[]⟩ [("_law_script",u)]
 lG:∀H,SqT K H a.p_PARTS_put [.str "sender",.str "number",.str "deed",.str "row",.str "place",.str "key",.str "word"]
 jV:∀H,SqT K H a.p_PARTS_hail [.str "sender",.str "life"]
def rdN:String:="rSw rSplit rZf iEnum1 EF tAug tCT tLR1 tLR2 tLenSet tIxD tCallV gC vT yS vU EE vA vB t6 uc kQ nk ud vJ vD oF oG vK AN yt yu yw yA yH yI yJ yK yL vP yM yN vM yE Eo yG vN uh vO tV vx yl tU AM ub vI yR yP yQ rTupOf Ay vq Ca sXs tRaise tRaise0 tTry tXFld xMeth xCall xMake xNo tAs tBare tNoH Ends.less iZipT um uo sr vV uq su sv ur mf oR y4 uv vZ uy sC uz uA sD v5 v7 wa mh wb p9 wc zd sF Cz we yF A3 vt Fy and_assoc Fi EU Fz Fj iRng1 iRng2 rSlS tSl tNoPart tPart tBM tBM0 tyV rJoin tLst tTup tSeq tAsg gName gTup gCons gNil gSub tC tOp tUn rU rI rI0 tTest tIfS tRet tRetN tNext tBreak tCont tDrop tCons tNil tCall tMeth tMake tCB tB tNot tAnd tOr tAndV tOrV tNotV tChain tIf tIsN tNotN tFld sFld tInRng tInRng1 tDGet1 tDGet2 tDPop1 tDPop2 tDisp tPairs tDNewK rAppend rMax rMin iZip iEnum rStrI Fm E3 EZ iItems iKeys iRev tDClear tS EV rR B9 Fl D6 Fo Fp Fq Fs rOrd tTru Fv Fw Fx Ft rIxS2 Fu CZ BV C8 BW Bl BX D1 Dc D3 De BY Df Dg BZ Dh B0 Bm B1 Di B5 Dj B6 Bo B8 _root_.L2.start CMul CDiv CPow Int.reduceNeg Int.reducePow Int.reduceLT Int.reduceLE Int.reduceToNat or_true true_or and_self Nat.reducePow mapC mapN onRx onBx List.length_cons List.length_nil List.replicate List.cons_append List.nil_append List.append_nil Nat.reduceAdd Nat.reduceSub Nat.zero_add Nat.add_zero Nat.sub_self List.getElem?_cons_zero List.getElem?_cons_succ List.set_cons_zero List.set_cons_succ Option.some.injEq V.int.injEq V.bl.injEq V.str.injEq V.ref.injEq V.ty.injEq reduceCtorEq exists_eq exists_eq' not_true_eq_false not_false_eq_true exists_eq_left' exists_eq_left exists_eq_right exists_eq_right' exists_and_left exists_and_right exists_const false_and and_false true_and and_true exists_false or_false false_or List.cons.injEq eq_self_iff_true Bool.false_eq_true Bool.or_self Bool.or_true Bool.true_or Bool.or_false Bool.false_or if_true if_false ite_true ite_false Bool.not_true Bool.not_false decide_eq_true_eq Bool.not_eq_true' decide_eq_false_iff_not"
open Lean in
def rdM (d:String):MacroM (TSyntax `tactic):=do
 let ds:=d.splitOn " "
 let ls <-((rdN.splitOn " ").filter λs=>!ds.contains s).mapM λs=>`(Parser.Tactic.simpLemma| $(mkIdent s.toName):term)
 let ls:=ls.toArray
 `(tactic| simp(maxSteps:=3000000) only[$ls,*,↓reduceIte,↓$(Lean.mkIdent `tV0):term,↓$(Lean.mkIdent `tVs):term,↓$(Lean.mkIdent `onRr):term,↓$(Lean.mkIdent `onBb):term])
local macro_rules | `(tactic| walk_at "rd")=>rdM "iZipT um uo sr vV uq su sv ur mf oR y4 uv vZ uy sC uz uA sD v5 v7 wa mh wb p9 wc zd sF Cz we yF A3 vt"
open Lean in
local macro_rules | `(tactic| walk_at "c1")=>do `(tactic| (refine cut1 fun $(mkIdent `Rz) $(mkIdent `hRz)=>?_;walk_at "rd"))
open Lean in
local macro_rules | `(tactic| walk_at "c2")=>do `(tactic| (refine cut2 fun $(mkIdent `Rz) $(mkIdent `hRz)=>?_;walk_at "rd"))
open Lean in
local macro_rules | `(tactic| walk_at "ls")=>do `(tactic| (refine nx0 $(mkIdent `hRz) ?_;clear $(mkIdent `hRz);walk_at "rd"))
open Lean in
local macro_rules | `(tactic| walk_at "nx")=>do `(tactic| (refine nx1 $(mkIdent `hRz) ?_;clear $(mkIdent `hRz);intro $(mkIdent `Rz) $(mkIdent `hRz);walk_at "rd"))
open Lean in
local macro_rules | `(tactic| walk_at "n2")=>do `(tactic| (refine nx2 $(mkIdent `hRz) ?_;clear $(mkIdent `hRz);intro $(mkIdent `Rz) $(mkIdent `hRz);walk_at "rd"))
seal PE PT PW PA PS PSs PG PGs PI PO PPs PC
section
variable {P:Program} {w:World} {K:W.Frag} {mg:Str->Option Value} {base:Heap} {a:Adr}
theorem km (T:Txt w K mg a):FnOk P w K mg base CX0 1 a.f_Fenced___init__ a.d_Fenced___init__ ["self","life"] (oC a.C_Fenced ["life"]):=by
 refine T.fR.F.ok j9 (λvs H Q E h=>?_) (λcdv A outer s H vs Q E hr h=>?_)
 ·(revert h;refine ow32 λea t ys zz1 hl _=>?_;subst zz1)
  rw[List.length_cons,hl];rfl
 ·(revert h;refine ow33 λea t ys zz1 hl he q=>?_;subst zz1)
  obtain⟨y0,rfl⟩:∃y0,ys=[y0]:=by
   match ys,hl with
   | [y0],_=>exact⟨y0,rfl⟩
  refine(iw11 _ (ai (kP (pv 0) (pv 1) rfl)) ?_);walk_at "rd";exact(iw12 a.C_Fenced T.pL T.i5 (iw10 t (.inl ⟨he,λd hd nd=>q d _ hd nd (λb h1 h2=>by rw[aj h2,aj h1]) ae (by rw[aj nd];exact ae)⟩)))
theorem nH (T:Txt w K mg a):FnOk P w K mg base CX0 1 a.f_Gap___init__ a.d_Gap___init__ ["self","due"] (oC a.C_Gap ["due"]):=by
 refine T.iY.F.ok nv (λvs H Q E h=>?_) (λcdv A outer s H vs Q E hr h=>?_)
 ·(revert h;refine ow32 λea t ys zz1 hl _=>?_;subst zz1)
  rw[List.length_cons,hl];rfl
 ·(revert h;refine ow33 λea t ys zz1 hl he q=>?_;subst zz1)
  obtain⟨y0,rfl⟩:∃y0,ys=[y0]:=by
   match ys,hl with
   | [y0],_=>exact⟨y0,rfl⟩
  refine(iw11 _ (ai (kP (pv 0) (pv 1) rfl)) ?_);walk_at "rd";exact(iw12 a.C_Gap T.Be T.pM (iw10 t (.inl ⟨he,λd hd nd=>q d _ hd nd (λb h1 h2=>by rw[aj h2,aj h1]) ae (by rw[aj nd];exact ae)⟩)))
theorem kn (T:Txt w K mg a):FnOk P w K mg base CX0 1 a.f_NoDeed___init__ a.d_NoDeed___init__ ["self","name"] (oC a.C_NoDeed ["name"]):=by
 refine T.fU.F.ok kc (λvs H Q E h=>?_) (λcdv A outer s H vs Q E hr h=>?_)
 ·(revert h;refine ow32 λea t ys zz1 hl _=>?_;subst zz1)
  rw[List.length_cons,hl];rfl
 ·(revert h;refine ow33 λea t ys zz1 hl he q=>?_;subst zz1)
  obtain⟨y0,rfl⟩:∃y0,ys=[y0]:=by
   match ys,hl with
   | [y0],_=>exact⟨y0,rfl⟩
  refine(iw11 _ (ai (kP (pv 0) (pv 1) rfl)) ?_);walk_at "rd";exact(iw12 a.C_NoDeed T.pN T.i6 (iw10 t (.inl ⟨he,λd hd nd=>q d _ hd nd (λb h1 h2=>by rw[aj h2,aj h1]) ae (by rw[aj nd];exact ae)⟩)))
theorem cN (T:Txt w K mg a):FnOk P w K mg base CX0 1 a.f_NoSuch___init__ a.d_NoSuch___init__ ["self","name"] (oC a.C_NoSuch ["name"]):=by
 refine T.cm.F.ok j8 (λvs H Q E h=>?_) (λcdv A outer s H vs Q E hr h=>?_)
 ·(revert h;refine ow32 λea t ys zz1 hl _=>?_;subst zz1)
  rw[List.length_cons,hl];rfl
 ·(revert h;refine ow33 λea t ys zz1 hl he q=>?_;subst zz1)
  obtain⟨y0,rfl⟩:∃y0,ys=[y0]:=by
   match ys,hl with
   | [y0],_=>exact⟨y0,rfl⟩
  refine(iw11 _ (ai (kP (pv 0) (pv 1) rfl)) ?_);walk_at "rd";exact(iw12 a.C_NoSuch T.i7 T.i8 (iw10 t (.inl ⟨he,λd hd nd=>q d _ hd nd (λb h1 h2=>by rw[aj h2,aj h1]) ae (by rw[aj nd];exact ae)⟩)))
theorem ko (T:Txt w K mg a):FnOk P w K mg base CX0 1 a.f_TooOld___init__ a.d_TooOld___init__ ["self","number"] (oC a.C_TooOld ["number"]):=by
 refine T.fS.F.ok ka (λvs H Q E h=>?_) (λcdv A outer s H vs Q E hr h=>?_)
 ·(revert h;refine ow32 λea t ys zz1 hl _=>?_;subst zz1)
  rw[List.length_cons,hl];rfl
 ·(revert h;refine ow33 λea t ys zz1 hl he q=>?_;subst zz1)
  obtain⟨y0,rfl⟩:∃y0,ys=[y0]:=by
   match ys,hl with
   | [y0],_=>exact⟨y0,rfl⟩
  refine(iw11 _ (ai (kP (pv 0) (pv 1) rfl)) ?_);walk_at "rd";exact(iw12 a.C_TooOld T.pO T.gK (iw10 t (.inl ⟨he,λd hd nd=>q d _ hd nd (λb h1 h2=>by rw[aj h2,aj h1]) ae (by rw[aj nd];exact ae)⟩)))
theorem aP (T:Txt w K mg a):FnOk P w K mg base CX0 1 a.f_l_mixed a.d_l_mixed ["_law_cell","_law_k"] Ay:=by
 refine T.ao.F.ok pD (λvs H Q E h=>?_) (λcdv A outer s H vs Q E hr h=>?_)
 ·(revert h;refine ow21 λc k zz1 _=>?_;subst zz1)
  rfl
 ·(revert h;refine ow21 λc k zz1 q=>?_;subst zz1)
  refine(iw11 _ (ag (aw (i:=2) pD.nd rfl (Or.inl rfl) (aD bI (aD (aF (K:=K)) (aD (aF (K:=K)) (aD gP (aD bI (pv 0) ah) ah) (aD gP ah (pv 1))) ah) ah))
   (ai (ar (aD bI (aD gP (pv 2) (pv 2)) ah)))) ?_)
  walk_at "rd";refine⟨.inl ?_,q⟩;omega
theorem lH (T:Txt w K mg a):FnOk P w K mg base CX0 1 a.f_l_cell_at a.d_l_cell_at ["_law_script","_law_k"] (vq K):=by
 refine T.cu.F.ok sJ (λvs H Q E h=>?_) (λcdv A outer s H vs Q E hr h=>?_)
 ·(revert h;refine ow31 λp ns k zz1 _=>?_;subst zz1)
  rfl
 ·(revert h;refine ow33 λp ns k zz1 hs hk q=>?_;subst zz1)
  refine(iw11 _ (ag (aQ (aE j4 (pv 1) (ax (aH (K:=K)) (by rfl) T.cf boot_len (aa (pv 0) af)) (nomark _)) (ai (ar (av (ak (K:=K) (hU1 hr)) (pv 0) (pv 1) (λ_ _=>rfl)))) aC)
   (ai (ar ah))) ?_)
  walk_at "rd";refine bB hs ?_;walk_at "rd";rw[List.length_map];refine ite2 (λhlt=>?_) (λhge=>?_)
  ·refine aT hs (v:=.int (ns.getD k.toNat 0)) (bZ hk ?_) q
   rw[List.getElem?_map,List.getD_eq_getElem?_getD,List.getElem?_eq_getElem (show k.toNat < ns.length by omega)];rfl
  ·rw[List.getD_eq_getElem?_getD,List.getElem?_eq_none (show ns.length<=k.toNat by omega)] at q
   exact q
theorem rj (T:Txt w K mg a):FnOk P w K mg base CX0 1 a.f_l_sign a.d_l_sign ["_law_number","_law_many"] Ca:=by
 refine T.fi.F.ok mx (λvs H Q E h=>?_) (λcdv A outer s H vs Q E hr h=>?_)
 ·(revert h;refine ow21 λn m zz1 _=>?_;subst zz1)
  rfl
 ·(revert h;refine ow23 λn m zz1 h0 h1 q=>?_;subst zz1)
  refine(iw11 _ (ag (aw (i:=2) mx.nd rfl (Or.inl rfl) az)
   (ag (aw (i:=2) mx.nd rfl (Or.inl rfl) (aD (aF (K:=K)) (pv 2) az))
   (ai (ar (av (ak (K:=K) (hU1 hr)) (pv 2) (aD bI (pv 0) (pv 1)) (λ_ _=>rfl)))))) ?_)
  walk_at "rd";exact(iw11 T62 (s!"d") (iw14 T34 (s!"d") (by decide) h0 (by decide) (iw11 (sgn n m) (bZ (Int.emod_nonneg _ (by omega)) (Az n m h0 h1)) q)))
theorem kq (T:Txt w K mg a):FnOk P w K mg base CX0 1 a.f_is_text a.d_is_text ["thing","least","most"] vA:=by
 refine T.cg.F.ok wm (λvs H Q E h=>?_) (λcdv A outer s H vs Q E hr h=>?_)
 ·(revert h;refine ow31 λx lo hi zz1 _=>?_;subst zz1)
  rfl
 ·(revert h;refine ow32 λx lo hi zz1 t q=>?_;subst zz1)
  refine(iw11 _ (ai (ar (dm (ax (aM (K:=K)) (by rfl) T.bc boot_isinstance (aa (pv 0) (aa (dE (v:=.ty "str") rfl T.ng boot_str rfl) af))) (fZ (oh eB eB (pv 1) (ax (aH (K:=K)) (by rfl) T.cf boot_len (aa (pv 0) af)) (pv 2)))))) ?_);cases t with
  | non=>walk_at "rd";exact q
  | bl b=>walk_at "rd";exact q
  | int i=>walk_at "rd";exact q
  | str l h=>
   walk_at "rd";refine⟨Nat.le_trans h (by decide),?_⟩;simp only[textV,ck] at q;refine ite2 (λhc=>?_) (λhc=>?_)
   ·rw[decide_eq_true hc,Bool.true_and] at q;exact q
   ·rw[decide_eq_false hc,Bool.false_and] at q;exact q
  | lst h=>walk_at "rd";simp only[mV h];walk_at "rd";exact q
  | tup h=>walk_at "rd";simp only[tP h];walk_at "rd";exact q
theorem pR (T:Txt w K mg a):FnOk P w K mg base CX0 2 a.f_is_name a.d_is_name ["thing"] vB:=by
 refine T.dB.F.ok wt (λvs H Q E h=>?_) (λcdv A outer s H vs Q E hr h=>?_)
 ·(revert h;refine ow11 λx zz1 _=>?_;subst zz1)
  rfl
 ·(revert h;refine ow12 λx zz1 t q=>?_;subst zz1)
  refine(iw11 _ (ai (ar (dm (aq (kq T) (hr.mono (by decide)) rfl T.cg.m T.cg.F.kp T.cg.b .nil pass0 (aa (pv 0) (aa ah (aa (bF T.uR) af)))) (fZ (ax (dX (K:=K)) (by rfl) T.rh boot_all (aa (cv ["thing"] ["thing"] (defScope mj) (by exact⟨rfl,s!"d",s!"d",s!"d",s!"d",s!"d",s!"d",s!"d",s!"d"⟩) (bf (K:=K) (pv 0)) (λC₁ s₁ H₁ f₁=>(dF (vo (K:=K) (hU1 hr)) (pv 0) (bF T.sQ) (by rfl)))) af)))))) ?_);walk_at "rd";refine⟨t,ite2 (λh1=>?_) (λh1=>?_)⟩
  ·(refine pw11 (nS t h1) λl zz1 hl=>?_;subst zz1)
   walk_at "rd";refine lV (Nat.le_trans hl (by decide)) (λc=>.bl (inN c)) (λc H' _ s Qe qe=>?_) (λD H' hD s hl=>?_)
   ·walk_at "rd"
    rw[AG,Cf];exact qe H' (Same.refl _)
   ·refine lS (bs:=l.map inN) (.inl (.inl (by rw[hl,List.map_map];rfl))) ?_
    have e:=q H' s;rw[jk h1] at e;rw[gQ];exact e
  ·rw[kN h1] at q
   exact q H (Same.refl _)
theorem pS (T:Txt w K mg a):FnOk P w K mg base CX0 1 a.f_is_sign a.d_is_sign ["sign"] vT:=by
 refine T.dA.F.ok wq (λvs H Q E h=>?_) (λcdv A outer s H vs Q E hr h=>?_)
 ·(revert h;refine ow11 λx zz1 _=>?_;subst zz1)
  rfl
 ·(revert h;refine ow11 λx zz1 q=>?_;subst zz1)
  refine(iw11 _ (ai (ar (dm (oh eB eB az (pv 0) az) (fZ (dF (dq (K:=K) (hU hr)) (ax lR (by rfl) T.Bh boot_ord (aa (pv 0) af)) (bF T.wG) (nomark _)))))) ?_);walk_at "rd";have e1:(Str.ofString " ").cps.toList=[32]:=by decide +kernel
  have e2:(Str.ofString "~").cps.toList=[126]:=by decide +kernel
  rw[e1,e2];simp only[ltOne];unfold okSign at q;refine ite2 (λh1=>?_) (λh1=>?_)
  ·rw[decide_eq_true (show 32<=x by omega),Bool.true_and] at q
   refine ite2 (λh2=>?_) (λh2=>?_)
   ·rw[decide_eq_true (show x<=126 by omega),Bool.true_and] at q
    rw[show(!decide ((x:Int)=37))=decide (x≠37) by by_cases e:x=37<;>simp[e];omega];exact q
   ·rw[decide_eq_false (show ¬x<=126 by omega),Bool.false_and] at q
    exact q
  ·rw[decide_eq_false (show ¬32<=x by omega),Bool.false_and,Bool.false_and] at q
   exact q
theorem gQ {l:List Nat}{p:Nat->Bool}:(l.map p).all id=l.all p:=by simp[List.all_map,Function.comp_def]
theorem jk {l:List Nat}{lo hi:Int}{p:Nat->Bool}(h:textV (.str (S l)) lo hi=true):formV (.str (S l)) lo hi p=l.all p:=by
 simp only[textV,formV,Bool.and_eq_true] at h ⊢;rw[h.1,h.2];simp
theorem kN {x:V}{lo hi:Int}{p:Nat->Bool}(h:¬textV x lo hi=true):formV x lo hi p=false:=by
 cases x with
 | str z=>
  simp only[textV,formV,Bool.and_eq_true] at h ⊢
  by_cases h1:decide (lo<=(z.length:Int))=true
  ·rw[h1,Bool.true_and]
   have h2:¬decide ((z.length:Int)<=hi)=true:=λe=>h ⟨h1,e⟩;rw[Bool.eq_false_iff.mpr h2,Bool.false_and]
  ·rw[Bool.eq_false_iff.mpr h1,Bool.false_and]
 | _=>rfl
theorem nS {H:Hp}{x:V}{lo hi:Int}(t:Thg H x)(h:textV x lo hi=true):∃l:List Nat,x=.str (S l)/\l.length<=1000:=by
 cases t with
 | str l hl=>exact(iw11 l rfl hl)
 | _=>simp[textV] at h
theorem zK (T:Txt w K mg a):FnOk P w K mg base CX0 2 a.f_is_key a.d_is_key ["thing"] yS:=by
 refine T.lq.F.ok zh (λvs H Q E h=>?_) (λcdv A outer s H vs Q E hr h=>?_)
 ·(revert h;refine ow11 λx zz1 _=>?_;subst zz1)
  rfl
 ·(revert h;refine ow12 λx zz1 t q=>?_;subst zz1)
  refine(iw11 _ (ai (ar (dm (aq (kq T) (hr.mono (by decide)) rfl T.cg.m T.cg.F.kp T.cg.b .nil pass0 (aa (pv 0) (aa ah (aa (bF T.wF) af)))) (fZ (ax (dX (K:=K)) (by rfl) T.rh boot_all (aa (cv ["thing"] ["thing"] (defScope o6) (by exact⟨rfl,s!"d",s!"d",s!"d",s!"d",s!"d",s!"d",s!"d",s!"d"⟩) (bf (K:=K) (pv 0)) (λC₁ s₁ H₁ f₁=>(aq (pS T) (hr.mono (by decide)) rfl T.dA.m T.dA.F.kp T.dA.b .nil pass0 (aa (pv 0) af)))) af)))))) ?_);walk_at "rd";refine⟨t,ite2 (λh1=>?_) (λh1=>?_)⟩
  ·(refine pw11 (nS t h1) λl zz1 hl=>?_;subst zz1)
   walk_at "rd";refine lV (Nat.le_trans hl (by decide)) (λc=>.bl (okSign c)) (λc H' _ s Qe qe=>?_) (λD H' hD s hl=>?_)
   ·walk_at "rd"
    exact qe H' (Same.refl _)
   ·refine lS (bs:=l.map okSign) (.inl (.inl (by rw[hl,List.map_map];rfl))) ?_
    have e:=q H' s;rw[jk h1] at e;rw[gQ];exact e
  ·rw[kN h1] at q
   exact q H (Same.refl _)
theorem wH (T:Txt w K mg a):FnOk P w K mg base CX0 2 a.f_is_word a.d_is_word ["thing"] vU:=by
 refine T.jv.F.ok wu (λvs H Q E h=>?_) (λcdv A outer s H vs Q E hr h=>?_)
 ·(revert h;refine ow11 λx zz1 _=>?_;subst zz1)
  rfl
 ·(revert h;refine ow12 λx zz1 t q=>?_;subst zz1)
  refine(iw11 _ (ag (aQ (n9 (zU (pv 0))) (ai (ar iA)) aC)
   (ai (ar (dm (aq (kq T) (hr.mono (by decide)) rfl T.cg.m T.cg.F.kp T.cg.b .nil pass0 (aa (pv 0) (aa ah (aa (bF T.uT) af)))) (fZ (ax (dX (K:=K)) (by rfl) T.rh boot_all (aa (cv ["thing"] ["thing"] (defScope ml) (by exact⟨rfl,s!"d",s!"d",s!"d",s!"d",s!"d",s!"d",s!"d",s!"d"⟩) (bf (K:=K) (pv 0)) (λC₁ s₁ H₁ f₁=>(aq (pS T) (hr.mono (by decide)) rfl T.dA.m T.dA.F.kp T.dA.b .nil pass0 (aa (pv 0) af)))) af))))))) ?_)
  walk_at "rd";refine ite2 (λh0=>?_) (λh0=>?_)
  ·rw[decide_eq_true h0,Bool.true_or] at q
   exact q H (Same.refl _)
  rw[decide_eq_false h0,Bool.false_or] at q;refine⟨t,ite2 (λh1=>?_) (λh1=>?_)⟩
  ·(refine pw11 (nS t h1) λl zz1 hl=>?_;subst zz1)
   walk_at "rd";refine lV (Nat.le_trans hl (by decide)) (λc=>.bl (okSign c)) (λc H' _ s Qe qe=>?_) (λD H' hD s hl=>?_)
   ·walk_at "rd"
    exact qe H' (Same.refl _)
   ·refine lS (bs:=l.map okSign) (.inl (.inl (by rw[hl,List.map_map];rfl))) ?_
    have e:=q H' s;rw[jk h1] at e;rw[gQ];exact e
  ·rw[kN h1] at q
   exact q H (Same.refl _)
theorem nh (T:Txt w K mg a):FnOk P w K mg base CX0 1 a.f_is_whole a.d_is_whole ["thing","low","high"] t6:=by
 refine T.cK.F.ok uH (λvs H Q E h=>?_) (λcdv A outer s H vs Q E hr h=>?_)
 ·(revert h;refine ow31 λx lo hi zz1 _=>?_;subst zz1)
  rfl
 ·(revert h;refine ow32 λx lo hi zz1 t q=>?_;subst zz1)
  refine(iw11 _ (ai (ar (dm (ax (aM (K:=K)) (by rfl) T.bc boot_isinstance (aa (pv 0) (aa (dE (v:=.ty "int") rfl T.Bg boot_int rfl) af))) (dm (zV (ax (aM (K:=K)) (by rfl) T.bc boot_isinstance (aa (pv 0) (aa (dE (v:=.ty "bool") rfl T.Bf boot_bool rfl) af)))) (fZ (oh eB eB (pv 1) (pv 0) (pv 2))))))) ?_);cases t with
  | non=>walk_at "rd";exact q
  | bl b=>walk_at "rd";exact q
  | int i=>
   walk_at "rd";simp only[wholeV] at q;refine ite2 (λhc=>?_) (λhc=>?_)
   ·rw[decide_eq_true hc,Bool.true_and] at q;exact q
   ·rw[decide_eq_false hc,Bool.false_and] at q;exact q
  | str l h=>walk_at "rd";exact q
  | lst h=>walk_at "rd";simp only[tN h];walk_at "rd";exact q
  | tup h=>walk_at "rd";simp only[tO h];walk_at "rd";exact q
theorem zL (T:Txt w K mg a):FnOk P w K mg base CX0 1 a.f_spread a.d_spread ["key"] yt:=by
 refine T.lu.F.ok jo (λvs H Q E h=>?_) (λcdv A outer s H vs Q E hr h=>?_)
 ·(revert h;refine ow11 λl zz1 _=>?_;subst zz1)
  rfl
 ·(revert h;refine ow11 λl zz1 q=>?_;subst zz1)
  refine(iw11 _ (ag (aw (i:=1) jo.nd rfl (Or.inl rfl) ah)
   (ag (dn PassesOwn.never rfl (bf (K:=K) (pv 0)) (aU (i:=2) jo.nd rfl (Or.inl rfl)) (ai (aw (i:=1) jo.nd rfl (Or.inl rfl) (aD Aa (aD (aF (K:=K)) (aD gP (pv 1) ah) (ax lR (by rfl) T.Bh boot_ord (aa (pv 2) af))) ah))))
   (ai (ar (aD Ab (pv 1) (aD z9 (pv 1) ah)))))) ?_)
  walk_at "rd";refine tQ (λi σ H'=>H'=H/\∃v,σ=[some (.str (S l)),some (.int (foldK (l.take i))),v]) ⟨rfl,(iw10 none rfl)⟩ ?_ ?_
  ·rintro i c σ H' hc ⟨rfl,v,rfl⟩
   walk_at "rd";rw[vC hc]
  ·rintro σ H' ⟨rfl,v,rfl⟩
   walk_at "rd";have e:l.take (S l).cps.size=l:=by simp
   rw[e];exact q
theorem zM (T:Txt w K mg a):FnOk P w K mg base CX0 2 a.f_row_in a.d_row_in ["key","many"] yu:=by
 refine T.lz.F.ok zi (λvs H Q E h=>?_) (λcdv A outer s H vs Q E hr h=>?_)
 ·(revert h;refine ow21 λl m zz1 _=>?_;subst zz1)
  rfl
 ·(revert h;refine ow22 λl m zz1 hm q=>?_;subst zz1)
  refine(iw11 _ (ai (ar (aD bI (aq (zL T) (hr.mono (by decide)) rfl T.lu.m T.lu.F.kp T.lu.b .nil pass0 (aa (pv 0) af)) (pv 1)))) ?_);walk_at "rd";exact⟨hm,q⟩
theorem ni (T:Txt w K mg a):FnOk P w K mg base CX0 1 a.f_l_letter a.d_l_letter ["_law_number"] yw:=by
 refine T.cM.F.ok uO (λvs H Q E h=>?_) (λcdv A outer s H vs Q E hr h=>?_)
 ·(revert h;refine ow11 λn zz1 _=>?_;subst zz1)
  rfl
 ·(revert h;refine ow11 λn zz1 q=>?_;subst zz1)
  refine(iw11 _ (ai (ar (av (ak (K:=K) (hU1 hr)) az (aD bI (pv 0) ah) (λ_ _=>rfl)))) ?_);walk_at "rd";rw[AG];refine(iw12 T36 rfl (by decide) (iw11 (ltr36 n) (bZ (Int.emod_nonneg _ (by decide)) ?_) q));have h:(n % 36).toNat < T36.length:=by
   show(n % 36).toNat < 36;omega
  unfold ltr36;rw[List.getD_eq_getElem?_getD,List.getElem?_eq_getElem h];rfl
theorem nI (T:Txt w K mg a):FnOk P w K mg base CX0 1 a.f_Row___init__ a.d_Row___init__ ["self"] (tV a.C_Row):=by
 refine T.i0.F.ok nB (λvs H Q E h=>?_) (λcdv A outer s H vs Q E hr h=>?_)
 ·(revert h;refine ow21 λx dx zz1 _=>?_;subst zz1)
  rfl
 ·(revert h;refine ow22 λx dx zz1 hx q=>?_;subst zz1)
  refine(iw11 _ (ag (bu (pv 0) ah rfl)
   (ag (bu (pv 0) ah rfl)
   (ag (bu (pv 0) ah rfl)
   (ai (bu (pv 0) dN rfl))))) ?_)
  walk_at "rd";refine(iw34 _ dx ([]) hx T.cz T.ia (by decide) (iw34 _ dx _ ae T.cz T.dD (by decide) (iw34 _ dx _ ae T.cz T.sN (by decide) (λd hd=>?_))));have hdx:d≠x:=λz=>by rw[z,ae] at hd;cases hd
  rw[aj hdx,aj hdx,aj hdx] at hd;refine(iw34 _ dx _ ((aj (Ne.symm hdx)).trans ae) T.cz T.fk (by decide) ?_);refine q d _ hd hdx ?_ ⟨⟨dx,ae⟩,(iw12 ([]) ((aj hdx).trans ae) (by decide) (λp=>⟨rfl,rfl⟩)),by decide,by decide,by decide,λp h=>by cases h⟩;have m:x∈[x]:=by simp
  refine(Chg.upd m (bT hx)).trans ((Chg.upd m (bT ae)).trans ((Chg.upd m (bT ae)).trans ((Chg.new (by rw[aj hdx,aj hdx,aj hdx];exact hd)).trans (Chg.upd m (bT ((aj (Ne.symm hdx)).trans ae))))))
theorem wI (T:Txt w K mg a):FnOk P w K mg base CX0 1 a.f_Row_add a.d_Row_add ["self","key","word","deed"] (vx a.C_Row):=by
 refine T.zC.ok pk (λvs H Q E h=>?_) (λcdv A outer s H vs Q E hr h=>?_)
 ·(revert h;refine ow41 λr d M x zz1 _=>?_;subst zz1)
  rfl
 ·(revert h;refine ow43 λr d M x zz1 R hb q=>?_;subst zz1)
  refine(iw11 _ (ag (aw (i:=4) pk.nd rfl (Or.inl rfl) (au (K:=K) (pv 0) rfl))
   (ag (dQ (aR (aa (pv 1) (aa (pv 2) (aa (pv 3) af)))) (d6 (au (K:=K) (pv 0) rfl) (pv 4) (cT (hU1 hr))))
   (ag (bu (pv 0) (aD (aF (K:=K)) (pv 4) ah) rfl)
   (ai (ar (pv 4)))))) ?_)
  obtain⟨dx,hr⟩:=R.obj;(refine pw12 R.dict λkvs hd hk hl=>?_);walk_at "rd";refine(iw33 _ dx _ hr T.cz T.dD (iw12 _ (tW M d) (by decide) (λt ht=>?_)));have htr:t≠r:=λz=>by rw[z,hr] at ht;cases ht
  have htd:t≠d:=λz=>by rw[z,hd] at ht;cases ht
  have hdr:d≠r:=Ne.symm R.ne;have hr1:upd H t (.tup (letV x)) r=some (.ins a.C_Row dx (rowF M d)):=(aj (Ne.symm htr)).trans hr;have hd1:upd H t (.tup (letV x)) d=some (.dK kvs):=(aj (Ne.symm htd)).trans hd;have hz:kvs.length < sizeLine:=Nat.lt_of_le_of_lt (show kvs.length<=100000 by omega) (by decide);refine(iw33 _ dx _ hr1 T.cz T.fk (iw11 _ (kK M d) (fz (DPut.k (k:=.inl M.last) hd1 hz) ?_)));walk_at "rd";refine(iw34 _ dx _ ((aj (Ne.symm hdr)).trans hr1) T.cz T.dD (show 4 < 1000 by decide) ?_);have c1:Chg [r,d] H (upd H t (.tup (letV x))):=Chg.new ht;have c2:Chg [r,d] (upd H t (.tup (letV x))) (upd (upd H t (.tup (letV x))) d (.dK (putK kvs (.inl M.last) (.ref t)))):=Chg.upd (by simp) (lT hd1);have c3:Chg [r,d] (upd (upd H t (.tup (letV x))) d (.dK (putK kvs (.inl M.last) (.ref t)))) _:=Chg.upd (o:=.ins a.C_Row dx (putF (Str.ofString "end") (.int (M.last+1)) (rowF M d))) (show r∈[r,d] by simp) (bT ((aj (Ne.symm hdr)).trans hr1));have c:=c1.trans (c2.trans c3);have l0:LetsAt (upd H t (.tup (letV x))) (putK kvs (.inl M.last) (.ref t)) (λq=>if q=M.last then some x else M.L q):=(hl.chg c1).put ae;refine q _ c ⟨⟨dx,ae⟩,(iw12 _ ((aj hdr).trans ae) ?_ (l0.chg (c2.trans c3))),R.f0,Int.le_trans R.fl (show M.last<=M.last+1 by omega),R.dr,λp hp=>?_⟩
  ·have:=bE kvs (.inl M.last:Key) (.ref t)
   show((putK kvs (.inl M.last) (.ref t)).length:Int)<=M.last+1;omega
  ·have f:=R.fl
   show M.first<=p/\p < M.last+1
   by_cases e:p=M.last
   ·omega
   ·have hp':(M.L p).isSome=true:=by
     have:(if p=M.last then some x else M.L p).isSome=true:=hp
     rwa [if_neg e] at this
    have:=R.within p hp';omega
theorem zN (T:Txt w K mg a):FnOk P w K mg base CX0 1 a.f_Row_at a.d_Row_at ["self","place"] (yl a.C_Row):=by
 refine T.pH.F.ok zk (λvs H Q E h=>?_) (λcdv A outer s H vs Q E hr h=>?_)
 ·(revert h;refine ow41 λr d M p zz1 _=>?_;subst zz1)
  rfl
 ·(revert h;refine ow41 λr d M p zz1=>ow01 λR q=>?_;subst zz1)
  refine(iw11 _ (ai (ar (An (hU1 hr) (au (K:=K) (pv 0) rfl) (pv 1) ⟨rfl,rfl,rfl,rfl⟩))) ?_);obtain⟨dx,hr⟩:=R.obj;(refine pw12 R.dict λkvs hd hk hl=>?_);walk_at "rd";exact(iw33 _ dx _ hr T.cz T.fk (iw11 _ (kK M d) (iw12 d rfl (.inl ⟨kvs,.inl hd⟩) (iw11 _ (DGet.k (k:=.inl p) hd) (q _ (hl p).1)))))
theorem uU (T:Txt w K mg a):FnOk P w K mg base CX0 2 a.f_Row_seen a.d_Row_seen ["self","start","limit","most"] (tU a.C_Row):=by
 refine T.kj.F.ok fK (λvs H Q E h=>?_) (λcdv A outer s H vs Q E hr h=>?_)
 ·(revert h;refine ow60 λr d M st li mo=>ow01 λzz1 _=>?_;subst zz1)
  rfl
 ·(revert h;refine ow60 λr d M st li mo=>ow05 λzz1 R hb h0 h1=>ow02 λh2 h3 q=>?_;subst zz1)
  refine(iw11 _ (ag (aw (i:=4) fK.nd rfl (Or.inl rfl) (aX af))
   (ag (dn PassesOwn.never rfl (xP rfl T.ic (aa (ax (jj rfl) (by rfl) T.xG boot_max (aa (pv 1) (aa (au (K:=K) (pv 0) rfl) af))) (aa (ax (yh rfl) (by rfl) T.Fd boot_min (aa (pv 2) (aa (au (K:=K) (pv 0) rfl) af))) af))) (aU (i:=5) fK.nd rfl (Or.inl rfl)) (ag (aQ (aE Au (ax (aH (K:=K)) (by rfl) T.cf boot_len (aa (pv 4) af)) (pv 3) (nomark _)) (ai zW) aC)
   (ag (aw (i:=6) fK.nd rfl (Or.inl rfl) (aL (pv 0) T.cz T.pH.m (zN T) (hr.mono (by decide)) T.pH.b .nil pass0 (aa (pv 5) af)))
   (ai (aQ (n9 (rA (pv 6))) (ai (aK (cI (K:=K) PySem.F.plainAttrs_list PySem.F.slot_list_append PySem.F.type_list_append cP (pv 4) (aa (aR (aa (pv 5) (aa (av (ak (K:=K) (hU1 hr)) (pv 6) ah (λ_ _=>rfl)) (aa (av (ak (K:=K) (hU1 hr)) (pv 6) ah (λ_ _=>rfl)) af)))) af)))) aC)))))
   (ai (ar (pv 4))))) ?_)
  obtain⟨dx,hr⟩:=R.obj;have f0:=R.f0;have fl:=R.fl;walk_at "rd";refine⟨by decide,λD hD=>(iw33 _ dx _ ((Same.upd hD) _ _ hr) T.cz T.ia (iw11 _ (vy M d) (iw11 _ rfl (iw33 _ dx _ ((Same.upd hD) _ _ hr) T.cz T.dD (iw11 _ (tW M d) (iw15 _ rfl (by omega) (by omega) (by omega) (by omega) ?_))))))⟩;generalize hlo:max st M.first=lo;generalize hn:(min li M.last - lo).toNat=n;have hn1:n<=100000:=by omega
  have hseen:M.seenP st li mo=(M.standing lo n).take mo.toNat:=by unfold RowM.seenP;rw[hlo,hn]
  rw[hseen] at q;refine j3 (λi σ H'=>Same H H'/\i<=n/\LTups H' D (((M.standing lo i).take mo.toNat).map M.rowV)/\∃v1 v2,σ=[some (V.ref r),some (V.int st),some (V.int li),some (V.int mo),some (V.ref D),v1,v2]) ⟨Same.upd hD,Nat.zero_le _,(iw11 ([]) ae ?_),(iw20 none none rfl)⟩ ?_ ?_
  ·rw[show M.standing lo 0=[] from rfl,List.take_nil]
   exact .nil
  ·rintro i σ H' hi ⟨hs,hin,⟨ts,hl,ht⟩,v1,v2,rfl⟩
   have hlen:=ht.length;rw[List.length_map,List.length_take] at hlen;have hsl:=rY M lo i;refine cut1 λRy hRy=>?_;walk_at "rd";refine bB (.inl (.inl hl)) ?_;walk_at "rd";rw[List.length_map];refine ite2 (λhm=>?_) (λhm=>?_)
   ·obtain⟨more,he⟩:=rX M lo hin
    refine q D H' hD hs ?_;rw[he,List.take_append_of_le_length (by omega)];exact(iw11 ts hl ht)
   ·have R':=R.chg (A:=[]) (Chg.of_same hs) (by simp) (by simp)
    rw[hRy];clear hRy;refine cut1 λRy hRy=>?_;walk_at "rd";refine(iw22 dx _ (hs _ _ hr) (Cd M d) (iw21 d M R' (λv hv=>?_)));rw[hRy];clear hRy;walk_at "rd";have hlt:(M.standing lo i).length < mo.toNat:=by omega
    have e1:(M.standing lo i).take mo.toNat=M.standing lo i:=List.take_of_length_le (by omega);rw[e1] at ht;cases hM:M.L (lo+(i:Int)) with
    | none=>
     rw[hM] at hv;cases (show v=.non from hv);simp only[decide_true,Bool.not_true,Bool.false_eq_true,if_false];refine⟨hs,by omega,(iw11 ts hl ?_)⟩;rw[gh,hM,if_neg (by simp),List.append_nil,e1];exact ht
    | some x=>
     rw[hM] at hv;(revert hv;refine ow11 λt zz1 htt=>?_;subst zz1);have hT:SqT K H' t (letV x):=.inl (.inl htt);simp only[reduceCtorEq,decide_false,Bool.not_false,if_true];refine⟨.inl ⟨_,.inl (.inl hl)⟩,aO (v:=.str (S x.1)) hT rfl (aO (v:=wV x.2.1) hT rfl ⟨by decide,λp hp=>?_⟩)⟩;have hpD:p≠D:=λz=>by rw[z,hl] at hp;cases hp
     have hl':upd H' p (.tup [.int (lo+(i:Int)),.str (S x.1),wV x.2.1]) D=some (.lst (ts.map V.ref)):=(aj (Ne.symm hpD)).trans hl;refine(iw12 _ hl' (Nat.lt_of_le_of_lt (show(ts.map V.ref).length<=100000 by rw[List.length_map];omega) (by decide)) ?_);have c1:Chg [D] H' (upd H' p (.tup [.int (lo+(i:Int)),.str (S x.1),wV x.2.1])):=Chg.new hp;have c2:Chg [D] (upd H' p (.tup [.int (lo+(i:Int)),.str (S x.1),wV x.2.1])) (upd (upd H' p (.tup [.int (lo+(i:Int)),.str (S x.1),wV x.2.1])) D (.lst (ts.map V.ref++[V.ref p]))):=Chg.upd (by simp) (kI hl');refine⟨λb o hb=>(c1.trans c2).keep _ _ (hs b o hb) ?_,by omega,(iw11 (ts++[p]) ?_ ?_)⟩
     ·simp only[List.mem_cons,List.not_mem_nil,or_false]
      exact ay hb hD
     ·rw[ae,List.map_append];rfl
     ·rw[gh,hM,if_pos (show(some x).isSome=true from rfl),List.take_of_length_le (by rw[List.length_append];simp;omega),List.map_append]
      refine(ht.chg (c1.trans c2)).snoc ?_;rw[c2.tup _ _ ae];simp only[RowM.rowV,hM]
  ·rintro σ H' ⟨hs,hin,hl,v1,v2,rfl⟩
   walk_at "rd";exact q D H' hD hs hl
theorem jI (T:Txt w K mg a):FnOk P w K mg base CX0 1 a.f_Senders___init__ a.d_Senders___init__ ["self"] (yH a.C_Senders):=by
 refine T.fc.F.ok jG (λvs H Q E h=>?_) (λcdv A outer s H vs Q E hr h=>?_)
 ·(revert h;refine ow21 λx dx zz1 _=>?_;subst zz1)
  rfl
 ·(revert h;refine ow22 λx dx zz1 hx q=>?_;subst zz1)
  refine(iw11 _ (ag (bu (pv 0) dN rfl)
   (ag (bu (pv 0) dN rfl)
   (ai (bu (pv 0) dN rfl)))) ?_)
  walk_at "rd";refine λl hl=>?_;have nl:l≠x:=λz=>by rw[z,hx] at hl;cases hl
  refine(iw34 _ dx ([]) ((aj (Ne.symm nl)).trans hx) T.aB T.br (by decide) (λt ht=>?_));have nt:t≠x:=λz=>by rw[z,ae] at ht;cases ht
  refine(iw34 _ dx _ ((aj (Ne.symm nt)).trans ae) T.aB T.aZ (show 1 < 1000 by decide) (λp hp=>?_));have np:p≠x:=λz=>by rw[z,ae] at hp;cases hp
  refine(iw34 _ dx _ ((aj (Ne.symm np)).trans ae) T.aB T.bt (show 2 < 1000 by decide) ?_);have ntl:t≠l:=λz=>by rw[aj nt,z,ae] at ht;cases ht
  have npt:p≠t:=λz=>by rw[aj np,z,ae] at hp;cases hp
  have npl:p≠l:=λz=>by rw[aj np,aj npt,z,aj nl,ae] at hp;cases hp
  have ht0:H t=none:=by rw[aj nt,aj ntl] at ht;exact ht
  have hp0:H p=none:=by rw[aj np,aj npt,aj np,aj npl] at hp;exact hp
  have m:x∈[x]:=by simp
  refine q l t p _ hl ht0 hp0 ?_ ⟨⟨dx,ae⟩,(iw12 ([]) ?_ (Nat.zero_le _) (λz=>rfl)),(iw12 ([]) ?_ (Nat.zero_le _) (λz=>rfl)),(iw12 ([]) ?_ (Nat.zero_le _) (λz h=>(by cases h))),λz=>Nat.zero_le _,Ne.symm nl,Ne.symm nt,Ne.symm np,Ne.symm ntl,Ne.symm npl,Ne.symm npt⟩
  ·exact(Chg.new hl).trans ((Chg.upd m (bT ((aj (Ne.symm nl)).trans hx))).trans ((Chg.new ht).trans ((Chg.upd m (bT ((aj (Ne.symm nt)).trans ae))).trans ((Chg.new hp).trans (Chg.upd m (bT ((aj (Ne.symm np)).trans ae)))))))
  ·exact(aj nl).trans ((aj (Ne.symm npl)).trans ((aj nl).trans ((aj (Ne.symm ntl)).trans ((aj nl).trans ae))))
  ·exact(aj nt).trans ((aj (Ne.symm npt)).trans ((aj nt).trans ae))
  ·exact(aj np).trans ae
theorem fq (T:Txt w K mg a):FnOk P w K mg base CX0 1 a.f_Senders_life_of a.d_Senders_life_of ["self","name"] (yJ a.C_Senders):=by
 refine T.bH.F.ok kg (λvs H Q E h=>?_) (λcdv A outer s H vs Q E hr h=>?_)
 ·(revert h;refine ow60 λr l t p Z M=>ow11 λn zz1 _=>?_;subst zz1)
  rfl
 ·(revert h;refine ow60 λr l t p Z M=>ow12 λn zz1 R q=>?_;subst zz1)
  refine(iw11 _ (ai (ar (oo (hU1 hr) (au (K:=K) (pv 0) rfl) (pv 1) ah ⟨rfl,rfl,rfl,rfl⟩))) ?_);obtain⟨dx,hr⟩:=R.obj;(refine pw12 R.liv λkvs hl hk hv=>?_);walk_at "rd";refine(iw33 _ dx _ hr T.aB T.br (iw11 _ (iH l t p) (iw12 l rfl (.inl ⟨kvs,.inl hl⟩) (iw11 _ (DGet.k (k:=.inr n) hl) ?_))));rw[hv n];cases e:M.L n with
  | none=>rw[e] at q;exact q
  | some z=>rw[e] at q;exact q
theorem kr (T:Txt w K mg a):FnOk P w K mg base CX0 1 a.f_Senders_last_of a.d_Senders_last_of ["self","name"] (yK a.C_Senders):=by
 refine T.da.F.ok kh (λvs H Q E h=>?_) (λcdv A outer s H vs Q E hr h=>?_)
 ·(revert h;refine ow60 λr l t p Z M=>ow11 λn zz1 _=>?_;subst zz1)
  rfl
 ·(revert h;refine ow60 λr l t p Z M=>ow12 λn zz1 R q=>?_;subst zz1)
  refine(iw11 _ (ai (ar (oo (hU1 hr) (au (K:=K) (pv 0) rfl) (pv 1) ah ⟨rfl,rfl,rfl,rfl⟩))) ?_);obtain⟨dx,hr⟩:=R.obj;(refine pw12 R.las λkvs ht hk hv=>?_);walk_at "rd";refine(iw33 _ dx _ hr T.aB T.aZ (iw11 _ (eJ l t p) (iw12 t rfl (.inl ⟨kvs,.inl ht⟩) (iw11 _ (DGet.k (k:=.inr n) ht) ?_))));rw[hv n];cases e:M.L n with
  | none=>rw[e] at q;exact q
  | some z=>rw[e] at q;exact q
theorem cE (T:Txt w K mg a):FnOk P w K mg base (CXv P w) 3 a.f_Senders_need a.d_Senders_need ["self","name"] (yL a.C_Senders a.C_NoSuch):=by
 refine T.a8.F.okX nE (λvs H Q E h=>?_) (λcdv A outer s H vs Q E hr h=>?_)
 ·(revert h;refine ow60 λr l t p Z M=>ow11 λn zz1 _=>?_;subst zz1)
  rfl
 ·(revert h;refine ow60 λr l t p Z M=>ow12 λn zz1 R q=>?_;subst zz1)
  refine(iw11 _ (ai (aQ (PT.nox (aE (ye (K:=K) (hU1 hr)) (pv 1) (au (K:=K) (pv 0) rfl) (by rfl))) (ai (eG T.i7 T.mz T.mB (cN T) (hr.mono (by decide)) rfl T.jq T.cm.b (by decide) raiseX (aa (pv 1) af))) aC)) ?_);obtain⟨dx,hr⟩:=R.obj;(refine pw12 R.liv λkvs hl hk hv=>?_);walk_at "rd";refine(iw33 _ dx _ hr T.aB T.br (iw11 _ (iH l t p) (D7 (DGet.k (k:=.inr n) hl) (iw11 _ rfl ?_))));rw[hv n];rcases q with⟨e,q⟩ | ⟨e,q⟩
  ·obtain⟨v,e⟩:=Option.isSome_iff_exists.mp e
   rw[e];exact q
  ·rw[e]
   exact q
theorem mN (T:Txt w K mg a):FnOk P w K mg base (CXv P w) 4 a.f_Senders_allow a.d_Senders_allow ["self","name","life"] (vP a.C_Senders a.C_NoSuch a.C_Fenced):=by
 refine T.dR.F.okX mw (λvs H Q E h=>?_) (λcdv A outer s H vs Q E hr h=>?_)
 ·(revert h;refine ow60 λr l t p Z M=>ow21 λn k zz1 _=>?_;subst zz1)
  rfl
 ·(revert h;refine ow60 λr l t p Z M=>ow22 λn k zz1 R q=>?_;subst zz1)
  refine(iw11 _ (ag (aK (aL (pv 0) T.aB T.a8.m (cE T) (hr.mono (by decide)) T.a8.b .nil passX (aa (pv 1) af)))
   (ai (aQ (PT.nox (aE (dq (K:=K) (hU hr)) (pv 2) (av (ak (K:=K) (hU1 hr)) (au (K:=K) (pv 0) rfl) (pv 1) (λ_ _=>rfl)) (nomark _))) (ai (eG T.pL T.zt T.zu (km T) (hr.mono (by decide)) rfl T.qZ T.fR.b (by decide) raiseX (aa (av (ak (K:=K) (hU1 hr)) (au (K:=K) (pv 0) rfl) (pv 1) (λ_ _=>rfl)) af))) aC))) ?_)
  obtain⟨dx,hr⟩:=R.obj;(refine pw12 R.liv λk1 hl hk1 v1=>?_);walk_at "rd";refine(iw22 dx _ hr rfl (iw51 l t p Z M R ?_));rcases q with⟨e,q⟩ | ⟨v,e,q⟩
  ·exact .inr ⟨e,q⟩
  ·have g1:DGet H l (.str n) (some (.int v)):=by have:=DGet.k (k:=.inr n) hl;rw[v1 n,e] at this;exact this
   refine .inl ⟨by rw[e];rfl,(iw33 _ dx _ hr T.aB T.br (iw11 _ (iH l t p) (aS g1 ?_)))⟩;rw[B9];refine(iw11 _ rfl ?_);rcases q with⟨c,q⟩ | ⟨c,q⟩
   ·rw[if_neg (by simp[c])];exact q
   ·rw[if_pos (by simp[c])]
    exact(iw33 _ dx _ hr T.aB T.br (iw11 _ (iH l t p) (aS g1 q)))
theorem ku (T:Txt w K mg a):FnOk P w K mg base (CXv P w) 4 a.f_Senders_spot_of a.d_Senders_spot_of ["self","name","number"] (yM a.C_Senders a.C_NoSuch a.C_Gap a.C_TooOld):=by
 refine T.cZ.F.okX bW (λvs H Q E h=>?_) (λcdv A outer s H vs Q E hr h=>?_)
 ·(revert h;refine ow60 λr l t p Z M=>ow21 λn k zz1 _=>?_;subst zz1)
  rfl
 ·(revert h;refine ow60 λr l t p Z M=>ow22 λn k zz1 R q=>?_;subst zz1)
  refine(iw11 _ (ag (aK (aL (pv 0) T.aB T.a8.m (cE T) (hr.mono (by decide)) T.a8.b .nil passX (aa (pv 1) af)))
   (ag (PS.nox (aw (i:=3) bW.nd rfl (Or.inl rfl) (aD (aF (K:=K)) (av (ak (K:=K) (hU1 hr)) (au (K:=K) (pv 0) rfl) (pv 1) (λ_ _=>rfl)) ah)))
   (ag (aQ (PT.nox (aE vh (pv 2) (pv 3) (nomark _))) (ai (eG T.Be T.Ey T.Ez (nH T) (hr.mono (by decide)) rfl T.A9 T.iY.b (by decide) raiseX (aa (pv 3) af))) aC)
   (ag (PS.nox (aQ (aE (bJ (K:=K) (hU hr)) (pv 2) (pv 3) (nomark _)) (ai (ar uZ)) aC))
   (ag (PS.nox (aw (i:=4) bW.nd rfl (Or.inl rfl) (av (ak (K:=K) (hU1 hr)) (au (K:=K) (pv 0) rfl) (pv 1) (λ_ _=>rfl))))
   (ag (PS.nox (aw (i:=5) bW.nd rfl (Or.inl rfl) (aD iB (pv 3) (ax (aH (K:=K)) (by rfl) T.cf boot_len (aa (pv 4) af)))))
   (ag (aQ (PT.nox (aE j4 (pv 2) (pv 5) (nomark _))) (ai (eG T.pO T.zy T.zz (ko T) (hr.mono (by decide)) rfl T.rg T.fS.b (by decide) raiseX (aa (pv 2) af))) aC)
   (ai (PS.nox (ar (av (ak (K:=K) (hU1 hr)) (pv 4) (aD iB (pv 2) (pv 5)) (λ_ _=>rfl)))))))))))) ?_)
  obtain⟨dx,hr⟩:=R.obj;(refine pw12 R.las λk2 ht hk2 v2=>?_);(refine pw12 R.spo λk3 hp hk3 v3=>?_);walk_at "rd";refine(iw22 dx _ hr rfl (iw51 l t p Z M R ?_));rcases q with⟨e,q⟩ | ⟨e,q⟩
  ·exact .inr ⟨e,q⟩
  ·obtain⟨v,ev⟩:=Option.isSome_iff_exists.mp e
   (refine pw12 (v3 n e) λqa hq1 zz1 _=>?_;obtain ⟨ts,hts,htt⟩:=zz1);have htl:ts.length=(M.P n).length:=by have:=htt.length;rw[List.length_map] at this;exact this
   have g1:DGet H t (.str n) (some (.int (M.T n))):=by have:=DGet.k (k:=.inr n) ht;rw[v2 n,ev] at this;exact this
   have g2:DGet H p (.str n) (some (.ref qa)):=by have:=DGet.k (k:=.inr n) hp;rw[hq1] at this;exact this
   refine .inl ⟨e,(iw33 _ dx _ hr T.aB T.aZ (iw11 _ (eJ l t p) (aS g1 ?_)))⟩;rw[tS];refine(iw11 _ rfl ?_);rcases q with⟨c,q⟩ | ⟨c,q⟩ | ⟨c,q⟩ | ⟨i,x,c,hx,q⟩
   ·rw[if_pos c];exact q
   ·rw[if_neg (by omega),rR]
    refine(iw11 _ rfl ?_);rw[if_pos (decide_eq_true c)];exact q
   ·rw[if_neg (by omega),rR]
    refine(iw11 _ rfl ?_);rw[if_neg (by rw[decide_eq_false (by omega)];simp)];refine(iw33 _ dx _ hr T.aB T.bt (iw11 _ (iI l t p) (aS g2 (bB (.inl (.inl hts)) (iw11 _ rfl (iw11 _ rfl ?_))))));rw[List.length_map,htl,if_pos c];exact q
   ·have hi:=(List.getElem?_eq_some_iff.mp hx).1
    rw[if_neg (by omega),rR];refine(iw11 _ rfl ?_);rw[if_neg (by rw[decide_eq_false (by omega)];simp)];refine(iw33 _ dx _ hr T.aB T.bt (iw11 _ (iI l t p) (aS g2 (bB (.inl (.inl hts)) (iw11 _ rfl (iw11 _ rfl ?_))))));rw[List.length_map,htl,if_neg (by omega)];obtain⟨u,hu⟩:∃u,ts[i]?=some u:=⟨ts[i]'(by omega),List.getElem?_eq_getElem (by omega)⟩
    (refine pw11 (htt.get hu) λz z1 z2=>?_);rw[List.getElem?_map,hx] at z1;cases z1;refine aT (.inl (.inl hts)) (bZ (by omega) ?_) (q u z2);rw[show(k - (M.T n+1 - ((M.P n).length:Int))).toNat=i by omega,List.getElem?_map,hu];rfl
theorem nJ (T:Txt w K mg a):FnOk P w K mg base (CXv P w) 4 a.f_Senders_note a.d_Senders_note ["self","name","number","row","place"] (yN a.C_Senders a.C_NoSuch a.C_Gap a.C_TooOld):=by
 refine T.fg.F.okX iq (λvs H Q E h=>?_) (λcdv A outer s H vs Q E hr h=>?_)
 ·(revert h;refine ow60 λr l t p Z M=>ow41 λn k x y zz1 _=>?_;subst zz1)
  rfl
 ·(revert h;refine ow60 λr l t p Z M=>ow44 λn k x y zz1 R e c=>ow02 λhz hZ q=>?_;subst zz1)
  refine(iw11 _ (ag (aK (aL (pv 0) T.aB T.a8.m (cE T) (hr.mono (by decide)) T.a8.b .nil passX (aa (pv 1) af)))
   (ag (PS.nox (aw (i:=5) iq.nd rfl (Or.inl rfl) (aD (aF (K:=K)) (av (ak (K:=K) (hU1 hr)) (au (K:=K) (pv 0) rfl) (pv 1) (λ_ _=>rfl)) ah)))
   (ag (aQ (PT.nox (aE vh (pv 2) (pv 5) (nomark _))) cO aC)
   (ag (aQ (PT.nox (aE j4 (pv 2) (pv 5) (nomark _))) cO aC)
   (ag (PS.nox (dQ (pv 2) (d6 (au (K:=K) (pv 0) rfl) (pv 1) (cT (hU1 hr)))))
   (ai (PS.nox (dQ (oj (rT (K:=K)) (aD (aF (K:=K)) (av (ak (K:=K) (hU1 hr)) (au (K:=K) (pv 0) rfl) (pv 1) (λ_ _=>rfl)) (aX (aa (aR (aa (pv 3) (aa (pv 4) af))) af))) (nP (CU Ac (bF T.sR))) xf) (d6 (au (K:=K) (pv 0) rfl) (pv 1) (cT (hU1 hr))))))))))) ?_)
  obtain⟨dx,hr⟩:=R.obj;(refine pw12 R.liv λk1 hl hk1 v1=>?_);(refine pw12 R.las λk2 ht hk2 v2=>?_);(refine pw12 R.spo λk3 hp hk3 v3=>?_);walk_at "c2";refine(iw22 dx _ hr rfl (iw51 l t p Z M R ?_));obtain⟨v,ev⟩:=Option.isSome_iff_exists.mp e;(refine pw12 (v3 n e) λqa hq1 zz1 hqz=>?_;obtain ⟨ts,hts,htt⟩:=zz1);have htl:ts.length=(M.P n).length:=by have:=htt.length;rw[List.length_map] at this;exact this
  have g1:DGet H t (.str n) (some (.int (M.T n))):=by have:=DGet.k (k:=.inr n) ht;rw[v2 n,ev] at this;exact this
  have g2:DGet H p (.str n) (some (.ref qa)):=by have:=DGet.k (k:=.inr n) hp;rw[hq1] at this;exact this
  refine .inl ⟨e,(iw33 _ dx _ hr T.aB T.aZ (iw11 _ (eJ l t p) (aS g1 ?_)))⟩;rw[tS];walk_at "n2";rw[if_neg (by omega),if_neg (by omega)];walk_at "nx";refine(iw33 _ dx _ hr T.aB T.aZ (iw11 _ (eJ l t p) (fz (DPut.k (k:=.inr n) ht (Nat.lt_of_le_of_lt hk2 (Nat.lt_of_le_of_lt hz (by decide)))) ?_)));have c1:Chg [t] H (upd H t (.dK (putK k2 (.inr n) (.int k)))):=Chg.upd (by simp) (lT ht);have a1:upd H t (.dK (putK k2 (.inr n) (.int k))) t=some (.dK (putK k2 (.inr n) (.int k))):=ae;generalize upd H t (.dK (putK k2 (.inr n) (.int k)))=H1 at c1 a1 ⊢;walk_at "ls";have hp1:=c1.keep _ _ hp (n1 (Ne.symm R.tp));have hr1:=c1.keep _ _ hr (n1 R.rt);have hl1:=c1.keep _ _ hl (n1 R.lt);have hts1:=c1.keep _ _ hts (n1 (ie hts ht (by intro z;cases z)));have g3:DGet H1 p (.str n) (some (.ref qa)):=by have:=DGet.k (k:=.inr n) hp1;rw[hq1] at this;exact this
  refine(iw33 _ dx _ hr1 T.aB T.bt (iw11 _ (iI l t p) (aS g3 ⟨by decide,λu hu=>⟨by decide,λb hb=>?_⟩⟩)));have nub:u≠b:=λz=>by rw[<-z,ae] at hb;cases hb
  have s2:Same H1 (upd (upd H1 u (.tup [V.int x,V.int y])) b (.lst [V.ref u])):=(Same.upd hu).trans (Same.upd hb);have hb2:upd (upd H1 u (.tup [V.int x,V.int y])) b (.lst [V.ref u]) b=some (.lst [V.ref u]):=ae;have hu2:upd (upd H1 u (.tup [V.int x,V.int y])) b (.lst [V.ref u]) u=some (.tup (spotV (x,y))):=(aj nub).trans ae;generalize upd (upd H1 u (.tup [V.int x,V.int y])) b (.lst [V.ref u])=H2 at s2 hb2 hu2 ⊢;have h8:=R.len n;refine xj (.inl (.inl (s2 _ _ hts1))) (.inl (.inl hb2)) (by rw[List.length_map,htl];exact Nat.le_trans (show(M.P n).length+1<=9 by omega) (by decide)) λe1 he1=>?_;have s3:Same H2 (upd H2 e1 (.lst (ts.map V.ref++[V.ref u]))):=Same.upd he1;have a3:upd H2 e1 (.lst (ts.map V.ref++[V.ref u])) e1=some (.lst (ts.map V.ref++[V.ref u])):=ae;generalize upd H2 e1 (.lst (ts.map V.ref++[V.ref u]))=H3 at s3 a3 ⊢;refine vn (.inl (.inl a3)) λe2 he2=>?_;have en:cutV (ts.map V.ref++[V.ref u]) (some (-8)) none=((ts++[u]).drop ((M.P n++[(x,y)]).length - 8)).map V.ref:=by
   rw[yO,List.map_drop,List.map_append];congr 1;rw[List.length_append,List.length_append,List.length_map,htl];rfl
  rw[en];have s4:Same H3 (upd H3 e2 (.lst (((ts++[u]).drop ((M.P n++[(x,y)]).length - 8)).map V.ref))):=Same.upd he2;have a4:upd H3 e2 (.lst (((ts++[u]).drop ((M.P n++[(x,y)]).length - 8)).map V.ref)) e2=some (.lst (((ts++[u]).drop ((M.P n++[(x,y)]).length - 8)).map V.ref)):=ae;generalize upd H3 e2 (.lst (((ts++[u]).drop ((M.P n++[(x,y)]).length - 8)).map V.ref))=H4 at s4 a4 ⊢;have s14:=(s2.trans s3).trans s4;have he0:H e2=none:=by
   have h1:H1 e2=none:=bp (s2.trans s3) he2;cases z:H e2 with
   | none=>rfl
   | some o=>
    by_cases et:e2=t
    ·rw[et,a1] at h1;cases h1
    ·rw[c1.keep _ _ z (n1 et)] at h1;cases h1
  refine(iw33 _ dx _ (s14 _ _ hr1) T.aB T.bt (iw11 _ (iI l t p) (fz (DPut.k (k:=.inr n) (s14 _ _ hp1) (Nat.lt_of_le_of_lt hk3 (Nat.lt_of_le_of_lt hz (by decide)))) ?_)));have c5:Chg [p] H4 (upd H4 p (.dK (putK k3 (.inr n) (.ref e2)))):=Chg.upd (by simp) (lT (s14 _ _ hp1));have cA:Chg [t,p] H (upd H4 p (.dK (putK k3 (.inr n) (.ref e2)))):=(c1.mono (by simp)).trans ((Chg.of_same s14).trans (c5.mono (by simp)));refine q _ cA ⟨⟨dx,c5.keep _ _ (s14 _ _ hr1) (n1 R.rp)⟩,(iw12 k1 (c5.keep _ _ (s14 _ _ hl1) (n1 R.lp)) (Nat.le_succ_of_le hk1) v1),(iw12 _ (c5.keep _ _ (s14 _ _ a1) (n1 R.tp)) ?_ (λz=>?_)),(iw12 _ ae ?_ (λz hzz=>?_)),λz=>?_,R.rl,R.rt,R.rp,R.lt,R.lp,R.tp⟩
  ·have:=bE k2 (.inr n:Key) (.int k)
   show(putK k2 (.inr n:Key) (.int k)).length<=M.sz+1;omega
  ·rw[d8]
   show _=(M.L z).map λ_=>V.int (if z=n then k else M.T z)
   by_cases ez:z=n
   ·subst ez
    rw[if_pos rfl,if_pos rfl,ev];rfl
   ·rw[if_neg (λh=>ez (Sum.inr.inj h)),if_neg ez]
    exact v2 z
  ·have:=bE k3 (.inr n:Key) (.ref e2)
   show(putK k3 (.inr n:Key) (.ref e2)).length<=M.sz+1;omega
  ·show ∃q,_/\LTups _ q ((if z=n then(M.P n++[(x,y)]).drop ((M.P n++[(x,y)]).length - 8) else M.P z).map spotV)/\q∉Z
   rw[d8]
   by_cases ez:z=n
   ·subst ez
    rw[if_pos rfl,if_pos rfl];refine(iw12 e2 rfl (iw11 _ (c5.keep _ _ a4 (by simp;exact λw=>by rw[w,hp] at he0;cases he0)) ?_) (λm=>?_))
    ·have h2:TupsAt H4 (ts++[u]) ((M.P z++[(x,y)]).map spotV):=by
      rw[List.map_append];exact((htt.chg c1).chg (Chg.of_same (A:=[]) s14)).snoc (s4 _ _ (s3 _ _ hu2))
     rw[List.map_drop];exact(h2.drop _).chg c5
    ·obtain⟨o,ho⟩:=hZ e2 m
     rw[he0] at ho;cases ho
   ·rw[if_neg (λh=>ez (Sum.inr.inj h)),if_neg ez]
    (refine pw12 (v3 z hzz) λqz z1 z2 z3=>?_);refine(iw12 qz z1 (z2.chg cA ?_) z3);(revert z2;refine ow11 λtz w1 _=>?_);simp;exact⟨ie w1 ht (by intro z;cases z),ie w1 hp (by intro z;cases z)⟩
  ·show(if z=n then(M.P n++[(x,y)]).drop ((M.P n++[(x,y)]).length - 8) else M.P z).length<=8
   split
   ·rw[List.length_drop];omega
   ·exact R.len z
theorem nK (T:Txt w K mg a):FnOk P w K mg base CX0 2 a.f_Senders_hail a.d_Senders_hail ["self","name"] (yI a.C_Senders):=by
 refine T.fe.F.ok ik (λvs H Q E h=>?_) (λcdv A outer s H vs Q E hr h=>?_)
 ·(revert h;refine ow60 λr l t p Z M=>ow11 λn zz1 _=>?_;subst zz1)
  rfl
 ·(revert h;refine ow60 λr l t p Z M=>ow13 λn zz1 R hz=>ow02 λhpos hZ q=>?_;subst zz1)
  refine(iw11 _ (ag (aw (i:=2) ik.nd rfl (Or.inl rfl) (aD (aF (K:=K)) (aL (pv 0) T.aB T.bH.m (fq T) (hr.mono (by decide)) T.bH.b .nil pass0 (aa (pv 1) af)) ah))
   (ag (dQ (pv 2) (d6 (au (K:=K) (pv 0) rfl) (pv 1) (cT (hU1 hr))))
   (ag (aQ (aE (bJ (K:=K) (hU hr)) (pv 2) ah (nomark _)) (ag (dQ ah (d6 (au (K:=K) (pv 0) rfl) (pv 1) (cT (hU1 hr))))
   (ai (dQ (aX af) (d6 (au (K:=K) (pv 0) rfl) (pv 1) (cT (hU1 hr)))))) aC)
   (ai (ar (aR (aa (pv 2) (aa (av (ak (K:=K) (hU1 hr)) (au (K:=K) (pv 0) rfl) (pv 1) (λ_ _=>rfl)) af)))))))) ?_)
  obtain⟨dx,hr⟩:=R.obj;(refine pw12 R.liv λk1 hl hk1 v1=>?_);(refine pw12 R.las λk2 ht hk2 v2=>?_);(refine pw12 R.spo λk3 hp hk3 v3=>?_);walk_at "c2";refine(iw22 dx _ hr rfl (iw51 l t p Z M R (iw33 _ dx _ hr T.aB T.br (iw11 _ (iH l t p) (fz (DPut.k (k:=.inr n) hl (Nat.lt_of_le_of_lt hk1 (Nat.lt_of_le_of_lt hz (by decide)))) ?_)))));have c1:Chg [l] H (upd H l (.dK (putK k1 (.inr n) (.int ((M.L n).getD 0+1))))):=Chg.upd (by simp) (lT hl);have a1:upd H l (.dK (putK k1 (.inr n) (.int ((M.L n).getD 0+1)))) l=some (.dK (putK k1 (.inr n) (.int ((M.L n).getD 0+1)))):=ae;have z1:(putK k1 (.inr n:Key) (.int ((M.L n).getD 0+1))).length<=M.sz+1:=by have:=bE k1 (.inr n:Key) (.int ((M.L n).getD 0+1));omega
  have w1:∀z,valV (putK k1 (.inr n) (.int ((M.L n).getD 0+1))) (.inr z)=((M.hail n).L z).map V.int:=λz=>by
   rw[d8];show _=(if z=n then some ((M.L n).getD 0+1) else M.L z).map V.int
   by_cases ez:z=n
   ·subst ez;rw[if_pos rfl,if_pos rfl];rfl
   ·rw[if_neg (λh=>ez (Sum.inr.inj h)),if_neg ez];exact v1 z
  generalize putK k1 (.inr n:Key) (.int ((M.L n).getD 0+1))=kk1 at c1 a1 z1 w1 ⊢;generalize upd H l (.dK kk1)=H1 at c1 a1 ⊢;walk_at "nx";have hr1:=c1.keep _ _ hr (by simp;exact R.rl);have ht1:=c1.keep _ _ ht (by simp;exact Ne.symm R.lt);have hp1:=c1.keep _ _ hp (by simp;exact Ne.symm R.lp);have new:∀b,H1 b=none->H b=none:=λb hb=>by
   cases z:H b with
   | none=>rfl
   | some o=>
    by_cases et:b=l
    ·rw[et,a1] at hb;cases hb
    ·rw[c1.keep _ _ z (by simp;exact et)] at hb;cases hb
  have isl:∀z,z≠n->((M.hail n).L z).isSome=true->(M.L z).isSome=true:=λz ez h=>by
   have h':(if z=n then some ((M.L n).getD 0+1) else M.L z).isSome=true:=h;rw[if_neg ez] at h';exact h'
  cases ev:M.L n with
  | some v=>
   have hv:=hpos v ev;rw[ev] at q;have e0:¬(some v).getD 0+1=1:=by show ¬v+1=1;omega
   have e0':¬(M.L n).getD 0=0:=by rw[ev];show ¬v=0;omega
   have eT:∀z,(M.hail n).T z=M.T z:=λz=>by
    show(if z=n then(if (M.L n).getD 0=0 then 0 else M.T n) else M.T z)=M.T z
    by_cases ez:z=n
    ·rw[if_pos ez,if_neg e0',ez]
    ·rw[if_neg ez]
   have eP:∀z,(M.hail n).P z=M.P z:=λz=>by
    show(if z=n then(if (M.L n).getD 0=0 then[] else M.P n) else M.P z)=M.P z
    by_cases ez:z=n
    ·rw[if_pos ez,if_neg e0',ez]
    ·rw[if_neg ez]
   rw[if_neg e0];walk_at "ls";have g1:DGet H1 t (.str n) (some (.int (M.T n))):=by have:=DGet.k (k:=.inr n) ht1;rw[v2 n,ev] at this;exact this
   refine(iw33 _ dx _ hr1 T.aB T.aZ (iw11 _ (eJ l t p) (aS g1 ⟨by decide,λu hu=>?_⟩)));have s2:Same H1 (upd H1 u (.tup [V.int ((some v).getD 0+1),V.int (M.T n)])):=Same.upd hu;refine q u _ ((c1.mono (by simp)).trans (Chg.of_same s2)) ⟨⟨dx,s2 _ _ hr1⟩,(iw12 _ (s2 _ _ a1) z1 w1),(iw12 k2 (s2 _ _ ht1) (Nat.le_succ_of_le hk2) (λz=>?_)),(iw12 k3 (s2 _ _ hp1) (Nat.le_succ_of_le hk3) (λz hzz=>?_)),λz=>by rw[eP];exact R.len z,R.rl,R.rt,R.rp,R.lt,R.lp,R.tp⟩ (new u hu) (by rw[eT];exact ae)
   ·rw[eT,v2 z]
    show _=(if z=n then some ((M.L n).getD 0+1) else M.L z).map _
    by_cases ez:z=n
    ·rw[if_pos ez,ez,ev];rfl
    ·rw[if_neg ez]
   ·have hz0:(M.L z).isSome=true:=by
     by_cases ez:z=n
     ·rw[ez,ev];rfl
     ·exact isl z ez hzz
    (refine pw12 (v3 z hz0) λqz y1 y2 y3=>?_);rw[eP];refine(iw12 qz y1 ((y2.chg c1 ?_).same s2) y3);(revert y2;refine ow11 λtz x1 _=>?_);simp;exact ie x1 hl (by intro z;cases z)
  | none=>
   rw[ev] at q;have e0':(M.L n).getD 0=0:=by rw[ev];rfl
   rw[if_pos (show(none:Option Int).getD 0+1=1 from rfl)];refine(iw33 _ dx _ hr1 T.aB T.aZ (iw11 _ (eJ l t p) (fz (DPut.k (k:=.inr n) ht1 (Nat.lt_of_le_of_lt hk2 (Nat.lt_of_le_of_lt hz (by decide)))) ⟨Nat.zero_le _,?_⟩)));have c2:Chg [t] H1 (upd H1 t (.dK (putK k2 (.inr n) (.int 0)))):=Chg.upd (by simp) (lT ht1);have a2:upd H1 t (.dK (putK k2 (.inr n) (.int 0))) t=some (.dK (putK k2 (.inr n) (.int 0))):=ae;generalize upd H1 t (.dK (putK k2 (.inr n) (.int 0)))=H2 at c2 a2 ⊢;have hr2:=c2.keep _ _ hr1 (by simp;exact R.rt);have hl2:=c2.keep _ _ a1 (by simp;exact R.lt);have hp2:=c2.keep _ _ hp1 (by simp;exact Ne.symm R.tp)
   have new2:∀b,H2 b=none->H b=none:=λb hb=>new b (by
    cases z:H1 b with
    | none=>rfl
    | some o=>
     by_cases et:b=t
     ·rw[et,a2] at hb;cases hb
     ·rw[c2.keep _ _ z (by simp;exact et)] at hb;cases hb)
   refine λb hb=>?_;have s3:Same H2 (upd H2 b (.lst [])):=Same.upd hb;have a3:upd H2 b (.lst []) b=some (.lst []):=ae;generalize upd H2 b (.lst [])=H3 at s3 a3 ⊢;have hb0:=new2 b hb;refine(iw33 _ dx _ (s3 _ _ hr2) T.aB T.bt (iw11 _ (iI l t p) (fz (DPut.k (k:=.inr n) (s3 _ _ hp2) (Nat.lt_of_le_of_lt hk3 (Nat.lt_of_le_of_lt hz (by decide)))) ?_)));have c4:Chg [p] H3 (upd H3 p (.dK (putK k3 (.inr n) (.ref b)))):=Chg.upd (by simp) (lT (s3 _ _ hp2));have a4:upd H3 p (.dK (putK k3 (.inr n) (.ref b))) p=some (.dK (putK k3 (.inr n) (.ref b))):=ae;generalize upd H3 p (.dK (putK k3 (.inr n) (.ref b)))=H4 at c4 a4 ⊢;walk_at "ls";have hr4:=c4.keep _ _ (s3 _ _ hr2) (by simp;exact R.rp);have ht4:=c4.keep _ _ (s3 _ _ a2) (by simp;exact R.tp);have hl4:=c4.keep _ _ (s3 _ _ hl2) (by simp;exact R.lp);have hb4:=c4.keep _ _ a3 (by simp;exact λw=>by rw[w,hp] at hb0;cases hb0)
   have new4:∀c,H4 c=none->H c=none:=λc hc=>new2 c (bp s3 (by
    cases z:H3 c with
    | none=>rfl
    | some o=>
     by_cases et:c=p
     ·rw[et,a4] at hc;cases hc
     ·rw[c4.keep _ _ z (by simp;exact et)] at hc;cases hc))
   have g1:DGet H4 t (.str n) (some (.int 0)):=by have:=DGet.k (k:=.inr n) ht4;rw[d8,if_pos rfl] at this;exact this
   refine(iw33 _ dx _ hr4 T.aB T.aZ (iw11 _ (eJ l t p) (aS g1 ⟨by decide,λu hu=>?_⟩)));have s5:Same H4 (upd H4 u (.tup [V.int ((none:Option Int).getD 0+1),V.int 0])):=Same.upd hu;have cA:Chg [l,t,p] H (upd H4 u (.tup [V.int ((none:Option Int).getD 0+1),V.int 0])):=(((c1.mono (by simp)).trans (c2.mono (by simp))).trans (Chg.of_same s3)).trans ((c4.mono (by simp)).trans (Chg.of_same s5));refine q u _ cA ⟨⟨dx,s5 _ _ hr4⟩,(iw12 _ (s5 _ _ hl4) z1 w1),(iw12 _ (s5 _ _ ht4) ?_ (λz=>?_)),(iw12 _ (s5 _ _ a4) ?_ (λz hzz=>?_)),λz=>?_,R.rl,R.rt,R.rp,R.lt,R.lp,R.tp⟩ (new4 u hu) ?_
   ·have:=bE k2 (.inr n:Key) (.int 0)
    show(putK k2 (.inr n:Key) (.int 0)).length<=M.sz+1;omega
   ·rw[d8]
    show _=(if z=n then some ((M.L n).getD 0+1) else M.L z).map λ_=>V.int (if z=n then(if (M.L n).getD 0=0 then 0 else M.T n) else M.T z)
    by_cases ez:z=n
    ·subst ez;rw[if_pos rfl,if_pos rfl,if_pos rfl,if_pos e0'];rfl
    ·rw[if_neg (λh=>ez (Sum.inr.inj h)),if_neg ez,if_neg ez];exact v2 z
   ·have:=bE k3 (.inr n:Key) (.ref b)
    show(putK k3 (.inr n:Key) (.ref b)).length<=M.sz+1;omega
   ·show ∃q,_/\LTups _ q ((if z=n then(if (M.L n).getD 0=0 then[] else M.P n) else M.P z).map spotV)/\q∉Z
    rw[d8]
    by_cases ez:z=n
    ·subst ez
     rw[if_pos rfl,if_pos rfl,if_pos e0'];refine(iw12 b rfl (iw11 ([]) (s5 _ _ hb4) (.nil)) (λm=>?_));obtain⟨o,ho⟩:=hZ b m;rw[hb0] at ho;cases ho
    ·rw[if_neg (λh=>ez (Sum.inr.inj h)),if_neg ez]
     (refine pw12 (v3 z (isl z ez hzz)) λqz y1 y2 y3=>?_);refine(iw12 qz y1 (y2.chg cA ?_) y3);(revert y2;refine ow11 λtz x1 _=>?_);simp;exact⟨ie x1 hl (by intro z;cases z),ie x1 ht (by intro z;cases z),ie x1 hp (by intro z;cases z)⟩
   ·show(if z=n then(if (M.L n).getD 0=0 then[] else M.P n) else M.P z).length<=8
    by_cases ez:z=n
    ·rw[if_pos ez,if_pos e0'];exact Nat.zero_le _
    ·rw[if_neg ez];exact R.len z
   ·show _=some (HO.tup [V.int ((none:Option Int).getD 0+1),V.int (if n=n then(if (M.L n).getD 0=0 then 0 else M.T n) else M.T n)])
    rw[if_pos rfl,if_pos e0'];exact ae
local macro_rules | `(tactic| walk_at "rd")=>rdM "iZipT um uo sr vV uq su sv ur mf oR y4 uv vZ uy sC uz uA sD v5 v7 wa mh wb p9 wc zd sF Cz we yF A3 vt"
theorem wJ (T:Txt w K mg a):FnOk P w K mg base CX0 1 a.f_is_kind a.d_is_kind ["thing"] uc:=by
 refine T.jy.F.ok wy (λvs H Q E h=>?_) (λcdv A outer s H vs Q E hr h=>?_)
 ·(revert h;refine ow11 λv zz1 _=>?_;subst zz1)
  rfl
 ·(revert h;refine ow12 λv zz1 hv q=>?_;subst zz1)
  refine(iw11 _ (ai (ar (dm (ax (aM (K:=K)) (by rfl) T.bc boot_isinstance (aa (pv 0) (aa (dE (v:=.ty "str") rfl T.ng boot_str rfl) af))) (fZ (dF (vo (K:=K) (hU1 hr)) (pv 0) (qH (K:=K) T.CQ) (by rfl)))))) ?_);cases hv with
  | non=>walk_at "rd";exact q
  | bl b=>walk_at "rd";exact q
  | int i=>walk_at "rd";exact q
  | lst h=>
   walk_at "rd";rw[mV h];walk_at "rd";exact q
  | str z=>
   walk_at "rd";refine λp hp=>Aw (.inr (hp H)) rfl rfl ?_;have e:inV (.str z) [V.str (Str.ofString "table"),V.str (Str.ofString "stream")]=kindV (.str z):=by
    unfold inV kindV;simp only[List.any_cons,List.any_nil,Bool.or_false,eqV];have b1:(Str.ofString "table" == z)=decide (z=kTab):=by
     by_cases y:z=kTab
     ·rw[y,decide_eq_true rfl];exact beq_self_eq_true _
     ·rw[decide_eq_false y];exact beq_eq_false_iff_ne.mpr λw=>y w.symm
    have b2:(Str.ofString "stream" == z)=decide (z=kStr):=by
     by_cases y:z=kStr
     ·rw[y,decide_eq_true rfl];exact beq_self_eq_true _
     ·rw[decide_eq_false y];exact beq_eq_false_iff_ne.mpr λw=>y w.symm
    rw[b1,b2]
   rw[e];exact q
theorem uV (T:Txt w K mg a):FnOk P w K mg base CX0 3 a.f_is_shelf a.d_is_shelf ["thing"] kQ:=by
 refine T.hJ.F.ok uM (λvs H Q E h=>?_) (λcdv A outer s H vs Q E hr h=>?_)
 ·(revert h;refine ow21 λv b zz1 _=>?_;subst zz1)
  rfl
 ·(revert h;refine ow22 λv b zz1 hv q=>?_;subst zz1)
  refine(iw11 _ (ag (aQ (PW.pt (mQ (dk (bg (K:=K) (ax (aM (K:=K)) (by rfl) T.bc boot_isinstance (aa (pv 0) (aa (dE (v:=.ty "tuple") rfl T.xH boot_tuple rfl) af))) (by intro _;rfl))) (jZ (aE (dq (K:=K) (hU hr)) (ax (aH (K:=K)) (by rfl) T.cf boot_len (aa (pv 0) af)) ah (nomark _))))) (ai (ar iA)) aC)
   (ai (ar (dm (aq (pR T) (hr.mono (by decide)) rfl T.dB.m T.dB.F.kp T.dB.b .nil pass0 (aa (av (ak (K:=K) (hU1 hr)) (pv 0) ah (λ_ _=>rfl)) af)) (dm (aq (nh T) (hr.mono (by decide)) rfl T.cK.m T.cK.F.kp T.cK.b .nil pass0 (aa (av (ak (K:=K) (hU1 hr)) (pv 0) ah (λ_ _=>rfl)) (aa ah (aa (bF T.uS) af)))) (fZ (aq (wJ T) (hr.mono (by decide)) rfl T.jy.m T.jy.F.kp T.jy.b .nil pass0 (aa (av (ak (K:=K) (hU1 hr)) (pv 0) ah (λ_ _=>rfl)) af)))))))) ?_)
  have tri:∀(p:Addr) (x y z:V) (Q':VK),H p=some (.tup [x,y,z])->Thg H x->Thg H y->KThg H z->(∀H',Same H H'->Q (.bl (formV x 1 12 inN && (wholeV y 1 9 && kindV z))) H')->Q'=Q->
    rIxA K (V.ref p) (V.int 0) H λx H1=>Thg H1 x/\∀H',Same H1 H'->if formV x 1 12 inN=true then rIxA K (V.ref p) (V.int 1) H' λx H1=>Thg H1 x/\if wholeV x 1 9=true then rIxA K (V.ref p) (V.int 2) H1 λx H1=>KThg H1 x/\Q' (V.bl (kindV x)) H1 else Q' (V.bl false) H1 else Q' (V.bl false) H':=λp x y z Q' hp hx hy hz hq e=>by
   subst e;refine aO (v:=x) (SqT.of hp) rfl ⟨hx,λH' s=>?_⟩;have hq':=hq H' s
   by_cases h1:formV x 1 12 inN=true
   ·rw[if_pos h1]
    rw[h1,Bool.true_and] at hq';refine aO (v:=y) (SqT.of (s _ _ hp)) rfl ⟨hy.same s,?_⟩
    by_cases h2:wholeV y 1 9=true
    ·rw[if_pos h2]
     rw[h2,Bool.true_and] at hq';exact aO (v:=z) (SqT.of (s _ _ hp)) rfl ⟨hz.same s,hq'⟩
    ·rw[if_neg h2]
     rw[Bool.not_eq_true] at h2;rw[h2,Bool.false_and] at hq';exact hq'
   ·rw[if_neg h1]
    rw[Bool.not_eq_true] at h1;rw[h1,Bool.false_and] at hq';exact hq'
  cases hv with
  | good h ok=>
   rename_i t x
   (revert ok;refine ow02 λzz1 zz2 hk=>?_;obtain ⟨n1,n2,n3⟩:=zz1;obtain ⟨r1,r2⟩:=zz2);walk_at "rd";rw[gb h];walk_at "rd";refine vm (SqT.of h) ?_;have e3:((x.v.length:Nat):Int)=3:=rfl;rw[e3];walk_at "rd";refine tri t (.str (S x.name)) (.int x.rows) (.str x.kind) Q h (.str _ (by omega)) (.int _) (.str _) (λH' s=>?_) rfl;have ef:formV (.str (S x.name)) 1 12 inN=true:=by
    simp only[formV,ck,Bool.and_eq_true,decide_eq_true_eq];exact⟨by omega,by omega,n3⟩
   have ew:wholeV (.int (x.rows:Int)) 1 9=true:=by
    simp only[wholeV,Bool.and_eq_true,decide_eq_true_eq];omega
   have ek:kindV (.str x.kind)=true:=by
    unfold kindV;rcases hk with e | e<;>simp[e]
   rw[ef,ew,ek];exact q H' s
theorem pT (T:Txt w K mg a):FnOk P w K mg base CX0 4 a.f_are_shelves a.d_are_shelves ["thing"] nk:=by
 refine T.dJ.F.ok pA (λvs H Q E h=>?_) (λcdv A outer s H vs Q E hr h=>?_)
 ·(revert h;refine ow21 λv b zz1 _=>?_;subst zz1)
  rfl
 ·(revert h;refine ow22 λv b zz1 hv q=>?_;subst zz1)
  refine(iw11 _ (ag (aQ (PW.pt (mQ (dk (bg (K:=K) (ax (aM (K:=K)) (by rfl) T.bc boot_isinstance (aa (pv 0) (aa (dE (v:=.ty "list") rfl T.ib boot_list rfl) af))) (by intro _;rfl))) (jZ (dk (tm eB eB ah (ax (aH (K:=K)) (by rfl) T.cf boot_len (aa (pv 0) af)) (bF T.pQ)))))) (ai (ar iA)) aC)
   (ag (aQ (dk (bg (K:=K) (ax (dX (K:=K)) (by rfl) T.rh boot_all (aa (cv ["thing"] ["thing"] (defScope dG) (by exact⟨rfl,s!"d",s!"d",s!"d",s!"d",s!"d",s!"d",s!"d",s!"d"⟩) (bf (K:=K) (pv 0)) (λC₁ s₁ H₁ f₁=>(aq (uV T) (hr.mono (by decide)) rfl T.hJ.m T.hJ.F.kp T.hJ.b .nil pass0 (aa (pv 0) af)))) af)) (by intro _;rfl))) (ai (ar iA)) aC)
   (ai (ar (dF (bJ (K:=K) (hU hr)) (yq (K:=K) rfl rfl T.cf rfl T.Fe (cv ["thing"] ["thing"] (defScope dG) (by exact⟨rfl,s!"d",s!"d",s!"d",s!"d",s!"d",s!"d",s!"d",s!"d"⟩) (bf (K:=K) (pv 0)) (λC₁ s₁ H₁ f₁=>(av (ak (K:=K) (hU1 hr)) (pv 0) ah (λ_ _=>rfl))))) (ax (aH (K:=K)) (by rfl) T.cf boot_len (aa (pv 0) af)) (nomark _)))))) ?_)
  have both:∀(p:Addr) (xs:List Shf) (Q':VK),LTups H p (xs.map Shf.v)->1<=xs.length->xs.length<=6->(∀x∈xs,okShf x)->(∀H',Same H H'->Q' (.bl (decide ((onceS (xs.map λx=>S x.name)).length=xs.length))) H')->Q'=Q->
    tSeq (tIfS (tOr (tNot (tTru K (tCB (rIsi K) (tCons (tVar 0) (tCons (tC (V.ty "list")) tNil))))) (tNot (tTest (tChain rLe rLe (tC (V.int 1)) (tCB (rLen K) (tCons (tVar 0) tNil)) (tC (V.int 6)))))) (tRet (tC (V.bl false))) tNext)
     (tSeq (tIfS (tNot (tTru K (tCB (rAll K) (tCons (tComp (iAny K (tVar 0)) tYes (tCall kQ [] E0 (tCons (tVar 0) tNil))) tNil)))) (tRet (tC (V.bl false))) tNext)
      (tRet (tOp (rEqq K) (tLenSet K (tComp (iAny K (tVar 0)) tYes (tOp (rIxA K) (tVar 0) (tC (V.int 0))))) (tCB (rLen K) (tCons (tVar 0) tNil)))))
     { nx:=λx H'=>Q' V.non H',rt:=Q' } (L2.start [Str.ofString "thing"] [V.ref p]) H:=λp xs Q' hl o1 o2 each hq e0=>by
   clear e0;(refine pw11 (id hl) λts e hT=>?_);have hlen:ts.length=xs.length:=by rw[hT.length,List.length_map]
   walk_at "rd";rw[rQ e];walk_at "rd";refine bB (.inl (.inl e)) ?_;rw[List.length_map,hlen];walk_at "rd";rw[if_pos (show(1:Int)<=(xs.length:Int) by omega),if_neg (show ¬¬((xs.length:Int)<=6) by omega)];have hsl:(xs.map Shf.v).length<=sizeLine:=by rw[List.length_map];exact Nat.le_trans o2 (by decide)
   refine cF (.inl (.inl e)) (j6 hl hsl (λ_=>.bl true) ?_ ?_)
   ·intro t ys H' hy s ht Qe qe
    (refine pw11 (List.mem_map.mp hy) λx hx zz1=>?_;subst zz1);walk_at "rd";exact(iw11 true (.good ht (each x hx)) (λH'' s'=>qe H'' s'))
   ·intro D H1 hD s1 h1
    refine lS (bs:=(xs.map Shf.v).map λ_=>true) (.inl (.inl (by rw[h1];simp))) ?_;have ea:(((xs.map Shf.v).map λ_=>true).all id)=true:=by simp
    rw[ea];walk_at "rd";have hl1:=hl.same s1;refine cF (.inl (.inl (s1 _ _ e))) (j6 hl1 hsl (it 0) ?_ ?_)
    ·intro t ys H' hy s ht Qe qe
     (refine pw11 (List.mem_map.mp hy) λx hx zz1=>?_;subst zz1);walk_at "rd";exact aO (v:=it 0 x.v) (.inl (.inl ht)) rfl (qe H' (Same.refl _))
    ·intro D2 H2 hD2 s2 h2
     refine(iw11 D2 rfl (iw12 (xs.map λx=>S x.name) (.inl (.inl (by rw[h2,List.map_map,List.map_map];rfl))) (by rw[List.length_map];omega) (bB (.inl (.inl (s2 _ _ (s1 _ _ e)))) ?_)));rw[List.length_map,hlen];walk_at "rd";have:=hq H2 (s1.trans s2);rw[show decide ((((onceS (xs.map λx=>S x.name)).length:Nat):Int)=((xs.length:Nat):Int))=decide ((onceS (xs.map λx=>S x.name)).length=xs.length) by simp only[Int.natCast_inj]];exact this
  cases hv with
  | good hl ok=>
   rename_i p xs
   refine both p xs Q hl ok.lo ok.hi ok.each (λH' s=>?_) rfl
   have en:(onceS (xs.map λx=>S x.name)).length=xs.length:=tY _ _ (by simp) (by
    have:=ok.nd;rw[show(λx:Shf=>S x.name)=S∘Shf.name from rfl,<-List.map_map]
    exact List.pairwise_map.mpr (List.Pairwise.imp (λh z=>h (ot z)) this))
   rw[decide_eq_true en];exact q H' s
theorem jJ (T:Txt w K mg a):FnOk P w K mg base (CXv P w) 5 a.f_Shelves___init__ a.d_Shelves___init__ ["self","shelves"] (ud a.C_Shelves a.C_BadWord):=by
 refine T.eZ.F.okX jE (λvs H Q E h=>?_) (λcdv A outer s H vs Q E hr h=>?_)
 ·(revert h;refine ow31 λx dx v zz1 _=>?_;subst zz1)
  rfl
 ·(revert h;refine ow32 λx dx v zz1 hx h=>?_;subst zz1)
  refine(iw11 _ (ag (aQ (PT.nox (dk (bg (K:=K) (aq (pT T) (hr.mono (by decide)) rfl T.dJ.m T.dJ.F.kp T.dJ.b .nil pass0 (aa (pv 1) af)) (by intro _;rfl)))) cO aC)
   (ai (PS.nox (bu (pv 0) (bo (cG (K:=K)) rfl T.ib boot_list (aa (pv 1) af)) rfl)))) ?_)
  walk_at "rd";rcases h with⟨p,xs,rfl,hl,ok,q⟩ | ⟨hb,q⟩
  ·refine(iw11 true (.good hl ok) (λH1 s1=>?_))
   rw[if_neg (by decide)];(refine pw11 (hl.same s1) λts e hT=>?_);refine jh (.inl (.inl (.inl e))) λl hl'=>?_;have hlx:x≠l:=λz=>by rw[<-z,s1 _ _ hx] at hl';cases hl'
   refine(iw34 _ dx ([]) ((aj hlx).trans (s1 _ _ hx)) T.bw T.bx (by decide) (q l _ (s1.free hl') ?_ ⟨⟨dx,ae⟩,(iw11 ts ((aj (Ne.symm hlx)).trans ae) ?_)⟩))
   ·exact(Chg.of_same s1).trans ((Chg.new hl').trans (Chg.upd (by simp) (bT ((aj hlx).trans (s1 _ _ hx)))))
   ·exact hT.chg (A:=[x]) ((Chg.new hl').trans (Chg.upd (by simp) (bT ((aj hlx).trans (s1 _ _ hx)))))
  ·cases hb
theorem nL (T:Txt w K mg a):FnOk P w K mg base CX0 1 a.f_Shelves_told a.d_Shelves_told ["self"] (vJ a.C_Shelves):=by
 refine T.fb.F.ok nC (λvs H Q E h=>?_) (λcdv A outer s H vs Q E hr h=>?_)
 ·(revert h;refine ow31 λs l xs zz1 _=>?_;subst zz1)
  rfl
 ·(revert h;refine ow32 λs l xs zz1 R q=>?_;subst zz1)
  refine(iw11 _ (ai (ar (bo (cG (K:=K)) rfl T.ib boot_list (aa (au (K:=K) (pv 0) rfl) af)))) ?_);walk_at "rd";obtain⟨dx,hs⟩:=R.obj;(refine pw11 R.lst λts e hT=>?_);refine(iw33 _ dx _ hs T.bw T.bx (iw11 _ rfl (jh (.inl (.inl (.inl e))) λD hD=>q D _ hD (Same.upd hD) (iw11 ts ae (hT.chg (A:=[]) (Chg.of_same (Same.upd hD)))))))
theorem i9 (T:Txt w K mg a):FnOk P w K mg base CX0 1 a.f_Shelves_many_rows a.d_Shelves_many_rows ["self"] (vD a.C_Shelves):=by
 refine T.cy.F.ok iU (λvs H Q E h=>?_) (λcdv A outer s H vs Q E hr h=>?_)
 ·(revert h;refine ow31 λs l xs zz1 _=>?_;subst zz1)
  rfl
 ·(revert h;refine ow33 λs l xs zz1 R hn q=>?_;subst zz1)
  refine(iw11 _ (ai (ar (ax (qD (K:=K)) (by rfl) T.Dt boot_sum (aa (cv ["self"] ["self"] (defScope cx) (by exact⟨rfl,s!"d",s!"d",s!"d",s!"d",s!"d",s!"d",s!"d",s!"d"⟩) (bf (K:=K) (au (K:=K) (pv 0) rfl)) (λC₁ s₁ H₁ f₁=>(av (ak (K:=K) (hU1 hr)) (pv 0) ah (λ_ _=>rfl)))) af)))) ?_);walk_at "rd";obtain⟨dx,hs⟩:=R.obj;(refine pw11 R.lst λts e hT=>?_);refine(iw33 _ dx _ hs T.bw T.bx (iw11 _ rfl (cF (.inl (.inl e)) (j6 R.lst (by rw[List.length_map];exact Nat.le_trans hn (by decide)) (it 1) ?_ ?_))))
  ·intro t ys H' hy s ht Qe qe
   (refine pw11 (List.mem_map.mp hy) λx hx zz1=>?_;subst zz1);walk_at "rd";exact aO (v:=it 1 x.v) (.inl (.inl ht)) rfl (qe H' (Same.refl _))
  ·intro D H1 hD s1 h1
   refine(iw22 D (xs.map λx=>(x.rows:Int)) rfl (.inl (.inl (by rw[h1,List.map_map,List.map_map];rfl))) ?_);have es:(xs.map λx=>(x.rows:Int)).sum=((startOf xs xs.length:Nat):Int):=by
    unfold startOf;rw[List.take_length];generalize xs=ys
    induction ys with
    | nil=>rfl
    | cons y ys ih=>rw[List.map_cons,List.map_cons,List.sum_cons,List.sum_cons,ih];push_cast;rfl
   rw[es];exact q H1 s1
theorem kz (T:Txt w K mg a):FnOk P w K mg base (CXv P w) 3 a.f_Shelves_rows_of a.d_Shelves_rows_of ["self","name"] (oF a.C_Shelves a.C_NoSuch):=by
 refine T.cX.F.okX bV (λvs H Q E h=>?_) (λcdv A outer s H vs Q E hr h=>?_)
 ·(revert h;refine ow41 λs l xs nm zz1 _=>?_;subst zz1)
  rfl
 ·(revert h;refine ow43 λs l xs nm zz1 R ok q=>?_;subst zz1)
  refine(iw11 _ (ag (PS.nox (aw (i:=2) bV.nd rfl (Or.inl rfl) ah))
   (ag (PS.nox (dn PassesOwn.never rfl (bf (K:=K) (au (K:=K) (pv 0) rfl)) (aU (i:=3) bV.nd rfl (Or.inl rfl)) (ag (aQ (aE (bJ (K:=K) (hU hr)) (av (ak (K:=K) (hU1 hr)) (pv 3) ah (λ_ _=>rfl)) (pv 1) (nomark _)) (ai (ar (p7 rfl rfl T.ib rfl T.ic (aa (pv 2) (aa (aD (aF (K:=K)) (pv 2) (av (ak (K:=K) (hU1 hr)) (pv 3) ah (λ_ _=>rfl))) af))))) aC)
   (ai (zX (i:=2) bV.nd rfl (Or.inl rfl) (av (ak (K:=K) (hU1 hr)) (pv 3) ah (λ_ _=>rfl)) tM)))))
   (ai (eG T.i7 T.mz T.mB (cN T) (hr.mono (by decide)) rfl T.jq T.cm.b (by decide) raiseX (aa (pv 1) af))))) ?_)
  walk_at "rd";obtain⟨dx,hs⟩:=R.obj;(refine pw11 R.lst λts e hT=>?_);have hlen:ts.length=xs.length:=by rw[hT.length,List.length_map]
  have h9:∀y∈xs,y.rows<=9:=λy hy=>(ok.each y hy).2.1.2;have o2:=ok.hi;refine(iw33 _ dx _ hs T.bw T.bx (iw11 _ rfl (cF (.inl (.inl e)) (dW (xs:=ts.map V.ref) (λi σ H'=>H'=H/\(∀j y,j < i->xs[j]?=some y->y.name≠nm)/\∃v,σ=[some (V.ref s),some (V.str (S nm)),some (V.int (startOf xs i)),v]) ⟨rfl,λj y hj=>absurd hj (Nat.not_lt_zero _),(iw10 none rfl)⟩ (λi σ H' _ h=>by rw[h.1];exact .inl (.inl e)) ?_ ?_))))
  ·rintro i y σ H' hy ⟨rfl,hik,v,rfl⟩
   rw[List.getElem?_map] at hy;cases hti:ts[i]? with
   | none=>rw[hti] at hy;cases hy
   | some t=>
    rw[hti] at hy;cases (Option.some.inj hy);(refine pw11 (hT.get hti) λys h1 h2=>?_);rw[List.getElem?_map] at h1;cases hxi:xs[i]? with
    | none=>rw[hxi] at h1;cases h1
    | some y=>
     rw[hxi] at h1;cases (Option.some.inj h1);have hTt:SqT K H' t y.v:=.inl (.inl h2);have hb:=j7 h9 i;have hy9:=h9 y (List.mem_of_getElem? hxi);have hil0:=(List.getElem?_eq_some_iff.mp hxi).1;walk_at "rd";refine aO (v:=.str (S y.name)) hTt rfl ?_;walk_at "rd";refine ite2 (λhn=>?_) (λhn=>?_)
     ·have hnn:y.name=nm:=hn
      rcases q with⟨k,x,hk,hxn,q⟩ | ⟨hno,_⟩
      rotate_left
      ·exact absurd hnn (hno y (List.mem_of_getElem? hxi))
      have hki:i=k:=by
       refine Classical.byContradiction λhne=>?_;have hkl:=(List.getElem?_eq_some_iff.mp hk).1;have hil:=(List.getElem?_eq_some_iff.mp hxi).1;rcases Nat.lt_or_gt_of_ne hne with h | h
       ·have:=List.pairwise_iff_getElem.mp ok.nd i k (by rw[List.length_map];omega) (by rw[List.length_map];omega) h
        apply this;rw[List.getElem_map,List.getElem_map,(List.getElem?_eq_some_iff.mp hxi).2,(List.getElem?_eq_some_iff.mp hk).2,hnn,hxn]
       ·have:=List.pairwise_iff_getElem.mp ok.nd k i (by rw[List.length_map];omega) (by rw[List.length_map];omega) h
        apply this;rw[List.getElem_map,List.getElem_map,(List.getElem?_eq_some_iff.mp hxi).2,(List.getElem?_eq_some_iff.mp hk).2,hnn,hxn]
      subst hki;rw[hxi] at hk;cases (Option.some.inj hk);refine aO (v:=.int y.rows) hTt rfl ?_;walk_at "rd";refine⟨by omega,by omega,by omega,by omega,?_,λl hl=>?_⟩
      ·have:(9:Int)<=sizeLine:=by decide
       omega
      ·refine q l _ hl (Same.upd hl) ?_
       rw[ae,show((startOf xs i:Nat):Int)+(y.rows:Int) - ((startOf xs i:Nat):Int)=(y.rows:Int) by omega,Int.toNat_natCast]
     ·refine aO (v:=.int y.rows) hTt rfl ?_
      walk_at "rd";refine⟨λj y' hj hy'=>?_,?_⟩
      ·rcases Nat.lt_or_ge j i with h | h
       ·exact hik j y' h hy'
       ·have:j=i:=by omega
        subst this;rw[hxi] at hy';cases (Option.some.inj hy');exact hn
      ·rw[bU hxi]
       push_cast
       rfl
  ·rintro σ H' ⟨rfl,hik,v,rfl⟩
   rw[List.length_map,hlen] at hik;walk_at "rd";rcases q with⟨k,x,hk,hxn,_⟩ | ⟨_,q⟩
   ·exact absurd hxn (hik k x (List.getElem?_eq_some_iff.mp hk).1 hk)
   ·exact q.bears
theorem iz (T:Txt w K mg a):FnOk P w K mg base (CXv P w) 3 a.f_Shelves_shelf_with a.d_Shelves_shelf_with ["self","row"] (vK a.C_Shelves a.C_NoSuch):=by
 refine T.cp.F.okX bA (λvs H Q E h=>?_) (λcdv A outer s H vs Q E hr h=>?_)
 ·(revert h;refine ow41 λs l xs r zz1 _=>?_;subst zz1)
  rfl
 ·(revert h;refine ow43 λs l xs r zz1 R ok q=>?_;subst zz1)
  refine(iw11 _ (ag (PS.nox (aw (i:=2) bA.nd rfl (Or.inl rfl) ah))
   (ag (PS.nox (dn PassesOwn.never rfl (bf (K:=K) (au (K:=K) (pv 0) rfl)) (aU (i:=3) bA.nd rfl (Or.inl rfl)) (ag (zX (i:=2) bA.nd rfl (Or.inl rfl) (av (ak (K:=K) (hU1 hr)) (pv 3) ah (λ_ _=>rfl)) tM)
   (ai (aQ (tm eB j4 ah (pv 1) (pv 2)) (ai (ar (pv 3))) aC)))))
   (ai (eG T.i7 T.mz T.mB (cN T) (hr.mono (by decide)) rfl T.jq T.cm.b (by decide) raiseX (aa (pv 1) af))))) ?_)
  walk_at "rd";obtain⟨dx,hs⟩:=R.obj;(refine pw11 R.lst λts e hT=>?_);have hlen:ts.length=xs.length:=by rw[hT.length,List.length_map]
  refine(iw33 _ dx _ hs T.bw T.bx (iw11 _ rfl (cF (.inl (.inl e)) (dW (xs:=ts.map V.ref) (λi σ H'=>H'=H/\(r < 0\/(startOf xs i:Int)<=r)/\∃v,σ=[some (V.ref s),some (V.int r),some (V.int (startOf xs i)),v]) ⟨rfl,?_,(iw10 none rfl)⟩ (λi σ H' _ h=>by rw[h.1];exact .inl (.inl e)) ?_ ?_))))
  ·rcases Int.lt_or_le r 0 with h | h
   ·exact .inl h
   ·exact .inr (by unfold startOf;simpa using h)
  ·rintro i y σ H' hy ⟨rfl,hik,v,rfl⟩
   rw[List.getElem?_map] at hy;(refine pw11 (Option.map_eq_some_iff.mp hy) λt hti zz1=>?_;subst zz1);(refine pw11 (hT.get hti) λys h1 h2=>?_);rw[List.getElem?_map] at h1;(refine pw11 (Option.map_eq_some_iff.mp h1) λy hxi zz1=>?_;subst zz1);have hTt:SqT K H' t y.v:=.inl (.inl h2);walk_at "rd";refine aO (v:=.int y.rows) hTt rfl ?_;walk_at "rd";have es:=bU hxi;have hil:=(List.getElem?_eq_some_iff.mp hxi).1;have nxt:¬(0<=r/\r < (startOf xs i:Int)+y.rows)->(r < 0\/(startOf xs (i+1):Int)<=r)/\(startOf xs i:Int)+y.rows=(startOf xs (i+1):Int):=λz=>by
    rw[es];constructor
    ·push_cast
     omega
    ·push_cast;rfl
   refine ite2 (λh0=>ite2 (λh1=>?_) (λh1=>nxt (λz=>h1 z.2))) (λh0=>nxt (λz=>h0 z.1));have hi0:(startOf xs i:Int)<=r:=by omega
   rcases q with⟨k,x,hk,a1,a2,q⟩ | ⟨hb,_⟩
   ·have ek:=bU hk
    rw[ek] at a2
    push_cast at a2
    have hki:k=i:=by
     rcases Nat.lt_trichotomy k i with h | h | h
     ·have:=gR hk h;omega
     ·exact h
     ·have:=gR hxi h;omega
    subst hki;rw[hxi] at hk;cases (Option.some.inj hk);exact q t h2
   ·have:=gR hxi hil
    omega
  ·rintro σ H' ⟨rfl,hik,v,rfl⟩
   rw[List.length_map,hlen] at hik;walk_at "rd";rcases q with⟨k,x,hk,a1,a2,_⟩ | ⟨_,q⟩
   ·have hkl:=(List.getElem?_eq_some_iff.mp hk).1
    have:=gR hk hkl;rw[bU hk] at a2
    push_cast at a2
    omega
   ·exact q.bears
theorem jK (T:Txt w K mg a):FnOk P w K mg base (CXv P w) 4 a.f_Shelves_shelf_at a.d_Shelves_shelf_at ["self","row"] (AN 0 a.C_Shelves a.C_NoSuch):=by
 refine T.cL.F.okX jF (λvs H Q E h=>?_) (λcdv A outer s H vs Q E hr h=>?_)
 ·(revert h;refine ow41 λs l xs r zz1 _=>?_;subst zz1)
  rfl
 ·(revert h;refine ow43 λs l xs r zz1 R ok q=>?_;subst zz1)
  refine(iw11 _ (ai (ar (av (ak (K:=K) (hU1 hr)) (aL (pv 0) T.bw T.cp.m (iz T) (hr.mono (by decide)) T.cp.b .nil passX (aa (pv 1) af)) ah (λ_ _=>rfl)))) ?_);walk_at "rd";obtain⟨dx,hs⟩:=R.obj;refine(iw22 dx _ hs rfl (iw22 l xs R ok ?_));rcases q with⟨k,x,hk,a1,a2,q⟩ | ⟨hb,q⟩
  ·exact .inl (iw23 k x hk a1 a2 (λt ht=>aO (v:=it 0 x.v) (SqT.of ht) rfl q))
  ·exact .inr ⟨hb,q⟩
theorem kA (T:Txt w K mg a):FnOk P w K mg base (CXv P w) 4 a.f_Shelves_row_for a.d_Shelves_row_for ["self","name","key"] (oG a.C_Shelves a.C_NoSuch):=by
 refine T.cY.F.okX eR (λvs H Q E h=>?_) (λcdv A outer s H vs Q E hr h=>?_)
 ·(revert h;refine ow30 λs l xs=>ow21 λnm key zz1 _=>?_;subst zz1)
  rfl
 ·(revert h;refine ow30 λs l xs=>ow23 λnm key zz1 R ok q=>?_;subst zz1)
  refine(iw11 _ (ag (aw (i:=3) eR.nd rfl (Or.inl rfl) (aL (pv 0) T.bw T.cX.m (kz T) (hr.mono (by decide)) T.cX.b .nil passX (aa (pv 1) af)))
   (ai (PS.nox (ar (av (ak (K:=K) (hU1 hr)) (pv 3) (aq (zM T) (hr.mono (by decide)) rfl T.lz.m T.lz.F.kp T.lz.b .nil pass0 (aa (pv 2) (aa (ax (aH (K:=K)) (by rfl) T.cf boot_len (aa (pv 3) af)) af))) (λ_ _=>rfl)))))) ?_)
  walk_at "rd";obtain⟨dx,hs⟩:=R.obj;refine(iw22 dx _ hs rfl (iw22 l xs R ok ?_));rcases q with⟨k,x,hk,hxn,q⟩ | ⟨hb,q⟩
  ·have hx:=(ok.each x (List.mem_of_getElem? hk)).2.1
   refine .inl (iw22 k x hk hxn (λD H1 hD s1 h1=>bB (.inl (.inl h1)) ?_));have el:(rngV (startOf xs k) x.rows).length=x.rows:=by simp[rngV]
   rw[el];have h0:0<=sprN key % (x.rows:Int):=Int.emod_nonneg _ (by omega);have h2:sprN key % (x.rows:Int) < x.rows:=Int.emod_lt_of_pos _ (by omega);refine(iw12 _ rfl (by omega) (aT (v:=.int (rowNo xs k x key)) (.inl (.inl h1)) (bZ h0 ?_) (q H1 s1)));unfold rngV rowNo;rw[List.getElem?_map,List.getElem?_range (by omega)];simp only[Option.map_some]
   push_cast
   rfl
  ·exact .inr ⟨hb,q⟩
theorem wK (T:Txt w K mg a):FnOk P w K mg base CX0 1 a.f_guarded a.d_guarded ["text"] vM:=by
 refine T.jr.F.ok1 wj (s!"d") (λvs H Q E h=>?_) (λcdv A outer s H vs Q E hr h=>?_)
 ·(revert h;refine ow11 λa zz1 _=>?_;subst zz1)
  rfl
 ·(revert h;refine ow12 λa zz1 hl q=>?_;subst zz1)
  refine(iw11 _ (AQ (uf (K:=K) (c:=59) (z:=[126,115]) (s!"d") (s!"d") (s!"d") (uf (K:=K) (c:=126) (z:=[126,119]) (s!"d") (s!"d") (s!"d") (PE.one (pv 0))))) ?_);have e1:(joinL [126,119] (splitL 126 a)).length<=2 * a.length:=by
   have:joinL [126,119] (splitL 126 a)=a.flatMap λx=>if x=126 then[126,119] else[x]:=fB _ _ _;rw[this];clear this hl q
   induction a with
   | nil=>exact Nat.le_refl _
   | cons x a ih=>
    rw[List.flatMap_cons,List.length_append,List.length_cons]
    by_cases h:x=126
    ·rw[if_pos h];simp only[List.length_cons,List.length_nil];omega
    ·rw[if_neg h];simp only[List.length_cons,List.length_nil];omega
  refine(iw12 a rfl ?_ (iw12 _ rfl ?_ ?_))
  ·simp only[List.length_cons,List.length_nil];omega
  ·simp only[List.length_cons,List.length_nil];omega
  ·rw[E8];exact q
theorem rm (T:Txt w K mg a):FnOk P w K mg base CX0 2 a.f_joined a.d_joined ["fields"] (yE K):=by
 refine T.eX.F.ok zg (λvs H Q E h=>?_) (λcdv A outer s H vs Q E hr h=>?_)
 ·(revert h;refine ow21 λp l zz1 _=>?_;subst zz1)
  rfl
 ·(revert h;refine ow23 λp l zz1 hp hl q=>?_;subst zz1)
  refine(iw11 _ (ai (ar (cI (K:=K) PySem.F.plainAttrs_str PySem.F.slot_str_join PySem.F.type_str_join (kH (K:=K)) az (aa (cv ["fields"] ["fields"] (defScope oX) (by exact⟨rfl,s!"d",s!"d",s!"d",s!"d",s!"d",s!"d",s!"d",s!"d"⟩) (bf (K:=K) (pv 0)) (λC₁ s₁ H₁ f₁=>(aq (wK T) (hr.mono (by decide)) rfl T.jr.m T.jr.F.kp T.jr.b .nil pass0 (aa (pv 0) af)))) af)))) ?_);walk_at "rd";have Z:4000000<=sizeLine:=by decide
  have e1:l.length<=1000000:=by omega
  have e2:∀x∈l,x.length<=1000000:=λx hx=>Nat.le_trans (oI (List.mem_map.mpr ⟨x,hx,rfl⟩)) (show(l.map List.length).sum<=1000000 by omega);refine cF hp (j5 hp (by unfold tx;rw[List.length_map];omega) (λv=>match v with | .str (⟨z⟩)=>.str (S (gd z.toList)) | x=>x) (λx H' hx s Qe qe=>?_) λD H' hD s1 hd=>?_)
  ·unfold tx at hx
   (refine pw11 (List.mem_map.mp hx) λc hc zz1=>?_;subst zz1);walk_at "rd";exact⟨e2 c hc,qe H' (Same.refl _)⟩
  ·refine(iw11 ([59]) (s!"d") (iw11 D rfl (iw12 (l.map gd) (.inl (.inl ?_)) ?_ ?_)))
   ·rw[hd];unfold tx;rw[List.map_map,List.map_map];rfl
   ·have:∀l:List (List Nat),((l.map gd).map List.length).sum<=2 * (l.map List.length).sum:=by
     intro l
     induction l with
     | nil=>exact Nat.le_refl _
     | cons x l ih=>have:=sj x;simp only[List.map_cons,List.sum_cons];omega
    have:=this l;simp only[List.length_map,List.length_cons,List.length_nil];omega
   ·exact q _ s1
theorem zO (T:Txt w K mg a):FnOk P w K mg base CX0 1 a.f_sum_of a.d_sum_of ["text"] Eo:=by
 refine T.lj.F.ok jn (λvs H Q E h=>?_) (λcdv A outer s H vs Q E hr h=>?_)
 ·(revert h;refine ow11 λl zz1 _=>?_;subst zz1)
  rfl
 ·(revert h;refine ow12 λl zz1 hl q=>?_;subst zz1)
  refine(iw11 _ (ag (aw (i:=1) jn.nd rfl (Or.inl rfl) ah)
   (ag (dn PassesOwn.never rfl (bf (K:=K) (pv 0)) (aU (i:=2) jn.nd rfl (Or.inl rfl)) (ai (aw (i:=1) jn.nd rfl (Or.inl rfl) (aD Ab (aD EH (aD Aa (aD DC (pv 1) ah) ah) (aD z9 (pv 1) ah)) (ax lR (by rfl) T.Bh boot_ord (aa (pv 2) af))))))
   (ai (ar (pv 1))))) ?_)
  walk_at "rd";refine tQ (λi σ H'=>H'=H/\∃v,σ=[some (.str (S l)),some (.int (sumF 0 (l.take i):Nat)),v]) ⟨rfl,(iw10 none rfl)⟩ ?_ ?_
  ·rintro i c σ H' hc ⟨rfl,v,rfl⟩
   have hc':l[i]?=some c:=by simpa using hc
   have hb:sumF 0 (l.take i) < 65536:=xq (λx hx=>Nat.lt_trans (hl x (List.mem_of_mem_take hx)) (by decide)) (by decide);have hs:=AL (c:=c) hb;walk_at "rd";rw[yz hc',<-hs];refine⟨by omega,?_⟩;simp
  ·rintro σ H' ⟨rfl,v,rfl⟩
   walk_at "rd";have e:l.take (S l).cps.size=l:=by simp
   rw[e];exact q
theorem wL (T:Txt w K mg a):FnOk P w K mg base CX0 2 a.f_line_of a.d_line_of ["number","body"] yG:=by
 refine T.jt.F.ok oY (λvs H Q E h=>?_) (λcdv A outer s H vs Q E hr h=>?_)
 ·(revert h;refine ow21 λn b zz1 _=>?_;subst zz1)
  rfl
 ·(revert h;refine ow22 λn b zz1 g q=>?_;subst zz1)
  refine(iw11 _ (ag (aw (i:=2) oY.nd rfl (Or.inl rfl) (aX (aa (cI (K:=K) PySem.F.plainAttrs_str PySem.F.slot_str_zfill PySem.F.type_str_zfill oM (bo (dY (K:=K)) rfl T.ng boot_str (aa (pv 0) af)) (aa ah af)) (aa (cI (K:=K) PySem.F.plainAttrs_str PySem.F.slot_str_zfill PySem.F.type_str_zfill oM (bo (dY (K:=K)) rfl T.ng boot_str (aa (aq (zO T) (hr.mono (by decide)) rfl T.lj.m T.lj.F.kp T.lj.b .nil pass0 (aa (pv 1) af)) af)) (aa ah af)) (aa (cI (K:=K) PySem.F.plainAttrs_str PySem.F.slot_str_zfill PySem.F.type_str_zfill oM (bo (dY (K:=K)) rfl T.ng boot_str (aa (ax (aH (K:=K)) (by rfl) T.cf boot_len (aa (pv 1) af)) af)) (aa ah af)) af)))))
   (ai (ar (aD (aF (K:=K)) (aD (aF (K:=K)) (cI (K:=K) PySem.F.plainAttrs_str PySem.F.slot_str_join PySem.F.type_str_join (kH (K:=K)) az (aa (pv 2) af)) az) (pv 1))))) ?_)
  walk_at "rd";have hs:=g.sum;have hl:=g.l;have hn:=g.n;have Z:40000<=sizeLine:=by decide
  have z6:=lY (w:=6) (by decide) g.n;have z5:=lY (w:=5) (by decide) (Nat.lt_trans g.sum (show 65536 < 10 ^ 5 by decide));have z4:=lY (w:=4) (by decide) g.l;refine⟨dZ (by omega) (by omega),(iw11 n rfl (iw14 6 rfl (by decide) g.c (dZ (by omega) (by omega)) (iw11 (sumF 0 b) rfl (iw14 5 rfl (by decide) (by omega) (dZ (by omega) (by omega)) (iw11 b.length rfl (iw13 4 rfl (by decide) (by omega) (λp hp=>(iw11 ([32]) (s!"d") (iw12 ([zf 6 n,zf 5 (sumF 0 b),zf 4 b.length]) (.inl (.inl ae)) ?_ (iw11 ([32]) (s!"d") ?_))))))))))⟩
  ·simp only[List.map_cons,List.map_nil,List.sum_cons,List.sum_nil,List.length_cons,List.length_nil];omega
  have ej:joinL [32] [zf 6 n,zf 5 (sumF 0 b),zf 4 b.length]++[32]=hdL n b:=by
   show zf 6 n++[32]++(zf 5 (sumF 0 b)++[32]++zf 4 b.length)++[32]=_;unfold hdL pfL;simp
  have el:=congrArg List.length ej;rw[g.hd,List.length_append,List.length_singleton] at el;rw[ej,g.hd];refine⟨?_,by omega,q _ (Same.upd hp)⟩;simp only[List.length_cons,List.length_nil];omega
theorem mO (T:Txt w K mg a):FnOk P w K mg base CX0 1 a.f_Book___init__ a.d_Book___init__ ["self"] (vN a.C_Book):=by
 refine T.iu.F.ok mq (λvs H Q E h=>?_) (λcdv A outer s H vs Q E hr h=>?_)
 ·(revert h;refine ow21 λx dx zz1 _=>?_;subst zz1)
  rfl
 ·(revert h;refine ow22 λx dx zz1 hx q=>?_;subst zz1)
  refine(iw11 _ (ai (bu (pv 0) (aX af) rfl)) ?_);walk_at "rd";refine⟨by decide,λd hd=>?_⟩;have hdx:d≠x:=λz=>by rw[z,hx] at hd;cases hd
  refine(iw34 _ dx ([]) ((aj (Ne.symm hdx)).trans hx) T.dM T.bN (by decide) ?_);refine q d _ hd hdx ((Chg.new hd).trans (Chg.upd (by simp) (bT ((aj (Ne.symm hdx)).trans hx)))) ⟨⟨dx,ae⟩,(aj hdx).trans ae⟩
theorem sS (T:Txt w K mg a):FnOk P w K mg base CX0 1 a.f_Book_told a.d_Book_told ["self"] (vO a.C_Book):=by
 refine T.iZ.F.ok sI (λvs H Q E h=>?_) (λcdv A outer s H vs Q E hr h=>?_)
 ·(revert h;refine ow31 λr l ls zz1 _=>?_;subst zz1)
  rfl
 ·(revert h;refine ow32 λr l ls zz1 R q=>?_;subst zz1)
  refine(iw11 _ (ai (ar (bo (cG (K:=K)) rfl T.ib boot_list (aa (au (K:=K) (pv 0) rfl) af)))) ?_);obtain⟨dx,hr⟩:=R.obj;walk_at "rd";refine(iw33 _ dx _ hr T.dM T.bN (iw11 _ rfl (jh (.inl (.inl (.inl R.lst))) λp hp=>q p _ hp (Same.upd hp) ae)))
theorem jW (T:Txt w K mg a):FnOk P w K mg base CX0 3 a.f_Book_write a.d_Book_write ["self","bodies"] (uh a.C_Book):=by
 refine T.cW.F.ok cC (λvs H Q E h=>?_) (λcdv A outer s H vs Q E hr h=>?_)
 ·(revert h;refine ow30 λr p l=>ow21 λls act zz1 _=>?_;subst zz1)
  rfl
 ·(revert h;refine ow30 λr p l=>ow24 λls act zz1 R hp hpl=>ow02 λhb hn q=>?_;subst zz1)
  refine(iw11 _ (ag (aw (i:=2) cC.nd rfl (Or.inl rfl) (aD iB (ax (aH (K:=K)) (by rfl) T.cf boot_len (aa (pv 1) af)) ah))
   (ag (dn PassesOwn.never rfl (rV rfl T.m9 (aa (pv 1) af)) (ji (K:=K) (n:=2) rfl (bh (aU (i:=3) cC.nd rfl (Or.inl rfl)) (bh (aU (i:=4) cC.nd rfl (Or.inl rfl)) je))) (ag (aw (i:=5) cC.nd rfl (Or.inl rfl) (og (aE (bJ (K:=K) (hU hr)) (pv 3) (pv 2) (nomark _)) az az))
   (ai (aK (cI (K:=K) PySem.F.plainAttrs_list PySem.F.slot_list_append PySem.F.type_list_append cP (au (K:=K) (pv 0) rfl) (aa (aq (wL T) (hr.mono (by decide)) rfl T.jt.m T.jt.F.kp T.jt.b .nil pass0 (aa (ax (aH (K:=K)) (by rfl) T.cf boot_len (aa (au (K:=K) (pv 0) rfl) af)) (aa (aD (aF (K:=K)) (pv 5) (pv 4)) af))) af))))))
   (ai (ar (ax (aH (K:=K)) (by rfl) T.cf boot_len (aa (au (K:=K) (pv 0) rfl) af)))))) ?_)
  have Z:40000<=sizeLine:=by decide
  walk_at "rd";refine bB (.inl (.inl hp)) ?_;walk_at "rd";have lt:(tx act).length=act.length:=by unfold tx;rw[List.length_map]
  rw[lt];refine⟨⟨_,.inl (.inl hp)⟩,?_⟩;refine yj (xs:=tx act) (λi σ H'=>Chg [l] H H'/\BookAt a.C_Book H' r l (ls++lns ls.length ((sgA act).take i))/\∃v1 v2 v3,σ=[some (.ref r),some (.ref p),some (.int ((act.length:Int) - 1)),v1,v2,v3]) ⟨Chg.refl _,by simpa [lns] using R,(iw30 none none none rfl)⟩ (λi σ H' _ h=>.inl (.inl (h.1.keep _ _ hp (by simpa using hpl)))) ?_ ?_
  ·rintro i x t σ H' hx ht ⟨c,R',v1,v2,v3,rfl⟩
   unfold tx at hx;rw[List.getElem?_map,Option.map_eq_some_iff] at hx;(revert hx;refine ow11 λb hbi zz1=>?_;subst zz1);have hi:i < act.length:=(List.getElem?_eq_some_iff.mp hbi).1;have okb:=hb b (List.mem_of_getElem? hbi);have sg:=xr act i b hbi;have c1:Chg [l] H' (upd H' t (.tup [.int (i:Nat),.str (S b)])):=Chg.new ht;have R1:=R'.same (Same.upd (o:=.tup [.int (i:Nat),.str (S b)]) ht);have ht1:upd H' t (.tup [.int (i:Nat),.str (S b)]) t=some (.tup [.int (i:Nat),.str (S b)]):=ae;generalize upd H' t (.tup [.int (i:Nat),.str (S b)])=H1 at c1 R1 ht1 ⊢;obtain⟨dx,hr1⟩:=R1.obj;have tl:(ls++lns ls.length ((sgA act).take i)).length=ls.length+i:=by
    rw[List.length_append,kS,List.length_take,fC];omega
   refine(iw23 t _ rfl (.inl (.inl ht1)) rfl (iw21 _ _ rfl (iw22 _ _ rfl rfl ?_)));refine cut1 λRy hRy=>?_;walk_at "rd"
   by_cases hk:(i:Int)=(act.length:Int) - 1
   ·rw[if_pos hk,hRy]
    clear hRy;walk_at "rd";rw[if_neg (by omega)] at sg;have R2:=R1.lst;refine(iw33 _ dx _ hr1 T.dM T.bN (iw12 _ rfl (.inl ⟨_,.inl (.inl R2)⟩) (iw33 _ dx _ hr1 T.dM T.bN (iw11 _ rfl (bB (.inl (.inl R2)) ?_)))));refine(iw12 ([46]) (s!"d") (by have:=okb.2;simp only[List.length_cons,List.length_nil];omega) (iw12 (ls.length+i) ?_ ?_ (λH2 s2=>(iw11 l rfl (iw12 _ (s2 _ _ R2) ?_ ?_)))))
    ·unfold tx;rw[List.length_map,tl]
    ·refine⟨by omega,λx hx=>?_,by have:=okb.2;simp only[List.length_append,List.length_cons,List.length_nil];omega⟩
     rcases List.mem_append.mp hx with hx | hx
     ·rw[List.mem_singleton.mp hx];decide
     ·exact okb.1 x hx
    ·unfold tx;rw[List.length_map,tl];omega
    ·have hl2:=s2 _ _ R2
     refine⟨c.trans (c1.trans ((Chg.of_same s2).trans (Chg.upd (by simp) (kI hl2)))),⟨⟨dx,(aj R1.ne).trans (s2 _ _ hr1)⟩,?_⟩⟩
     ·rw[ae,oJ sg,ug,List.length_take,fC,Nat.min_eq_left (by omega)]
      unfold tx;simp
   ·rw[if_neg hk,hRy]
    clear hRy;walk_at "rd";rw[if_pos (by omega)] at sg;have R2:=R1.lst;refine(iw33 _ dx _ hr1 T.dM T.bN (iw12 _ rfl (.inl ⟨_,.inl (.inl R2)⟩) (iw33 _ dx _ hr1 T.dM T.bN (iw11 _ rfl (bB (.inl (.inl R2)) ?_)))));refine(iw12 ([43]) (s!"d") (by have:=okb.2;simp only[List.length_cons,List.length_nil];omega) (iw12 (ls.length+i) ?_ ?_ (λH2 s2=>(iw11 l rfl (iw12 _ (s2 _ _ R2) ?_ ?_)))))
    ·unfold tx;rw[List.length_map,tl]
    ·refine⟨by omega,λx hx=>?_,by have:=okb.2;simp only[List.length_append,List.length_cons,List.length_nil];omega⟩
     rcases List.mem_append.mp hx with hx | hx
     ·rw[List.mem_singleton.mp hx];decide
     ·exact okb.1 x hx
    ·unfold tx;rw[List.length_map,tl];omega
    ·have hl2:=s2 _ _ R2
     refine⟨c.trans (c1.trans ((Chg.of_same s2).trans (Chg.upd (by simp) (kI hl2)))),⟨⟨dx,(aj R1.ne).trans (s2 _ _ hr1)⟩,?_⟩⟩
     ·rw[ae,oJ sg,ug,List.length_take,fC,Nat.min_eq_left (by omega)]
      unfold tx;simp
  ·rintro σ H' ⟨c,R',v1,v2,v3,rfl⟩
   walk_at "rd";obtain⟨dx,hr1⟩:=R'.obj;refine(iw33 _ dx _ hr1 T.dM T.bN (iw11 _ rfl (bB (.inl (.inl R'.lst)) ?_)));rw[show(sgA act).take (tx act).length=sgA act by rw[lt,<-fC,List.take_length]] at R' ⊢;have e:(tx (ls++lns ls.length (sgA act))).length=ls.length+act.length:=by unfold tx;rw[List.length_map,List.length_append,kS,fC]
   rw[e];exact q _ c R'
theorem lI (T:Txt w K mg a):FnOk P w K mg base CX0 1 a.f_Deeds___init__ a.d_Deeds___init__ ["self"] (yP a.C_Deeds 0):=by
 refine T.gI.F.ok k4 (λvs H Q E h=>?_) (λcdv A0 outer s0 H vs Q E hr h=>?_)
 ·(revert h;refine ow21 λx dx zz1 _=>?_;subst zz1)
  rfl
 ·(revert h;refine ow22 λx dx zz1 hx q=>?_;subst zz1)
  refine(iw11 _ (ag (bu (pv 0) (aX af) rfl)
   (ai (bu (pv 0) dN rfl))) ?_)
  walk_at "rd";refine⟨Nat.zero_le _,λdl hdl=>?_⟩;have ndl:dl≠x:=λz=>by rw[z,hx] at hdl;cases hdl
  refine(iw34 _ dx ([]) ((aj (Ne.symm ndl)).trans hx) T.fj T.i4 (by decide) (λbz hbz=>?_));have nbz:bz≠x:=λz=>by rw[z,ae] at hbz;cases hbz
  have nbd:bz≠dl:=λz=>by rw[z,aj ndl,ae] at hbz;cases hbz
  have hbz0:H bz=none:=by rw[aj nbz,aj nbd] at hbz;exact hbz
  refine(iw34 _ dx _ ((aj (Ne.symm nbz)).trans ae) T.fj T.jU (show 1 < 1000 by decide) ?_);have m:x∈[x]:=by simp
  refine q dl bz _ hdl hbz0 ?_ ⟨⟨dx,ae⟩,?_,rfl,λi u y h=>(by simp at h),List.nodup_nil,(iw12 ([]) ?_ (Nat.le_refl _) (λz=>rfl)),by simp⟩
  ·exact(Chg.new hdl).trans ((Chg.upd m (bT ((aj (Ne.symm ndl)).trans hx))).trans ((Chg.new hbz).trans (Chg.upd m (bT ((aj (Ne.symm nbz)).trans ae)))))
  ·exact(aj ndl).trans ((aj (Ne.symm nbd)).trans ((aj ndl).trans ae))
  ·exact(aj nbz).trans ae
theorem gL (T:Txt w K mg a):FnOk P w K mg base CX0 1 a.f_Deeds_open_of a.d_Deeds_open_of ["self","sender"] (yQ a.C_Deeds 0):=by
 refine T.b9.F.ok mv (λvs H Q E h=>?_) (λcdv A0 outer s0 H vs Q E hr h=>?_)
 ·(revert h;refine ow60 λr dl bz us M s=>ow01 λzz1 _=>?_;subst zz1)
  rfl
 ·(revert h;refine ow60 λr dl bz us M s=>ow02 λzz1 D q=>?_;subst zz1)
  refine(iw11 _ (ai (ar (oo (hU1 hr) (au (K:=K) (pv 0) rfl) (pv 1) ah ⟨rfl,rfl,rfl,rfl⟩))) ?_);obtain⟨dx,hro⟩:=D.obj;(refine pw12 D.bsy λkvs hb lb vb=>?_);walk_at "rd";have gg:=DGet.k (k:=.inr s) hb;refine(iw33 _ dx _ hro T.fj T.jU (iw11 _ (Cv dl bz) (iw12 bz rfl (.inl ⟨kvs,.inl hb⟩) (iw11 _ gg ?_))));rw[vb s];cases e:M.B s with
  | none=>rw[e] at q;exact q
  | some n=>rw[e] at q;exact q
theorem wM (T:Txt w K mg a):FnOk P w K mg base CX0 2 a.f_row_not_beneath a.d_row_not_beneath ["ends","spots"] gC:=FnOk.never
theorem Fh (T:Txt w K mg a):FnOk P w K mg base CX0 2 a.f_lower a.d_lower ["ends","paper","deed","spots","other"] gC:=FnOk.never
theorem ql (T:Txt w K mg a):FnOk P w K mg base CX0 3 a.f_lower_once a.d_lower_once ["ends","paper","pairs"] AM:=by
 refine T.dU.F.ok gm (λvs H Q E h=>?_) (λcdv A0 outer s0 H vs Q E hr h=>?_)
 ·(revert h;refine ow31 λA B p zz1 _=>?_;subst zz1)
  rfl
 ·(revert h;refine ow32 λA B p zz1 hp q=>?_;subst zz1)
  refine(iw11 _ (ai (dn PassesOwn.never rfl (AS (K:=K) rfl T.m9 (pv 2)) (ji (K:=K) (n:=2) rfl (bh (aU (i:=3) gm.nd rfl (Or.inl rfl)) (bh (aU (i:=4) gm.nd rfl (Or.inl rfl)) je))) cO)) ?_);walk_at "rd";refine⟨⟨[],.inl (.inl hp)⟩,vR (xs:=[]) (λi σ H'=>H'=H) rfl (λi σ H' _ z=>by rw[z];exact .inl (.inl hp)) (λi y U σ H' hy _ _=>nomatch hy) λσ H' z=>?_⟩;subst z;exact q
theorem wN (T:Txt w K mg a):FnOk P w K mg base CX0 4 a.f_lowered a.d_lowered ["ends","paper","pairs"] (ub K):=by
 refine T.jx.F.ok gX (λvs H Q E h=>?_) (λcdv A0 outer s0 H vs Q E hr h=>?_)
 ·(revert h;refine ow41 λq0 B p e0 zz1 _=>?_;subst zz1)
  rfl
 ·(revert h;refine ow44 λq0 B p e0 zz1 hq hB hp q=>?_;subst zz1)
  refine(iw11 _ (ag (aw (i:=3) gX.nd rfl (Or.inl rfl) (bo (cG (K:=K)) rfl T.ib boot_list (aa (pv 0) af)))
   (ag (aw (i:=4) gX.nd rfl (Or.inl rfl) (CU Ac ah))
   (ag (zY PassesOwn.never (aE j4 (pv 4) (ax (aH (K:=K)) (by rfl) T.cf boot_len (aa (pv 1) af)) (nomark _)) (ag (aw (i:=4) gX.nd rfl (Or.inl rfl) (ax (aH (K:=K)) (by rfl) T.cf boot_len (aa (pv 1) af)))
   (ai (aK (aq (ql T) (hr.mono (by decide)) rfl T.dU.m T.dU.F.kp T.dU.b .nil pass0 (aa (pv 3) (aa (pv 1) (aa (pv 2) af))))))))
   (ai (ar (pv 3)))))) ?_)
  walk_at "rd";refine jh (.inl hq) λA hA=>?_;have sA:Same H (upd H A (.lst (e0.map V.int))):=Same.upd hA;have aA:upd H A (.lst (e0.map V.int)) A=some (.lst (e0.map V.int)):=ae;generalize upd H A (.lst (e0.map V.int))=H1 at sA aA ⊢;refine(iw11 (λm σ H'=>∃many:Int,m=(if many < 0 then 1 else 0)/\H'=H1/\σ=[some (V.ref q0),some (V.ref B),some (V.ref p),some (V.ref A),some (V.int many)]) (iw22 _ (-1) rfl rfl rfl) ?_)
  rintro m σ H' ⟨many,rfl,rfl,rfl⟩
  have hB1:SqL K H' B []:=.inl (.inl (sA _ _ hB));walk_at "rd";refine bB hB1 ?_;rw[D6];refine(iw11 _ rfl ?_)
  by_cases hlt:many < ((([]:List V).length:Nat):Int)
  ·rw[if_pos (decide_eq_true hlt)]
   refine(iw11 (λσ' H2=>H2=H'/\σ'=[some (V.ref q0),some (V.ref B),some (V.ref p),some (V.ref A),some (V.int 0)]) ?_ (bB hB1 ?_))
   ·rintro σ' H2 ⟨rfl,rfl⟩
    exact(iw11 0 (by rw[if_pos (show many < 0 from hlt)];decide) (iw12 0 rfl rfl rfl))
   ·exact⟨sA _ _ hp,rfl,rfl⟩
  ·rw[if_neg (λz=>hlt (of_decide_eq_true z))]
   exact q A H' hA sA aA
theorem zP (T:Txt w K mg a):FnOk P w K mg base CX0 5 a.f_fronts a.d_fronts ["ends","pairs"] (vI K):=by
 refine T.lA.F.ok zj (λvs H Q E h=>?_) (λcdv A0 outer s0 H vs Q E hr h=>?_)
 ·(revert h;refine ow31 λq0 p e0 zz1 _=>?_;subst zz1)
  rfl
 ·(revert h;refine ow33 λq0 p e0 zz1 hq hp q=>?_;subst zz1)
  refine(iw11 _ (ai (ar (aq (wN T) (hr.mono (by decide)) rfl T.jx.m T.jx.F.kp T.jx.b .nil pass0 (aa (pv 0) (aa (aX af) (aa (pv 1) af)))))) ?_);walk_at "rd";refine⟨Nat.zero_le _,λB hB=>(iw13 e0 ((Same.upd hB).seq hq) ae ((Same.upd hB) _ _ hp) (λA H' hA s hA'=>q A H' (bp (Same.upd hB) hA) ((Same.upd hB).trans s) hA'))⟩
theorem jL (T:Txt w K mg a):FnOk P w K mg base CX0 1 a.f_Readers___init__ a.d_Readers___init__ ["self"] (yR a.C_Readers):=by
 refine T.fh.F.ok jH (λvs H Q E h=>?_) (λcdv A outer s H vs Q E hr h=>?_)
 ·(revert h;refine ow21 λx dx zz1 _=>?_;subst zz1)
  rfl
 ·(revert h;refine ow22 λx dx zz1 hx q=>?_;subst zz1)
  refine(iw11 _ (ag (bu (pv 0) dN rfl)
   (ai (bu (pv 0) dN rfl))) ?_)
  walk_at "rd";refine λl hl=>?_;have nl:l≠x:=λz=>by rw[z,hx] at hl;cases hl
  refine(iw34 _ dx ([]) ((aj (Ne.symm nl)).trans hx) T.pK T.nG (by decide) (λt ht=>?_));have nt:t≠x:=λz=>by rw[z,ae] at ht;cases ht
  refine(iw34 _ dx _ ((aj (Ne.symm nt)).trans ae) T.pK T.lF (show 1 < 1000 by decide) ?_);have ntl:t≠l:=λz=>by rw[aj nt,z,ae] at ht;cases ht
  have ht0:H t=none:=by rw[aj nt,aj ntl] at ht;exact ht
  have m:x∈[x]:=by simp
  refine q l t _ hl ht0 ?_ ⟨⟨dx,ae⟩,(iw13 ([]) ?_ (Nat.zero_le _) (λz=>rfl) (λp=>rfl)),(iw12 ([]) ?_ (Nat.zero_le _) (λz=>rfl)),Ne.symm nl,Ne.symm nt,Ne.symm ntl⟩
  ·exact(Chg.new hl).trans ((Chg.upd m (bT ((aj (Ne.symm nl)).trans hx))).trans ((Chg.new ht).trans (Chg.upd m (bT ((aj (Ne.symm nt)).trans ae)))))
  ·exact(aj nl).trans ((aj (Ne.symm ntl)).trans ((aj nl).trans ae))
  ·exact(aj nt).trans ae
local macro_rules | `(tactic| walk_at "rd")=>rdM "uq su sv ur mf oR y4 uv vZ uy sC uz uA sD v5 v7 wa mh wb p9 wc zd sF Cz we yF A3 vt"
theorem qm (T:Txt w K mg a):FnOk P w K mg base CX0 1 a.f_owner_text a.d_owner_text ["owner"] gC:=FnOk.never
theorem sU (T:Txt w K mg a):FnOk P w K mg base CX0 1 a.f_word_text a.d_word_text ["word"] sr:=by
 refine T.fV.F.ok sG (λvs H Q E h=>?_) (λcdv A outer s H vs Q E hr h=>?_)
 ·(revert h;refine ow11 λo zz1 _=>?_;subst zz1)
  rfl
 ·(revert h;refine ow12 λo zz1 hl q=>?_;subst zz1)
  refine(iw11 _ (ai (ar (og (n9 (zU (pv 0))) az (aD (aF (K:=K)) az (pv 0))))) ?_);cases o with
  | none=>
   simp only[wV];walk_at "rd";rw[show Str.ofString "-"=S [45] by decide +kernel];exact q
  | some w0=>
   simp only[wV];walk_at "rd";exact(iw12 ([61]) (s!"d") (Nat.le_trans (show[61].length+w0.length<=1001 by have:=hl w0 rfl;simp;omega) (by decide)) q)
theorem wO (T:Txt w K mg a):FnOk P w K mg base CX0 2 a.f_text_of a.d_text_of ["part","value"] vV:=by
 refine T.ju.F.ok wk (λvs H Q E h=>?_) (λcdv A outer s H vs Q E hr h=>?_)
 ·(revert h;refine ow31 λp v t zz1 _=>?_;subst zz1)
  rfl
 ·(revert h;refine ow33 λp v t zz1 hp hl q=>?_;subst zz1)
  refine(iw11 _ (ag (aQ (aE (vo (K:=K) (hU1 hr)) (pv 0) (qH (K:=K) T.CS) (by rfl)) (ai (ar (pv 1))) aC)
   (ag (aQ (aE (bJ (K:=K) (hU hr)) (pv 0) az (nomark _)) (ai (ar (aq (sU T) (hr.mono (by decide)) rfl T.fV.m T.fV.F.kp T.fV.b .nil pass0 (aa (pv 1) af)))) aC)
   (ag (aQ (aE (bJ (K:=K) (hU hr)) (pv 0) az (nomark _)) (ai (ar (aq (qm T) (hr.mono (by decide)) rfl T.gZ.m T.gZ.F.kp T.gZ.b .nil pass0 (aa (pv 1) af)))) aC)
   (ai (ar (bo (dY (K:=K)) rfl T.ng boot_str (aa (pv 1) af))))))) ?_)
  walk_at "rd";intro p1 hp1;refine Aw (.inr (hp1 H)) rfl rfl (iw11 _ rfl ?_);rw[show inV (V.str p) [V.str (Str.ofString "sender"),V.str (Str.ofString "key"),V.str (Str.ofString "group"),V.str (Str.ofString "shelf"),V.str (Str.ofString "taker"),V.str (Str.ofString "reader")]=decide (p∈textsL) from AX p textsL];rcases hp with⟨h1,rfl⟩ | ⟨rfl,o,rfl,rfl⟩ | ⟨h1,h2,h3,n,rfl,h4,rfl⟩
  ·rw[if_pos (decide_eq_true h1)]
   exact q
  ·rw[if_neg (s!"d"),if_pos rfl]
   refine(iw12 o rfl (λw0 e=>?_) q);subst e;have:(wordT (some w0)).length=w0.length+1:=rfl;omega
  ·rw[if_neg (by simpa using h1),if_neg h2,if_neg h3]
   exact(iw12 _ rfl (dZ (by omega) (by omega)) q)
theorem ja (T:Txt w K mg a):FnOk P w K mg base CX0 1 a.f_event_of a.d_event_of ["name","values"] (um a.p_PARTS_hail a.p_PARTS_put):=by
 refine T.bK.F.ok fH (λvs H Q E h=>?_) (λcdv A outer s H vs Q E hr h=>?_)
 ·(revert h;refine ow41 λn p pa ps zz1 _=>?_;subst zz1)
  rfl
 ·(revert h;refine ow44 λn p pa ps zz1 hp hn ok q=>?_;subst zz1)
  refine(iw11 _ (ag (aw (i:=2) fH.nd rfl (Or.inl rfl) (nR (d9 az (pv 0) nQ) rfl rfl (by simp) (by decide)))
   (ag (dn PassesOwn.never rfl (Cw (K:=K) rfl T.Fg (aa (vS T.xI (pv 0) (λ_ _=>rfl)) (aa (pv 1) af))) (ji (K:=K) (n:=2) rfl (bh (aU (i:=3) fH.nd rfl (Or.inl rfl)) (bh (aU (i:=4) fH.nd rfl (Or.inl rfl)) je))) (ai (dQ (pv 4) (d6 (pv 2) (pv 3) (cT (hU1 hr))))))
   (ai (ar (pv 2))))) ?_)
  walk_at "rd";intro D hD;obtain⟨hm,hT⟩:(n,V.ref pa)∈[(Str.ofString "hail",V.ref a.p_PARTS_hail),(Str.ofString "put",V.ref a.p_PARTS_put)]/\∀H,SqT K H pa ((ps.map (·.1)).map V.str):=by
   generalize hl:ps.map (·.1)=l at hn;cases hn with
   | hail=>exact⟨by simp,T.jV⟩
   | put=>exact⟨by simp,T.lG⟩
  have nDp:D≠p:=λz=>by rw[z,hp] at hD;cases hD
  generalize hH1:upd (upd H D (.dK [])) D (.dK (mergeK [] [((.inr (Str.ofString "event"):Key),V.str n)]))=H1;have s1:Same H H1:=by rw[<-hH1];exact(Same.upd hD).wr hD
  have hD1:H1 D=some (.dK [((.inr (Str.ofString "event"):Key),V.str n)]):=by rw[<-hH1];exact ae
  refine⟨ae,(iw12 ([((.inr (Str.ofString "event"):Key),V.str n)]) rfl (show 1<=15 by decide) (iw12 (n,.ref pa) hm rfl (iw13 pa rfl ⟨_,hT _⟩ ⟨_,by rw[hH1];exact .inl (.inl (s1 _ _ hp))⟩ ?_)))⟩;rw[hH1];have hlen:=ok.len;refine yX (xs:=(ps.map (·.1)).map V.str) (ys:=ps.map λx=>x.2.1) (λi σ Hx=>Same H Hx/\Hx D=some (.dK (evK n (ps.take i)))/\∃v3 v4,σ=[some (V.str n),some (V.ref p),some (V.ref D),v3,v4]) (by simp) ⟨s1,hD1,(iw20 none none rfl)⟩
   (λi σ Hx _ z=>⟨hT _,.inl (.inl (z.1 _ _ hp))⟩) ?_ ?_
  ·rintro i x y U σ Hx hx hy hU ⟨sx,hDx,v3,v4,rfl⟩
   rw[List.map_map,List.getElem?_map] at hx;rw[List.getElem?_map] at hy;cases e:ps[i]? with
   | none=>rw[e] at hx;cases hx
   | some z=>
    rw[e] at hx hy;cases hx;cases hy;refine(iw23 U _ rfl (.inl (.inl ae)) rfl ?_);walk_at "rd";have nUD:D≠U:=λq=>by rw[<-q,hDx] at hU;cases hU
    have hD2:upd Hx U (.tup [V.str z.1,z.2.1]) D=some (.dK (evK n (ps.take i))):=(aj nUD).trans hDx;have hz:z∈ps:=List.mem_of_getElem? e;have hi:=(List.getElem?_eq_some_iff.mp e).1;have hps:ps=ps.take i++z::ps.drop (i+1):=by
     rw[<-(List.getElem?_eq_some_iff.mp e).2,<-List.drop_eq_getElem_cons hi,List.take_append_drop]
    have hnew:(.inr z.1:Key)∉(evK n (ps.take i)).map (·.1):=by
     have nd:=ok.nd;rw[hps,List.map_append,List.map_cons,List.nodup_cons,List.nodup_append] at nd;unfold evK;simp only[List.map_cons,List.map_map,List.mem_cons,List.mem_map,Function.comp,not_or];refine⟨λq=>?_,?_⟩
     ·have q2:z.1=Str.ofString "event":=Sum.inr.inj q
      exact nd.1 (by rw[<-q2];simp)
     ·rintro⟨x,hx,q⟩
      have q2:x.1=z.1:=Sum.inr.inj q;exact nd.2.2.2 x.1 (List.mem_map.mpr (iw11 x hx rfl)) z.1 (by simp) q2
    refine fz (DPut.k (k:=.inr z.1) hD2 (Nat.lt_of_le_of_lt (show(evK n (ps.take i)).length<=8 by unfold evK;simp;omega) (by decide))) ⟨(sx.trans (Same.upd hU)).wr hD,?_⟩;rw[yY hnew];have e2:ps.take (i+1)=ps.take i++[z]:=by rw[List.take_succ,e];rfl
    refine ae.trans ?_;rw[e2];unfold evK;simp
  ·rintro σ Hx ⟨sx,hDx,v3,v4,rfl⟩
   walk_at "rd";rw[List.length_map,List.length_map,List.take_length] at hDx;exact q D Hx hD sx hDx
theorem uW (T:Txt w K mg a):FnOk P w K mg base CX0 3 a.f_body_for a.d_body_for ["event"] (uo a.p_PARTS_hail a.p_PARTS_put):=by
 refine T.g9.F.ok m4 (λvs H Q E h=>?_) (λcdv A outer s H vs Q E hr h=>?_)
 ·(revert h;refine ow41 λn D pa ps zz1 _=>?_;subst zz1)
  rfl
 ·(revert h;refine ow44 λn D pa ps zz1 hD hn ok q=>?_;subst zz1)
  refine(iw11 _ (ag (aw (i:=1) m4.nd rfl (Or.inl rfl) (av (ak (K:=K) (hU1 hr)) (pv 0) az (λ_ _=>rfl)))
   (ai (ar (aq (rm T) (hr.mono (by decide)) rfl T.eX.m T.eX.F.kp T.eX.b .nil pass0 (aa (aD (aF (K:=K)) (aX (aa (pv 1) af)) (cv ["event","name"] ["event","name"] (defScope kf) (by exact⟨rfl,s!"d",s!"d",s!"d",s!"d",s!"d",s!"d",s!"d",s!"d"⟩) (bf (K:=K) (vS T.xI (pv 1) (λ_ _=>rfl))) (λC₁ s₁ H₁ f₁=>(aq (wO T) (hr.mono (by decide)) rfl T.ju.m T.ju.F.kp T.ju.b .nil pass0 (aa (pv 0) (aa (av (ak (K:=K) (hU1 hr)) (pv 1) (pv 0) (λ_ _=>rfl)) af)))))) af))))) ?_)
  obtain⟨hm,hT⟩:(n,V.ref pa)∈[(Str.ofString "hail",V.ref a.p_PARTS_hail),(Str.ofString "put",V.ref a.p_PARTS_put)]/\∀H,SqT K H pa ((ps.map (·.1)).map V.str):=by
   generalize hl:ps.map (·.1)=l at hn;cases hn with
   | hail=>exact⟨by simp,T.jV⟩
   | put=>exact⟨by simp,T.lG⟩
  walk_at "rd";refine aS (DGet.k (k:=.inr (Str.ofString "event")) hD) ?_;refine⟨by decide,λp hp=>(iw12 (n,.ref pa) hm rfl (D8 (hT _) ?_))⟩;have nDp:D≠p:=λz=>by rw[<-z,hD] at hp;cases hp
  have hlen:=ok.len;have hev:∀x∈ps,valV (evK n ps) (.inr x.1)=some x.2.1:=by
   intro x hx;have nd:=ok.nd;rw[List.nodup_cons] at nd;unfold evK;rw[bO (λq=>nd.1 (by rw[Sum.inr.inj q];exact List.mem_map.mpr (iw11 x hx rfl)))];exact oP nd.2 hx
  generalize hl0:upd H p (.lst [((.inr (Str.ofString "event"):Key),V.str n).2])=H0;have s0:Same H H0:=by rw[<-hl0];exact Same.upd hp
  have hp0:H0 p=some (.lst [V.str n]):=by rw[<-hl0];exact ae
  refine vY hT (Nat.le_trans (show((ps.map (·.1)).map V.str).length<=7 by simp;omega) (by decide)) (partF ps) (λx H' hx s' Qe qe=>?_) λD2 H2 hD2 s2 hl2=>?_
  ·rw[List.map_map] at hx
   (refine pw11 (List.mem_map.mp hx) λz hz zz1=>?_;subst zz1);have qe2:∀H'',Same H' H''->Qe (V.str (S z.2.2)) H'':=λH'' s''=>by
    have e:=qe H'' s'';rw[show partF ps ((V.str∘λx=>x.fst) z)=V.str (S z.2.2) from oQ (List.nodup_cons.mp ok.nd).2 hz] at e;exact e
   show _;simp only[Function.comp];walk_at "rd";(refine pw02 (ok.part z hz) λo1 o2 o3=>?_);have g:=DGet.k (k:=.inr z.1) (s' _ _ (s0 _ _ hD));rw[hev z hz] at g;exact aS g (iw12 z.2.2 o1 (by omega) (qe2 _ (Same.refl _)))
  ·rw[yZ (List.nodup_cons.mp ok.nd).2] at hl2
   have nn:n.cps.toList.length<=8/\∀c∈n.cps.toList,c < 128:=by
    generalize hl:ps.map (·.1)=l at hn;cases hn with
    | hail=>decide +kernel
    | put=>decide +kernel
   have hp2:H2 p=some (.lst (tx [n.cps.toList])):=by
    rw[s2 _ _ hp0];show _=some (HO.lst [V.str (S n.cps.toList)]);rw[<-BM n]
   have hb:=bodyB ok nn.1 nn.2;refine xj (.inl (.inl hp2)) (.inl (.inl hl2)) (Nat.le_trans (show(tx [n.cps.toList]).length+(tx (ps.map λx=>x.2.2)).length<=8 by unfold tx;simp;omega) (by decide)) λu hu=>?_;refine(iw11 u rfl (iw12 (n.cps.toList::ps.map λx=>x.2.2) (.inl (.inl ?_)) ?_ (λH' s'=>q _ H' (s0.trans (s2.trans ((Same.upd hu).trans s'))) hb)))
   ·refine ae.trans ?_
    unfold tx;simp
   ·have h2:((n.cps.toList::ps.map λx=>x.2.2).map List.length).sum<=8+7 * 201:=by
     rw[List.map_cons,List.sum_cons];have h3:∀l:List Part,(∀x∈l,x.2.2.length<=201)->((l.map λx=>x.2.2).map List.length).sum<=l.length * 201:=by
      intro l
      induction l with
      | nil=>intro _;simp
      | cons x r ih=>
       intro h;have a:=h x (by simp);have b:=ih λy hy=>h y (by simp[hy]);simp only[List.map_cons,List.sum_cons,List.length_cons] at b ⊢;omega
     have:=h3 ps λx hx=>(ok.part x hx).2.1;omega
    simp only[List.length_cons,List.length_map];omega
local macro_rules | `(tactic| walk_at "rd")=>rdM "mf oR y4 uv vZ uy sC uz uA sD v5 v7 wa mh wb p9 wc zd sF Cz we yF A3 vt"
theorem jb (T:Txt w K mg a):FnOk P w K mg base (CXv P w) 3 a.f_check_names a.d_check_names ["names"] uq:=by
 refine T.bL.F.okX o9 (λvs H Q E h=>?_) (λcdv A outer s H vs Q E hr h=>?_)
 ·(revert h;refine ow21 λp ls zz1 _=>?_;subst zz1)
  rfl
 ·(revert h;refine ow24 λp ls zz1 hp hl ho q=>?_;subst zz1)
  refine(iw11 _ (ai (aQ (PT.nox (dk (bg (K:=K) (ax (dX (K:=K)) (by rfl) T.rh boot_all (aa (cv ["names"] ["names"] (defScope gj) (by exact⟨rfl,s!"d",s!"d",s!"d",s!"d",s!"d",s!"d",s!"d",s!"d"⟩) (bf (K:=K) (pv 0)) (λC₁ s₁ H₁ f₁=>(aq (pR T) (hr.mono (by decide)) rfl T.dB.m T.dB.F.kp T.dB.b .nil pass0 (aa (pv 0) af)))) af)) (by intro _;rfl)))) cO aC)) ?_);walk_at "rd";refine cF (.inl (.inl hp)) (j5 (xs:=tx ls) (.inl (.inl hp)) (Nat.le_trans (show(tx ls).length<=9 by unfold tx;simpa using hl) (by decide)) (λx=>.bl (formV x 1 12 inN)) (λx H' hx s' Qe qe=>?_) λD H' hD s' hl'=>?_)
  ·(refine pw11 (List.mem_map.mp hx) λl hm zz1=>?_;subst zz1)
   walk_at "rd";exact⟨.str l (ho l hm).2,qe⟩
  ·refine lS (bs:=ls.map λ_=>true) (.inl (.inl ?_)) (iw11 true (show true=_ by rw[List.all_map];simp) ?_)
   ·rw[hl']
    unfold tx;rw[List.map_map,List.map_map];congr 2;refine List.map_congr_left λl hm=>?_;show V.bl (formV (V.str (S l)) 1 12 inN)=V.bl true;rw[(ho l hm).1]
   ·rw[if_neg (by decide)]
    exact q H' s'
theorem dS (T:Txt w K mg a):FnOk P w K mg base (CXv P w) 2 a.f_check_wholes a.d_check_wholes ["bounded"] su:=by
 refine T.aV.F.okX nz (λvs H Q E h=>?_) (λcdv A outer s H vs Q E hr h=>?_)
 ·(revert h;refine ow21 λp ls zz1 _=>?_;subst zz1)
  rfl
 ·(revert h;refine ow24 λp xs zz1 hp hl ho q=>?_;subst zz1)
  refine(iw11 _ (ai (aQ (PT.nox (dk (bg (K:=K) (ax (dX (K:=K)) (by rfl) T.rh boot_all (aa (AE ["bounded"] ["bounded"] (defScope eN) ["thing","low","high"] (by exact⟨rfl,s!"d",s!"d",s!"d",s!"d",s!"d",s!"d"⟩) (bf (K:=K) (pv 0)) (λC₁ s₁ H₁ f₁=>(ji (K:=K) (n:=3) rfl (bh (aU (i:=0) (show List.Nodup (α:=Str) ["thing","low","high","bounded"] by decide +kernel) rfl (Or.inl rfl) (Or.inr rfl)) (bh (aU (i:=1) (show List.Nodup (α:=Str) ["thing","low","high","bounded"] by decide +kernel) rfl (Or.inl rfl) (Or.inr rfl)) (bh (aU (i:=2) (show List.Nodup (α:=Str) ["thing","low","high","bounded"] by decide +kernel) rfl (Or.inl rfl) (Or.inr rfl)) je))))) (λC₁ s₁ H₁ f₁=>(aq (nh T) (hr.mono (by decide)) rfl T.cK.m T.cK.F.kp T.cK.b .nil pass0 (aa (pv 0) (aa (pv 1) (aa (pv 2) af)))))) af)) (by intro _;rfl)))) cO aC)) ?_);walk_at "rd";(refine pw11 (id hp) λts hts htt=>?_);refine cF (.inl (.inl hts)) (uj hp (by rw[List.length_map];omega) (λys hys=>by (refine pw11 (List.mem_map.mp hys) λs _ zz1=>?_;subst zz1);rfl) (λ_=>true) (λ_=>.bl true) ?_ ?_ ?_ ?_)
  ·rintro t ys H' o R hys s' ht ho' r
   (refine pw11 (List.mem_map.mp hys) λx hx zz1=>?_;subst zz1);obtain⟨o1,o2,o3,rfl⟩:∃o1 o2 o3,o=[o1,o2,o3]:=by
    match o,ho' with
    | [o1,o2,o3],_=>exact(iw30 o1 o2 o3 rfl)
   refine(iw23 t _ rfl (.inl (.inl ht)) rfl ?_);walk_at "rd";exact(iw21 _ _ rfl (iw21 _ _ rfl (iw22 _ _ rfl rfl r)))
  ·intro ys H' hys s' Qt qt
   exact qt H' (Same.refl _)
  ·rintro ys H' hys - s' Qe qe
   (refine pw11 (List.mem_map.mp hys) λx hx zz1=>?_;subst zz1);simp only[w3V,List.map_cons,List.map_nil,List.cons_append,List.nil_append];walk_at "rd";refine⟨.int _,?_⟩;have e:wholeV (V.int x.1) x.2.1 x.2.2=true:=by
    show(decide (x.2.1<=x.1) && decide (x.1<=x.2.2))=true;rw[decide_eq_true (ho x hx).1,decide_eq_true (ho x hx).2];rfl
   rw[e];exact qe H' (Same.refl _)
  ·intro D H' hD s' hl'
   rw[cQ,List.map_map] at hl';refine lS (bs:=xs.map λ_=>true) (.inl (.inl ?_)) (iw11 true (show true=_ by rw[List.all_map];simp) ?_)
   ·rw[hl',List.map_map]
    rfl
   ·rw[if_neg (by decide)]
    exact q H' s'
theorem nM (T:Txt w K mg a):FnOk P w K mg base (CXv P w) 3 a.f_check_letter a.d_check_letter ["key","word"] sv:=by
 refine T.cV.F.okX nA (λvs H Q E h=>?_) (λcdv A outer s H vs Q E hr h=>?_)
 ·(revert h;refine ow21 λk o zz1 _=>?_;subst zz1)
  rfl
 ·(revert h;refine ow24 λk o zz1 hk hkl ho=>ow01 λhol q=>?_;subst zz1)
  refine(iw11 _ (ai (aQ (PT.nox (PW.pt (mQ (dk (bg (K:=K) (aq (zK T) (hr.mono (by decide)) rfl T.lq.m T.lq.F.kp T.lq.b .nil pass0 (aa (pv 0) af)) (by intro _;rfl))) (jZ (dk (bg (K:=K) (aq (wH T) (hr.mono (by decide)) rfl T.jv.m T.jv.F.kp T.jv.b .nil pass0 (aa (pv 1) af)) (by intro _;rfl))))))) cO aC)) ?_);walk_at "rd";refine⟨.str k hkl,λH1 s1=>?_⟩;rw[if_neg (by rw[hk];decide)];refine⟨?_,λH2 s2=>?_⟩
  ·cases o with
   | none=>exact .non
   | some w0=>exact .str w0 (hol w0 rfl)
  ·rw[if_neg (by rw[ho];decide)]
   exact q H2 (s1.trans s2)
theorem pU (T:Txt w K mg a):FnOk P w K mg base CX0 1 a.f_check_truth a.d_check_truth ["thing"] ur:=by
 refine T.dH.F.ok pb (λvs H Q E h=>?_) (λcdv A outer s H vs Q E hr h=>?_)
 ·(revert h;refine ow11 λb zz1 _=>?_;subst zz1)
  rfl
 ·(revert h;refine ow11 λb zz1 q=>?_;subst zz1)
  refine(iw11 _ (ai (aQ (PW.pt (u4 (aE xm (pv 0) iA (nomark _)) (rB (aE xm (pv 0) iA (nomark _))))) (ai sZ) aC)) ?_);walk_at "rd";cases b with
  | true=>rw[if_neg (by decide)];exact q
  | false=>rw[if_pos (by decide),if_neg (by decide)];exact q
local macro_rules | `(tactic| walk_at "rd")=>rdM "uv vZ uy sC uz uA sD v5 v7 wa mh wb p9 wc zd sF Cz we yF A3 vt"
noncomputable def kk5 (a:Adr):CK:=⟨a.C_Cellar,a.C_State,a.C_Book,a.C_Shelves,a.C_Row,a.C_Senders,a.C_Deeds,a.C_Readers⟩
theorem xJ (T:Txt w K mg a):FnOk P w K mg base CX0 1 a.f_Deeds_numbered a.d_Deeds_numbered ["self","number"] gC:=FnOk.never
theorem BB (T:Txt w K mg a):FnOk P w K mg base CX0 2 a.f_Deeds_hold a.d_Deeds_hold ["self","number","row","place"] gC:=FnOk.never
theorem nN (T:Txt w K mg a):FnOk P w K mg base CX0 3 a.f_hail_happens a.d_hail_happens ["state","event"] (mf (kk5 a)):=by
 refine T.eY.F.ok ny (λvs H Q E h=>?_) (λcdv A outer s H vs Q E hr h=>?_)
 ·(revert h;refine ow60 λA Z M D n kk=>ow01 λzz1 _=>?_;subst zz1)
  rfl
 ·(revert h;refine ow60 λA0 Z M D n kk=>ow05 λzz1 hS hD hsz hv q=>?_;subst zz1)
  refine(iw11 _ (ai (aK (aL (au (K:=K) (pv 0) rfl) T.aB T.fe.m (nK T) (hr.mono (by decide)) T.fe.b .nil pass0 (aa (av (ak (K:=K) (hU1 hr)) (pv 1) az (λ_ _=>rfl)) af)))) ?_);obtain⟨dx,hst⟩:=hS.sta;obtain⟨dxs,hsn⟩:=hS.snd.obj;walk_at "rd";refine(iw33 _ dx _ hst T.aI T.aY (iw11 _ (cn A0) (iw11 _ rfl (iw22 dxs _ hsn rfl ?_))));refine aS (dg hD (y6 n kk)) (iw11 _ rfl (iw60 _ _ _ _ _ _ ⟨rfl,hS.snd,hsz,hv,⟨hS.zo,λu H' c s' _ _=>q H' c ?_⟩⟩));exact hS.sends c s'
theorem pV (T:Txt w K mg a):FnOk P w K mg base CX0 5 a.f_put_happens a.d_put_happens ["state","event"] (oR (kk5 a)):=by
 refine T.gs.F.ok eM (λvs H Q E h=>?_) (λcdv A outer s H vs Q E hr h=>?_)
 ·(revert h;refine ow60 λA Z M D n kk=>ow60 λi pl key wo r d=>ow11 λm zz1 _=>?_;subst zz1)
  rfl
 ·(revert h;refine ow60 λA0 Z M D n kk=>ow60 λi pl key wo r d=>ow13 λm zz1 hS hD=>ow05 λnDd nDt nDp hr1 hd1=>ow05 λhm hml hsz hL hkk q=>?_;subst zz1)
  refine(iw11 _ (ag (aw (i:=2) eM.nd rfl (Or.inl rfl) (av (ak (K:=K) (hU1 hr)) (pv 1) az (λ_ _=>rfl)))
   (ag (aw (i:=3) eM.nd rfl (Or.inl rfl) (aL (av (ak (K:=K) (hU1 hr)) (au (K:=K) (pv 0) rfl) (pv 2) (λ_ _=>rfl)) T.cz T.zB (wI T) (hr.mono (by decide)) T.zD .nil pass0 (aa (av (ak (K:=K) (hU1 hr)) (pv 1) az (λ_ _=>rfl)) (aa (av (ak (K:=K) (hU1 hr)) (pv 1) az (λ_ _=>rfl)) (aa (av (ak (K:=K) (hU1 hr)) (pv 1) az (λ_ _=>rfl)) af)))))
   (ag (aK (aL (au (K:=K) (pv 0) rfl) T.aB T.fg.m (nJ T) (hr.mono (by decide)) T.fg.b .nil passv0 (aa (av (ak (K:=K) (hU1 hr)) (pv 1) az (λ_ _=>rfl)) (aa (av (ak (K:=K) (hU1 hr)) (pv 1) az (λ_ _=>rfl)) (aa (pv 2) (aa (pv 3) af))))))
   (ai (aQ (aE (dq (K:=K) (hU hr)) (av (ak (K:=K) (hU1 hr)) (pv 1) az (λ_ _=>rfl)) ah (nomark _)) cO aC))))) ?_)
  obtain⟨dx,hst⟩:=hS.sta;walk_at "c2";have hrr:SqL K H A0.rl (A0.rs.map V.ref):=.inl (.inl hS.rowl);have R:=hS.row i r d m hr1 hd1 hm;obtain⟨dxr,hro⟩:=R.obj;refine aS (dg hD (Ep n kk 0 i pl key wo)) (iw33 _ dx _ hst T.aI T.cD (iw11 _ (kU A0) ?_));refine aT (v:=.ref r) hrr (bZ (by omega) (by rw[Int.toNat_natCast,List.getElem?_map,hr1];rfl)) (iw11 r rfl (iw22 dxr _ hro (AD m d) ?_));refine aS (dg hD (Er n kk 0 i pl key wo)) (aS (dg hD (Cy n kk 0 i pl key wo)) (aS (dg hD (xu n kk 0 i pl key wo)) ?_));refine(iw11 r rfl (iw34 d m (key,wo,0) rfl rfl rfl R ⟨by omega,λH1 c1 R1=>?_⟩));walk_at "nx";have S1:=hS.rowd hr1 hd1 c1 R1;obtain⟨dx1,hst1⟩:=S1.sta;obtain⟨dxs,hsn⟩:=S1.snd.obj;have mr:=List.mem_of_getElem? hr1;have md:=List.mem_of_getElem? hd1;have nD:D≠r/\D≠d:=⟨(λz=>by rw[z,hro] at hD;cases hD),nDd⟩
  have hD1:H1 D=some (.dK (evK "put" (putP n kk 0 i pl key wo))):=c1.keep _ _ hD (n2 nD);refine(iw33 _ dx1 _ hst1 T.aI T.aY (iw11 _ (cn A0) (iw11 _ rfl (iw22 dxs _ hsn rfl ?_))));refine aS (dg hD1 (y8 n kk 0 i pl key wo)) (aS (dg hD1 (y9 n kk 0 i pl key wo)) ?_);refine(iw11 _ rfl (iw60 _ _ _ _ _ _ ⟨rfl,(iw15 _ rfl S1.snd hL hkk hsz ⟨S1.zo,λH2 c2 s2=>?_⟩)⟩));walk_at "ls"
  have hD2:H2 D=some (.dK (evK "put" (putP n kk 0 i pl key wo))):=c2.keep _ _ hD1 (by
   (refine pw12 S1.snd.las λk2 e2 _ v2=>?_);(refine pw11 S1.snd.spo λk3 e3 _=>?_);simp only[List.mem_cons,List.not_mem_nil,or_false,not_or]
   exact⟨nDt,nDp⟩)
  refine aS (dg hD2 (xu n kk 0 i pl key wo)) ?_;walk_at "rd";refine q H2 ((c1.mono (by simp)).trans (c2.mono (by simp))) ?_;exact S1.sends (c2.mono (by simp)) s2
theorem zQ (T:Txt w K mg a):FnOk P w K mg base CX0 6 a.f_happen a.d_happen ["state","event"] (y4 (kk5 a)):=by
 refine T.ll.F.ok qQ (λvs H Q E h=>?_) (λcdv A outer s H vs Q E hr h=>?_)
 ·(revert h;refine ow21 λst D zz1 _=>?_;subst zz1)
  rfl
 ·(revert h;refine ow21 λst D zz1 h=>?_;subst zz1)
  refine(iw11 _ (ag (aw (i:=2) qQ.nd rfl (Or.inl rfl) (vS T.sO (av (ak (K:=K) (hU1 hr)) (pv 1) az (λ_ _=>rfl)) (λ_ _=>rfl)))
   (ai (aK (AU (.cons (nN T) (hr.mono (by decide)) T.eY.F.kp T.eY.b pass0 (.cons (pV T) (hr.mono (by decide)) T.gs.F.kp T.gs.b pass0 .nil)) (pv 2) (aa (pv 0) (aa (pv 1) af)))))) ?_)
  walk_at "rd";rcases h with⟨h,ps,hD⟩ | ⟨h,ps,hD⟩
  ·exact aS (dg hD (show valV (evK "hail" ps) (.inr (Str.ofString "event"))=some (.str (Str.ofString "hail")) from rfl)) (iw12 (Str.ofString "hail",V.ref a.f_hail_happens) (by simp) rfl (iw11 _ rfl (iw11 (mf (kk5 a)) (by simp) h)))
  ·exact aS (dg hD (show valV (evK "put" ps) (.inr (Str.ofString "event"))=some (.str (Str.ofString "put")) from rfl)) (iw12 (Str.ofString "put",V.ref a.f_put_happens) (by simp) rfl (iw11 _ rfl (iw11 (oR (kk5 a)) (by simp) h)))
local macro_rules | `(tactic| walk_at "rd")=>rdM "uy sC uz uA sD v5 v7 wa mh wb p9 wc zd sF Cz we yF A3 vt"
theorem uX (T:Txt w K mg a):FnOk P w K mg base CX0 4 a.f_hail_act a.d_hail_act ["state","sender"] (uv (kk5 a)):=by
 refine T.hG.F.ok fI (λvs H Q E h=>?_) (λcdv A outer s H vs Q E hr h=>?_)
 ·(revert h;refine ow30 λA Z M=>ow21 λn kk zz1 _=>?_;subst zz1)
  rfl
 ·(revert h;refine ow30 λA0 Z M=>ow24 λn kk zz1 hS hn hkk=>ow01 λhk9 q=>?_;subst zz1)
  refine(iw11 _ (ag (aK (aq (jb T) (hr.mono (by decide)) rfl T.bL.m T.bL.F.kp T.bL.b .nil passv0 (aa (aX (aa (pv 1) af)) af)))
   (ag (aw (i:=2) fI.nd rfl (Or.inl rfl) (aX af))
   (ag (aw (i:=3) fI.nd rfl (Or.inl rfl) (aL (au (K:=K) (pv 0) rfl) T.fj T.b9.m (gL T) (hr.mono (by decide)) T.b9.b .nil pass0 (aa (pv 1) af)))
   (ag (aQ (aE (dq (K:=K) (hU hr)) (pv 3) ah (nomark _)) (ai (aK (cI (K:=K) PySem.F.plainAttrs_list PySem.F.slot_list_append PySem.F.type_list_append cP (pv 2) (aa (aq (ja T) (hr.mono (by decide)) rfl T.bK.m T.bK.F.kp T.bK.b .nil pass0 (aa az (aa (aX (aa (pv 3) af)) af))) af)))) aC)
   (ag (aw (i:=4) fI.nd rfl (Or.inl rfl) (aD (aF (K:=K)) (aL (au (K:=K) (pv 0) rfl) T.aB T.bH.m (fq T) (hr.mono (by decide)) T.bH.b .nil pass0 (aa (pv 1) af)) ah))
   (ag (aK (cI (K:=K) PySem.F.plainAttrs_list PySem.F.slot_list_append PySem.F.type_list_append cP (pv 2) (aa (aq (ja T) (hr.mono (by decide)) rfl T.bK.m T.bK.F.kp T.bK.b .nil pass0 (aa az (aa (aX (aa (pv 1) (aa (pv 4) af))) af))) af)))
   (ai (ar (aR (aa (pv 2) (aa (aR (aa (pv 4) (aa (aL (au (K:=K) (pv 0) rfl) T.aB T.da.m (kr T) (hr.mono (by decide)) T.da.b .nil pass0 (aa (pv 1) af)) af))) af))))))))))) ?_)
  refine cut1 λRz hRz=>?_;walk_at "rd";refine⟨by decide,λp0 hp0=>(iw13 ([n]) ae (show 1<=9 by decide) (λl hl=>by rw[List.mem_singleton.mp hl];exact⟨hn,by have:=hn.len;omega⟩) (λH1 s1=>?_))⟩;walk_at "nx";refine⟨Nat.zero_le _,λev hev=>?_⟩;have s01:Same H H1:=(Same.upd hp0).trans s1;generalize hH2:upd H1 ev (.lst [])=H2;have s02:Same H H2:=by rw[<-hH2];exact s01.trans (Same.upd hev)
  have hev2:H2 ev=some (.lst []):=by rw[<-hH2];exact ae
  have hev0:H ev=none:=bp s01 hev;have S2:=hS.same s02;obtain⟨dx,hst⟩:=S2.sta;obtain⟨dxd,hde⟩:=S2.dee.obj;obtain⟨dxs,hsn⟩:=S2.snd.obj;walk_at "nx";refine(iw33 _ dx _ hst T.aI T.di (iw11 _ (ma A0) (iw11 _ rfl (iw22 dxd _ hde rfl (iw11 _ rfl (iw30 _ _ _ (iw11 _ S2.dee ?_)))))));walk_at "nx";rw[if_neg (by show ¬¬(0:Int)=0;simp)];walk_at "nx";refine(iw33 _ dx _ hst T.aI T.aY (iw11 _ (cn A0) (iw11 _ rfl (iw22 dxs _ hsn rfl (iw11 _ rfl (iw51 _ _ _ _ _ S2.snd ?_))))));rw[<-hkk];walk_at "nx";refine⟨.inl ⟨_,.inl (.inl hev2)⟩,by decide,λp hp=>(iw23 _ (hailP n kk) ae EvN.hail (qM hn hk9) (λD H3 hD s3 eD=>?_))⟩;have nep:ev≠p:=λz=>by rw[z,hp] at hev2;cases hev2
  have s23:Same H2 H3:=(Same.upd hp).trans s3;have hev3:H3 ev=some (.lst []):=s23 _ _ hev2;have hD2:H2 D=none:=bp (Same.upd hp) hD;have nD:D≠ev:=λz=>by rw[z,hev2] at hD2;cases hD2
  refine(iw12 _ hev3 (by show 0 < _;decide) ?_);rw[List.nil_append];generalize hH4:upd H3 ev (.lst [.ref D])=H4;have s04:Same H H4:=by rw[<-hH4];exact Same.wr (s02.trans s23) hev0
  have hev4:H4 ev=some (.lst [.ref D]):=by rw[<-hH4];exact ae
  have hD4:H4 D=some (.dK (evK "hail" (hailP n kk))):=by rw[<-hH4,aj nD];exact eD
  have S4:=hS.same s04;obtain⟨dx4,hst4⟩:=S4.sta;obtain⟨dxs4,hsn4⟩:=S4.snd.obj;walk_at "ls";refine(iw33 _ dx4 _ hst4 T.aI T.aY (iw11 _ (cn A0) (iw11 _ rfl (iw22 dxs4 _ hsn4 rfl (iw11 _ rfl (iw51 _ _ _ _ _ S4.snd ⟨by decide,λu hu=>⟨by decide,λt ht=>?_⟩⟩))))));have s5:=Same.upd (o:=.tup [.int (kk:Int),.int (if (M.S.L (S n)).isSome=true then M.S.T (S n) else 0)]) hu;refine q t ev u D _ (s04.trans (s5.trans (Same.upd ht))) hev0 (bp s02 hD2) ae ?_ ?_ ?_
  ·exact Same.upd ht _ _ (s5 _ _ hev4)
  ·exact Same.upd ht _ _ (s5 _ _ hD4)
  ·exact Same.upd ht _ _ ae
theorem wQ (T:Txt w K mg a):FnOk P w K mg base (CXv P w) 5 a.f_put_act a.d_put_act ["state","sender","life","number","shelf","letter","deed"] (vZ (kk5 a) a.C_NoSuch a.C_Fenced a.C_Gap a.C_TooOld a.C_NoDeed):=by
 refine T.jw.F.okX gW (λvs H Q E h=>?_) (λcdv A outer s H vs Q E hr h=>?_)
 ·(revert h;refine ow60 λA Z M n shf key=>ow60 λwo life num dd j x=>ow11 λlt zz1 _=>?_;subst zz1)
  rfl
 ·(revert h;refine ow60 λA0 Z M n shf key=>ow60 λwo life num dd j x=>ow13 λlt zz1 hlt hP hq=>?_;subst zz1)
  refine(iw11 _ (ag (aK (aq (jb T) (hr.mono (by decide)) rfl T.bL.m T.bL.F.kp T.bL.b .nil passX (aa (aX (aa (pv 1) (aa (pv 4) af))) af)))
   (ag (aK (aq (dS T) (hr.mono (by decide)) rfl T.aV.m T.aV.F.kp T.aV.b .nil passX (aa (aX (aa (aR (aa (pv 2) (aa ah (aa (bF T.fm) af)))) (aa (aR (aa (pv 3) (aa ah (aa (bF T.fm) af)))) (aa (aR (aa (pv 6) (aa ah (aa (bF T.fm) af)))) af)))) af)))
   (ag (aK (aq (nM T) (hr.mono (by decide)) rfl T.cV.m T.cV.F.kp T.cV.b .nil passX (aa (av (ak (K:=K) (hU1 hr)) (pv 5) ah (λ_ _=>rfl)) (aa (av (ak (K:=K) (hU1 hr)) (pv 5) ah (λ_ _=>rfl)) af))))
   (ag (aK (aL (au (K:=K) (pv 0) rfl) T.aB T.a8.m (cE T) (hr.mono (by decide)) T.a8.b .nil passX (aa (pv 1) af)))
   (ag (aw (i:=7) gW.nd rfl (Or.inl rfl) (aL (au (K:=K) (pv 0) rfl) T.bw T.cY.m (kA T) (hr.mono (by decide)) T.cY.b .nil passX (aa (pv 4) (aa (av (ak (K:=K) (hU1 hr)) (pv 5) ah (λ_ _=>rfl)) af))))
   (ag (aK (aL (au (K:=K) (pv 0) rfl) T.aB T.dR.m (mN T) (hr.mono (by decide)) T.dR.b .nil passX (aa (pv 1) (aa (pv 2) af))))
   (ag (aw (i:=8) gW.nd rfl (Or.inl rfl) (aL (au (K:=K) (pv 0) rfl) T.aB T.cZ.m (ku T) (hr.mono (by decide)) T.cZ.b .nil passX (aa (pv 1) (aa (pv 3) af))))
   (ag (PS.nox (aQ (n9 (rA (pv 8))) (ai (ar (aR (aa (aX af) (aa (pv 8) af))))) aC))
   (ag (aQ (PT.nox (PW.pt (u4 (aE (dq (K:=K) (hU hr)) (pv 6) ah (nomark _)) (rB (aE (dq (K:=K) (hU hr)) (pv 6) (aL (au (K:=K) (pv 0) rfl) T.fj T.b9.m (gL T) (hr.mono (by decide)) T.b9.b .nil pass0 (aa (pv 1) af)) (nomark _)))))) (ai (eG T.pN T.zw T.zx (kn T) (hr.mono (by decide)) rfl T.rf T.fU.b (by decide) raiseX (aa (pv 1) af))) aC)
   (ag (PS.nox (aw (i:=9) gW.nd rfl (Or.inl rfl) (au (K:=K) (av (ak (K:=K) (hU1 hr)) (au (K:=K) (pv 0) rfl) (pv 7) (λ_ _=>rfl)) rfl)))
   (ai (PS.nox (ar (aR (aa (aX (aa (aq (ja T) (hr.mono (by decide)) rfl T.bK.m T.bK.F.kp T.bK.b .nil pass0 (aa az (aa (aX (aa (pv 1) (aa (pv 3) (aa (pv 6) (aa (pv 7) (aa (pv 9) (aa (av (ak (K:=K) (hU1 hr)) (pv 5) ah (λ_ _=>rfl)) (aa (av (ak (K:=K) (hU1 hr)) (pv 5) ah (λ_ _=>rfl)) af)))))))) af))) af)) (aa (aR (aa (pv 7) (aa (pv 9) af))) af)))))))))))))))) ?_)
  walk_at "c1";obtain⟨hS,hnm,hsh,hky,hwd,hwl,hlf,hnu,hdd,hpos,hxn⟩:=hP;refine⟨by decide,λp0 hp0=>(iw13 ([n,shf]) ae (show 2<=9 by decide) (λl hl=>?_) (λH1 s1=>?_))⟩
  ·simp only[List.mem_cons,List.not_mem_nil,or_false] at hl
   rcases hl with rfl | rfl
   ·exact⟨hnm,by have:=hnm.len;omega⟩
   ·exact⟨hsh,by have:=hsh.len;omega⟩
  have s01:Same H H1:=(Same.upd hp0).trans s1;walk_at "nx";refine⟨by decide,λp1 hp1=>⟨by decide,λp2 hp2=>⟨by decide,λp3 hp3=>⟨by decide,λp4 hp4=>?_⟩⟩⟩⟩;have t1:=Same.upd (o:=.tup [.int (life:Int),.int 1,.int 1000000000]) hp1;have t2:=Same.upd (o:=.tup [.int (num:Int),.int 1,.int 1000000000]) hp2;have t3:=Same.upd (o:=.tup [.int (dd:Int),.int 0,.int 1000000000]) hp3;have t4:=Same.upd (o:=.lst [.ref p1,.ref p2,.ref p3]) hp4;refine(iw13 ([((life:Int),1,1000000000),((num:Int),1,1000000000),((dd:Int),0,1000000000)]) (iw11 ([p1,p2,p3]) ae ?_) (show 3<=9 by decide) (λy hy=>?_) (λH2 s2=>?_))
  ·exact .cons (t4 _ _ (t3 _ _ (t2 _ _ ae))) (.cons (t4 _ _ (t3 _ _ ae)) (.cons (t4 _ _ ae) .nil))
  ·simp only[List.mem_cons,List.not_mem_nil,or_false] at hy
   rcases hy with rfl | rfl | rfl
   ·exact⟨by show(1:Int)<=life;omega,by show(life:Int)<=1000000000;omega⟩
   ·exact⟨by show(1:Int)<=num;omega,by show(num:Int)<=1000000000;omega⟩
   ·exact⟨by show(0:Int)<=dd;omega,by show(dd:Int)<=1000000000;omega⟩
  have s02:Same H H2:=s01.trans (t1.trans (t2.trans (t3.trans (t4.trans s2))));walk_at "nx";have l2:SqT K H2 lt [.str (S key),wV wo]:=.inl (.inl (s02 _ _ hlt));refine aO l2 rfl (aO l2 rfl (iw11 _ rfl (iw15 wo rfl hky (by have:=hky.len;omega) hwd (λw hw=>by have:=hwl w hw;omega) (λH3 s3=>?_))));have s03:=s02.trans s3;have S3:=hS.same s03;obtain⟨dx3,hst3⟩:=S3.sta;obtain⟨dxs3,hsn3⟩:=S3.snd.obj;obtain⟨dxh3,hsh3⟩:=S3.shv.obj;have l3:SqT K H3 lt [.str (S key),wV wo]:=.inl (.inl (s03 _ _ hlt));walk_at "nx";refine(iw33 _ dx3 _ hst3 T.aI T.aY (iw11 _ (cn A0) (iw11 _ rfl (iw22 dxs3 _ hsn3 rfl (iw11 _ rfl (iw51 _ _ _ _ _ S3.snd ?_))))));rcases hq with⟨hL,hB⟩ | ⟨v,hL,hq⟩
  ·exact .inr ⟨hL,hB _ s03⟩
  refine .inl ⟨by rw[hL];rfl,?_⟩;walk_at "nx";refine(iw33 _ dx3 _ hst3 T.aI T.bR (iw11 _ (iM A0) (iw11 _ rfl (iw22 dxh3 _ hsh3 rfl ?_))));refine aO l3 rfl (iw11 _ rfl (iw33 _ _ _ rfl S3.shv S3.okx (.inl (iw22 j x hpos hxn (λH4 s4=>?_)))));have s04:=s03.trans s4;have S4:=hS.same s04;obtain⟨dx4,hst4⟩:=S4.sta;obtain⟨dxs4,hsn4⟩:=S4.snd.obj;walk_at "nx";refine(iw33 _ dx4 _ hst4 T.aI T.aY (iw11 _ (cn A0) (iw11 _ rfl (iw22 dxs4 _ hsn4 rfl ?_))));refine(iw11 _ rfl (iw51 _ _ _ _ _ S4.snd (.inr (iw11 v hL ?_))));rcases hq with⟨hne,hB⟩ | ⟨hv,hq⟩
  ·exact .inr ⟨hne,hB _ s04⟩
  refine .inl ⟨hv,?_⟩;walk_at "nx";refine(iw33 _ dx4 _ hst4 T.aI T.aY (iw11 _ (cn A0) (iw11 _ rfl (iw22 dxs4 _ hsn4 rfl (iw11 _ rfl (iw51 _ _ _ _ _ S4.snd (.inr ⟨by rw[hL];rfl,?_⟩)))))));rcases hq with⟨h1,hB⟩ | ⟨h1,hB⟩ | ⟨i,y,h1,h2,hQ⟩ | ⟨h1,h2,hB⟩ | ⟨h1,h2,i,pl,m,hi,hm,hpl,hpl9,hQ⟩
  ·exact .inl ⟨h1,hB _ s04⟩
  ·exact .inr (.inr (.inl ⟨h1,hB _ s04⟩))
  ·refine .inr (.inr (.inr (iw11 i h1 (iw11 y h2 (λu hu=>?_)))))
   walk_at "nx";clear hRz;refine⟨by decide,λev hev=>⟨by decide,λt ht=>?_⟩⟩;have s5:=Same.upd (o:=.lst []) hev;exact hQ t ev u _ (s04.trans (s5.trans (Same.upd ht))) ae (Same.upd ht _ _ ae) (Same.upd ht _ _ (s5 _ _ hu))
  ·refine .inr (.inl ⟨h1,?_⟩)
   walk_at "nx";walk_at "nx";clear hRz;rw[if_pos (by omega)];obtain⟨dxd,hde⟩:=S4.dee.obj;refine(iw33 _ dx4 _ hst4 T.aI T.di (iw11 _ (ma A0) (iw11 _ rfl (iw22 dxd _ hde rfl (iw11 _ rfl (iw30 _ _ _ (iw11 _ S4.dee ?_)))))));rw[if_pos (by show ¬(dd:Int)=0;omega)];exact hB _ s04
  ·refine .inr (.inl ⟨h1,?_⟩)
   subst h2;walk_at "nx";walk_at "nx";rw[if_neg (by simp)];walk_at "nx";have hi':rowNo M.xs j x key=i:=by omega
   rw[hi'];have hil:i < A0.rs.length:=by rw[<-hS.lenm];exact(List.getElem?_eq_some_iff.mp hm).1
   have hr1:A0.rs[i]?=some A0.rs[i]:=by simp
   have hd1:A0.ds[i]?=some (A0.ds[i]'(by rw[hS.lend];exact hil)):=by simp
   generalize A0.rs[i]=r at hr1;generalize A0.ds[i]'(by rw[hS.lend];exact hil)=d at hd1;have R:=S4.row i r d m hr1 hd1 hm;obtain⟨dxr,hro⟩:=R.obj;have hrr:SqL K H4 A0.rl (A0.rs.map V.ref):=.inl (.inl S4.rowl);have l4:SqT K H4 lt [.str (S key),wV wo]:=.inl (.inl (s04 _ _ hlt));refine(iw33 _ dx4 _ hst4 T.aI T.cD (iw11 _ (kU A0) ?_));refine aT (v:=.ref r) hrr (bZ (by omega) (by rw[Int.toNat_natCast,List.getElem?_map,hr1];rfl)) (iw11 r rfl (iw33 _ dxr _ hro T.cz T.dD ?_));refine(iw11 _ rfl ?_);walk_at "ls";refine aO l4 rfl (aO l4 rfl ?_);rw[hpl];refine⟨by decide,λp hp=>(iw23 _ (putP n num 0 i pl key wo) ae EvN.put (ux hnm (by omega) (by decide) (by have:=hS.okx.hi;have:=nX hS;omega) (by omega) hky hwd hwl) (λD H5 hD s5 eD=>⟨by decide,λev hev=>⟨by decide,λu hu=>⟨by decide,λt ht=>?_⟩⟩⟩))⟩;have s45:Same H4 H5:=(Same.upd hp).trans s5;have s05:=s04.trans s45;have s6:=Same.upd (o:=.lst [.ref D]) hev;have s7:=Same.upd (o:=.tup [.int (i:Int),.int (pl:Int)]) hu;have s8:=Same.upd (o:=.tup [.ref ev,.ref u]) ht;exact hQ t ev u D _ (s05.trans (s6.trans (s7.trans s8))) (bp s05 hev) (bp s04 (bp (Same.upd hp) hD)) ae (s8 _ _ (s7 _ _ ae)) (s8 _ _ (s7 _ _ (s6 _ _ eD))) (s8 _ _ ae)
local macro_rules | `(tactic| walk_at "rd")=>rdM "v5 v7 wa mh wb p9 wc zd sF Cz we yF A3 vt"
theorem pW (T:Txt w K mg a):FnOk P w K mg base CX0 5 a.f_check_there a.d_check_there ["state","row"] (uy (kk5 a)):=by
 refine T.dI.F.ok pd (λvs H Q E h=>?_) (λcdv A outer s H vs Q E hr h=>?_)
 ·(revert h;refine ow41 λA Z M r zz1 _=>?_;subst zz1)
  rfl
 ·(revert h;refine ow43 λA0 Z M r zz1 hS hr1 q=>?_;subst zz1)
  refine(iw11 _ (ai (aK (aL (au (K:=K) (pv 0) rfl) T.bw T.cL.m (jK T) (hr.mono (by decide)) T.cL.b .nil passv0 (aa (pv 1) af)))) ?_);walk_at "rd";obtain⟨dx,hst⟩:=hS.sta;obtain⟨dxh,hsh⟩:=hS.shv.obj;rw[hS.len] at hr1;(refine pw22 (oU _ (Nat.le_refl _) hr1) λkx x hx h1 h2=>?_);exact(iw33 _ dx _ hst T.aI T.bR (iw11 _ (iM A0) (iw11 _ rfl (iw22 dxh _ hsh rfl (iw11 _ rfl (iw22 _ _ hS.shv hS.okx (.inl (iw13 kx ⟨x,hx⟩ (by omega) (by omega) q))))))))
theorem sV (T:Txt w K mg a):FnOk P w K mg base CX0 6 a.f_asked_row a.d_asked_row ["state","row"] (sC (kk5 a)):=by
 refine T.fW.F.ok sH (λvs H Q E h=>?_) (λcdv A outer s H vs Q E hr h=>?_)
 ·(revert h;refine ow41 λA Z M r zz1 _=>?_;subst zz1)
  rfl
 ·(revert h;refine ow43 λA0 Z M r zz1 hS hr1 q=>?_;subst zz1)
  refine(iw11 _ (ag (aK (aq (dS T) (hr.mono (by decide)) rfl T.aV.m T.aV.F.kp T.aV.b .nil passv0 (aa (aX (aa (aR (aa (pv 1) (aa ah (aa (bF T.fm) af)))) af)) af)))
   (ai (aK (aq (pW T) (hr.mono (by decide)) rfl T.dI.m T.dI.F.kp T.dI.b .nil pass0 (aa (pv 0) (aa (pv 1) af)))))) ?_)
  walk_at "rd";have l1:=nX hS;have l2:=hS.okx.hi;refine⟨by decide,λp1 hp1=>⟨by decide,λp2 hp2=>(iw13 ([((r:Int),0,1000000000)]) (iw11 ([p1]) ae (.cons (Same.upd hp2 _ _ ae) .nil)) (show 1<=9 by decide) (λy hy=>?_) (λH1 s1=>?_))⟩⟩
  ·rw[List.mem_singleton.mp hy]
   exact⟨by show(0:Int)<=r;omega,by show(r:Int)<=1000000000;omega⟩
  ·have s01:Same H H1:=(Same.upd hp1).trans ((Same.upd hp2).trans s1)
   exact(iw11 A0 rfl (iw33 Z M r rfl (hS.same s01) hr1 (q _ s01)))
theorem pX (T:Txt w K mg a):FnOk P w K mg base CX0 1 a.f_Deeds_pairs a.d_Deeds_pairs ["self"] (uz a.C_Deeds):=by
 refine T.gu.F.ok pj (λvs H Q E h=>?_) (λcdv A outer s H vs Q E hr h=>?_)
 ·(revert h;refine ow31 λr dl bz zz1 _=>?_;subst zz1)
  rfl
 ·(revert h;refine ow32 λr dl bz zz1 D q=>?_;subst zz1)
  refine(iw11 _ (ai (ar (cv ["self"] ["self"] (defScope gk) (by exact⟨rfl,s!"d",s!"d",s!"d",s!"d",s!"d",s!"d",s!"d",s!"d"⟩) (bf (K:=K) (au (K:=K) (pv 0) rfl)) (λC₁ s₁ H₁ f₁=>(aR (aa (au (K:=K) (pv 0) rfl) (aa (bo (cG (K:=K)) rfl T.ib boot_list (aa (au (K:=K) (pv 0) rfl) af)) af))))))) ?_);walk_at "rd";obtain⟨dx,hde⟩:=D.obj;refine(iw33 _ dx _ hde T.fj T.i4 (iw11 _ rfl (cF (xs:=[]) (.inl (.inl D.lst)) ?_)));exact j5 (xs:=[]) (.inl (.inl D.lst)) (Nat.zero_le _) (λv=>v) (λx H' hx=>nomatch hx) (λp H' hp s e=>q p H' hp s e)
theorem lJ (T:Txt w K mg a):FnOk P w K mg base CX0 6 a.f_State_front_at a.d_State_front_at ["self","row"] (uA (kk5 a)):=by
 refine T.dC.F.ok la (λvs H Q E h=>?_) (λcdv A outer s H vs Q E hr h=>?_)
 ·(revert h;refine ow30 λA Z M=>ow21 λr m zz1 _=>?_;subst zz1)
  rfl
 ·(revert h;refine ow30 λA0 Z M=>ow23 λr m zz1 hS hm q=>?_;subst zz1)
  refine(iw11 _ (ai (ar (av (ak (K:=K) (hU1 hr)) (aq (zP T) (hr.mono (by decide)) rfl T.lA.m T.lA.F.kp T.lA.b .nil pass0 (aa (cv ["self","row"] ["self","row"] (defScope dw) (by exact⟨rfl,s!"d",s!"d",s!"d",s!"d",s!"d",s!"d",s!"d",s!"d"⟩) (bf (K:=K) (au (K:=K) (pv 0) rfl)) (λC₁ s₁ H₁ f₁=>(au (K:=K) (pv 0) rfl))) (aa (d7 (au (K:=K) (pv 0) rfl) T.fj T.gu.m (pX T) (hr.mono (by decide)) T.gu.b .nil pass0) af))) (pv 1) (λ_ _=>rfl)))) ?_);walk_at "rd";obtain⟨dx,hst⟩:=hS.sta;obtain⟨dxd,hde⟩:=hS.dee.obj;have hrr:SqL K H A0.rl (A0.rs.map V.ref):=.inl (.inl hS.rowl);have l1:=nX hS;have l2:=hS.okx.hi;refine(iw33 _ dx _ hst T.aI T.cD (iw11 _ (kU A0) (cF hrr ?_)));refine mX (xs:=A0.rs.map V.ref) (by rw[List.length_map];unfold sizeLine;omega) (λD i ys H'=>H D=none/\Same H H'/\H' D=some (.lst ys)/\ys=(M.Ms.take i).map λm=>V.int m.last) (λD hD=>⟨hD,Same.upd hD,ae,rfl⟩) (λD i ys H' hi ⟨_,s,e,hy⟩=>⟨e,by rw[hy,List.length_map,List.length_take];omega,s.seq hrr⟩) (λD i ys H' v hD hv ⟨_,s,e,hy⟩ Qe qe=>?_) (λD ys H' hD ⟨_,s,e,hy⟩=>?_)
  ·rw[List.getElem?_map] at hv
   (refine pw11 (Option.map_eq_some_iff.mp hv) λr1 hr1 zz1=>?_;subst zz1);have hil:i < A0.rs.length:=(List.getElem?_eq_some_iff.mp hr1).1;have hm1:M.Ms[i]?=some (M.Ms[i]'(by rw[hS.lenm];exact hil)):=by simp
   have hd1:A0.ds[i]?=some (A0.ds[i]'(by rw[hS.lend];exact hil)):=by simp
   obtain⟨dxr,hro⟩:=(hS.row i r1 _ _ hr1 hd1 hm1).obj;walk_at "rd";refine(iw33 _ dxr _ (s _ _ hro) T.cz T.dD (iw11 _ rfl ?_));refine qe _ _ e ⟨hD,Same.wr s hD,ae,?_⟩;rw[hy,List.take_add_one,hm1,List.map_append];rfl
  ·rw[List.length_map,<-hS.lenm,List.take_length] at hy
   have S1:=hS.same s;obtain⟨dx1,hst1⟩:=S1.sta;obtain⟨dxd1,hde1⟩:=S1.dee.obj;refine(iw33 _ dx1 _ hst1 T.aI T.di (iw11 _ (ma A0) (iw11 _ rfl (iw22 dxd1 _ hde1 rfl (iw12 _ rfl (iw20 _ _ S1.dee) (λp H2 hp s2 e2=>(iw11 D rfl (iw12 (M.Ms.map (·.last)) (.inl (.inl (by rw[s2 _ _ e,hy,List.map_map];rfl))) e2 (λB H3 hB s3 hB3=>?_)))))))));refine aT (v:=.int m.last) (.inl (.inl hB3)) (bZ (by omega) (by rw[Int.toNat_natCast,List.map_map,List.getElem?_map,hm];rfl)) ?_;exact q _ (s.trans (s2.trans s3))
theorem sW (T:Txt w K mg a):FnOk P w K mg base CX0 7 a.f_read_from a.d_read_from ["state","row","start","most","whole"] (sD (kk5 a)):=by
 refine T.fX.F.ok kY (λvs H Q E h=>?_) (λcdv A outer s H vs Q E hr h=>?_)
 ·(revert h;refine ow60 λA Z M r start most=>ow11 λm zz1 _=>?_;subst zz1)
  rfl
 ·(revert h;refine ow60 λA0 Z M r start most=>ow13 λm zz1 hS hm=>ow05 λhl hf hs9 hm1 hm2 q=>?_;subst zz1)
  refine(iw11 _ (ag (aK (aq (dS T) (hr.mono (by decide)) rfl T.aV.m T.aV.F.kp T.aV.b .nil passv0 (aa (aX (aa (aR (aa (pv 2) (aa ah (aa (bF T.fm) af)))) (aa (aR (aa (pv 3) (aa ah (aa (bF T.pP) af)))) af))) af)))
   (ag (aK (aq (pU T) (hr.mono (by decide)) rfl T.dH.m T.dH.F.kp T.dH.b .nil pass0 (aa (pv 4) af)))
   (ag (aK (aq (sV T) (hr.mono (by decide)) rfl T.fW.m T.fW.F.kp T.fW.b .nil pass0 (aa (pv 0) (aa (pv 1) af))))
   (ag (aw (i:=5) kY.nd rfl (Or.inl rfl) (av (ak (K:=K) (hU1 hr)) (au (K:=K) (pv 0) rfl) (pv 1) (λ_ _=>rfl)))
   (ag (aQ (aE j4 (pv 2) (au (K:=K) (pv 5) rfl) (nomark _)) (ai sZ) aC)
   (ai (ar (aL (pv 5) T.cz T.kj.m (uU T) (hr.mono (by decide)) T.kj.b .nil pass0 (aa (pv 2) (aa (og (bg (K:=K) (pv 4) (by intro _;rfl)) (aL (pv 0) T.aI T.dC.m (lJ T) (hr.mono (by decide)) T.dC.b .nil pass0 (aa (pv 1) af)) (au (K:=K) (pv 5) rfl)) (aa (pv 3) af))))))))))) ?_)
  walk_at "rd";refine⟨by decide,λp1 hp1=>⟨by decide,λp2 hp2=>⟨by decide,λp3 hp3=>(iw13 ([((start:Int),0,1000000000),((most:Int),1,1000)]) (iw11 ([p1,p2]) ae ?_) (show 2<=9 by decide) (λy hy=>?_) (λH1 s1=>?_))⟩⟩⟩
  ·exact .cons (Same.upd hp3 _ _ (Same.upd hp2 _ _ ae)) (.cons (Same.upd hp3 _ _ ae) .nil)
  ·simp only[List.mem_cons,List.not_mem_nil,or_false] at hy
   rcases hy with rfl | rfl
   ·exact⟨by show(0:Int)<=start;omega,by show(start:Int)<=1000000000;omega⟩
   ·exact⟨by show(1:Int)<=most;omega,by show(most:Int)<=1000;omega⟩
  have s01:Same H H1:=(Same.upd hp1).trans ((Same.upd hp2).trans ((Same.upd hp3).trans s1));have hil:r < A0.rs.length:=by rw[<-hS.lenm];exact(List.getElem?_eq_some_iff.mp hm).1
  refine(iw11 A0 rfl (iw33 Z M r rfl (hS.same s01) hil (λH2 s2=>?_)));have s02:=s01.trans s2;have S2:=hS.same s02;obtain⟨dx,hst⟩:=S2.sta;have hr1:A0.rs[r]?=some A0.rs[r]:=by simp
  have hd1:A0.ds[r]?=some (A0.ds[r]'(by rw[hS.lend];exact hil)):=by simp
  generalize A0.rs[r]=rr at hr1;generalize A0.ds[r]'(by rw[hS.lend];exact hil)=d at hd1;have R:=S2.row r rr d m hr1 hd1 hm;obtain⟨dxr,hro⟩:=R.obj;have hrr:SqL K H2 A0.rl (A0.rs.map V.ref):=.inl (.inl S2.rowl);refine(iw33 _ dx _ hst T.aI T.cD (iw11 _ (kU A0) ?_));refine aT (v:=.ref rr) hrr (bZ (by omega) (by rw[Int.toNat_natCast,List.getElem?_map,hr1];rfl)) (iw11 rr rfl (iw33 _ dxr _ hro T.cz T.ia (iw11 _ rfl ?_)));walk_at "rd";rw[if_neg (by omega)];refine(iw22 dxr _ hro rfl (iw22 dx _ hst rfl (iw11 A0 rfl (iw32 Z M r rfl S2 (iw11 m hm (λH3 s3=>(iw24 d m (R.same s3) hl (by omega) (by omega) ⟨by have:=R.f0;have:=R.fl;omega,by omega,λD H4 hD s4 hL=>?_⟩)))))));exact q D H4 (bp (s02.trans s3) hD) (s02.trans (s3.trans s4)) hL
local macro_rules | `(tactic| walk_at "rd")=>rdM "wa mh wb p9 wc zd sF Cz we yF A3 vt"
theorem jM (T:Txt w K mg a):FnOk P w K mg base CX0 3 a.f_body_for_shelves a.d_body_for_shelves ["shelves"] v5:=by
 refine T.bX.F.ok bj (λvs H Q E h=>?_) (λcdv A outer s H vs Q E hr h=>?_)
 ·(revert h;refine ow21 λp xs zz1 _=>?_;subst zz1)
  rfl
 ·(revert h;refine ow24 λp xs zz1 hL ok h3 q=>?_;subst zz1)
  refine(iw11 _ (ag (aw (i:=1) bj.nd rfl (Or.inl rfl) (aX (aa az af)))
   (ag (dn PassesOwn.never rfl (bf (K:=K) (pv 0)) (ji (K:=K) (n:=3) rfl (bh (aU (i:=2) bj.nd rfl (Or.inl rfl)) (bh (aU (i:=3) bj.nd rfl (Or.inl rfl)) (bh (aU (i:=4) bj.nd rfl (Or.inl rfl)) je)))) (ai (aK (cI (K:=K) PySem.F.plainAttrs_list PySem.F.slot_list_extend PySem.F.type_list_extend xW (pv 1) (aa (aX (aa (pv 2) (aa (bo (dY (K:=K)) rfl T.ng boot_str (aa (pv 3) af)) (aa (pv 4) af)))) af)))))
   (ai (ar (aq (rm T) (hr.mono (by decide)) rfl T.eX.m T.eX.F.kp T.eX.b .nil pass0 (aa (pv 1) af)))))) ?_)
  walk_at "rd";(revert hL;refine ow11 λts e hT=>?_);have hlen:ts.length=xs.length:=by rw[hT.length,List.length_map]
  refine⟨by decide,λu hu=>?_⟩;have s1:=Same.upd (o:=.lst [.str (Str.ofString "shelves")]) hu;refine cF (xs:=ts.map V.ref) (.inl (.inl (s1 _ _ e))) (dW (xs:=ts.map V.ref) (λi σ H'=>Same H H'/\H' u=some (.lst (tx (shTx xs i)))/\∃v2 v3 v4,σ=[some (V.ref p),some (V.ref u),v2,v3,v4]) ⟨s1,ae.trans (by rfl),(iw30 _ _ _ rfl)⟩ (λi σ H' _ h=>.inl (.inl (h.1 _ _ e))) ?_ ?_)
  ·rintro i y σ H' hy ⟨s',eu,v2,v3,v4,rfl⟩
   rw[List.getElem?_map] at hy;(refine pw11 (Option.map_eq_some_iff.mp hy) λt hti zz1=>?_;subst zz1);(refine pw11 (hT.get hti) λys h1 h2=>?_);rw[List.getElem?_map] at h1;(refine pw11 (Option.map_eq_some_iff.mp h1) λy hxi zz1=>?_;subst zz1);have hTt:SqT K H' t y.v:=.inl (.inl (s' _ _ h2));have h9:=(ok.each y (List.mem_of_getElem? hxi)).2.1;have hl3:=oV (xs:=xs) i;walk_at "rd";refine(iw12 _ hTt rfl (iw21 _ _ rfl (iw21 _ _ rfl (iw23 _ _ rfl rfl (.inl ⟨_,.inl (.inl eu)⟩) (iw13 _ rfl (dZ (by omega) (by omega)) (by decide) (λw hw=>?_))))));have s2:=Same.upd (o:=.lst [.str (S y.name),.str (S (strI (y.rows:Int))),.str y.kind]) hw;have hu0:H u=none:=hu;refine(iw44 u w _ _ rfl rfl (s2 _ _ eu) ae ⟨Nat.le_trans (show(tx (shTx xs i)).length+3<=20 by unfold tx;rw[List.length_map];omega) (by decide),⟨Same.wr (s'.trans s2) hu0,?_⟩⟩);rw[za hxi];exact ae
  ·rintro σ H' ⟨s',eu,v2,v3,v4,rfl⟩
   rw[List.length_map,hlen] at eu;have hl3:=oV (xs:=xs) xs.length;have hl4:=uB (λa ha=>(sE ok xs.length a ha).1);walk_at "rd";exact(iw12 _ (.inl (.inl eu)) (by omega) (λH2 s2=>q _ _ (s'.trans s2) (bodySh ok h3 _)))
theorem lK (T:Txt w K mg a):FnOk P w K mg base CX0 7 a.f_State___init__ a.d_State___init__ ["self","shelves"] (v7 (kk5 a)):=by
 refine T.gJ.F.ok k9 (λvs H Q E h=>?_) (λcdv A outer s H vs Q E hr h=>?_)
 ·(revert h;refine ow41 λx dx p xs zz1 _=>?_;subst zz1)
  rfl
 ·(revert h;refine ow44 λx dx p xs zz1 hx hL ok q=>?_;subst zz1)
  refine(iw11 _ (ag (bu (pv 0) (rE T.zm (jJ T) (hr.mono (by decide)) rfl T.wA T.eZ.b .nil passv0 (aa (pv 1) af)) rfl)
   (ag (bu (pv 0) (cv ["self","shelves"] ["self","shelves"] (defScope dv) (by exact⟨rfl,s!"d",s!"d",s!"d",s!"d",s!"d",s!"d",s!"d",s!"d"⟩) (gw rfl T.ic (aa (d7 (au (K:=K) (pv 0) rfl) T.bw T.cy.m (i9 T) (hr.mono (by decide)) T.cy.b .nil pass0) af)) (λC₁ s₁ H₁ f₁=>(iD T.Fc (nI T) (hr.mono (by decide)) rfl T.Et T.i0.b .nil pass0))) rfl)
   (ag (bu (pv 0) (iD T.zr (jI T) (hr.mono (by decide)) rfl T.wC T.fc.b .nil pass0) rfl)
   (ag (bu (pv 0) (iD T.CJ (lI T) (hr.mono (by decide)) rfl T.A7 T.gI.b .nil pass0) rfl)
   (ag (bu (pv 0) dN rfl)
   (ag (bu (pv 0) (iD T.zp (jL T) (hr.mono (by decide)) rfl T.wB T.fh.b .nil pass0) rfl)
   (ai (bu (pv 0) ah rfl)))))))) ?_)
  walk_at "c1";refine λsh dxh hsh0 hdxh ndx=>⟨⟨dxh,ae⟩,.inl (iw12 xs (hL.same ((Same.upd hdxh).trans (Same.upd (by rw[aj (Ne.symm ndx)];exact hsh0)))) ok (λshl H1 hshl c1 R1=>?_))⟩
  have s1:Same H H1:=cS hsh0 hdxh c1;(refine pw02 (bq hshl) λhshl0 nshl _=>?_);obtain⟨dxh1,eo1⟩:=R1.obj;(refine pw11 R1.lst λ_ el1 _=>?_)
  have f1:Fr H H1 [sh,shl]:=(Fr.nil (H:=H)).adds [sh,shl] (Liv.refl _) (by simp;exact λz=>nshl z.symm) (λb hb=>by
   simp only[List.mem_cons,List.not_mem_nil,or_false] at hb;rcases hb with rfl | rfl
   ·exact hsh0
   ·exact hshl0) s1.liv (λb hb=>by
   simp only[List.mem_cons,List.not_mem_nil,or_false] at hb;rcases hb with rfl | rfl
   ·exact⟨_,eo1⟩
   ·exact⟨_,el1⟩)
  have nx:∀{b:Addr},H b=none->b∉[x]:=λhb z=>by rw[List.mem_singleton.mp z,hx] at hb;cases hb
  have hx1:=s1 _ _ hx;refine(iw34 _ dx _ hx1 T.aI T.bR (by decide) ?_);generalize hH2:upd H1 x _=H2;walk_at "nx";have c2:Chg [x] H1 H2:=by rw[<-hH2];exact Chg.upd (by simp) (λxs z=>by rw[hx1] at z;cases z)
  have hx2:H2 x=some (.ins a.C_State dx [("shelves",.ref sh)]):=by rw[<-hH2];exact ae
  have l2:Liv H1 H2:=by rw[<-hH2];exact Liv.wr
  have f2:=f1.liv l2;have L2:=s1.liv.trans l2;have R2:=R1.chg c2 (nx hsh0) (nx hshl0);obtain⟨dxh2,eo2⟩:=R2.obj;refine(iw33 _ dx _ hx2 T.aI T.bR (iw11 _ rfl (iw11 _ rfl (iw22 dxh2 _ eo2 rfl (iw11 _ rfl (iw22 _ _ R2 (by have:=ok.hi;omega) (λH3 s3=>?_)))))));have h9:=j7 (λy hy=>(ok.each y hy).2.1.2) xs.length;have h6:=ok.hi;refine⟨by omega,by omega,?_⟩;rw[Int.toNat_natCast];refine r9 (Nat.le_trans (show startOf xs xs.length<=54 by omega) (by decide)) (λD i ys H'=>∃rs ds,RowsMade a.C_Row H3 H' D ys i rs ds) (λD hD=>(iw20 ([]) ([]) (RowsMade.zero hD))) (λD i ys H' _ zz=>pw20 zz λrs ds h=>⟨h.lst,by rw[h.eq,List.length_map,h.lr];exact Nat.le_refl _⟩) (λD i ys H' hD hi ⟨rs,ds,h⟩ Qe qe=>?_) (λD ys H4 hD zz=>pw20 zz λrs ds h=>?_)
  ·walk_at "rd"
   refine λr dxr hr0 hdr ndr=>⟨⟨dxr,ae⟩,λd H5 hd nd c5 R5=>?_⟩
   (refine pw02 (bq hd) λhd0 _ _=>?_);obtain⟨e5,h5⟩:=h.succ (cS hr0 hdr c5) hr0 hd0 nd R5;exact qe _ _ e5 (iw20 _ _ h5)
  have s4:=s3.trans h.same;have hx4:=s4 _ _ hx2;have L4:=L2.trans s4.liv;have f4:=(f2.liv s3.liv).adds (D::(rs++ds)) (L2.trans s3.liv) h.fr.nd h.fr.no h.same.liv h.fr.yes;have d0:∀b∈D::(rs++ds),H b=none:=λb hb=>f4.no b (List.mem_append_left _ hb);refine(iw34 _ dx _ hx4 T.aI T.cD (show 1 < 1000 by decide) ?_);generalize hH5:upd H4 x _=H5;walk_at "nx";(refine pw02 (setx hx4 hH5) λc5 hx5 l5=>?_);have L5:=L4.trans l5;have f5:=f4.liv l5;refine λsn dxs hsn hdxs ndxs=>⟨⟨dxs,ae⟩,λl t p' H6 hl ht hp6 c6 R6=>?_⟩
  have s6:Same H5 H6:=cS hsn hdxs c6;have f6:=f5.four L5 s6.liv (by simp;exact⟨⟨R6.rl,R6.rt,R6.rp⟩,⟨R6.lt,R6.lp⟩,R6.tp⟩) hsn (bq hl).1 (bq ht).1 (bq hp6).1 (R6.obj.elim λ_ e=>⟨_,e⟩) (R6.liv.elim λ_ e=>⟨_,e.1⟩) (R6.las.elim λ_ e=>⟨_,e.1⟩) (R6.spo.elim λ_ e=>⟨_,e.1⟩);have L6:=L5.trans s6.liv;have hx6:=s6 _ _ hx5;refine(iw34 _ dx _ hx6 T.aI T.aY (show 2 < 1000 by decide) ?_);generalize hH7:upd H6 x _=H7;walk_at "nx";(refine pw02 (setx hx6 hH7) λc7 hx7 l7=>?_);have L7:=L6.trans l7;have f7:=f6.liv l7;refine λde dxd hde hdxd ndxd=>⟨⟨dxd,ae⟩,λdl bz H8 hdl hbz c8 R8=>?_⟩
  have s8:Same H7 H8:=cS hde hdxd c8
  have f8:=f7.three L7 s8.liv (Ne.symm (bq hdl).2.1) (Ne.symm (bq hbz).2.1) (λz=>by
   (refine pw11 R8.bsy λ_ e _=>?_)
   rw[<-z,R8.lst] at e;cases e) hde (bq hdl).1 (bq hbz).1 (R8.obj.elim λ_ e=>⟨_,e⟩) ⟨_,R8.lst⟩ (R8.bsy.elim λ_ e=>⟨_,e.1⟩)
  have L8:=L7.trans s8.liv;have hx8:=s8 _ _ hx7;refine(iw34 _ dx _ hx8 T.aI T.di (show 3 < 1000 by decide) ?_);generalize hH9:upd H8 x _=H9;walk_at "nx";(refine pw02 (setx hx8 hH9) λc9 hx9 l9=>?_);have L9:=L8.trans l9;have f9:=f8.liv l9;refine λgr hgr=>?_;have s10:Same H9 (upd H9 gr (.dK [])):=Same.upd hgr;have f10:=f9.add L9 hgr s10.liv ⟨_,ae⟩;have e10:upd H9 gr (.dK []) gr=some (.dK []):=ae;generalize upd H9 gr (.dK [])=H10 at s10 f10 e10 ⊢;have L10:=L9.trans s10.liv;have hx10:=s10 _ _ hx9;refine(iw34 _ dx _ hx10 T.aI T.nF (show 4 < 1000 by decide) ?_);generalize hH11:upd H10 x _=H11;walk_at "nx";(refine pw02 (setx hx10 hH11) λc11 hx11 l11=>?_);have L11:=L10.trans l11;have f11:=f10.liv l11;refine λrd dxe hrd hdxe ndxe=>⟨⟨dxe,ae⟩,λra rb H12 hra hrb c12 R12=>?_⟩
  have s12:Same H11 H12:=cS hrd hdxe c12;have f12:=f11.three L11 s12.liv R12.ra R12.rb R12.ab hrd (bq hra).1 (bq hrb).1 (R12.obj.elim λ_ e=>⟨_,e⟩) (R12.row.elim λ_ e=>⟨_,e.1⟩) (R12.pla.elim λ_ e=>⟨_,e.1⟩);have L12:=L11.trans s12.liv;have hx12:=s12 _ _ hx11;refine(iw34 _ dx _ hx12 T.aI T.mC (show 5 < 1000 by decide) ?_);generalize hH13:upd H12 x _=H13;walk_at "ls";(refine pw02 (setx hx12 hH13) λc13 hx13 l13=>?_);have L13:=L12.trans l13;have f13:=f12.liv l13;refine(iw34 _ dx _ hx13 T.aI T.qg (show 6 < 1000 by decide) ?_);generalize hH14:upd H13 x _=H14;(refine pw02 (setx hx13 hH14) λc14 hx14 l14=>?_);have L14:=L13.trans l14;have f14:=f13.liv l14;have g12:Chg [x] H12 H14:=c13.trans c14;have g8:Chg [x] H8 H14:=c9.trans ((Chg.of_same s10).trans (c11.trans ((Chg.of_same s12).trans g12)));have g6:Chg [x] H6 H14:=c7.trans ((Chg.of_same s8).trans g8);have g4:Chg [x] H4 H14:=c5.trans ((Chg.of_same s6).trans g6);have g2:Chg [x] H2 H14:=(Chg.of_same s4).trans g4;have no:∀b∈[rd,ra,rb]++(gr::([de,dl,bz]++([sn,l,t,p']++((D::(rs++ds))++[sh,shl])))),b∉[x]:=λb hb=>nx (f14.no b hb);refine q { c:=0,st:=x,bk:=0,bl:=0,sh:=sh,shl:=shl,rl:=D,sn:=sn,l:=l,t:=t,p:=p',de:=de,dl:=dl,bz:=bz,gr:=gr,rd:=rd,ra:=ra,rb:=rb,rs:=rs,ds:=ds } H14 rfl ((Chg.of_same s1).trans (c2.trans g2)) (f14.perm (AY ({ c:=0,st:=x,bk:=0,bl:=0,sh:=sh,shl:=shl,rl:=D,sn:=sn,l:=l,t:=t,p:=p',de:=de,dl:=dl,bz:=bz,gr:=gr,rd:=rd,ra:=ra,rb:=rb,rs:=rs,ds:=ds }:CA))) ?_;refine⟨⟨dx,hx14⟩,R2.chg g2 (nx hsh0) (nx hshl0),ok,?_,λi r d h1 h2=>?_,h.lr,h.ld.trans h.lr.symm,?_,?_,?_,?_⟩
  ·exact g4.keep _ _ (by rw[h.lst,h.eq]) (no _ (mi 11 rfl))
  ·have m1:=List.mem_of_getElem? h1
   have m2:=List.mem_of_getElem? h2;exact(h.row i r d h1 h2).chg g4 (nx (d0 _ (List.mem_cons_of_mem _ (List.mem_append_left _ m1)))) (nx (d0 _ (List.mem_cons_of_mem _ (List.mem_append_right _ m2))))
  ·exact R6.chg g6 (no _ (mi 7 rfl)) (no _ (mi 8 rfl)) (no _ (mi 9 rfl)) (no _ (mi 10 rfl)) (λb hb=>.inr λxs z=>by rw[List.mem_singleton.mp hb,hx6] at z;cases z)
  ·exact R8.chg g8 (no _ (mi 4 rfl)) (no _ (mi 5 rfl)) (no _ (mi 6 rfl)) (λ_ hu=>nomatch hu)
  ·exact R12.chg g12 (no _ (mi 0 rfl)) (no _ (mi 1 rfl)) (no _ (mi 2 rfl))
  ·exact(c11.trans ((Chg.of_same s12).trans g12)).keep _ _ e10 (no _ (mi 3 rfl))
local macro_rules | `(tactic| walk_at "rd")=>rdM "uo mf oR y4 uv vZ sD zd sF Cz we yF A3 vt"
theorem kB (T:Txt w K mg a):FnOk P w K mg base CX0 9 a.f_Cellar___init__ a.d_Cellar___init__ ["self","shelves"] (wc (kk5 a)):=by
 refine T.fY.F.ok ki (λvs H Q E h=>?_) (λcdv A outer s H vs Q E hr h=>?_)
 ·(revert h;refine ow41 λx dx p xs zz1 _=>?_;subst zz1)
  rfl
 ·(revert h;refine ow44 λx dx p xs zz1 hx hL ok=>ow01 λh3 q=>?_;subst zz1)
  refine(iw11 _ (ag (bu (pv 0) (rE T.CL (lK T) (hr.mono (by decide)) rfl T.A8 T.gJ.b .nil pass0 (aa (pv 1) af)) rfl)
   (ag (bu (pv 0) (iD T.Ew (mO T) (hr.mono (by decide)) rfl T.CI T.iu.b .nil pass0) rfl)
   (ai (aK (aL (au (K:=K) (pv 0) rfl) T.dM T.cW.m (jW T) (hr.mono (by decide)) T.cW.b .nil pass0 (aa (aX (aa (aq (jM T) (hr.mono (by decide)) rfl T.bX.m T.bX.F.kp T.bX.b .nil pass0 (aa (d7 (au (K:=K) (au (K:=K) (pv 0) rfl) rfl) T.bw T.fb.m (nL T) (hr.mono (by decide)) T.fb.b .nil pass0) af)) af)) af)))))) ?_)
  walk_at "rd";refine λst dxs hst hdxs nds=>⟨⟨dxs,ae⟩,(iw12 xs (hL.same ((Same.upd hdxs).trans (Same.upd (by rw[aj (Ne.symm nds)];exact hst)))) ok (λA1 H1 hA c1 f1 S1=>?_))⟩
  have s1:Same H H1:=cS hst hdxs c1;have lU:Liv H (upd (upd H dxs (.own st)) st (.ins a.C_State dxs [])):=Liv.wr.trans Liv.wr;have eU:upd (upd H dxs (.own st)) st (.ins a.C_State dxs []) st=some (.ins a.C_State dxs []):=ae;generalize upd (upd H dxs (.own st)) st (.ins a.C_State dxs [])=U at c1 f1 lU eU;obtain⟨dx1,hs1⟩:=S1.sta;rw[hA] at hs1;have F1:L2.Fr H H1 (A1.new++[st]):=((Fr.nil (H:=H)).add (Liv.refl _) hst lU ⟨_,eU⟩).adds A1.new lU f1.nd f1.no (c1.liv1 hs1) f1.yes;have nx:∀{b:Addr},H b=none->b∉[x]:=λhb z=>by rw[List.mem_singleton.mp z,hx] at hb;cases hb
  have hx1:=s1 _ _ hx;refine(iw34 _ dx _ hx1 T.aN T.bC (by decide) ?_);generalize hH2:upd H1 x _=H2;(refine pw02 (setx hx1 hH2) λc2 hx2 l2=>?_);have L2:=s1.liv.trans l2;have F2:=F1.liv l2;refine λbk dxb hbk hdxb ndb=>⟨⟨dxb,ae⟩,λbl H3 hbl nbl c3 B3=>?_⟩
  have s3:Same H2 H3:=cS hbk hdxb c3;have F3:=F2.two L2 s3.liv (Ne.symm nbl) hbk (bq hbl).1 (B3.obj.elim λ_ e=>⟨_,e⟩) ⟨_,B3.lst⟩;have L3:=L2.trans s3.liv;have hx3:=s3 _ _ hx2;refine(iw34 _ dx _ hx3 T.aN T.dh (show 1 < 1000 by decide) ?_);generalize hH4:upd H3 x _=H4;(refine pw02 (setx hx3 hH4) λc4 hx4 l4=>?_);have L4:=L3.trans l4;have F4:=F3.liv l4;have no:∀b∈[bk,bl]++(A1.new++[st]),b∉[x]:=λb hb=>nx (F4.no b hb);have B4:BookAt a.C_Book H4 bk bl []:=by
   obtain⟨dx3,e⟩:=B3.obj;exact⟨⟨dx3,c4.keep _ _ e (no _ (by simp))⟩,c4.keep _ _ B3.lst (no _ (by simp))⟩
  have g1:Chg [x] H1 H4:=c2.trans ((Chg.of_same s3).trans c4);have mn:∀b∈A1.new,b∉[x]:=λb hb=>no b (by simp[hb]);have m14:∀{b:Addr},b∈[A1.sh,A1.shl,A1.rl,A1.sn,A1.l,A1.t,A1.p,A1.de,A1.dl,A1.bz,A1.gr,A1.rd,A1.ra,A1.rb]->b∉[x]:=λhb=>mn _ (List.mem_append_left _ hb);have ss:H4 st=some (.ins a.C_State dx1 (stF A1)):=g1.keep _ _ hs1 (no _ (by simp));have sh4:=S1.shv.chg g1 (m14 (by simp)) (m14 (by simp))
  let A2:CA:={ A1 with c:=x,bk:=bk,bl:=bl }
  have C4:CeAt (kk5 a) H4 A2 [bl,A1.rl,A1.shl,A1.dl] ⟨xs,List.replicate (startOf xs xs.length) row0,send0,[]⟩:=by
   refine⟨⟨dx,?_⟩,B4,⟨dx1,?_⟩,sh4,ok,?_,?_,S1.len,S1.lend,?_,?_,?_,?_,?_,?_,?_,?_⟩
   ·rw[hx4]
    show some (HO.ins a.C_Cellar dx [("state",.ref st),("book",.ref bk)])=some (HO.ins a.C_Cellar dx [("state",.ref A1.st),("book",.ref bk)]);rw[hA]
   ·show H4 A1.st=_
    rw[hA];exact ss
   ·exact g1.keep _ _ S1.rowl (m14 (b:=A1.rl) (by simp))
   ·intro i r d m h1 h2 h3
    have:=List.mem_of_getElem? h3;rw[List.eq_of_mem_replicate this];exact(S1.row i r d h1 h2).chg g1 (mn _ (List.mem_append_right _ (List.mem_append_left _ (List.mem_of_getElem? h1)))) (mn _ (List.mem_append_right _ (List.mem_append_right _ (List.mem_of_getElem? h2))))
   ·show(List.replicate (startOf xs xs.length) row0).length=A1.rs.length
    rw[List.length_replicate,S1.len]
   ·have z:=S1.snd.chg g1 (m14 (by simp)) (m14 (by simp)) (m14 (by simp)) (m14 (by simp)) (λb hb=>.inr λxs z=>by rw[List.mem_singleton.mp hb,hx1] at z;cases z)
    exact⟨z.obj,z.liv,z.las,by
     (refine pw12 z.spo λkv e1 e2 _=>?_)
     exact(iw12 kv e1 e2 (λz hz=>by cases hz)),z.len,z.rl,z.rt,z.rp,z.lt,z.lp,z.tp⟩
   ·exact S1.dee.chg g1 (m14 (by simp)) (m14 (by simp)) (m14 (by simp)) (λ_ hu=>nomatch hu)
   ·exact S1.rdr.chg g1 (m14 (by simp)) (m14 (by simp)) (m14 (by simp))
   ·exact g1.keep _ _ S1.grp (m14 (b:=A1.gr) (by simp))
   ·exact⟨by simp[A2],by simp[A2],by simp[A2],by simp[A2]⟩
   ·intro b hb
    refine F4.yes b ?_;simp only[List.mem_cons,List.not_mem_nil,or_false] at hb;unfold CA.new;rcases hb with rfl | rfl | rfl | rfl<;>simp
   ·have p1:(x::([bk,bl]++(A1.new++[st]))).Perm A2.fix:=by
     rw[<-hA];exact uC A1 x bk bl
    refine p1.nodup_iff.mp (List.nodup_cons.mpr ⟨λz=>no x z (by simp),F4.nd⟩)
  obtain⟨dxb4,hb4⟩:=B4.obj;obtain⟨dxh4,hh4⟩:=sh4.obj;refine(iw33 _ dx _ hx4 T.aN T.dh (iw11 _ rfl (iw11 bk rfl (iw22 dxb4 _ hb4 rfl (iw33 _ dx _ hx4 T.aN T.bC (iw11 _ rfl (iw11 st rfl (iw33 _ dx1 _ ss T.aI T.bR (iw11 _ (iM A1) (iw11 _ rfl (iw22 dxh4 _ hh4 rfl (iw11 _ rfl (iw21 _ _ sh4 (λD H5 hD s5 hL5=>(iw13 xs hL5 ok h3 (λb H6 s6 ob=>⟨by decide,λp6 hp6=>?_⟩))))))))))))))));have s46:Same H4 (upd H6 p6 (.lst [.str (S b)])):=s5.trans (s6.trans (Same.upd hp6));have C6:=C4.same s46;have np:p6≠bl:=λz=>by
   have:=(s5.trans s6) _ _ B4.lst;rw[<-z,hp6] at this;cases this
  refine(iw11 bk rfl (iw21 bl ([]) C6.book (iw14 ([b]) ae np (λc hc=>by rw[List.mem_singleton.mp hc];exact ob) (by show 0+1<=5000;decide) (λH7 c7 B7=>?_))));have C7:=C6.wrote c7 B7;have frs:∀b∈A2.fix,b=x\/H b=none:=λb hb=>by
   have p1:(x::([bk,bl]++(A1.new++[st]))).Perm A2.fix:=by
    rw[<-hA];exact uC A1 x bk bl
   rcases List.mem_cons.mp (p1.mem_iff.mpr hb) with h | h
   ·exact .inl h
   ·exact .inr (F4.no b h)
  refine q A2 _ H7 _ rfl frs ?_ C7 (by rw[List.nil_append,kS,fC];rfl);exact((Chg.of_same s1).trans (g1.trans (Chg.of_same s46))).past c7 (F4.no bl (by simp))
theorem jX (T:Txt w K mg a):FnOk P w K mg base CX0 7 a.f_Cellar_act a.d_Cellar_act ["self","asked"] (zc (kk5 a)):=by
 refine T.df.F.ok gp (λvs H Q E h=>?_) (λcdv A outer s H vs Q E hr h=>?_)
 ·(revert h;refine ow60 λA Z M t ev u=>ow01 λzz1 _=>?_;subst zz1)
  rfl
 ·(revert h;refine ow60 λA0 Z M t ev u=>ow02 λzz1 hC=>ow01 λht h=>?_;subst zz1)
  refine(iw11 _ (ag (aw (i:=2) gp.nd rfl (Or.inl rfl) (av (ak (K:=K) (hU1 hr)) (pv 1) ah (λ_ _=>rfl)))
   (ag (aQ (bg (K:=K) (pv 2) (by intro _;rfl)) (ai (aK (aL (au (K:=K) (pv 0) rfl) T.dM T.cW.m (jW T) (hr.mono (by decide)) T.cW.b .nil pass0 (aa (cv ["self","asked","events","event"] ["self","asked","events",""] (defScope gY) (by exact⟨rfl,s!"d",s!"d",s!"d",s!"d",s!"d",s!"d",s!"d",s!"d"⟩) (bf (K:=K) (pv 2)) (λC₁ s₁ H₁ f₁=>(aq (uW T) (hr.mono (by decide)) rfl T.g9.m T.g9.F.kp T.g9.b .nil pass0 (aa (pv 0) af)))) af)))) aC)
   (ag (dn PassesOwn.never rfl (bf (K:=K) (pv 2)) (aU (i:=3) gp.nd rfl (Or.inl rfl)) (ai (aK (aq (zQ T) (hr.mono (by decide)) rfl T.ll.m T.ll.F.kp T.ll.b .nil pass0 (aa (au (K:=K) (pv 0) rfl) (aa (pv 3) af))))))
   (ai (ar (av (ak (K:=K) (hU1 hr)) (pv 1) ah (λ_ _=>rfl))))))) ?_)
  have l1:SqT K H t [.ref ev,.ref u]:=.inl (.inl ht);walk_at "rd";refine aO l1 rfl ?_;obtain⟨dxc,hce⟩:=hC.cel;rcases h with⟨hev,q⟩ | ⟨D,hev,hls,nev,nD,hsz,h⟩
  ·refine(iw11 false (.inl (iw11 ([]) (.inl (.inl hev)) rfl)) ?_)
   rw[if_neg (by decide)];refine cF (xs:=[]) (.inl (.inl hev)) (dW (xs:=[]) (λi σ H'=>H'=H/\∃v,σ=[some (V.ref A0.c),some (V.ref t),some (V.ref ev),v]) ⟨rfl,(iw10 none rfl)⟩ (λi σ H' _ h=>by rw[h.1];exact .inl (.inl hev)) (λi y σ H' hy=>by simp at hy) ?_)
   rintro σ H' ⟨rfl,v,rfl⟩
   walk_at "rd";exact aO l1 rfl q
  ·refine(iw11 true (.inl (iw11 ([.ref D]) (.inl (.inl hev)) rfl)) ?_)
   rw[if_pos rfl];obtain⟨dxb,hbk⟩:=hC.book.obj;refine(iw33 _ dxc _ hce T.aN T.dh (iw11 _ (uu A0) (iw11 _ rfl (iw22 dxb _ hbk rfl ?_))));have hl0:SqL K H ev [.ref D]:=.inl (.inl hev);refine cF hl0 ?_;obtain⟨en,ps,pa,hD,hEN,hEO⟩:∃en ps pa,H D=some (.dK (evK en ps))/\EvN a.p_PARTS_hail a.p_PARTS_put en (ps.map (·.1)) pa/\EvOk en ps:=by
    rcases h with⟨n,kk,h1,h2,_⟩ | ⟨n,kk,i,pl,key,wo,m,h1,h2,_⟩
    ·exact(iw32 _ _ _ h1 EvN.hail h2)
    ·exact(iw32 _ _ _ h1 EvN.put h2)
   refine mX (xs:=[.ref D]) (show 1<=sizeLine by decide) (λL i ys H'=>H L=none/\Same H H'/\H' L=some (.lst ys)/\ys.length=i/\∃bs:List (List Nat),ys=tx bs/\∀b∈bs,okB b) (λL hL=>⟨hL,Same.upd hL,ae,rfl,(iw11 ([]) rfl (λ_ z=>nomatch z))⟩) (λL i ys H' _ h=>⟨h.2.2.1,Nat.le_of_eq h.2.2.2.1,h.2.1.seq hl0⟩) ?_ ?_
   ·rintro L i ys H' v hL hv ⟨_,s',e',hy,bs,hbs,hob⟩ Qe qe
    have hv2:v=.ref D:=by
     match i,hv with
     | 0,hv=>exact(Option.some.inj hv).symm
    subst hv2;walk_at "rd";refine(iw44 en D pa ps rfl (s' _ _ hD) hEN hEO (λb H2 s2 ob=>qe _ _ (s2 _ _ e') ⟨hL,Same.wr (s'.trans s2) hL,ae,by simp[hy],(iw11 (bs++[b]) (by rw[hbs];unfold tx;simp) (λc hc=>?_))⟩));rcases List.mem_append.mp hc with h1 | h1
    ·exact hob c h1
    ·rw[List.mem_singleton.mp h1];exact ob
   rintro L ys H1 hL ⟨_,s1,e1,hy,bs,rfl,hob⟩
   have C1:=hC.same s1;have hbl:L≠A0.bl:=λz=>by
    have:=hC.book.lst;rw[<-z,hL] at this;cases this
   have hbn:bs.length=1:=by unfold tx at hy;simpa using hy
   refine(iw11 _ rfl (iw11 L rfl (iw21 _ _ C1.book (iw14 bs e1 hbl hob (by omega) (λH2 c2 B2=>?_)))));have C2:CeAt (kk5 a) H2 A0 Z (M.wr _):=C1.wrote c2 B2;have inB:A0.bl∈A0.fix:=List.mem_append_left _ (by simp);have c02:Chg A0.fix H H2:=(Chg.of_same s1).trans (c2.mono λb hb=>by rw[List.mem_singleton.mp hb];exact inB);have hev2:=c02.keep _ _ hev nev;have hD2:=c02.keep _ _ hD nD;have ht2:=c02.tup _ _ ht;have hll:(M.ls++lns M.ls.length (sgA bs)).length=M.ls.length+1:=by
    rw[List.length_append,kS,fC,hbn]
   generalize M.ls++lns M.ls.length (sgA bs)=ls2 at B2 C2 hll;obtain⟨dxc2,hce2⟩:=C2.cel;refine cF (xs:=[.ref D]) (.inl (.inl hev2)) (dW (xs:=[.ref D]) (λi σ H'=>H' ev=some (.lst [.ref D])/\((i=0/\H'=H2)\/(i=1/\H' t=some (.tup [.ref ev,.ref u])/\Q (.ref u) H'))/\∃v,σ=[some (V.ref A0.c),some (V.ref t),some (V.ref ev),v]) ⟨hev2,.inl ⟨rfl,rfl⟩,(iw10 none rfl)⟩ (λi σ H' _ h=>.inl (.inl h.1)) ?_ ?_)
   ·rintro i y σ H' hy ⟨_,hi,v,rfl⟩
    obtain⟨rfl,rfl⟩:i=0/\y=.ref D:=by
     match i,hy with
     | 0,hy=>exact⟨rfl,(Option.some.inj hy).symm⟩
    obtain rfl:H'=H2:=by
     rcases hi with h | h
     ·exact h.2
     ·exact absurd h.1 (by decide)
    walk_at "rd";have i3:∀b∈[A0.l,A0.t,A0.p],b∈A0.fix:=λb hb=>List.mem_append_left _ (by simp only[List.mem_cons,List.not_mem_nil,or_false] at hb ⊢;grind);refine(iw33 _ dxc2 _ hce2 T.aN T.bC (iw11 _ (jm A0) (iw21 A0.st D rfl ?_)));rcases h with⟨n,kk,h1,h2,h3,q⟩ | ⟨n,kk,i,pl,key,wo,m,h1,h2,hm,hml,hL,hkk,q⟩
    ·have e1:=c02.keep _ _ h1 nD
     refine .inl ⟨(iw60 A0 Z (M.wr ls2) D n kk ⟨rfl,C2.st,e1,hsz,⟨h3,λH3 c3 S3=>?_⟩⟩),(iw10 _ e1)⟩;have c3':=c3.mono i3;exact⟨c3'.keep _ _ hev2 nev,c3.tup _ _ ht2,q H3 ls2 (c02.trans c3') (C2.stood c3 (λb hb=>by simp only[List.mem_cons,List.not_mem_nil,or_false] at hb ⊢;grind) S3 rfl) hll⟩
    ·have e1:=c02.keep _ _ h1 nD
     have hil:i < A0.rs.length:=by rw[<-hC.st.lenm];exact(List.getElem?_eq_some_iff.mp hm).1
     have hr1:A0.rs[i]?=some A0.rs[i]:=by simp
     have hd1:A0.ds[i]?=some (A0.ds[i]'(by rw[hC.st.lend];exact hil)):=by simp
     generalize A0.rs[i]=r at hr1;generalize A0.ds[i]'(by rw[hC.st.lend];exact hil)=d at hd1;have mr:=List.mem_of_getElem? hr1;have md:=List.mem_of_getElem? hd1;have ir:r∈A0.fix:=List.mem_append_right _ (List.mem_append_left _ mr);have id:d∈A0.fix:=List.mem_append_right _ (List.mem_append_right _ md);refine .inr ⟨(iw60 A0 Z (M.wr ls2) D n kk (iw60 i pl key wo r d (iw15 m rfl C2.st e1 (λz=>nD (z▸id)) (λz=>nD (z▸i3 _ (by simp))) ⟨λz=>nD (z▸i3 _ (by simp)),hr1,hd1,hm,⟨hml,hsz,hL,hkk,λH3 c3 S3=>?_⟩⟩))),(iw10 _ e1)⟩;have c3':Chg A0.fix H' H3:=c3.mono λb hb=>by
      simp only[List.mem_cons,List.not_mem_nil,or_false] at hb;rcases hb with rfl | rfl | rfl | rfl | rfl
      ·exact ir
      ·exact id
      ·exact i3 _ (by simp)
      ·exact i3 _ (by simp)
      ·exact i3 _ (by simp)
     refine⟨c3'.keep _ _ hev2 nev,c3.tup _ _ ht2,q H3 ls2 (c02.trans c3') (C2.stood c3 (λb hb=>?_) S3 rfl) hll⟩;simp only[List.mem_cons,List.not_mem_nil,or_false] at hb;rcases hb with rfl | rfl | rfl | rfl | rfl
     ·simp[mr]
     ·simp[md]
     ·simp
     ·simp
     ·simp
   ·rintro σ H' ⟨_,hi,v,rfl⟩
    obtain⟨ht3,q⟩:H' t=some (.tup [.ref ev,.ref u])/\Q (.ref u) H':=by
     rcases hi with h | h
     ·exact absurd h.1 (show ¬1=0 by decide)
     ·exact h.2
    walk_at "rd";exact aO (.inl (.inl ht3)) rfl q
theorem fu (T:Txt w K mg a):FnOk P w K mg base CX0 8 a.f_Cellar_hail a.d_Cellar_hail ["self","sender"] (wa (kk5 a)):=by
 refine T.bM.F.ok pB (λvs H Q E h=>?_) (λcdv A outer s H vs Q E hr h=>?_)
 ·(revert h;refine ow30 λA Z M=>ow21 λn kk zz1 _=>?_;subst zz1)
  rfl
 ·(revert h;refine ow30 λA0 Z M=>ow24 λn kk zz1 hC hn hkk=>ow04 λhk9 hls hsz hv q=>?_;subst zz1)
  refine(iw11 _ (ai (ar (aL (pv 0) T.aN T.df.m (jX T) (hr.mono (by decide)) T.df.b .nil pass0 (aa (aq (uX T) (hr.mono (by decide)) rfl T.hG.m T.hG.F.kp T.hG.b .nil pass0 (aa (au (K:=K) (pv 0) rfl) (aa (pv 1) af))) af)))) ?_);walk_at "rd";obtain⟨dxc,hce⟩:=hC.cel;refine(iw22 dxc _ hce rfl (iw33 _ dxc _ hce T.aN T.bC (iw11 _ (jm A0) (iw55 A0 Z M n kk rfl hC.st hn hkk hk9 (λt ev u D H1 s1 hev hD et ee eD eu=>?_)))));refine(iw60 A0 Z M t ev u ⟨rfl,hC.same s1,et,.inr (iw15 D ee hls (hC.notin hev) (hC.notin hD) hsz (.inl (iw23 n kk eD (qM hn hk9) hv (λH2 ls c2 C2 hl=>?_))))⟩);exact q u H2 ls ((Chg.of_same s1).trans c2) C2 hl (c2.tup _ _ eu)
theorem jY (T:Txt w K mg a):FnOk P w K mg base (CXv P w) 8 a.f_Cellar_put a.d_Cellar_put ["self","sender","life","number","shelf","key","word","deed"] (mh (kk5 a) a.C_NoSuch a.C_Fenced a.C_Gap a.C_TooOld a.C_NoDeed):=by
 refine T.sM.okX qb (λvs H Q E h=>?_) (λcdv A outer s H vs Q E hr h=>?_)
 ·(revert h;refine ow60 λA Z M n shf key=>ow60 λwo life num dd j x=>ow01 λzz1 _=>?_;subst zz1)
  rfl
 ·(revert h;refine ow60 λA0 Z M n shf key=>ow60 λwo life num dd j x=>ow02 λzz1 hP hq=>?_;subst zz1)
  refine(iw11 _ (ai (ar (aL (pv 0) T.aN T.df.m (jX T) (hr.mono (by decide)) T.df.b .nil pass0 (aa (aq (wQ T) (hr.mono (by decide)) rfl T.jw.m T.jw.F.kp T.jw.b .nil passX (aa (au (K:=K) (pv 0) rfl) (aa (pv 1) (aa (pv 2) (aa (pv 3) (aa (pv 4) (aa (aR (aa (pv 5) (aa (pv 6) af))) (aa (pv 7) af)))))))) af)))) ?_);walk_at "rd";obtain⟨hC,hnm,hsh,hky,hwd,hwl,hlf,hnu,hdd,hpos,hxn⟩:=hP;obtain⟨dxc,hce⟩:=hC.cel;refine(iw22 dxc _ hce rfl (iw33 _ dxc _ hce T.aN T.bC (iw12 _ (jm A0) (by decide) (λp hp=>?_))));have s0:=Same.upd (o:=.tup [.str (S key),wV wo]) hp;have C0:=hC.same s0;refine(iw60 A0 Z M n shf key (iw60 wo life num dd j x (iw13 p rfl ae ⟨C0.st,hnm,hsh,hky,hwd,hwl,hlf,hnu,hdd,hpos,hxn⟩ ?_)));rcases hq with⟨h1,h2⟩ | ⟨v,hL,⟨h1,h2⟩ | ⟨h1,hq⟩⟩
  ·exact .inl ⟨h1,λH' s'=>h2 H' (s0.trans s')⟩
  ·exact .inr (iw11 v hL (.inl ⟨h1,λH' s'=>h2 H' (s0.trans s')⟩))
  refine .inr (iw11 v hL (.inr ⟨h1,?_⟩));rcases hq with⟨h2,h3⟩ | ⟨h2,h3⟩ | ⟨i,y,h2,h3,q⟩ | ⟨h2,h3,h4⟩ | ⟨h2,rfl,i,pl,m,hi,hm,hpl,hpl4,hls,hsz,q⟩
  ·exact .inl ⟨h2,λH' s'=>h3 H' (s0.trans s')⟩
  ·exact .inr (.inl ⟨h2,λH' s'=>h3 H' (s0.trans s')⟩)
  ·refine .inr (.inr (.inl (iw22 i y h2 h3 (λt ev u H1 s1 et ee eu=>?_))))
   exact(iw60 A0 Z M t ev u ⟨rfl,C0.same s1,et,.inl ⟨ee,q u H1 (s0.trans s1) eu⟩⟩)
  ·exact .inr (.inr (.inr (.inl ⟨h2,h3,λH' s'=>h4 H' (s0.trans s')⟩)))
  ·refine .inr (.inr (.inr (.inr ⟨h2,rfl,(iw34 i pl m hi hm hpl (by omega) (λt ev u D H1 s1 hev hD et ee eD eu=>?_))⟩)))
   have l1:=nX hC.st;have l2:=hC.st.okx.hi;have hil:i < A0.rs.length:=by rw[<-hC.st.lenm];exact(List.getElem?_eq_some_iff.mp hm).1
   refine(iw60 A0 Z M t ev u ⟨rfl,C0.same s1,et,.inr (iw15 D ee hls (C0.notin hev) (C0.notin hD) hsz (.inr (iw60 n num i pl key wo (iw15 m eD (ux hnm (by omega) (by decide) (by omega) (by omega) hky hwd hwl) hm (by omega) (by rw[hL];rfl) ⟨h2,λH2 ls c2 C2 hl=>?_⟩))))⟩);exact q u H2 ls ((Chg.of_same (s0.trans s1)).trans c2) C2 hl (c2.tup _ _ eu)
theorem pY (T:Txt w K mg a):FnOk P w K mg base CX0 8 a.f_Cellar_read a.d_Cellar_read ["self","row","start","most","whole"] (wb (kk5 a)):=by
 refine T.qf.ok pC (λvs H Q E h=>?_) (λcdv A outer s H vs Q E hr h=>?_)
 ·(revert h;refine ow60 λA Z M r start most=>ow11 λm zz1 _=>?_;subst zz1)
  rfl
 ·(revert h;refine ow60 λA0 Z M r start most=>ow13 λm zz1 hC hm=>ow05 λhl hf hs9 hm1 hm2 q=>?_;subst zz1)
  refine(iw11 _ (ai (ar (aq (sW T) (hr.mono (by decide)) rfl T.fX.m T.fX.F.kp T.fX.b .nil pass0 (aa (au (K:=K) (pv 0) rfl) (aa (pv 1) (aa (pv 2) (aa (pv 3) (aa (pv 4) af)))))))) ?_);walk_at "rd";obtain⟨dxc,hce⟩:=hC.cel;exact(iw33 _ dxc _ hce T.aN T.bC (iw11 _ (jm A0) (iw60 A0 Z M r start most (iw15 m rfl hC.st hm hl hf ⟨hs9,hm1,hm2,q⟩))))
theorem dj (T:Txt w K mg a):FnOk P w K mg base CX0 2 a.f_Cellar_written a.d_Cellar_written ["self"] (p9 (kk5 a)):=by
 refine T.ba.F.ok lh (λvs H Q E h=>?_) (λcdv A outer s H vs Q E hr h=>?_)
 ·(revert h;refine ow31 λA Z M zz1 _=>?_;subst zz1)
  rfl
 ·(revert h;refine ow32 λA0 Z M zz1 hC q=>?_;subst zz1)
  refine(iw11 _ (ai (ar (d7 (au (K:=K) (pv 0) rfl) T.dM T.iZ.m (sS T) (hr.mono (by decide)) T.iZ.b .nil pass0))) ?_);walk_at "rd";obtain⟨dxc,hce⟩:=hC.cel;obtain⟨dxb,hbk⟩:=hC.book.obj;exact(iw33 _ dxc _ hce T.aN T.dh (iw11 _ (uu A0) (iw11 _ rfl (iw22 dxb _ hbk rfl (iw11 _ rfl (iw21 _ _ hC.book q))))))
local macro_rules | `(tactic| walk_at "rd")=>rdM "uo mf oR y4 uv vZ sD wa mh wb p9 A3 vt"
theorem wR (T:Txt w K mg a):FnOk P w K mg base CX0 2 a.f_l_names a.d_l_names ["_law_cell","_law_many"] yA:=by
 refine T.jA.F.ok cJ (λvs H Q E h=>?_) (λcdv A outer s H vs Q E hr h=>?_)
 ·(revert h;refine ow21 λc m zz1 _=>?_;subst zz1)
  rfl
 ·(revert h;refine ow23 λc m zz1 h1 h2 q=>?_;subst zz1)
  refine(iw11 _ (ag (aw (i:=2) cJ.nd rfl (Or.inl rfl) (aD (aF (K:=K)) ah (aD bI (aq (aP T) (hr.mono (by decide)) rfl T.ao.m T.ao.F.kp T.ao.b .nil pass0 (aa (pv 0) (aa ah af))) ah)))
   (ag (aw (i:=3) cJ.nd rfl (Or.inl rfl) (aD bI (aq (aP T) (hr.mono (by decide)) rfl T.ao.m T.ao.F.kp T.ao.b .nil pass0 (aa (pv 0) (aa ah af))) (pv 2)))
   (ag (xi (i:=4) ["_law_cell","_law_many","_law_size","_law_at","_law_base","_law_names_here","_law_k","_law_signs"] ["_law_cell","_law_many","_law_size","_law_at","_law_base","_law_names_here","","_law_signs"] (defScope my) (by exact⟨rfl,s!"d",s!"d",s!"d",s!"d",s!"d",s!"d",s!"d",s!"d"⟩) (gw rfl T.ic (aa (pv 2) af)) (λC₁ s₁ H₁ f₁=>(aq (ni T) (hr.mono (by decide)) rfl T.cM.m T.cM.F.kp T.cM.b .nil pass0 (aa (aq (aP T) (hr.mono (by decide)) rfl T.ao.m T.ao.F.kp T.ao.b .nil pass0 (aa (pv 1) (aa (aD (aF (K:=K)) ah (pv 0)) af))) af))) cJ.nd)
   (ag (aw (i:=5) cJ.nd rfl (Or.inl rfl) (aX af))
   (ag (dn PassesOwn.never rfl (gw rfl T.ic (aa (pv 1) af)) (aU (i:=6) cJ.nd rfl (Or.inl rfl)) (ag (aw (i:=7) cJ.nd rfl (Or.inl rfl) (bo (cG (K:=K)) rfl T.ib boot_list (aa (pv 4) af)))
   (ag (dQ (aq (ni T) (hr.mono (by decide)) rfl T.cM.m T.cM.F.kp T.cM.b .nil pass0 (aa (aD (aF (K:=K)) (aD bI (aq (aP T) (hr.mono (by decide)) rfl T.ao.m T.ao.F.kp T.ao.b .nil pass0 (aa (pv 0) (aa ah af))) ah) (pv 6)) af)) (d6 (pv 7) (pv 3) (cT (hU1 hr))))
   (ai (aK (cI (K:=K) PySem.F.plainAttrs_list PySem.F.slot_list_append PySem.F.type_list_append cP (pv 5) (aa (cI (K:=K) PySem.F.plainAttrs_str PySem.F.slot_str_join PySem.F.type_str_join (kH (K:=K)) az (aa (pv 7) af)) af)))))))
   (ai (ar (pv 5)))))))) ?_)
  walk_at "rd";obtain⟨sz,hsz0⟩:∃sz,1+mixN c 61 % 12=sz:=⟨_,rfl⟩
  obtain⟨at0,hat0⟩:∃at0,mixN c 62 % sz=at0:=⟨_,rfl⟩
  have hsz:1<=sz/\sz<=12:=by omega
  have hat:0<=at0/\at0 < sz:=by rw[<-hat0];exact⟨Int.emod_nonneg _ (by omega),Int.emod_lt_of_pos _ (by omega)⟩
  have gnm:nm5 c=λ(k:Nat)=>(((List.range sz.toNat).map λ(k:Nat)=>ltr36 (mixN c (70+(0+(k:Int)))))).set at0.toNat (ltr36 (mixN c 63 % 36+(0+(k:Int)))):=by
   funext k;unfold nm5 nb5 sz5 at5;rw[hsz0,hat0]
  rw[hsz0,hat0];refine⟨by omega,by omega,by omega,mW (Nat.le_trans (show sz.toNat<=12 by omega) (by decide)) (λk=>.str (S [ltr36 (mixN c (70+(0+(k:Int))))])) ?_ ?_⟩
  ·intro i H' hi s Qe qe
   walk_at "rd";exact qe H' (Same.refl _)
  ·intro D H1 hD s1 h1
   have eb:((List.range sz.toNat).map λ(k:Nat)=>V.str (S [ltr36 (mixN c (70+(0+(k:Int))))]))=(((List.range sz.toNat).map λ(k:Nat)=>ltr36 (mixN c (70+(0+(k:Int))))).map λk=>[k]).map λl=>V.str (S l):=by
    rw[List.map_map,List.map_map];rfl
   rw[eb] at h1;have hbl:((List.range sz.toNat).map λ(k:Nat)=>ltr36 (mixN c (70+(0+(k:Int))))).length=sz.toNat:=by simp
   have hba:((List.range sz.toNat).map λ(k:Nat)=>ltr36 (mixN c (70+(0+(k:Int))))).all inN=true:=by
    rw[List.all_eq_true];intro y hy;(refine pw11 (List.mem_map.mp hy) λk _ zz1=>?_;subst zz1);exact oB _
   generalize ((List.range sz.toNat).map λ(k:Nat)=>ltr36 (mixN c (70+(0+(k:Int)))))=b at h1 hbl hba gnm;refine⟨Nat.zero_le _,λp hp=>⟨by omega,by omega,?_⟩⟩;have hDp:D≠p:=λz=>by rw[<-z,h1] at hp;cases hp
   have hD1:upd H1 p (.lst []) D=some (.lst ((b.map λk=>[k]).map λl=>V.str (S l))):=(aj hDp).trans h1;generalize hg:(λ(k:Nat)=>b.set at0.toNat (ltr36 (mixN c 63 % 36+(0+(k:Int)))))=g;refine j3 (λi σ H'=>Chg [p] (upd H1 p (.lst [])) H'/\H' p=some (.lst (((List.range i).map g).map λl=>V.str (S l)))/\∃v1 v2,σ=[some (V.int c),some (V.int m),some (V.int sz),some (V.int at0),some (V.ref D),some (V.ref p),v1,v2]) ⟨Chg.refl _,ae,(iw20 none none rfl)⟩ ?_ ?_
   ·rintro i σ H' hi ⟨c',hl,v1,v2,rfl⟩
    have hD':H' D=_:=c'.keep _ _ hD1 (by simp[hDp]);refine cut1 λRy hRy=>?_;walk_at "rd";refine(iw22 D _ rfl (.inl (.inl (.inl hD'))) (λl hlf=>?_));rw[hRy];clear hRy;refine cut1 λRy hRy=>?_;walk_at "rd";have hlp:l≠p:=λz=>by rw[z,hl] at hlf;cases hlf
    refine rS ae (vv hat.1 (by simp;omega)) ?_;have hset:(List.map (λl=>V.str (S l)) (List.map (λk=>[k]) b)).set at0.toNat (V.str (S [ltr36 (mixN c 63 % 36+(0+(i:Int)))]))=(((g i).map λk=>[k]).map λl=>V.str (S l)):=by
     rw[<-hg];simp only[List.map_set]
    have hgl:(g i).length<=12:=by rw[<-hg];simp only[List.length_set];omega
    rw[hset,wW,hRy];clear hRy;walk_at "rd";have s2:Same H' (upd H' l (.lst (((g i).map λk=>[k]).map λl=>V.str (S l)))):=Same.upd hlf;refine⟨.inl ⟨_,.inl (.inl (s2 _ _ hl))⟩,(iw11 ([]) rfl (iw12 _ (.inl (.inl ae)) ?_ ?_))⟩
    ·rw[qF,List.length_map]
     exact Nat.le_trans (show(g i).length+_<=100 by simp;omega) (by decide)
    ·rw[oy]
     refine(iw13 _ (s2 _ _ hl) (Nat.lt_of_le_of_lt (show _<=36 by simp;omega) (by decide)) ?_ (ae.trans ?_))
     ·exact c'.trans ((Chg.of_same s2).trans (Chg.upd (by simp) (kI (s2 _ _ hl))))
     ·rw[List.range_succ,List.map_append,List.map_append]
      rfl
   ·rintro σ H' ⟨c',hl,v1,v2,rfl⟩
    walk_at "rd";refine q p H' (s1.free hp) (λb0 o hb=>?_) ?_
    ·have hb1:=s1 _ _ hb
     exact c'.keep _ _ ((Same.upd hp) _ _ hb1) (by simp;exact ay hb1 hp)
    ·rw[hl]
     unfold names5;rw[gnm,hg];simp
theorem wU (T:Txt w K mg a):FnOk P w K mg base CX0 1 a.f_l_whole a.d_l_whole ["_law_found","_law_due_here"] yF:=by
 refine T.jB.F.ok wz (λvs H Q E h=>?_) (λcdv A outer s H vs Q E hr h=>?_)
 ·(revert h;refine ow21 λx y zz1 _=>?_;subst zz1)
  rfl
 ·(revert h;refine ow21 λx y zz1 q=>?_;subst zz1)
  refine(iw11 _ (ai (ar (dm (ax (aM (K:=K)) (by rfl) T.bc boot_isinstance (aa (pv 0) (aa (dE (v:=.ty "int") rfl T.Bg boot_int rfl) af))) (dm (zV (ax (aM (K:=K)) (by rfl) T.bc boot_isinstance (aa (pv 0) (aa (dE (v:=.ty "bool") rfl T.Bf boot_bool rfl) af)))) (fZ (dF (bJ (K:=K) (hU hr)) (pv 0) (pv 1) (nomark _))))))) ?_);walk_at "rd";exact q
theorem zR (T:Txt w K mg a):FnOk P w K mg base CX0 2 a.f_l_keys a.d_l_keys ["_law_cell","_law_many"] zd:=by
 refine T.lD.F.ok dz (λvs H Q E h=>?_) (λcdv A outer s H vs Q E hr h=>?_)
 ·(revert h;refine ow21 λc m zz1 _=>?_;subst zz1)
  rfl
 ·(revert h;refine ow22 λc m zz1 h2 q=>?_;subst zz1)
  refine(iw11 _ (ag (aw (i:=2) dz.nd rfl (Or.inl rfl) (aD (aF (K:=K)) ah (aD bI (aq (aP T) (hr.mono (by decide)) rfl T.ao.m T.ao.F.kp T.ao.b .nil pass0 (aa (pv 0) (aa ah af))) ah)))
   (ag (xi (i:=3) ["_law_cell","_law_many","_law_size","_law_base","_law_at","_law_keys_here","_law_k","_law_signs"] ["_law_cell","_law_many","_law_size","_law_base","_law_at","_law_keys_here","","_law_signs"] (defScope pF) (by exact⟨rfl,s!"d",s!"d",s!"d",s!"d",s!"d",s!"d",s!"d",s!"d"⟩) (gw rfl T.ic (aa (pv 2) af)) (λC₁ s₁ H₁ f₁=>(aq (rj T) (hr.mono (by decide)) rfl T.fi.m T.fi.F.kp T.fi.b .nil pass0 (aa (aq (aP T) (hr.mono (by decide)) rfl T.ao.m T.ao.F.kp T.ao.b .nil pass0 (aa (pv 1) (aa (aD (aF (K:=K)) ah (pv 0)) af))) (aa ah af)))) dz.nd)
   (ag (aw (i:=4) dz.nd rfl (Or.inl rfl) (aD bI (aq (aP T) (hr.mono (by decide)) rfl T.ao.m T.ao.F.kp T.ao.b .nil pass0 (aa (pv 0) (aa ah af))) (pv 2)))
   (ag (aw (i:=5) dz.nd rfl (Or.inl rfl) (aX af))
   (ag (dn PassesOwn.never rfl (gw rfl T.ic (aa (pv 1) af)) (aU (i:=6) dz.nd rfl (Or.inl rfl)) (ag (aw (i:=7) dz.nd rfl (Or.inl rfl) (bo (cG (K:=K)) rfl T.ib boot_list (aa (pv 3) af)))
   (ag (dQ (aq (rj T) (hr.mono (by decide)) rfl T.fi.m T.fi.F.kp T.fi.b .nil pass0 (aa (aD (aF (K:=K)) (aD bI (aq (aP T) (hr.mono (by decide)) rfl T.ao.m T.ao.F.kp T.ao.b .nil pass0 (aa (pv 0) (aa ah af))) ah) (aD gP ah (pv 6))) (aa ah af))) (d6 (pv 7) (pv 4) (cT (hU1 hr))))
   (ai (aK (cI (K:=K) PySem.F.plainAttrs_list PySem.F.slot_list_append PySem.F.type_list_append cP (pv 5) (aa (cI (K:=K) PySem.F.plainAttrs_str PySem.F.slot_str_join PySem.F.type_str_join (kH (K:=K)) az (aa (pv 7) af)) af)))))))
   (ai (ar (pv 5)))))))) ?_)
  walk_at "rd";obtain⟨sz,hsz0⟩:∃sz,1+mixN c 101 % 24=sz:=⟨_,rfl⟩
  obtain⟨at0,hat0⟩:∃at0,mixN c 102 % sz=at0:=⟨_,rfl⟩
  have hsz:1<=sz/\sz<=24:=by omega
  have hat:0<=at0/\at0 < sz:=by rw[<-hat0];exact⟨Int.emod_nonneg _ (by omega),Int.emod_lt_of_pos _ (by omega)⟩
  rw[hsz0,hat0];refine⟨by omega,by omega,mW (Nat.le_trans (show sz.toNat<=24 by omega) (by decide)) (λk=>.str (S [sgn (mixN c (110+(0+(k:Int)))) 94])) ?_ ?_⟩
  ·intro i H' hi s Qe qe
   walk_at "rd";exact qe H' (Same.refl _)
  ·intro D H1 hD s1 h1
   have eb:((List.range sz.toNat).map λ(k:Nat)=>V.str (S [sgn (mixN c (110+(0+(k:Int)))) 94]))=(((List.range sz.toNat).map λ(k:Nat)=>sgn (mixN c (110+(0+(k:Int)))) 94).map λk=>[k]).map λl=>V.str (S l):=by
    rw[List.map_map,List.map_map];rfl
   rw[eb] at h1;have hbl:((List.range sz.toNat).map λ(k:Nat)=>sgn (mixN c (110+(0+(k:Int)))) 94).length=sz.toNat:=by simp
   have hba:∀y∈((List.range sz.toNat).map λ(k:Nat)=>sgn (mixN c (110+(0+(k:Int)))) 94),okSign y=true:=by
    intro y hy;(refine pw11 (List.mem_map.mp hy) λk _ zz1=>?_;subst zz1);exact AA _
   generalize ((List.range sz.toNat).map λ(k:Nat)=>sgn (mixN c (110+(0+(k:Int)))) 94)=b at h1 hbl hba;refine⟨by omega,Nat.zero_le _,λp hp=>⟨by omega,by omega,?_⟩⟩;have hDp:D≠p:=λz=>by rw[<-z,h1] at hp;cases hp
   have hD1:upd H1 p (.lst []) D=some (.lst ((b.map λk=>[k]).map λl=>V.str (S l))):=(aj hDp).trans h1;generalize hg:(λ(k:Nat)=>b.set at0.toNat (sgn (mixN c 103 % 94+7 * (0+(k:Int))) 94))=g;refine j3 (λi σ H'=>Chg [p] (upd H1 p (.lst [])) H'/\H' p=some (.lst (((List.range i).map g).map λl=>V.str (S l)))/\∃v1 v2,σ=[some (V.int c),some (V.int m),some (V.int sz),some (V.ref D),some (V.int at0),some (V.ref p),v1,v2]) ⟨Chg.refl _,ae,(iw20 none none rfl)⟩ ?_ ?_
   ·rintro i σ H' hi ⟨c',hl,v1,v2,rfl⟩
    have hD':H' D=_:=c'.keep _ _ hD1 (by simp[hDp]);refine cut1 λRy hRy=>?_;walk_at "rd";refine(iw22 D _ rfl (.inl (.inl (.inl hD'))) (λl hlf=>?_));rw[hRy];clear hRy;refine cut1 λRy hRy=>?_;walk_at "rd";have hlp:l≠p:=λz=>by rw[z,hl] at hlf;cases hlf
    refine rS ae (vv hat.1 (by simp;omega)) ?_;have hset:(List.map (λl=>V.str (S l)) (List.map (λk=>[k]) b)).set at0.toNat (V.str (S [sgn (mixN c 103 % 94+7 * (0+(i:Int))) 94]))=(((g i).map λk=>[k]).map λl=>V.str (S l)):=by
     rw[<-hg];simp only[List.map_set]
    have hgl:(g i).length<=24:=by rw[<-hg];simp only[List.length_set];omega
    rw[hset,wW,hRy];clear hRy;walk_at "rd";have s2:Same H' (upd H' l (.lst (((g i).map λk=>[k]).map λl=>V.str (S l)))):=Same.upd hlf;refine⟨.inl ⟨_,.inl (.inl (s2 _ _ hl))⟩,(iw11 ([]) rfl (iw12 _ (.inl (.inl ae)) ?_ ?_))⟩
    ·rw[qF,List.length_map]
     exact Nat.le_trans (show(g i).length+_<=100 by simp;omega) (by decide)
    ·rw[oy]
     refine(iw13 _ (s2 _ _ hl) (Nat.lt_of_le_of_lt (show _<=36 by simp;omega) (by decide)) ?_ (ae.trans ?_))
     ·exact c'.trans ((Chg.of_same s2).trans (Chg.upd (by simp) (kI (s2 _ _ hl))))
     ·rw[List.range_succ,List.map_append,List.map_append]
      rfl
   ·rintro σ H' ⟨c',hl,v1,v2,rfl⟩
    walk_at "rd";refine q p H' ((List.range m).map g) (s1.free hp) (λb0 o hb=>?_) ?_ (by simp) ?_
    ·have hb1:=s1 _ _ hb
     exact c'.keep _ _ ((Same.upd hp) _ _ hb1) (n1 (ay hb1 hp))
    ·rw[hl]
     unfold tx;simp
    ·intro l hl
     (refine pw11 (List.mem_map.mp hl) λk _ zz1=>?_;subst zz1);rw[<-hg];exact AZ (by omega) (by omega) hba (AA _)
theorem Bj (T:Txt w K mg a):FnOk P w K mg base CX0 9 a.f_l_put a.d_l_put ["_law_cellar","_law_sender","_law_life","_law_number","_law_letter_here"] (sF (kk5 a)):=by
 refine T.nY.F.ok bP (λvs H Q E h=>?_) (λcdv A outer s H vs Q E hr h=>?_)
 ·(revert h;refine ow60 λA Z M n shf key=>ow60 λwo life num dd j x=>ow11 λlt zz1 _=>?_;subst zz1)
  rfl
 ·(revert h;refine ow60 λA0 Z M n shf key=>ow60 λwo life num dd j x=>ow13 λlt zz1 hlt hP hq=>?_;subst zz1)
  refine(iw11 _ (ag (aw (i:=5) bP.nd rfl (Or.inl rfl) uZ)
   (ag (Ek (ai (aw (i:=5) bP.nd rfl (Or.inl rfl) (aL (pv 0) T.aN T.lB (jY T) (hr.mono (by decide)) T.lC .nil passv0 (aa (pv 1) (aa (pv 2) (aa (pv 3) (aa (av (ak (K:=K) (hU1 hr)) (pv 4) ah (λ_ _=>rfl)) (aa (av (ak (K:=K) (hU1 hr)) (pv 4) ah (λ_ _=>rfl)) (aa (av (ak (K:=K) (hU1 hr)) (pv 4) ah (λ_ _=>rfl)) (aa (av (ak (K:=K) (hU1 hr)) (pv 4) ah (λ_ _=>rfl)) af))))))))))
   (Cn (Eh (Cm (pv 0) T.aN T.lB (jY T) (hr.mono (by decide)) T.lC .nil (aa (pv 1) (aa (pv 2) (aa (pv 3) (aa (av (ak (K:=K) (hU1 hr)) (pv 4) ah (λ_ _=>rfl)) (aa (av (ak (K:=K) (hU1 hr)) (pv 4) ah (λ_ _=>rfl)) (aa (av (ak (K:=K) (hU1 hr)) (pv 4) ah (λ_ _=>rfl)) (aa (av (ak (K:=K) (hU1 hr)) (pv 4) ah (λ_ _=>rfl)) af))))))))))
   (t9 (i:=6) rfl T.qZ bP.nd rfl rfl (λea=>(ai (aw (i:=5) bP.nd rfl (Or.inl rfl) (aR (aa az (aa (iG (K:=K) (pv 6) rfl) af))))))
   (t9 (i:=6) rfl T.A9 bP.nd rfl rfl (λea=>(ai (aw (i:=5) bP.nd rfl (Or.inl rfl) (aR (aa az (aa (iG (K:=K) (pv 6) rfl) af))))))
   (t9 (i:=6) rfl T.rg bP.nd rfl rfl (λea=>(ai (aw (i:=5) bP.nd rfl (Or.inl rfl) (aR (aa az (aa (iG (K:=K) (pv 6) rfl) af))))))
   (t9 (i:=6) rfl T.rf bP.nd rfl rfl (λea=>(ai (aw (i:=5) bP.nd rfl (Or.inl rfl) (aR (aa az (aa (iG (K:=K) (pv 6) rfl) af))))))
   (t9 (i:=6) rfl T.jq bP.nd rfl rfl (λea=>(ai (aw (i:=5) bP.nd rfl (Or.inl rfl) (aR (aa az (aa (iG (K:=K) (pv 6) rfl) af))))))
   Ej))))))
   (ai (ar (pv 5))))) ?_)
  have l1:SqT K H lt [.str (S shf),.str (S key),wV wo,.int (dd:Int)]:=.inl (.inl hlt);walk_at "rd";have hC:=hP.ce;obtain⟨dxc,hce⟩:=hC.cel;have ix:∀(Qx:VK) (Ex:XK),mh (kk5 a) a.C_NoSuch a.C_Fenced a.C_Gap a.C_TooOld a.C_NoDeed [.ref A0.c,.str (S n),.int (life:Int),.int (num:Int),.str (S shf),.str (S key),wV wo,.int (dd:Int)] H Qx Ex->
   ∃x x_1,H A0.c=some (HO.ins a.C_Cellar x x_1)/\List.lookup (Str.ofString "put") x_1=none/\rIxA K (V.ref lt) (V.int 0) H λx H1=>rIxA K (V.ref lt) (V.int 1) H1 λx_2 H1=>rIxA K (V.ref lt) (V.int 2) H1 λx_3 H1=>rIxA K (V.ref lt) (V.int 3) H1 λx_4 H1=>
    mh (kk5 a) a.C_NoSuch a.C_Fenced a.C_Gap a.C_TooOld a.C_NoDeed [V.ref A0.c,V.str (S n),V.int ↑life,V.int ↑num,x,x_2,x_3,x_4] H1 Qx Ex:=
   λQx Ex h=>(iw22 dxc _ hce rfl (aO l1 rfl (aO l1 rfl (aO l1 rfl (aO l1 rfl h)))))
  refine tryH λZp hl hg=>?_;rcases hq with⟨h1,q⟩ | ⟨v,hL,⟨h1,q⟩ | ⟨h1,hq⟩⟩
  ·refine hg (Got H a.C_NoSuch [("name",.str (S n))]) (ix _ _ (iw60 A0 Z M n shf key (iw60 wo life num dd j x ⟨rfl,hP,.inl ⟨h1,λH' s'=>eI s'⟩⟩))) (λC dy H' ea g he=>?_)
   (refine pw01 (g.at he) λzz1=>ow13 λd zz2 sm ge gd=>?_;subst zz1;subst zz2);generalize upd H' ea (xh ea a.C_NoSuch (some d))=H1 at sm ge gd ⊢;exact .inr ⟨T.mH,.inr ⟨T.qj,.inr ⟨T.mK,.inr ⟨T.mI,⟨T.mJ,(iw21 a.C_NoSuch d ge (iw13 _ gd T.i7 T.i8 (iw12 _ rfl (by decide) (λu hu=>q u _ (sm.trans (Same.upd hu)) ae))))⟩⟩⟩⟩⟩
  ·refine hg (Got H a.C_Fenced [("life",.int v)]) (ix _ _ (iw60 A0 Z M n shf key (iw60 wo life num dd j x ⟨rfl,hP,.inr (iw11 v hL (.inl ⟨h1,λH' s'=>eI s'⟩))⟩))) (λC dy H' ea g he=>?_)
   (refine pw01 (g.at he) λzz1=>ow13 λd zz2 sm ge gd=>?_;subst zz1;subst zz2);generalize upd H' ea (xh ea a.C_Fenced (some d))=H1 at sm ge gd ⊢;exact .inl ⟨T.mD,(iw21 a.C_Fenced d ge (iw13 _ gd T.pL T.i5 (iw12 _ rfl (by decide) (λu hu=>q u _ (sm.trans (Same.upd hu)) ae))))⟩
  rcases hq with⟨h2,q⟩ | ⟨h2,q⟩ | ⟨i,y,h2,h3,q⟩ | ⟨h2,h3,q⟩ | ⟨h2,rfl,i,pl,m,hi,hm,hpl,hpl4,hls,hsz,q⟩
  ·refine hg (Got H a.C_Gap [("due",.int (M.S.T (S n)+1))]) (ix _ _ (iw60 A0 Z M n shf key (iw60 wo life num dd j x ⟨rfl,hP,.inr (iw11 v hL (.inr ⟨h1,.inl ⟨h2,λH' s'=>eI s'⟩⟩))⟩))) (λC dy H' ea g he=>?_)
   (refine pw01 (g.at he) λzz1=>ow13 λd zz2 sm ge gd=>?_;subst zz1;subst zz2);generalize upd H' ea (xh ea a.C_Gap (some d))=H1 at sm ge gd ⊢;exact .inr ⟨T.qh,.inl ⟨T.wD,(iw21 a.C_Gap d ge (iw13 _ gd T.Be T.pM (iw12 _ rfl (by decide) (λu hu=>q u _ (sm.trans (Same.upd hu)) ae))))⟩⟩
  ·refine hg (Got H a.C_TooOld [("number",.int (num:Int))]) (ix _ _ (iw60 A0 Z M n shf key (iw60 wo life num dd j x ⟨rfl,hP,.inr (iw11 v hL (.inr ⟨h1,.inr (.inl ⟨h2,λH' s'=>eI s'⟩)⟩))⟩))) (λC dy H' ea g he=>?_)
   (refine pw01 (g.at he) λzz1=>ow13 λd zz2 sm ge gd=>?_;subst zz1;subst zz2);generalize upd H' ea (xh ea a.C_TooOld (some d))=H1 at sm ge gd ⊢;exact .inr ⟨T.mL,.inr ⟨T.qk,.inl ⟨T.mM,(iw21 a.C_TooOld d ge (iw13 _ gd T.pO T.gK (iw12 _ rfl (by decide) (λu hu=>q u _ (sm.trans (Same.upd hu)) ae))))⟩⟩⟩
  ·exact hl (ix _ _ (iw60 A0 Z M n shf key (iw60 wo life num dd j x ⟨rfl,hP,.inr (iw11 v hL (.inr ⟨h1,.inr (.inr (.inl (iw22 i y h2 h3 q)))⟩))⟩)))
  ·refine hg (Got H a.C_NoDeed [("name",.str (S n))]) (ix _ _ (iw60 A0 Z M n shf key (iw60 wo life num dd j x ⟨rfl,hP,.inr (iw11 v hL (.inr ⟨h1,.inr (.inr (.inr (.inl ⟨h2,h3,λH' s'=>eI s'⟩)))⟩))⟩))) (λC dy H' ea g he=>?_)
   (refine pw01 (g.at he) λzz1=>ow13 λd zz2 sm ge gd=>?_;subst zz1;subst zz2);generalize upd H' ea (xh ea a.C_NoDeed (some d))=H1 at sm ge gd ⊢;exact .inr ⟨T.mE,.inr ⟨T.qi,.inr ⟨T.mG,.inl ⟨T.mF,(iw21 a.C_NoDeed d ge (iw13 _ gd T.pN T.i6 (iw12 _ rfl (by decide) (λu hu=>q u _ (sm.trans (Same.upd hu)) ae))))⟩⟩⟩⟩
  ·exact hl (ix _ _ (iw60 A0 Z M n shf key (iw60 wo life num 0 j x ⟨rfl,hP,.inr (iw11 v hL (.inr ⟨h1,.inr (.inr (.inr (.inr ⟨h2,rfl,(iw34 i pl m hi hm hpl hpl4 ⟨hls,hsz,q⟩)⟩)))⟩))⟩)))
theorem Bk (T:Txt w K mg a):FnOk P w K mg base CX0 1 a.f_l_due a.d_l_due ["_law_kept","_law_sender","_law_life","_law_number","_law_deed"] Cz:=by
 refine T.nZ.F.ok uP (λvs H Q E h=>?_) (λcdv A outer s H vs Q E hr h=>?_)
 ·(revert h;refine ow60 λd q x n life num=>ow11 λdd zz1 _=>?_;subst zz1)
  rfl
 ·(revert h;refine ow60 λd q x n life num=>ow13 λdd zz1 hd hL=>ow01 λhn1 hq=>?_;subst zz1)
  refine(iw11 _ (ag (aQ (aE (bJ (K:=K) (hU hr)) (av (ak (K:=K) (hU1 hr)) (pv 0) az (λ_ _=>rfl)) ah (nomark _)) (ai (ar (aR (aa az (aa (pv 1) af))))) aC)
   (ag (aQ (aE (dq (K:=K) (hU hr)) (pv 2) (av (ak (K:=K) (hU1 hr)) (pv 0) az (λ_ _=>rfl)) (nomark _)) (ai (ar (aR (aa az (aa (av (ak (K:=K) (hU1 hr)) (pv 0) az (λ_ _=>rfl)) af))))) aC)
   (ag (aw (i:=5) uP.nd rfl (Or.inl rfl) (ax (aH (K:=K)) (by rfl) T.cf boot_len (aa (av (ak (K:=K) (hU1 hr)) (pv 0) az (λ_ _=>rfl)) af)))
   (ag (aQ (aE vh (pv 3) (aD (aF (K:=K)) (pv 5) ah) (nomark _)) (ai (ar (aR (aa az (aa (aD (aF (K:=K)) (pv 5) ah) af))))) aC)
   (ag (aQ (aE eB (pv 3) (aD iB (pv 5) ah) (nomark _)) (ai (ar (aR (aa az (aa (pv 3) af))))) aC)
   (ag (aQ (aE eB (pv 3) (pv 5) (nomark _)) (ai (ar (av (ak (K:=K) (hU1 hr)) (av (ak (K:=K) (hU1 hr)) (pv 0) az (λ_ _=>rfl)) (aD iB (pv 3) ah) (λ_ _=>rfl)))) aC)
   (ag (aQ (aE (dq (K:=K) (hU hr)) (pv 4) ah (nomark _)) (ai (ar (aR (aa az (aa (pv 1) af))))) aC)
   (ai (ar uZ))))))))) ?_)
  walk_at "c1";(revert hL;refine ow11 λts et hT=>?_);have hlen:(ts.map V.ref).length=x.sp.length:=by rw[List.length_map,hT.length,List.length_map]
  have lL:SqL K H q (ts.map V.ref):=.inl (.inl et);have no:∀{t},dueV x n life num dd=some t->∀p,H p=none->Q (.ref p) (upd H p (.tup t)):=λe p hp=>by
   rcases hq with⟨h1,_⟩ | ⟨t',h1,h2⟩
   ·rw[h1] at e;cases e
   ·rw[h1] at e;cases e;exact h2 p _ (Same.upd hp) ae
  refine aS (dg hd (gD x _)) ?_;walk_at "rd";refine ite2 (λc1=>⟨by decide,no (by unfold dueV;rw[if_pos (by omega)])⟩) (λc1=>?_);walk_at "nx";refine aS (dg hd (gD x _)) ?_;walk_at "rd";have d1:¬x.lv=0:=by omega
  refine ite2 (λc2=>aS (dg hd (gD x _)) ⟨by decide,no (by unfold dueV;rw[if_neg d1,if_pos (by omega)])⟩) (λc2=>?_);walk_at "nx";refine aS (dg hd (eK x _)) (bB lL ?_);rw[hlen];walk_at "nx";have d2:¬life≠x.lv:=by omega
  refine ite2 (λc3=>⟨by decide,no (by unfold dueV;rw[if_neg d1,if_neg d2,if_pos (by omega)])⟩) (λc3=>?_);walk_at "nx";have d3:¬x.sp.length+1 < num:=by omega
  refine ite2 (λc4=>⟨by decide,no (by unfold dueV;rw[if_neg d1,if_neg d2,if_neg d3,if_pos (by omega)])⟩) (λc4=>?_);walk_at "nx";have d4:¬num+8<=x.sp.length:=by omega
  refine ite2 (λc5=>?_) (λc5=>?_)
  ·clear hRz
   refine aS (dg hd (eK x _)) ?_;have hlt:num - 1 < x.sp.length:=by omega
   have hts:ts[num - 1]?=some (ts[num - 1]'(by rw[<-List.length_map (f:=V.ref),hlen];exact hlt)):=by simp
   (refine pw11 (hT.get hts) λys g1 g2=>?_);rw[List.getElem?_map,List.getElem?_eq_getElem hlt] at g1;cases g1;refine aT (v:=.ref (ts[num - 1]'(by rw[<-List.length_map (f:=V.ref),hlen];exact hlt))) lL (bZ (by omega) (by rw[List.getElem?_map,show((num:Int) - 1).toNat=num - 1 by omega,hts];rfl)) ?_;rcases hq with⟨h1,_⟩ | ⟨t',h1,h2⟩
   ·unfold dueV at h1
    rw[if_neg d1,if_neg d2,if_neg d3,if_neg d4,if_pos (by omega)] at h1;cases h1
   ·refine h2 _ _ (Same.refl _) ?_
    unfold dueV at h1;rw[if_neg d1,if_neg d2,if_neg d3,if_neg d4,if_pos (by omega)] at h1;rw[<-Option.some.inj h1,g2,List.getD_eq_getElem?_getD,List.getElem?_eq_getElem hlt];rfl
  ·have d5:¬num<=x.sp.length:=by omega
   walk_at "nx";refine ite2 (λc6=>⟨by decide,no (by unfold dueV;rw[if_neg d1,if_neg d2,if_neg d3,if_neg d4,if_neg d5,if_pos (by omega)])⟩) (λc6=>?_);walk_at "ls";rcases hq with⟨_,h2⟩ | ⟨t',h1,_⟩
   ·exact h2 _ (Same.refl _)
   ·unfold dueV at h1
    rw[if_neg d1,if_neg d2,if_neg d3,if_neg d4,if_neg d5,if_neg (by omega)] at h1;cases h1
theorem uY (T:Txt w K mg a):FnOk P w K mg base CX0 2 a.f_l_turned a.d_l_turned ["_law_each","_law_kept"] we:=by
 refine T.hV.F.ok bG (λvs H Q E h=>?_) (λcdv A outer s H vs Q E hr h=>?_)
 ·(revert h;refine ow41 λd q x e zz1 _=>?_;subst zz1)
  rfl
 ·(revert h;refine ow44 λd q x e zz1 hd hL h1=>ow01 λh2 q=>?_;subst zz1)
  refine(iw11 _ (ag (aw (i:=2) bG.nd rfl (Or.inl rfl) (aD bI (aq (aP T) (hr.mono (by decide)) rfl T.ao.m T.ao.F.kp T.ao.b .nil pass0 (aa (pv 0) (aa ah af))) ah))
   (ag (aw (i:=3) bG.nd rfl (Or.inl rfl) (ax (jj rfl) (by rfl) T.xG boot_max (aa ah (aa (av (ak (K:=K) (hU1 hr)) (pv 1) az (λ_ _=>rfl)) af))))
   (ag (aw (i:=4) bG.nd rfl (Or.inl rfl) (aD (aF (K:=K)) (ax (aH (K:=K)) (by rfl) T.cf boot_len (aa (av (ak (K:=K) (hU1 hr)) (pv 1) az (λ_ _=>rfl)) af)) ah))
   (ag (aw (i:=5) bG.nd rfl (Or.inl rfl) ah)
   (ag (aQ (aE (bJ (K:=K) (hU hr)) (pv 2) ah (nomark _)) (ai (aw (i:=4) bG.nd rfl (Or.inl rfl) (ax (jj rfl) (by rfl) T.xG boot_max (aa ah (aa (aD iB (aD iB (pv 4) ah) (aD bI (aq (aP T) (hr.mono (by decide)) rfl T.ao.m T.ao.F.kp T.ao.b .nil pass0 (aa (pv 0) (aa ah af))) ah)) af))))) aC)
   (ag (aQ (aE (bJ (K:=K) (hU hr)) (pv 2) ah (nomark _)) (ai (aw (i:=4) bG.nd rfl (Or.inl rfl) (aD (aF (K:=K)) (aD (aF (K:=K)) (pv 4) ah) (aD bI (aq (aP T) (hr.mono (by decide)) rfl T.ao.m T.ao.F.kp T.ao.b .nil pass0 (aa (pv 0) (aa ah af))) ah)))) aC)
   (ag (aQ (aE (bJ (K:=K) (hU hr)) (pv 2) ah (nomark _)) (ai (aw (i:=3) bG.nd rfl (Or.inl rfl) (ax (jj rfl) (by rfl) T.xG boot_max (aa ah (aa (aD (aF (K:=K)) (aD iB (pv 3) ah) (aD gP ah (aD bI (aq (aP T) (hr.mono (by decide)) rfl T.ao.m T.ao.F.kp T.ao.b .nil pass0 (aa (pv 0) (aa ah af))) ah))) af))))) aC)
   (ag (aQ (aE (bJ (K:=K) (hU hr)) (pv 2) ah (nomark _)) (ai (aw (i:=5) bG.nd rfl (Or.inl rfl) (aD (aF (K:=K)) ah (aD bI (aq (aP T) (hr.mono (by decide)) rfl T.ao.m T.ao.F.kp T.ao.b .nil pass0 (aa (pv 0) (aa ah af))) ah)))) aC)
   (ai (ar (aR (aa (pv 2) (aa (pv 3) (aa (pv 4) (aa (pv 5) af))))))))))))))) ?_)
  walk_at "c2";have q2:∀(l n dd:Int) (p:Addr),H p=none->1<=l->l<=2000->1<=n->n<=2000->0<=dd->dd<=3->Q (.ref p) (upd H p (.tup [.int (mixN e 1 % 10),.int l,.int n,.int dd])):=λl n dd p hp a1 a2 a3 a4 a5 a6=>by
   refine q p _ l.toNat n.toNat dd.toNat (Same.upd hp) (by omega) (by omega) (by omega) (by omega) (by omega) ?_;rw[ae,Int.toNat_of_nonneg (show 0<=l by omega),Int.toNat_of_nonneg (show 0<=n by omega),Int.toNat_of_nonneg a5];unfold wayN;rw[Int.toNat_of_nonneg (Int.emod_nonneg _ (by decide))]
  (revert hL;refine ow11 λts et hT=>?_);have hlen:(ts.map V.ref).length=x.sp.length:=by rw[List.length_map,hT.length,List.length_map]
  refine aS (dg hd (gD x _)) (iw11 _ rfl ?_);walk_at "nx";refine aS (dg hd (eK x _)) (bB (.inl (.inl et)) ?_);rw[hlen];walk_at "rd";walk_at "nx";walk_at "nx";generalize mixN e 2=w2;generalize mixN e 1 % 10=w1 at q2 ⊢;have r5:∀n:Int,1<=n->n<=1998->Rz { nx:=λx H'=>Q V.non H',rt:=Q } [some (V.int e),some (V.ref d),some (V.int w1),some (V.int (max 1 ↑x.lv)),some (V.int n),some (V.int 0)] H:=λn a1 a2=>by
   walk_at "nx";have r6:∀n:Int,1<=n->n<=2000->Rz { nx:=λx H'=>Q V.non H',rt:=Q } [some (V.int e),some (V.ref d),some (V.int w1),some (V.int (max 1 ↑x.lv)),some (V.int n),some (V.int 0)] H:=λn a1 a2=>by
    walk_at "nx";have r7:∀l:Int,1<=l->l<=2000->Rz { nx:=λx H'=>Q V.non H',rt:=Q } [some (V.int e),some (V.ref d),some (V.int w1),some (V.int l),some (V.int n),some (V.int 0)] H:=λl b1 b2=>by
     walk_at "nx";have r8:∀dd:Int,0<=dd->dd<=3->Rz { nx:=λx H'=>Q V.non H',rt:=Q } [some (V.int e),some (V.ref d),some (V.int w1),some (V.int l),some (V.int n),some (V.int dd)] H:=λdd d1 d2=>by
      walk_at "ls";exact⟨by decide,λp hp=>q2 _ _ _ p hp b1 b2 a1 a2 d1 d2⟩
     exact ite2 (λ_=>r8 _ (by omega) (by omega)) (λ_=>r8 _ (by decide) (by decide))
    exact ite2 (λ_=>r7 _ (by omega) (by omega)) (λ_=>r7 _ (by omega) (by omega))
   exact ite2 (λ_=>r6 _ (by omega) (by omega)) (λ_=>r6 _ a1 (by omega))
  exact ite2 (λ_=>r5 _ (by omega) (by omega)) (λ_=>r5 _ (by omega) (by omega))
local macro_rules | `(tactic| walk_at "rd")=>rdM "uo mf oR y4 uv vZ sD wa mh wb p9 sF Cz we vt"
theorem zS (T:Txt w K mg a):FnOk P w K mg base CX0 10 a.f_l_step a.d_l_step ["_law_cellar","_law_senders","_law_kept","_law_each","_law_letter_here"] (A3 (kk5 a)):=by
 refine T.lE.F.ok bQ (λvs H Q E h=>?_) (λcdv A outer s H vs Q E hr h=>?_)
 ·(revert h;refine ow60 λA Z M W X s=>ow30 λsl lt e=>ow21 λkey wd zz1 _=>?_;subst zz1)
  rfl
 ·(revert h;refine ow60 λA0 Z M W X s0=>ow30 λsl lt e=>ow24 λkey wd zz1 hW hs hsl=>ow05 λnsl hlt hk hw hwl q=>?_;subst zz1)
  have hwl:wd.length<=200:=Nat.le_trans hwl (by decide)
  refine(iw11 _ (ag (aw (i:=5) bQ.nd rfl (Or.inl rfl) (aD bI (aq (aP T) (hr.mono (by decide)) rfl T.ao.m T.ao.F.kp T.ao.b .nil pass0 (aa (pv 3) (aa ah af))) ah))
   (ag (dQ (aq (uY T) (hr.mono (by decide)) rfl T.hV.m T.hV.F.kp T.hV.b .nil pass0 (aa (pv 3) (aa (av (ak (K:=K) (hU1 hr)) (pv 2) (pv 5) (λ_ _=>rfl)) af))) (ji (K:=K) (n:=4) rfl (bh (aU (i:=6) bQ.nd rfl (Or.inl rfl)) (bh (aU (i:=7) bQ.nd rfl (Or.inl rfl)) (bh (aU (i:=8) bQ.nd rfl (Or.inl rfl)) (bh (aU (i:=9) bQ.nd rfl (Or.inl rfl)) je))))))
   (ag (aQ (PW.pt (u4 (aE (bJ (K:=K) (hU hr)) (pv 6) ah (nomark _)) (rB (aE (bJ (K:=K) (hU hr)) (aD bI (aq (aP T) (hr.mono (by decide)) rfl T.ao.m T.ao.F.kp T.ao.b .nil pass0 (aa (pv 3) (aa ah af))) ah) ah (nomark _))))) (ag (dQ (aD (aF (K:=K)) (av (ak (K:=K) (hU1 hr)) (av (ak (K:=K) (hU1 hr)) (pv 2) (pv 5) (λ_ _=>rfl)) az (λ_ _=>rfl)) ah) (d6 (av (ak (K:=K) (hU1 hr)) (pv 2) (pv 5) (λ_ _=>rfl)) az (cT (hU1 hr))))
   (ai (ar (dF (bJ (K:=K) (hU hr)) (aL (pv 0) T.aN T.bM.m (fu T) (hr.mono (by decide)) T.bM.b .nil pass0 (aa (av (ak (K:=K) (hU1 hr)) (pv 1) (pv 5) (λ_ _=>rfl)) af)) (aR (aa (av (ak (K:=K) (hU1 hr)) (av (ak (K:=K) (hU1 hr)) (pv 2) (pv 5) (λ_ _=>rfl)) az (λ_ _=>rfl)) (aa (ax (aH (K:=K)) (by rfl) T.cf boot_len (aa (av (ak (K:=K) (hU1 hr)) (av (ak (K:=K) (hU1 hr)) (pv 2) (pv 5) (λ_ _=>rfl)) az (λ_ _=>rfl)) af)) af))) (nomark _))))) aC)
   (ag (aQ (aE (bJ (K:=K) (hU hr)) (pv 6) ah (nomark _)) (ai (aw (i:=5) bQ.nd rfl (Or.inl rfl) ah)) aC)
   (ag (aw (i:=10) bQ.nd rfl (Or.inl rfl) (ax (aH (K:=K)) (by rfl) T.cf boot_len (aa (d7 (pv 0) T.aN T.ba.m (dj T) (hr.mono (by decide)) T.ba.b .nil pass0) af)))
   (ag (aw (i:=11) bQ.nd rfl (Or.inl rfl) (aq (Bk T) (hr.mono (by decide)) rfl T.nZ.m T.nZ.F.kp T.nZ.b .nil pass0 (aa (av (ak (K:=K) (hU1 hr)) (pv 2) (pv 5) (λ_ _=>rfl)) (aa (av (ak (K:=K) (hU1 hr)) (pv 1) (pv 5) (λ_ _=>rfl)) (aa (pv 7) (aa (pv 8) (aa (pv 9) af)))))))
   (ag (aw (i:=12) bQ.nd rfl (Or.inl rfl) (aq (Bj T) (hr.mono (by decide)) rfl T.nY.m T.nY.F.kp T.nY.b .nil pass0 (aa (pv 0) (aa (av (ak (K:=K) (hU1 hr)) (pv 1) (pv 5) (λ_ _=>rfl)) (aa (pv 7) (aa (pv 8) (aa (aR (aa (av (ak (K:=K) (hU1 hr)) (pv 4) ah (λ_ _=>rfl)) (aa (av (ak (K:=K) (hU1 hr)) (pv 4) ah (λ_ _=>rfl)) (aa (av (ak (K:=K) (hU1 hr)) (pv 4) ah (λ_ _=>rfl)) (aa (pv 9) af))))) af)))))))
   (ag (aQ (PW.pt (mQ (dk (bg (K:=K) (ax (aM (K:=K)) (by rfl) T.bc boot_isinstance (aa (pv 12) (aa (dE (v:=.ty "tuple") rfl T.xH boot_tuple rfl) af))) (by intro _;rfl))) (jZ (aE (dq (K:=K) (hU hr)) (ax (aH (K:=K)) (by rfl) T.cf boot_len (aa (pv 12) af)) ah (nomark _))))) (ai (ar iA)) aC)
   (ag (aQ (n9 (rA (pv 11))) (ai (ar (dm (dF (bJ (K:=K) (hU hr)) (pv 12) (pv 11) (nomark _)) (fZ (dF (bJ (K:=K) (hU hr)) (ax (aH (K:=K)) (by rfl) T.cf boot_len (aa (d7 (pv 0) T.aN T.ba.m (dj T) (hr.mono (by decide)) T.ba.b .nil pass0) af)) (pv 10) (nomark _)))))) aC)
   (ag (aw (i:=13) bQ.nd rfl (Or.inl rfl) (av (ak (K:=K) (hU1 hr)) (pv 12) ah (λ_ _=>rfl)))
   (ag (aQ (PW.pt (mQ (dk (bg (K:=K) (ax (aM (K:=K)) (by rfl) T.bc boot_isinstance (aa (pv 13) (aa (dE (v:=.ty "int") rfl T.Bg boot_int rfl) af))) (by intro _;rfl))) (mQ (aE j4 (pv 13) ah (nomark _)) (jZ (aE Au (pv 13) (ax (aH (K:=K)) (by rfl) T.cf boot_len (aa (av (ak (K:=K) (hU1 hr)) (pv 2) ah (λ_ _=>rfl)) af)) (nomark _)))))) (ai (ar iA)) aC)
   (ag (aQ (PW.pt (mQ (dk (bg (K:=K) (aq (wU T) (hr.mono (by decide)) rfl T.jB.m T.jB.F.kp T.jB.b .nil pass0 (aa (av (ak (K:=K) (hU1 hr)) (pv 12) ah (λ_ _=>rfl)) (aa (av (ak (K:=K) (hU1 hr)) (av (ak (K:=K) (hU1 hr)) (pv 2) ah (λ_ _=>rfl)) (pv 13) (λ_ _=>rfl)) af))) (by intro _;rfl))) (jZ (aE (dq (K:=K) (hU hr)) (ax (aH (K:=K)) (by rfl) T.cf boot_len (aa (d7 (pv 0) T.aN T.ba.m (dj T) (hr.mono (by decide)) T.ba.b .nil pass0) af)) (aD (aF (K:=K)) (pv 10) ah) (nomark _))))) (ai (ar iA)) aC)
   (ag (dQ (aD (aF (K:=K)) (av (ak (K:=K) (hU1 hr)) (av (ak (K:=K) (hU1 hr)) (pv 2) ah (λ_ _=>rfl)) (pv 13) (λ_ _=>rfl)) ah) (d6 (av (ak (K:=K) (hU1 hr)) (pv 2) ah (λ_ _=>rfl)) (pv 13) (cT (hU1 hr))))
   (ag (aK (cI (K:=K) PySem.F.plainAttrs_list PySem.F.slot_list_append PySem.F.type_list_append cP (av (ak (K:=K) (hU1 hr)) (av (ak (K:=K) (hU1 hr)) (pv 2) (pv 5) (λ_ _=>rfl)) az (λ_ _=>rfl)) (aa (aR (aa (pv 13) (aa (av (ak (K:=K) (hU1 hr)) (pv 12) ah (λ_ _=>rfl)) af))) af)))
   (ai (ar (dF (bJ (K:=K) (hU hr)) (aL (pv 0) T.aN T.qc (pY T) (hr.mono (by decide)) T.pI T.pJ pass0 (aa (pv 13) (aa (av (ak (K:=K) (hU1 hr)) (pv 12) ah (λ_ _=>rfl)) (aa ah af)))) (aX (aa (aR (aa (av (ak (K:=K) (hU1 hr)) (pv 12) ah (λ_ _=>rfl)) (aa (av (ak (K:=K) (hU1 hr)) (pv 4) ah (λ_ _=>rfl)) (aa (av (ak (K:=K) (hU1 hr)) (pv 4) ah (λ_ _=>rfl)) af)))) af)) (nomark _)))))))))))))))))) ?_)
  walk_at "c2";obtain⟨j0,hj0,hJ0⟩:∃j0:Nat,j0 < 2/\mixN e 3 % 2=(j0:Int):=(iw11 ((mixN e 3 % 2).toNat) (by omega) (by omega))
  rw[hJ0];generalize hkL:[V.ref (W.d 0),V.ref (W.d 1),V.ref (W.d 2),V.ref W.el]=kL;have hkl:H W.kl=some (.lst kL):=by rw[<-hkL];exact hW.ob.kl
  have sl0:SqL K H sl (tx [W.nm 0,W.nm 1,W.nm 2]):=.inl (.inl hsl);have kl0:SqL K H W.kl kL:=.inl (.inl hkl);have kd:∀j:Nat,j < 3->atI kL (j:Int)=some (.ref (W.d j)):=lt3 (P:=λj=>atI kL (j:Int)=some (.ref (W.d j))) (by rw[<-hkL];rfl) (by rw[<-hkL];rfl) (by rw[<-hkL];rfl);have nd:∀j:Nat,j < 3->atI (tx [W.nm 0,W.nm 1,W.nm 2]) (j:Int)=some (.str (S (W.nm j))):=lt3 (P:=λj=>atI (tx [W.nm 0,W.nm 1,W.nm 2]) (j:Int)=some (.str (S (W.nm j)))) rfl rfl rfl;have rel:=hW.rel;have b1:=rel.blv j0 (by omega);have b2:=rel.bsp j0 (by omega);refine aT kl0 (kd j0 (by omega)) (iw44 _ (W.q j0) (X.kp j0) e rfl (hW.ob.kd j0 (by omega)) (hW.ob.ks j0 (by omega)) (by omega) ⟨by omega,λu0 H1 life num dd s1 l1 l2 n1 n2 d3 hu0=>?_⟩);refine(iw11 _ rfl (iw12 _ (.inl (.inl hu0)) rfl (iw21 _ _ rfl (iw21 _ _ rfl (iw21 _ _ rfl (iw22 _ _ rfl rfl ?_))))));have W1:=hW.same s1;have c01:Chg (W.wr A0) H H1:=Chg.of_same s1;have hsl1:=s1 _ _ hsl;have hlt1:=s1 _ _ hlt;have hkl1:=s1 _ _ hkl;clear hu0;walk_at "nx";have sep:=hW.sep;(refine pw04 (LwA.nds sep.nd) λw1 w2 w3 w4 w5=>?_);have kl1:SqL K H1 W.kl kL:=.inl (.inl hkl1);have inw:∀b∈A0.fix,b∈W.wr A0:=λb hb=>List.mem_append_left _ hb;have nW:∀b∈W.all,b∉A0.fix:=sep.nf;have nfs:sl∉A0.fix:=λz=>nsl (inw _ z);have r3:Rz { nx:=λx H'=>Q V.non H',rt:=Q } [some (V.ref A0.c),some (V.ref sl),some (V.ref W.kl),some (V.int e),some (V.ref lt),some (V.int ↑j0),some (V.int ↑(wayN e)),some (V.int ↑life),some (V.int ↑num),some (V.int ↑dd),none,none,none,none] H1:=by
   walk_at "nx";have rest:∀j:Nat,j < 3->∀vj:Int,atI kL vj=some (.ref (W.d j))->atI (tx [W.nm 0,W.nm 1,W.nm 2]) vj=some (.str (S (W.nm j)))->Rz { nx:=λx H'=>Q V.non H',rt:=Q } [some (V.ref A0.c),some (V.ref sl),some (V.ref W.kl),some (V.int e),some (V.ref lt),some (V.int vj),some (V.int ↑(wayN e)),some (V.int ↑life),some (V.int ↑num),some (V.int ↑dd),none,none,none,none] H1:=λj hj vj hkj hnj=>by
    obtain⟨dxc,hce⟩:=W1.ce.cel;walk_at "nx";refine(iw22 dxc _ hce rfl (iw32 A0 Z M rfl W1.ce (λp2 H2 hp2 s2 e2=>bB (.inl (.inl e2)) ?_)));walk_at "nx";refine aT (.inl (.inl (s2 _ _ hkl1))) hkj (aT (.inl (.inl (s2 _ _ hsl1))) hnj ?_);have W2:=W1.same s2;have htl:(tx M.ls).length=M.ls.length:=by unfold tx;rw[List.length_map]
    rw[htl];refine(iw60 (W.d j) (W.q j) (X.kp j) (W.nm j) life num (iw14 dd rfl (W2.ob.kd j hj) (W2.ob.ks j hj) n1 ?_));have mkP:∀{H4:Hp},CeAt (kk5 a) H4 A0 Z M->PutC (kk5 a) H4 A0 Z M (W.nm j) (W.nm 3) key (some wd) life num dd 0 ⟨W.nm 3,W.many,kStr⟩:=λC=>⟨C,rel.nmo j (by omega),rel.nmo 3 (by decide),hk,hw,λw hw=>by cases hw;exact hwl,⟨l1,by omega⟩,⟨n1,by omega⟩,by omega,by rw[rel.xs];rfl,rfl⟩
    cases hdue:dueV (X.kp j) (W.nm j) life num dd with
    | some t=>
     refine .inr (iw11 t rfl (λu3 H3 s3 e3=>?_));have s13:=s2.trans s3;have W3:=W1.same s13;have lt3':SqT K H3 lt [.str (S (W.nm 3)),.str (S key),.str (S wd)]:=.inl (.inl (s13 _ _ hlt1));walk_at "nx";refine aT (.inl (.inl (s13 _ _ hsl1))) hnj (aO lt3' rfl (aO lt3' rfl (aO lt3' rfl ⟨by decide,λp4 hp4=>?_⟩)));have s4:=Same.upd (o:=.tup [.str (S (W.nm 3)),.str (S key),.str (S wd),.int (dd:Int)]) hp4;have W4:=W3.same s4;refine A4 rel hj (mkP W4.ce) ae hdue (λu H5 s5 e5=>?_);(refine pw02 (CC (rel.nmo j (by omega)).okS hdue) λt2 tf tok=>?_);have e35:H5 u3=some (.tup t):=s5 _ _ (s4 _ _ e3);walk_at "nx";refine(gb e5).mpr ?_;walk_at "rd";refine vm (.inl (.inl e5)) ?_;rw[t2];walk_at "rd";rw[if_neg (show ¬¬((2:Nat):Int)=2 by decide)];walk_at "nx";clear hRz;refine tupEq e5 e35 tf tok (iw11 true rfl ?_);rw[if_pos rfl];have W5:=W4.same s5;obtain⟨dxc5,hce5⟩:=W5.ce.cel;refine(iw22 dxc5 _ hce5 rfl (iw32 A0 Z M rfl W5.ce (λp6 H6 hp6 s6 e6=>bB (.inl (.inl e6)) ?_)));rw[htl];walk_at "rd";exact q _ _ _ (c01.trans (Chg.of_same (s13.trans (s4.trans (s5.trans s6))))) (W5.same s6).mono
    | none=>
     refine .inl ⟨rfl,λH3 s3=>?_⟩;have s13:=s2.trans s3;have W3:=W1.same s13;have lt3':SqT K H3 lt [.str (S (W.nm 3)),.str (S key),.str (S wd)]:=.inl (.inl (s13 _ _ hlt1));walk_at "nx";refine aT (.inl (.inl (s13 _ _ hsl1))) hnj (aO lt3' rfl (aO lt3' rfl (aO lt3' rfl ⟨by decide,λp4 hp4=>?_⟩)));have s4:=Same.upd (o:=.tup [.str (S (W.nm 3)),.str (S key),.str (S wd),.int (dd:Int)]) hp4;have W4:=W3.same s4;refine A5 rel (by omega) hj (mkP W4.ce) ae hdue (λhj2 hnum u H5 ls r pl m c5 C5 hl hm he hpl e5=>?_);walk_at "nx";refine(gb e5).mpr ?_;walk_at "rd";refine vm (.inl (.inl e5)) ?_;walk_at "rd";rw[if_neg (show ¬¬((2:Nat):Int)=2 by decide)];walk_at "nx";walk_at "nx";have lu5:SqT K H5 u [.int (r:Int),.int (pl:Int)]:=.inl (.inl e5);have O5:=W4.ob.chg c5 nW;have hrl:r < X.es.length:=(List.getElem?_eq_some_iff.mp he).1;have k3:atI kL 3=some (.ref W.el):=by rw[<-hkL];rfl
     have kl5:SqL K H5 W.kl kL:=by rw[<-hkL];exact .inl (.inl O5.kl)
     have eE:atI (X.es.map λ(e:Nat)=>V.int (e:Int)) (r:Int)=some (.int (pl:Int)):=bZ (by omega) (by rw[Int.toNat_natCast,List.getElem?_map,he];rfl);refine aO lu5 rfl ?_;walk_at "nx";refine ite2 (λz=>absurd z (by omega)) (λ_=>?_);refine aT kl5 k3 (bB (.inl (.inl O5.ke)) (iw11 _ rfl ?_));refine ite2 (λz=>absurd z (by rw[List.length_map];omega)) (λ_=>?_);walk_at "nx";refine aO lu5 rfl (aT kl5 k3 (aT (.inl (.inl O5.ke)) eE (iw11 _ rfl (iw11 _ rfl ?_))));rw[if_neg (by simp)];obtain⟨dxc5,hce5⟩:=C5.cel;refine(iw22 dxc5 _ hce5 rfl (iw32 A0 Z _ rfl C5 (λp6 H6 hp6 s6 e6=>bB (.inl (.inl e6)) ?_)));have htl6:((tx ((M.wr ls).put r m (key,some wd,0) (S (W.nm j)) num).ls).length:Int)=(M.ls.length:Int)+1:=by
      unfold tx;rw[List.length_map];show(ls.length:Int)=_;omega
     rw[htl6];walk_at "rd";have O6:=O5.chg (B:=[]) (Chg.of_same s6) (λ_ _=>by simp);have C6:=C5.same s6;have kl6:SqL K H6 W.kl kL:=by rw[<-hkL];exact .inl (.inl O6.kl)
     walk_at "nx";refine aT kl6 k3 (aT (.inl (.inl O6.ke)) eE ?_);walk_at "rd";refine aT kl6 k3 (rS O6.ke (vv (by omega) (by rw[List.length_map];omega)) ?_);rw[Int.toNat_natCast];generalize hH7:upd H6 W.el _=H7;have c7:Chg [W.el] H6 H7:=by rw[<-hH7];exact Chg.upd (by simp) (λxs z=>by rw[O6.ke] at z;cases z)
     have e7:H7 W.el=some (.lst ((X.es.set r (pl+1)).map λ(e:Nat)=>V.int (e:Int))):=by rw[<-hH7,ae,List.map_set];rfl
     have nel:W.el∉A0.fix:=nW _ (by simp[LwA.all]);have nq:=nW _ (W.E9 j hj);have C7:=C6.chg c7 (λb hb=>by rw[List.mem_singleton.mp hb];exact nel) (λb hb=>.inl (by rw[List.mem_singleton.mp hb];exact sep.ze)) (λb hb=>by rw[List.mem_singleton.mp hb];exact⟨_,e7⟩);have kl7:SqL K H7 W.kl kL:=by rw[<-hkL];exact .inl (.inl (c7.keep _ _ O6.kl (by simp;exact w5)))
     have hd7:=c7.keep _ _ (O6.kd j hj) (by simp;exact(w1 j hj).2.1);(refine pw11 ((O6.ks j hj).chg c7 (by simp;exact(w1 j hj).2.2.2)) λts et7 hT7=>?_);have lu7:SqT K H7 u [.int (r:Int),.int (pl:Int)]:=.inl (.inl (c7.tup _ _ (s6 _ _ e5)));have htsl:ts.length<=200:=by rw[hT7.length,List.length_map];have:=rel.bsp j hj;omega
     walk_at "nx";refine aT kl7 hkj (aS (dg hd7 (eK _ _)) ⟨.inl ⟨_,.inl (.inl et7)⟩,aO lu7 rfl ⟨by decide,λp8 hp8=>?_⟩⟩);have s8:=Same.upd (o:=.tup [.int (r:Int),.int (pl:Int)]) hp8;have et8:=s8 _ _ et7;have ht8:upd H7 p8 (.tup [.int (r:Int),.int (pl:Int)]) p8=some (.tup [.int (r:Int),.int (pl:Int)]):=ae;generalize upd H7 p8 (.tup [.int (r:Int),.int (pl:Int)])=H8 at s8 et8 ht8 ⊢;refine(iw11 _ rfl (iw12 _ et8 (Nat.lt_of_le_of_lt (show _<=200 by rw[List.length_map];exact htsl) (by decide)) ?_));generalize hH9:upd H8 (W.q j) _=H9;have c89:Chg [W.q j] H8 H9:=by rw[<-hH9];exact Chg.upd (by simp) (λxs z=>by rw[et8] at z;cases z)
     have eq9:H9 (W.q j)=some (.lst (ts.map V.ref++[.ref p8])):=by rw[<-hH9];exact ae
     have ht9:=c89.tup _ _ ht8;have c9:Chg [W.q j] H7 H9:=(Chg.of_same s8).trans c89;have O9:=O6.put (i:=j) (r:=r) (pl:=pl) sep.nd hj c7 e7 c9 (λts' e'=>by rw[et7] at e';cases e';exact eq9) ht9;have C9:=C7.chg c9 (λb hb=>by rw[List.mem_singleton.mp hb];exact nq) (λb hb=>.inl (by rw[List.mem_singleton.mp hb];exact sep.zq j hj)) (λb hb=>by rw[List.mem_singleton.mp hb];exact⟨_,eq9⟩);have eu9:H9 u=some (.tup [.int (r:Int),.int (pl:Int)]):=c9.tup _ _ (c7.tup _ _ (s6 _ _ e5));have elt9:H9 lt=some (.tup [.str (S (W.nm 3)),.str (S key),.str (S wd)]):=c9.tup _ _ (c7.tup _ _ (s6 _ _ (c5.tup _ _ (s4 _ _ (s13 _ _ hlt1)))));obtain⟨dxc9,hce9⟩:=C9.cel;obtain⟨me1,me2⟩:=rel.me r m pl hm he;have hm9:((M.wr ls).put r m (key,some wd,0) (S (W.nm j)) num).Ms[r]?=some (m.add (key,some wd,0)):=List.getElem?_set_self (List.getElem?_eq_some_iff.mp hm).1;walk_at "ls";refine(iw22 dxc9 _ hce9 rfl (aO (.inl (.inl eu9)) rfl (iw60 A0 Z _ r pl 1 (iw15 _ rfl C9 hm9 (by show m.last+1<=100000;omega) (by show m.first<=(pl:Int);omega) ⟨by omega,by decide,by decide,λD H10 hD s10 hL=>?_⟩))));have hs1:=A6 (x:=(key,some wd,0)) me1 me2;rw[show((1:Nat):Int)=1 from rfl,hs1] at hL;have lt10:SqT K H10 lt [.str (S (W.nm 3)),.str (S key),.str (S wd)]:=.inl (.inl (s10 _ _ elt9));refine aO (.inl (.inl (s10 _ _ eu9))) rfl (aO lt10 rfl (aO lt10 rfl ⟨by decide,λp11 hp11=>⟨by decide,λp12 hp12=>?_⟩⟩));have s11:=Same.upd (o:=.tup [.int (pl:Int),.str (S key),.str (S wd)]) hp11;have s12:=Same.upd (o:=.lst [.ref p11]) hp12;have L2':=LTups.one (D:=p12) (t:=p11) ae (s12 _ _ ae);have okr:∀r'∈[[V.int (pl:Int),V.str (S key),V.str (S wd)]],∀v∈r',okV v:=λr' hr' v hv=>by
      rw[List.mem_singleton.mp hr'] at hv;simp only[List.mem_cons,List.not_mem_nil,or_false] at hv;rcases hv with rfl | rfl | rfl
      ·trivial
      ·exact xv hk.okS
      ·exact xv λc hc=>by have:=(uw hw (λw' hw'=>by cases hw';exact hwl)).2 c (List.mem_cons_of_mem _ hc);omega
     have flr:∀r'∈[[V.int (pl:Int),V.str (S key),V.str (S wd)]],r'.all flatV=true:=λr' hr'=>by rw[List.mem_singleton.mp hr'];rfl
     refine qG ((hL.same (s11.trans s12)).den flr) (L2'.den flr) (Cc okr) rfl ?_;have s912:=s10.trans (s11.trans s12);refine q _ _ (X.put j r pl) ?_ ⟨C9.same s912,O9.chg (B:=[]) (Chg.of_same s912) (λ_ _=>by simp),sep,rel.put hj2 hl hm he hnum⟩;have cel:Chg (W.wr A0) H6 H7:=c7.mono λb hb=>by
      rw[List.mem_singleton.mp hb];exact List.mem_append_right _ (by simp)
     have cq:Chg (W.wr A0) H7 H9:=c9.mono λb hb=>by
      rw[List.mem_singleton.mp hb];refine List.mem_append_right _ ?_;have:j=0\/j=1:=by omega
      rcases this with rfl | rfl<;>simp
     exact c01.trans ((Chg.of_same (s13.trans s4)).trans ((c5.mono inw).trans ((Chg.of_same s6).trans (cel.trans (cq.trans (Chg.of_same s912))))))
   exact ite2 (λ_=>rest 2 (by decide) 2 (kd 2 (by decide)) (nd 2 (by decide))) (λ_=>rest j0 (by omega) j0 (kd j0 (by omega)) (nd j0 (by omega)))
  refine ite2 (λcw=>ite2 (λc4=>?_) (λ_=>r3)) (λ_=>r3);clear r3 hRz;have hd1:=W1.ob.kd j0 (by omega);refine aT kl1 (kd j0 (by omega)) (aS (dg hd1 (gD _ _)) ?_);walk_at "rd";refine aT kl1 (kd j0 (by omega)) (fz (DPut.k (k:=.inr (Str.ofString "lives")) hd1 (by show 2 < _;decide)) ?_);generalize hH2:upd H1 (W.d j0) _=H2;have c2:Chg [W.d j0] H1 H2:=by rw[<-hH2];exact Chg.upd (by simp) (λxs z=>by rw[hd1] at z;cases z)
  have e2:H2 (W.d j0)=some (.dK (kpK ⟨(X.kp j0).lv+1,(X.kp j0).sp⟩ (W.q j0))):=by rw[<-hH2];exact ae
  have nfd:=nW _ (W.BJ j0 (by omega));have C2:=W1.ce.chg c2 (λb hb=>by rw[List.mem_singleton.mp hb];exact nfd) (λb hb=>.inr λxs z=>by rw[List.mem_singleton.mp hb,hd1] at z;cases z) (λb hb=>by rw[List.mem_singleton.mp hb];exact⟨_,e2⟩);have O2:=W1.ob.hail sep.nd (by omega) c2 e2;obtain⟨dxc,hce⟩:=C2.cel
  have nsd:sl≠W.d j0:=λz=>nsl (List.mem_append_right _ (by
   have h01:j0=0\/j0=1:=by omega
   rcases h01 with rfl | rfl<;>simp[z]))
  have hsl2:=c2.keep _ _ hsl1 (by simp;exact nsd);have k1:=rel.k1 j0 hj0;have sL:=rel.sl j0 (by omega);rw[if_neg (by omega)] at sL;refine(iw22 dxc _ hce rfl (aT (.inl (.inl hsl2)) (nd j0 (by omega)) (iw55 A0 Z M (W.nm j0) ((X.kp j0).lv+1) rfl C2 (rel.nmo j0 (by omega)) (by rw[sL];rfl) (by omega) ⟨by have:=rel.bls;omega,by have:=rel.bsz;omega,λv hv=>by rw[sL] at hv;have:=Option.some.inj hv;omega,λu H3 ls c3 C3 hl hu=>?_⟩)));have O3:=O2.chg c3 nW;have kl3:SqL K H3 W.kl kL:=by rw[<-hkL];exact .inl (.inl O3.kl)
  have hd3:=O3.kd j0 (by omega);(refine pw11 (O3.ks j0 (by omega)) λts et hT=>?_);refine aT kl3 (kd j0 (by omega)) (aS (dg hd3 (gD _ _)) (aT kl3 (kd j0 (by omega)) (aS (dg hd3 (eK _ _)) (bB (.inl (.inl et)) ⟨by decide,λp hp=>?_⟩))));have sp3:(X.hail j0).kp j0=⟨(X.kp j0).lv+1,(X.kp j0).sp⟩:=by show(if j0=j0 then _ else _)=_;rw[if_pos rfl]
  have hlen:(ts.map V.ref).length=(X.kp j0).sp.length:=by rw[List.length_map,hT.length,List.length_map,sp3]
  refine tupEq (t:=[.int (((X.kp j0).lv+1:Nat):Int),.int ((X.kp j0).sp.length:Int)]) ?_ ?_ rfl (λv hv=>?_) ?_
  ·rw[Same.upd hp _ _ hu,sL]
   rw[if_pos (show(some ((X.kp j0).lv:Int)).isSome=true from rfl),rel.sT j0 (by omega) (by omega)]
  ·rw[ae,hlen,sp3]
  ·simp only[List.mem_cons,List.not_mem_nil,or_false] at hv
   rcases hv with rfl | rfl<;>trivial
  ·have s4:=Same.upd (o:=.tup [.int (((X.hail j0).kp j0).lv:Int),.int ((ts.map V.ref).length:Int)]) hp
   refine q _ _ _ ?_ ⟨C3.same s4,O3.chg (B:=[]) (Chg.of_same s4) (λ_ _=>by simp),sep,rel.hail hj0 hl⟩;refine c01.trans (Chg.trans (c2.mono λb hb=>?_) ((c3.mono inw).trans (Chg.of_same s4)));rw[List.mem_singleton.mp hb];have:j0=0\/j0=1:=by omega
   unfold LwA.wr;rcases this with rfl | rfl<;>simp
local macro_rules | `(tactic| walk_at "rd")=>rdM "uo mf oR y4 uv vZ sD wa mh wb p9 sF Cz we A3"
theorem ED (T:Txt w K mg a):FnOk P w K mg base CX0 11 a.f_law a.d_law ["_law_script"] (vt K):=by
 refine T.Dr.F.ok gq (λvs H Q E h=>?_) (λcdv A outer s H vs Q E hr h=>?_)
 ·(revert h;refine ow21 λp ns zz1 _=>?_;subst zz1)
  rfl
 ·(revert h;refine ow23 λp ns zz1 hS hlen q=>?_;subst zz1)
  refine(iw11 _ (ag (aw (i:=1) gq.nd rfl (Or.inl rfl) (aq (lH T) (hr.mono (by decide)) rfl T.cu.m T.cu.F.kp T.cu.b .nil pass0 (aa (pv 0) (aa ah af))))
   (ag (aw (i:=2) gq.nd rfl (Or.inl rfl) (aD (aF (K:=K)) ah (aD bI (aq (aP T) (hr.mono (by decide)) rfl T.ao.m T.ao.F.kp T.ao.b .nil pass0 (aa (pv 1) (aa ah af))) ah)))
   (ag (aw (i:=3) gq.nd rfl (Or.inl rfl) (aq (wR T) (hr.mono (by decide)) rfl T.jA.m T.jA.F.kp T.jA.b .nil pass0 (aa (pv 1) (aa ah af))))
   (ag (aw (i:=4) gq.nd rfl (Or.inl rfl) (rE T.Ba (kB T) (hr.mono (by decide)) rfl T.zl T.fY.b .nil pass0 (aa (aX (aa (aR (aa (av (ak (K:=K) (hU1 hr)) (pv 3) ah (λ_ _=>rfl)) (aa (pv 2) (aa az af)))) af)) af)))
   (ag (aw (i:=5) gq.nd rfl (Or.inl rfl) (oj (rT (K:=K)) (pv 3) xf (nP ah)))
   (ag (aw (i:=6) gq.nd rfl (Or.inl rfl) (aq (zR T) (hr.mono (by decide)) rfl T.lD.m T.lD.F.kp T.lD.b .nil pass0 (aa (aq (lH T) (hr.mono (by decide)) rfl T.cu.m T.cu.F.kp T.cu.b .nil pass0 (aa (pv 0) (aa ah af))) (aa ah af))))
   (ag (aw (i:=7) gq.nd rfl (Or.inl rfl) (aX (aa (nR (d9 az ah (d9 az (aX af) nQ)) rfl rfl (by simp) (by decide)) (aa (nR (d9 az ah (d9 az (aX af) nQ)) rfl rfl (by simp) (by decide)) (aa (nR (d9 az ah (d9 az (aX af) nQ)) rfl rfl (by simp) (by decide)) (aa (aD CH (aX (aa ah af)) (pv 2)) af))))))
   (ag (aQ (PW.pt (mQ (aE (dq (K:=K) (hU hr)) (aL (pv 4) T.aN T.bM.m (fu T) (hr.mono (by decide)) T.bM.b .nil pass0 (aa (av (ak (K:=K) (hU1 hr)) (pv 5) ah (λ_ _=>rfl)) af)) (aR (aa ah (aa ah af))) (nomark _)) (jZ (aE (dq (K:=K) (hU hr)) (aL (pv 4) T.aN T.bM.m (fu T) (hr.mono (by decide)) T.bM.b .nil pass0 (aa (av (ak (K:=K) (hU1 hr)) (pv 5) ah (λ_ _=>rfl)) af)) (aR (aa ah (aa ah af))) (nomark _))))) (ai (ar iA)) aC)
   (ag (dn PassesOwn.never rfl (bf (K:=K) (oj (rT (K:=K)) (pv 0) (nP ah) (nP ah))) (aU (i:=8) gq.nd rfl (Or.inl rfl)) (ag (aw (i:=9) gq.nd rfl (Or.inl rfl) (aR (aa (av (ak (K:=K) (hU1 hr)) (pv 3) ah (λ_ _=>rfl)) (aa (av (ak (K:=K) (hU1 hr)) (pv 6) (aD bI (aq (aP T) (hr.mono (by decide)) rfl T.ao.m T.ao.F.kp T.ao.b .nil pass0 (aa (pv 8) (aa ah af))) ah) (λ_ _=>rfl)) (aa (aD (aF (K:=K)) az (bo (dY (K:=K)) rfl T.ng boot_str (aa (aq (aP T) (hr.mono (by decide)) rfl T.ao.m T.ao.F.kp T.ao.b .nil pass0 (aa (pv 8) (aa ah af))) af))) af)))))
   (ai (aQ (dk (bg (K:=K) (aq (zS T) (hr.mono (by decide)) rfl T.lE.m T.lE.F.kp T.lE.b .nil pass0 (aa (pv 4) (aa (pv 5) (aa (pv 7) (aa (pv 8) (aa (pv 9) af)))))) (by intro _;rfl))) (ai (ar iA)) aC))))
   (ai (ar (dF (bJ (K:=K) (hU hr)) (ax (qD (K:=K)) (by rfl) T.Dt boot_sum (aa (av (ak (K:=K) (hU1 hr)) (pv 7) ah (λ_ _=>rfl)) af)) (aD (aF (K:=K)) (ax (aH (K:=K)) (by rfl) T.cf boot_len (aa (av (ak (K:=K) (hU1 hr)) (av (ak (K:=K) (hU1 hr)) (pv 7) ah (λ_ _=>rfl)) az (λ_ _=>rfl)) af)) (ax (aH (K:=K)) (by rfl) T.cf boot_len (aa (av (ak (K:=K) (hU1 hr)) (av (ak (K:=K) (hU1 hr)) (pv 7) ah (λ_ _=>rfl)) az (λ_ _=>rfl)) af))) (nomark _))))))))))))) ?_)
  walk_at "rd";refine(iw11 ns hS (iw13 4 rfl (by decide) (by decide) (λnl H1 hnl s1 e1=>?_)));generalize ns.getD 0 0=c at e1 ⊢;have en:(names5 c 4).map (λl=>V.str (S l))=[.str (S (nm5 c 0)),.str (S (nm5 c 1)),.str (S (nm5 c 2)),.str (S (nm5 c 3))]:=rfl;rw[en] at e1;obtain⟨many,hmany,hm1,hm4⟩:∃many:Nat,1+mixN c 5 % 4=(many:Int)/\1<=many/\many<=4:=(iw12 ((1+mixN c 5 % 4).toNat) (by omega) (by omega) (by omega))
  rw[hmany];refine aT (.inl (.inl e1)) rfl ⟨by decide,λp1 hp1=>⟨by decide,λp2 hp2=>?_⟩⟩;have u1:=Same.upd (o:=.tup [.str (S (nm5 c 3)),.int (many:Int),.str (Str.ofString "stream")]) hp1;have u2:=Same.upd (o:=.lst [.ref p1]) hp2;have hL2:LTups (upd (upd H1 p1 (.tup [.str (S (nm5 c 3)),.int (many:Int),.str (Str.ofString "stream")])) p2 (.lst [.ref p1])) p2 [[.str (S (nm5 c 3)),.int (many:Int),.str (Str.ofString "stream")]]:=LTups.one ae (u2 _ _ ae);have s2:=s1.trans (u1.trans u2);have e2:=u2 _ _ (u1 _ _ e1);generalize upd (upd H1 p1 (.tup [.str (S (nm5 c 3)),.int (many:Int),.str (Str.ofString "stream")])) p2 (.lst [.ref p1])=H2 at hL2 s2 e2 ⊢;clear u1 u2 hp1 hp2 e1 s1
  let x3:Shf:=⟨nm5 c 3,many,kStr⟩
  have okx:OkShfs [x3]:=⟨by show 1<=1;decide,by show 1<=6;decide,λx hx=>by rw[List.mem_singleton.mp hx];exact⟨AO c 3,⟨hm1,by show many<=9;omega⟩,.inr rfl⟩,by simp⟩
  refine λcl dxc hcl hdxc ndxc=>⟨⟨dxc,ae⟩,(iw13 ([x3]) (hL2.same ((Same.upd hdxc).trans (Same.upd (by rw[aj (Ne.symm ndxc)];exact hcl)))) okx (by show 1<=3;decide) (λA0 Z0 H3 ls hA0 frs c3 C3 hls=>?_))⟩
  have fr2:∀b∈A0.fix,H2 b=none:=λb hb=>by
   rcases frs b hb with h | h
   ·rw[h];exact hcl
   ·exact(bq h).1
  have s3:Same H2 H3:=cS hcl hdxc c3;have hst:startOf [x3] [x3].length=many:=by simp[startOf,x3]
  rw[hst] at C3;refine vn (.inl (.inl (s3 _ _ e2))) λsl hsl=>?_;have s4:=Same.upd (o:=.lst (cutV [.str (S (nm5 c 0)),.str (S (nm5 c 1)),.str (S (nm5 c 2)),.str (S (nm5 c 3))] none (some 3))) hsl;have esl:upd H3 sl (.lst (cutV [.str (S (nm5 c 0)),.str (S (nm5 c 1)),.str (S (nm5 c 2)),.str (S (nm5 c 3))] none (some 3))) sl=some (.lst (tx [nm5 c 0,nm5 c 1,nm5 c 2])):=ae.trans rfl;generalize upd H3 sl _=H4 at s4 esl ⊢;refine⟨⟨ns,(s2.trans (s3.trans s4)).seq hS⟩,(iw12 5 rfl (by decide) (λkl5 H5 ks hkl5 s5 eks hksl hkso=>?_))⟩;have C5:=C3.same (s4.trans s5);refine λd0 hd0=>⟨by decide,λq0 hq0=>⟨(aj (λz=>by rw[z,ae] at hq0;cases hq0)).trans ae,(iw12 ([(.inr (Str.ofString "lives"),.int 1),(.inr (Str.ofString "spots"),.ref q0)]) rfl (show 2<=15 by decide) ?_)⟩⟩;generalize hH6:upd (upd (upd H5 d0 _) q0 _) d0 _=H6;(refine pw04 (mkKp hd0 hq0 hH6) λs6 ed0 eq0 n0 hq0'=>?_);have F6:=(Fr.nil (H:=H5)).two (Liv.refl _) s6.liv n0 hd0 hq0' ⟨_,ed0⟩ ⟨_,eq0⟩;refine λd1 hd1=>⟨by decide,λq1 hq1=>⟨(aj (λz=>by rw[z,ae] at hq1;cases hq1)).trans ae,(iw12 ([(.inr (Str.ofString "lives"),.int 1),(.inr (Str.ofString "spots"),.ref q1)]) rfl (show 2<=15 by decide) ?_)⟩⟩;generalize hH7:upd (upd (upd H6 d1 _) q1 _) d1 _=H7;(refine pw04 (mkKp hd1 hq1 hH7) λs7 ed1 eq1 n1 hq1'=>?_);have F7:=F6.two s6.liv s7.liv n1 hd1 hq1' ⟨_,ed1⟩ ⟨_,eq1⟩;refine λd2 hd2=>⟨by decide,λq2 hq2=>⟨(aj (λz=>by rw[z,ae] at hq2;cases hq2)).trans ae,(iw12 ([(.inr (Str.ofString "lives"),.int 0),(.inr (Str.ofString "spots"),.ref q2)]) rfl (show 2<=15 by decide) ?_)⟩⟩;generalize hH8:upd (upd (upd H7 d2 _) q2 _) d2 _=H8;(refine pw04 (mkKp hd2 hq2 hH8) λs8 ed2 eq2 n2 hq2'=>?_);have F8:=F7.two (s6.trans s7).liv s8.liv n2 hd2 hq2' ⟨_,ed2⟩ ⟨_,eq2⟩;refine⟨by decide,λe0 he0=>?_⟩;have s9:=Same.upd (o:=.lst [.int 0]) he0;have ee0:upd H8 e0 (.lst [.int 0]) e0=some (.lst [.int 0]):=ae;generalize upd H8 e0 (.lst [.int 0])=H9 at s9 ee0 ⊢;refine .inr (iw34 e0 many _ rfl rfl ee0 (by omega) ⟨by omega,Nat.le_trans (show _<=4 by simp;omega) (by decide),λel hel=>⟨by decide,λkl hkl=>?_⟩⟩);have hfl:(List.replicate (many:Int).toNat [V.int 0]).flatten=(List.replicate many 0).map λ(e:Nat)=>V.int (e:Int):=by
   rw[Int.toNat_natCast,List.map_replicate];simp
  rw[hfl] at hkl ⊢;have s10:=Same.upd (o:=.lst ((List.replicate many 0).map λ(e:Nat)=>V.int (e:Int))) hel;have eel:upd H9 el (.lst ((List.replicate many 0).map λ(e:Nat)=>V.int (e:Int))) el=some (.lst ((List.replicate many 0).map λ(e:Nat)=>V.int (e:Int))):=ae;generalize upd H9 el (.lst ((List.replicate many 0).map λ(e:Nat)=>V.int (e:Int)))=H10 at s10 eel hkl ⊢;have s11:=Same.upd (o:=.lst [.ref d0,.ref d1,.ref d2,.ref el]) hkl;have ekl:upd H10 kl (.lst [.ref d0,.ref d1,.ref d2,.ref el]) kl=some (.lst [.ref d0,.ref d1,.ref d2,.ref el]):=ae;generalize upd H10 kl (.lst [.ref d0,.ref d1,.ref d2,.ref el])=H11 at s11 ekl ⊢;have s58:=s6.trans (s7.trans s8);have F11:=(((F8.liv s9.liv).add (s58.trans s9).liv hel s10.liv ⟨_,eel⟩).add (s58.trans (s9.trans s10)).liv hkl s11.liv ⟨_,ekl⟩)
  have s511:=s58.trans (s9.trans (s10.trans s11))
  let W:LwA:=⟨kl,el,three d0 d1 d2,three q0 q1 q2,nm5 c,many⟩
  have FW:L2.Fr H5 H11 W.all:=F11.perm (kW λb=>by
   show _=List.count b [kl,el,d0,d1,d2,q0,q1,q2];simp only[List.count_append,List.count_cons,List.count_nil,List.cons_append,List.nil_append]
   omega)
  have C11:CeAt (kk5 a) H11 A0 ([q0,q1,q2,el]++Z0) (M0 c many ls):=(C5.same s511).setZ (λ_=>rfl) _ (λb hb=>FW.yes b (by
   show b∈[kl,el,d0,d1,d2,q0,q1,q2];simp only[List.mem_cons,List.not_mem_nil,or_false] at hb ⊢
   rcases hb with rfl | rfl | rfl | rfl<;>simp))
  have nW:∀b∈W.all,b∉A0.fix:=λb hb=>C5.notin (FW.no b hb);have sep:LwSep A0 ([q0,q1,q2,el]++Z0) W:=⟨nW,FW.nd,lt3 (by simp[W,three]) (by simp[W,three]) (by simp[W,three]),by simp[W]⟩
  have O11:LwOb H11 W (X0 many):=⟨ekl,lt3 ((s7.trans (s8.trans (s9.trans (s10.trans s11)))) _ _ ed0) ((s8.trans (s9.trans (s10.trans s11))) _ _ ed1) ((s9.trans (s10.trans s11)) _ _ ed2),lt3 (iw11 ([]) ((s7.trans (s8.trans (s9.trans (s10.trans s11)))) _ _ eq0) (.nil)) (iw11 ([]) ((s8.trans (s9.trans (s10.trans s11))) _ _ eq1) (.nil)) (iw11 ([]) ((s9.trans (s10.trans s11)) _ _ eq2) (.nil)),s11 _ _ eel⟩
  have esl11:=(s5.trans s511) _ _ esl;have nsl5:sl∉A0.fix:=C3.notin hsl;subst hA0;obtain⟨dx11,hc11⟩:=C11.cel;refine(iw22 dx11 _ hc11 rfl (aT (.inl (.inl esl11)) rfl (iw55 A0 _ (M0 c many ls) (nm5 c 0) 1 rfl C11 (oW c 0) rfl (by decide) ⟨by show ls.length<=4000;omega,by show 0<=100000;decide,(λv hv=>by cases hv),λu0 H12 ls1 c12 C12 hl1 eu0=>⟨by decide,λp3 hp3=>?_⟩⟩)));have s13:=Same.upd (o:=.tup [.int 1,.int 0]) hp3;have okt:∀x∈[V.int 1,V.int 0],okV x:=λx hx=>by
   simp only[List.mem_cons,List.not_mem_nil,or_false] at hx;rcases hx with rfl | rfl<;>trivial
  refine tupNe (t:=[.int 1,.int 0]) (s13 _ _ eu0) ae rfl okt (iw11 false rfl ?_);rw[if_neg (by decide)];generalize upd H12 p3 (.tup [.int 1,.int 0])=H13 at s13 ⊢;have C13:=C12.same s13;have O13:=(O11.chg c12 nW).chg (B:=[]) (Chg.of_same s13) (λ_ _=>by simp);have esl13:=s13 _ _ (c12.keep _ _ esl11 nsl5);obtain⟨dx13,hc13⟩:=C13.cel;have L1:(((M0 c many ls).wr ls1).hail (S (nm5 c 0))).S.L (S (nm5 c 1))=none:=by
   show(if S (nm5 c 1)=S (nm5 c 0) then some ((none:Option Int).getD 0+1) else none)=none;rw[if_neg (λz=>absurd (si (c:=c) (by decide) (by decide) (ot z)) (by decide))]
  have hl1':ls1.length=ls.length+1:=hl1;refine(iw22 dx13 _ hc13 rfl (aT (.inl (.inl esl13)) rfl (iw55 A0 _ _ (nm5 c 1) 1 rfl C13 (oW c 1) (by rw[L1];rfl) (by decide) ⟨by show ls1.length<=4000;omega,by show 0+1<=100000;decide,(λv hv=>by rw[L1] at hv;cases hv),λu1 H14 ls2 c14 C14 hl2 eu1=>⟨by decide,λp4 hp4=>?_⟩⟩)));have s15:=Same.upd (o:=.tup [.int 1,.int 0]) hp4;rw[L1] at eu1;refine tupNe (t:=[.int 1,.int 0]) (s15 _ _ eu1) ae rfl okt (iw11 false rfl ?_);rw[if_neg (by decide)];generalize upd H14 p4 (.tup [.int 1,.int 0])=H15 at s15 ⊢;have C15:=C14.same s15;have O15:=(O13.chg c14 nW).chg (B:=[]) (Chg.of_same s15) (λ_ _=>by simp);have hl2':ls2.length=ls1.length+1:=hl2;have LW:LwAt (kk5 a) H15 A0 ([q0,q1,q2,el]++Z0) _ W (X0 many) 0:=⟨C15,O15,sep,rel0 rfl rfl hls hl1' hl2'⟩
  have c1115:Chg A0.fix H11 H15:=c12.trans ((Chg.of_same s13).trans (c14.trans (Chg.of_same s15)));have esl15:=c1115.keep _ _ esl11 nsl5;have s25:Same H2 H5:=s3.trans (s4.trans s5);have frW:∀b∈W.wr A0,H b=none:=λb hb=>by
   rcases List.mem_append.mp hb with h | h
   ·exact bp s2 (fr2 b h)
   ·refine bp (s2.trans s25) (FW.no b ?_)
    simp only[List.mem_cons,List.not_mem_nil,or_false] at h;show b∈[W.kl,W.el,W.d 0,W.d 1,W.d 2,W.q 0,W.q 1,W.q 2];simp only[List.mem_cons,List.not_mem_nil,or_false];rcases h with h | h | h | h | h<;>simp[h]
  have inw:∀b∈A0.fix,b∈W.wr A0:=λb hb=>List.mem_append_left _ hb;have scr:Scr K H (W.wr A0) p (ns.map V.int):=Scr.of hS frW;have cH:Chg (W.wr A0) H H15:=(Chg.of_same (s2.trans (s25.trans s511))).trans (c1115.mono inw);refine vn (scr.chg cH).sq λp1 hp1=>cF (.inl (.inl ae)) ?_;generalize hcs:cutV (ns.map V.int) (some 2) (some 60)=cs;have hcl':cs.length<=58:=by
   rw[<-hcs,show(some (2:Int))=some ((2:Nat):Int) from rfl,show(some (60:Int))=some ((2+58:Nat):Int) from rfl,AF,List.length_take];omega
  have hci:∀x∈cs,∃c,x=V.int c:=λx hx=>by
   rw[<-hcs] at hx;(refine pw11 (List.mem_map.mp (List.mem_of_mem_drop (List.mem_of_mem_take hx))) λc _ zz1=>?_;subst zz1);exact⟨c,rfl⟩
  have s16:=Same.upd (o:=.lst cs) hp1;have ep1:upd H15 p1 (.lst cs) p1=some (.lst cs):=ae;generalize upd H15 p1 (.lst cs)=H16 at s16 ep1 ⊢;have LW16:=LW.same s16;have nwr:∀{b:Addr},b∈W.wr A0->H2 b=none:=λ{b} hb=>by
   rcases List.mem_append.mp hb with h | h
   ·exact fr2 b h
   ·refine bp s25 (FW.no b ?_)
    simp only[List.mem_cons,List.not_mem_nil,or_false] at h;show b∈[W.kl,W.el,W.d 0,W.d 1,W.d 2,W.q 0,W.q 1,W.q 2];simp only[List.mem_cons,List.not_mem_nil,or_false];rcases h with h | h | h | h | h<;>simp[h]
  have nw5:∀{b:Addr} {o:HO},b∉A0.fix->H5 b=some o->b∉W.wr A0:=λ{b o} hb e z=>by
   rcases List.mem_append.mp z with h | h
   ·exact hb h
   ·have:H5 b=none:=FW.no b (by
     simp only[List.mem_cons,List.not_mem_nil,or_false] at h;show b∈[W.kl,W.el,W.d 0,W.d 1,W.d 2,W.q 0,W.q 1,W.q 2];simp only[List.mem_cons,List.not_mem_nil,or_false]
     rcases h with h | h | h | h | h<;>simp[h])
    rw[this] at e;cases e
  have nnl:nl∉W.wr A0:=λz=>by have:=nwr z;rw[e2] at this;cases this
  have nsl':sl∉W.wr A0:=nw5 nsl5 (s5 _ _ esl);have nkl5:kl5∉W.wr A0:=nw5 ((C3.same s4).notin hkl5) eks;have np1:p1∉W.wr A0:=λz=>by
   rcases List.mem_append.mp z with h | h
   ·exact C15.notin hp1 h
   ·have g:∃o,H11 p1=some o:=FW.yes p1 (by
     simp only[List.mem_cons,List.not_mem_nil,or_false] at h;show p1∈[W.kl,W.el,W.d 0,W.d 1,W.d 2,W.q 0,W.q 1,W.q 2];simp only[List.mem_cons,List.not_mem_nil,or_false]
     rcases h with h | h | h | h | h<;>simp[h])
    obtain⟨o,e⟩:=g;have hpA:p1∈W.all:=by
     simp only[List.mem_cons,List.not_mem_nil,or_false] at h;show p1∈[W.kl,W.el,W.d 0,W.d 1,W.d 2,W.q 0,W.q 1,W.q 2];simp only[List.mem_cons,List.not_mem_nil,or_false];rcases h with h | h | h | h | h<;>simp[h]
    rw[c1115.keep _ _ e (nW _ hpA)] at hp1;cases hp1
  have cH16:Chg (W.wr A0) H H16:=cH.trans (Chg.of_same s16);have c516:Chg (W.wr A0) H5 H16:=(Chg.of_same s511).trans ((c1115.mono inw).trans (Chg.of_same s16));have enl16:=c516.keep _ _ (s25 _ _ e2) nnl;have esl16:=c516.keep _ _ (s5 _ _ esl) nsl';have eks16:=c516.keep _ _ eks nkl5;refine dW (xs:=cs) (λi σ H'=>(∃M X,LwAt (kk5 a) H' A0 ([q0,q1,q2,el]++Z0) M W X i)/\Chg (W.wr A0) H16 H'/\∃v8 v9,σ=[some (V.ref p),some (V.int c),some (V.int many),some (V.ref nl),some (V.ref A0.c),some (V.ref sl),some (V.ref kl5),some (V.ref kl),v8,v9]) ⟨(iw20 _ _ LW16),Chg.refl _,(iw20 none none rfl)⟩ (λi σ H' _ h=>.inl (.inl (h.2.1.keep _ _ ep1 np1))) ?_ ?_
  ·rintro i x σ H' hx ⟨⟨M,X,LWi⟩,ci,v8,v9,rfl⟩
   obtain⟨cc,rfl⟩:=hci x (List.mem_of_getElem? hx);have hi:=(List.getElem?_eq_some_iff.mp hx).1;walk_at "rd";(refine pw02 (word72 cc) λw1 w2 w3=>?_);have bm:=xk cc 7;have hkx:(mixN cc 6 % 5).toNat < ks.length:=by omega
   have hat:atI (tx ks) (mixN cc 6 % 5)=some (V.str (S ks[(mixN cc 6 % 5).toNat])):=bZ (by omega) (by unfold tx;rw[List.getElem?_map,List.getElem?_eq_getElem hkx];rfl);have hkk:=hkso _ (List.getElem_mem hkx);generalize ks[(mixN cc 6 % 5).toNat]=key at hat hkk;refine aT (.inl (.inl (ci.keep _ _ enl16 nnl))) rfl (aT (.inl (.inl (ci.keep _ _ eks16 nkl5))) hat ⟨dZ (by omega) (by omega),(iw13 ([119]) (by rfl) (Nat.le_trans (show _<=20 by simp;omega) (by decide)) (by decide) (λpt hpt=>?_))⟩);have st:=Same.upd (o:=.tup [.str (S (nm5 c 3)),.str (S key),.str (S ([119]++strI (mixN cc 7)))]) hpt;refine(iw60 A0 _ M W X i (iw55 sl pt cc key ([119]++strI (mixN cc 7)) rfl (LWi.same st) (by omega) (st _ _ (ci.keep _ _ esl16 nsl')) nsl' ⟨ae,hkk,w1,w2,λH2' M' X' c' L'=>(iw11 true ?_ ?_)⟩))
   ·simp[TruV]
   ·rw[if_neg (by decide)]
    exact⟨(iw20 M' X' L'),ci.trans ((Chg.of_same st).trans c')⟩
  ·rintro σ H' ⟨⟨M,X,LWi⟩,ci,v8,v9,rfl⟩
   walk_at "rd";have O:=LWi.ob;have klS:SqL K H' kl [.ref d0,.ref d1,.ref d2,.ref el]:=.inl (.inl O.kl);have eS:SqL K H' el ((X.es.map λ(e:Nat)=>(e:Int)).map V.int):=.inl (.inl (by rw[List.map_map];exact O.ke));(refine pw11 (O.ks 0 (by decide)) λt0 et0 hT0=>?_);(refine pw11 (O.ks 1 (by decide)) λt1 et1 hT1=>?_);have l0:(t0.map V.ref).length=(X.kp 0).sp.length:=by rw[List.length_map,hT0.length,List.length_map]
   have l1:(t1.map V.ref).length=(X.kp 1).sp.length:=by rw[List.length_map,hT1.length,List.length_map]
   refine aT klS rfl (D9 eS (aT klS rfl (aS (dg (O.kd 0 (by decide)) (eK _ _)) (bB (.inl (.inl et0)) (aT klS rfl (aS (dg (O.kd 1 (by decide)) (eK _ _)) (bB (.inl (.inl et1)) ?_)))))));rw[l0,l1,uE,LWi.rel.sum];walk_at "rd";rw[decide_eq_true (by omega)];exact q _
end
theorem walk {l:W.OpenLaw}{q:Program}{loose:List Str}{XP:(Str->Option Value)->Heap->Prop}{YP:World->Heap->Prop}{d:DefRec}{K:Params->W.Frag}(hn:l.most=some 63)(hdf:d.params.defaults=[])
  (hY:∀(w:World) (h:Heap),YP w h->(K w.params).In h)
  (F:∀(w:World) (mg:Str->Option Value) (fa:Addr) (h:Heap),(K w.params).In h->h.Ns mainGlobals mg->mg d.name=some (.ref fa)->
   ∃fd:FuncData,(∀(s:Shared) (u:Value),BindsTo s fd ⟨[u],[]⟩ [("_law_script",u)])/\∀base:Heap,(K w.params).In base->base.Ns mainGlobals mg->FnOk l.prog w (K w.params) mg base CX0 11 fa fd ["_law_script"] (vt (K w.params))) :
  W.WalkO q loose XP YP l.row.toRowW d [] (λf vs=>PySem.call f vs):=
 L2.BI (n:=63) (k:=11) (x:="_law_script") (CX:=λ_=>CX0) (sp:=λw=>vt (K w.params)) hn (by decide) hdf ⟨rfl,by decide,by decide⟩ hY F (λ_ _ a ns hl _ hS=>(iw23 a ns rfl hS hl (λ_=>rfl))) λ_ _ _ _ _ z=>z
end K72

open PySem PySem.W PyProof.Rows
set_option maxHeartbeats 0 in
theorem PySem.Challenge.cw_lettercell_k72_numbers_sent_again_holds : PySem.Challenge.rw_lettercell_k72_numbers_sent_again.Holds := by
 refine hdW.2 ?_
 dsimp only[hdW]
 k_fill
 refine K72.walk (l:=PySem.Challenge.rw_lettercell_k72_numbers_sent_again) rfl rfl (λw h Y=>W.kIn_of Y) ?F
 case F=>
  intro w mg fa h KX G hmg
  have T:∃t,K72.Txt w (L2.KOf KX) mg t:=by
   dsimp only[L2.KOf]
   refine' ⟨.mk,⟨(W.mg_of KX G ?h0),(W.mg_of KX G ?h1),(W.mg_of KX G ?h2),(W.mg_of KX G ?h3),(W.mg_of KX G ?h4),(W.mg_of KX G ?h5),(W.mg_of KX G ?h6),(W.mg_of KX G ?h7),(W.mg_of KX G ?h8),(W.mg_of KX G ?h9),(W.mg_of KX G ?h10),(W.mg_of KX G ?h11),(W.mg_of KX G ?h12),(W.mg_of KX G ?h13),⟨?h14,?h15,?h16,?h17⟩,⟨?h18,?h19,?h20,?h21⟩,⟨?h22,?h23,?h24,?h25⟩,⟨?h26,?h27,?h28,?h29⟩,⟨?h30,?h31,?h32,?h33⟩,⟨?h34,?h35,?h36,?h37⟩,⟨?h38,?h39,?h40,?h41⟩,⟨?h42,?h43,?h44,?h45⟩,?h46,?h47,?h48,?h49,?h50,?h51,?h52,?h53,?h54,?h55,L2.gE ?h56 ?h57 ?h58 (λ_ _ _ _ _ _=>(L2.el2 λ_ _=>rfl)),L2.gE ?h59 ?h60 ?h61 (λ_ _ _ _ _ _=>(L2.el2 λ_ _=>rfl)),L2.gE ?h62 ?h63 ?h64 (λ_ _ _ _ _ _=>(L2.el2 λ_ _=>rfl)),L2.gE ?h65 ?h66 ?h67 (λ_ _ _ _ _ _=>(L2.el2 λ_ _=>rfl)),L2.gE ?h68 ?h69 ?h70 (λ_ _ _ _ _ _=>(L2.el2 λ_ _=>rfl)),L2.aJ KX G ?h71 ?h72 ?h73 ?h74 (λ_ _ _ _ _ _=>(L2.el1 λ_=>rfl)),L2.aJ KX G ?h75 ?h76 ?h77 ?h78 (λ_ _ _ _ _ _=>(L2.el1 λ_=>rfl)),L2.aJ KX G ?h79 ?h80 ?h81 ?h82 (λ_ _ _ _ _ _=>(L2.el1 λ_=>rfl)),L2.aJ KX G ?h83 ?h84 ?h85 ?h86 (λ_ _ _ _ _ _=>(L2.el2 λ_ _=>rfl)),L2.aJ KX G ?h87 ?h88 ?h89 ?h90 (λ_ _ _ _ _ _=>(L2.el1 λ_=>rfl)),L2.aJ KX G ?h91 ?h92 ?h93 ?h94 (λ_ _ _ _ _ _=>(L2.el1 λ_=>rfl)),L2.aJ KX G ?h95 ?h96 ?h97 ?h98 (λ_ _ _ _ _ _=>(L2.el2 λ_ _=>rfl)),L2.aJ KX G ?h99 ?h100 ?h101 ?h102 (λ_ _ _ _ _ _=>(L2.el2 λ_ _=>rfl)),L2.aJ KX G ?h103 ?h104 ?h105 ?h106 (λ_ _ _ _ _ _=>(L2.el1 λ_=>rfl)),L2.aJ KX G ?h107 ?h108 ?h109 ?h110 (λ_ _ _ _ _ _=>(L2.el1 λ_=>rfl)),L2.aJ KX G ?h111 ?h112 ?h113 ?h114 (λ_ _ _ _ _ _=>(L2.el2 λ_ _=>rfl)),L2.aJ KX G ?h115 ?h116 ?h117 ?h118 (λ_ _ _ _ _ _=>(L2.el2 λ_ _=>rfl)),L2.aJ KX G ?h119 ?h120 ?h121 ?h122 (λ_ _ _ _ _ _=>(L2.el2 λ_ _=>rfl)),L2.aJ KX G ?h123 ?h124 ?h125 ?h126 (λ_ _ _ _ _ _=>(L2.el3 λ_ _ _=>rfl)),L2.aJ KX G ?h127 ?h128 ?h129 ?h130 (λ_ _ _ _ _ _=>(L2.el1 λ_=>rfl)),L2.aJ KX G ?h131 ?h132 ?h133 ?h134 (λ_ _ _ _ _ _=>(L2.el1 λ_=>rfl)),L2.aJ KX G ?h135 ?h136 ?h137 ?h138 (λ_ _ _ _ _ _=>(L2.el1 λ_=>rfl)),L2.aJ KX G ?h139 ?h140 ?h141 ?h142 (λ_ _ _ _ _ _=>(L2.el1 λ_=>rfl)),L2.aJ KX G ?h143 ?h144 ?h145 ?h146 (λ_ _ _ _ _ _=>(L2.el3 λ_ _ _=>rfl)),L2.aJ KX G ?h147 ?h148 ?h149 ?h150 (λ_ _ _ _ _ _=>(L2.el1 λ_=>rfl)),L2.aJ KX G ?h151 ?h152 ?h153 ?h154 (λ_ _ _ _ _ _=>(L2.el2 λ_ _=>rfl)),L2.aJ KX G ?h155 ?h156 ?h157 ?h158 (λ_ _ _ _ _ _=>(L2.el1 λ_=>rfl)),L2.aJ KX G ?h159 ?h160 ?h161 ?h162 (λ_ _ _ _ _ _=>(L2.el1 λ_=>rfl)),L2.aJ KX G ?h163 ?h164 ?h165 ?h166 (λ_ _ _ _ _ _=>(L2.el2 λ_ _=>rfl)),L2.aJ KX G ?h167 ?h168 ?h169 ?h170 (λ_ _ _ _ _ _=>(L2.el1 λ_=>rfl)),L2.aJ KX G ?h171 ?h172 ?h173 ?h174 (λ_ _ _ _ _ _=>(L2.el2 λ_ _=>rfl)),L2.aJ KX G ?h175 ?h176 ?h177 ?h178 (λ_ _ _ _ _ _=>(L2.el2 λ_ _=>rfl)),L2.aJ KX G ?h179 ?h180 ?h181 ?h182 (λ_ _ _ _ _ _=>(L2.el2 λ_ _=>rfl)),L2.aJ KX G ?h183 ?h184 ?h185 ?h186 (λ_ _ _ _ _ _=>(L2.el7 λ_ _ _ _ _ _ _=>rfl)),L2.aJ KX G ?h187 ?h188 ?h189 ?h190 (λ_ _ _ _ _ _=>(L2.el5 λ_ _ _ _ _=>rfl)),L2.gE ?h191 ?h192 ?h193 (λ_ _ _ _ _ _=>(L2.el1 λ_=>rfl)),L2.b6 ?h194 ?h195 ?h196 ?h197 ?h198 (λ_ _ _ _ _ _=>(L2.el2 λ_ _=>rfl)),L2.b6 ?h199 ?h200 ?h201 ?h202 ?h203 (λ_ _ _ _ _ _=>(L2.el1 λ_=>rfl)),L2.gE ?h204 ?h205 ?h206 (λ_ _ _ _ _ _=>(L2.el1 λ_=>rfl)),L2.b6 ?h207 ?h208 ?h209 ?h210 ?h211 (λ_ _ _ _ _ _=>(L2.el2 λ_ _=>rfl)),L2.b6 ?h212 ?h213 ?h214 ?h215 ?h216 (λ_ _ _ _ _ _=>(L2.el2 λ_ _=>rfl)),L2.b6 ?h217 ?h218 ?h219 ?h220 ?h221 (λ_ _ _ _ _ _=>(L2.el4 λ_ _ _ _=>rfl)),L2.b6 ?h222 ?h223 ?h224 ?h225 ?h226 (λ_ _ _ _ _ _=>(L2.el1 λ_=>rfl)),L2.aJ KX G ?h227 ?h228 ?h229 ?h230 (λ_ _ _ _ _ _=>(L2.el2 λ_ _=>rfl)),L2.aJ KX G ?h231 ?h232 ?h233 ?h234 (λ_ _ _ _ _ _=>(L2.el2 λ_ _=>rfl)),L2.aJ KX G ?h235 ?h236 ?h237 ?h238 (λ_ _ _ _ _ _=>(L2.el5 λ_ _ _ _ _=>rfl)),L2.aJ KX G ?h239 ?h240 ?h241 ?h242 (λ_ _ _ _ _ _=>(L2.el3 λ_ _ _=>rfl)),L2.aJ KX G ?h243 ?h244 ?h245 ?h246 (λ_ _ _ _ _ _=>(L2.el3 λ_ _ _=>rfl)),L2.aJ KX G ?h247 ?h248 ?h249 ?h250 (λ_ _ _ _ _ _=>(L2.el2 λ_ _=>rfl)),L2.gE ?h251 ?h252 ?h253 (λ_ _ _ _ _ _=>(L2.el1 λ_=>rfl)),⟨?aRow_add,?iRow_add,?kRow_add⟩,L2.cU (items:=[L2.iT 0]) ?lRow_add ?cRow_add ?kRow_add ?dRow_add,L2.FunD.binds [] 4 rfl (L2.cU (items:=[L2.iT 0]) ?lRow_add ?cRow_add ?kRow_add ?dRow_add) (λ_ _ _ _ _ _ _=>(L2.el4 λ_ _ _ _=>⟨_,rfl,rfl⟩)),L2.FunD.binds [L2.iT 0] 3 rfl (L2.cU (items:=[L2.iT 0]) ?lRow_add ?cRow_add ?kRow_add ?dRow_add) (λ_ _ _ _ _ _ _=>(L2.el3 λ_ _ _=>⟨_,rfl,rfl⟩)),(.cons L2.relT .nil),L2.b6 ?h260 ?h261 ?h262 ?h263 ?h264 (λ_ _ _ _ _ _=>(L2.el2 λ_ _=>rfl)),L2.b6 ?h265 ?h266 ?h267 ?h268 ?h269 (λ_ _ _ _ _ _=>(L2.el4 λ_ _ _ _=>rfl)),L2.aJ KX G ?h270 ?h271 ?h272 ?h273 (λ_ _ _ _ _ _=>(L2.el1 λ_=>rfl)),L2.aJ KX G ?h274 ?h275 ?h276 ?h277 (λ_ _ _ _ _ _=>(L2.el1 λ_=>rfl)),L2.aJ KX G ?h278 ?h279 ?h280 ?h281 (λ_ _ _ _ _ _=>(L2.el1 λ_=>rfl)),L2.gE ?h282 ?h283 ?h284 (λ_ _ _ _ _ _=>(L2.el2 λ_ _=>rfl)),L2.b6 ?h285 ?h286 ?h287 ?h288 ?h289 (λ_ _ _ _ _ _=>(L2.el1 λ_=>rfl)),L2.b6 ?h290 ?h291 ?h292 ?h293 ?h294 (λ_ _ _ _ _ _=>(L2.el1 λ_=>rfl)),L2.b6 ?h295 ?h296 ?h297 ?h298 ?h299 (λ_ _ _ _ _ _=>(L2.el2 λ_ _=>rfl)),L2.b6 ?h300 ?h301 ?h302 ?h303 ?h304 (λ_ _ _ _ _ _=>(L2.el2 λ_ _=>rfl)),L2.b6 ?h305 ?h306 ?h307 ?h308 ?h309 (λ_ _ _ _ _ _=>(L2.el2 λ_ _=>rfl)),L2.b6 ?h310 ?h311 ?h312 ?h313 ?h314 (λ_ _ _ _ _ _=>(L2.el3 λ_ _ _=>rfl)),L2.gE ?h315 ?h316 ?h317 (λ_ _ _ _ _ _=>(L2.el1 λ_=>rfl)),L2.b6 ?h318 ?h319 ?h320 ?h321 ?h322 (λ_ _ _ _ _ _=>(L2.el2 λ_ _=>rfl)),L2.b6 ?h323 ?h324 ?h325 ?h326 ?h327 (λ_ _ _ _ _ _=>(L2.el2 λ_ _=>rfl)),L2.b6 ?h328 ?h329 ?h330 ?h331 ?h332 (λ_ _ _ _ _ _=>(L2.el3 λ_ _ _=>rfl)),L2.b6 ?h333 ?h334 ?h335 ?h336 ?h337 (λ_ _ _ _ _ _=>(L2.el3 λ_ _ _=>rfl)),L2.b6 ?h338 ?h339 ?h340 ?h341 ?h342 (λ_ _ _ _ _ _=>(L2.el5 λ_ _ _ _ _=>rfl)),L2.b6 ?h343 ?h344 ?h345 ?h346 ?h347 (λ_ _ _ _ _ _=>(L2.el2 λ_ _=>rfl)),L2.b6 ?h348 ?h349 ?h350 ?h351 ?h352 (λ_ _ _ _ _ _=>(L2.el2 λ_ _=>rfl)),L2.gE ?h353 ?h354 ?h355 (λ_ _ _ _ _ _=>(L2.el1 λ_=>rfl)),L2.gE ?h356 ?h357 ?h358 (λ_ _ _ _ _ _=>(L2.el2 λ_ _=>rfl)),L2.b6 ?h359 ?h360 ?h361 ?h362 ?h363 (λ_ _ _ _ _ _=>(L2.el2 λ_ _=>rfl)),L2.gE ?h364 ?h365 ?h366 (λ_ _ _ _ _ _=>(L2.el2 λ_ _=>rfl)),L2.b6 ?h367 ?h368 ?h369 ?h370 ?h371 (λ_ _ _ _ _ _=>(L2.el2 λ_ _=>rfl)),L2.b6 ?h372 ?h373 ?h374 ?h375 ?h376 (λ_ _ _ _ _ _=>(L2.el2 λ_ _=>rfl)),⟨?aCellar_put,?iCellar_put,?kCellar_put⟩,L2.cU (items:=[.none,L2.iT 0]) ?lCellar_put ?cCellar_put ?kCellar_put ?dCellar_put,L2.FunD.binds [] 8 rfl (L2.cU (items:=[.none,L2.iT 0]) ?lCellar_put ?cCellar_put ?kCellar_put ?dCellar_put) (λ_ _ _ _ _ _ _=>(L2.el8 λ_ _ _ _ _ _ _ _=>⟨_,rfl,rfl⟩)),L2.FunD.binds [L2.iT 0] 7 rfl (L2.cU (items:=[.none,L2.iT 0]) ?lCellar_put ?cCellar_put ?kCellar_put ?dCellar_put) (λ_ _ _ _ _ _ _=>(L2.el7 λ_ _ _ _ _ _ _=>⟨_,rfl,rfl⟩)),(.cons L2.relT .nil),L2.FunD.binds [.none,L2.iT 0] 6 rfl (L2.cU (items:=[.none,L2.iT 0]) ?lCellar_put ?cCellar_put ?kCellar_put ?dCellar_put) (λ_ _ _ _ _ _ _=>(L2.el6 λ_ _ _ _ _ _=>⟨_,rfl,rfl⟩)),(.cons rfl (.cons L2.relT .nil)),⟨?aCellar_read,?iCellar_read,?kCellar_read⟩,L2.cU (items:=[L2.iT 10,.bool true]) ?lCellar_read ?cCellar_read ?kCellar_read ?dCellar_read,L2.FunD.binds [] 5 rfl (L2.cU (items:=[L2.iT 10,.bool true]) ?lCellar_read ?cCellar_read ?kCellar_read ?dCellar_read) (λ_ _ _ _ _ _ _=>(L2.el5 λ_ _ _ _ _=>⟨_,rfl,rfl⟩)),L2.FunD.binds [.bool true] 4 rfl (L2.cU (items:=[L2.iT 10,.bool true]) ?lCellar_read ?cCellar_read ?kCellar_read ?dCellar_read) (λ_ _ _ _ _ _ _=>(L2.el4 λ_ _ _ _=>⟨_,rfl,rfl⟩)),(.cons rfl .nil),L2.FunD.binds [L2.iT 10,.bool true] 3 rfl (L2.cU (items:=[L2.iT 10,.bool true]) ?lCellar_read ?cCellar_read ?kCellar_read ?dCellar_read) (λ_ _ _ _ _ _ _=>(L2.el3 λ_ _ _=>⟨_,rfl,rfl⟩)),(.cons L2.relT (.cons rfl .nil)),L2.b6 ?h389 ?h390 ?h391 ?h392 ?h393 (λ_ _ _ _ _ _=>(L2.el1 λ_=>rfl)),L2.aJ KX G ?h394 ?h395 ?h396 ?h397 (λ_ _ _ _ _ _=>(L2.el2 λ_ _=>rfl)),L2.aJ KX G ?h398 ?h399 ?h400 ?h401 (λ_ _ _ _ _ _=>(L2.el2 λ_ _=>rfl)),L2.aJ KX G ?h402 ?h403 ?h404 ?h405 (λ_ _ _ _ _ _=>(L2.el2 λ_ _=>rfl)),L2.aJ KX G ?h406 ?h407 ?h408 ?h409 (λ_ _ _ _ _ _=>(L2.el1 λ_=>rfl)),L2.aJ KX G ?h410 ?h411 ?h412 ?h413 (λ_ _ _ _ _ _=>(L2.el2 λ_ _=>rfl)),L2.aJ KX G ?h414 ?h415 ?h416 ?h417 (λ_ _ _ _ _ _=>(L2.el2 λ_ _=>rfl)),L2.aJ KX G ?h418 ?h419 ?h420 ?h421 (λ_ _ _ _ _ _=>(L2.el2 λ_ _=>rfl)),L2.aJ KX G ?h422 ?h423 ?h424 ?h425 (λ_ _ _ _ _ _=>(L2.el5 λ_ _ _ _ _=>rfl)),L2.aJ KX G ?h426 ?h427 ?h428 ?h429 (λ_ _ _ _ _ _=>(L2.el5 λ_ _ _ _ _=>rfl)),L2.aJ KX G ?h430 ?h431 ?h432 ?h433 (λ_ _ _ _ _ _=>(L2.el2 λ_ _=>rfl)),L2.aJ KX G ?h434 ?h435 ?h436 ?h437 (λ_ _ _ _ _ _=>(L2.el5 λ_ _ _ _ _=>rfl)),L2.aJ KX G ?h438 ?h439 ?h440 ?h441 (λ_ _ _ _ _ _=>(L2.el1 λ_=>rfl)),⟨?h442,?h443,?h444,?h445⟩,?h446,⟨?h447,?h448,?h449,?h450⟩,?h451,?h452,⟨?h453,?h454,?h455,?h456⟩,?h457,?h458,⟨?h459,?h460,?h461,?h462⟩,?h463,?h464,?h465,?h466,?h467,?h468,?h469,⟨?h470,?h471,?h472,?h473⟩,?h474,⟨?h475,?h476,?h477,?h478⟩,?h479,?h480,⟨?h481,?h482,?h483,?h484⟩,?h485,?h486,?h487,?h488,⟨?h489,?h490,?h491,?h492⟩,?h493,?h494,?h495,⟨?h496,?h497,?h498,?h499,?h500,?h501⟩,?h502,?h503,?h504,?h505,?h506,?h507,⟨?h508,?h509,?h510,?h511,?h512,?h513⟩,?h514,?h515,?h516,?h517,?h518,?h519,⟨?h520,?h521,?h522,?h523,?h524,?h525⟩,?h526,?h527,?h528,?h529,?h530,?h531,⟨?h532,?h533,?h534,?h535,?h536,?h537⟩,?h538,?h539,?h540,?h541,?h542,?h543,⟨?h544,?h545,?h546,?h547,?h548,?h549⟩,?h550,?h551,?h552,?h553,?h554,?h555,⟨?h556,?h557,?h558,?h559,?h560,?h561⟩,?h562,?h563,?h564,?h565,?h566,?h567,W.mg_none_of KX G ?h568,W.mg_none_of KX G ?h569,W.mg_none_of KX G ?h570,W.mg_none_of KX G ?h571,W.mg_none_of KX G ?h572,W.mg_none_of KX G ?h573,W.mg_none_of KX G ?h574,W.mg_none_of KX G ?h575,W.mg_none_of KX G ?h576,W.mg_none_of KX G ?h577,W.mg_none_of KX G ?h578,W.mg_none_of KX G ?h579,W.mg_none_of KX G ?h580,W.mg_none_of KX G ?h581,W.mg_none_of KX G ?h582,W.mg_none_of KX G ?h583,W.mg_none_of KX G ?h584,L2.jO (W.mg_of KX G ?h585),L2.Dn (W.mg_of KX G ?h586) ?h587 ?h588 (L2.jl ?h589 rfl (L2.jl ?h590 rfl L2.uk)),L2.jO (W.mg_of KX G ?h591),L2.Dp (W.mg_of KX G ?h592) (.cons L2.relT (.cons L2.relT .nil)) (show 2<=PySem.sizeLine by decide) ?h593,L2.jO (W.mg_of KX G ?h594),L2.jO (W.mg_of KX G ?h595),L2.jO (W.mg_of KX G ?h596),L2.Dn (W.mg_of KX G ?h597) ?h598 ?h599 (L2.jl ?h600 rfl (L2.jl ?h601 rfl L2.uk)),L2.jO (W.mg_of KX G ?h602),L2.jO (W.mg_of KX G ?h603),L2.jO (W.mg_of KX G ?h604),L2.jO (W.mg_of KX G ?h605),L2.Dp (W.mg_of KX G ?h606) (.cons L2.relT (.cons L2.relT (.cons L2.relT (.cons L2.relT (.cons L2.relT (.cons L2.relT .nil)))))) (show 6<=PySem.sizeLine by decide) ?h607,L2.jO (W.mg_of KX G ?h608),λ_ _=>.of_eq rfl,L2.wg (.cons L2.relT (.cons L2.relT (.cons L2.relT (.cons L2.relT (.cons L2.relT (.cons L2.relT (.cons L2.relT .nil))))))) (show 7<=PySem.sizeLine by decide) ?h609,L2.wg (.cons L2.relT (.cons L2.relT .nil)) (show 2<=PySem.sizeLine by decide) ?h610⟩⟩
   case h0 | h1 | h2 | h3 | h4 | h5 | h6 | h7 | h8 | h9 | h10 | h11 | h12 | h13 | h14 | h15 | h16 | h17 | h18 | h19 | h20 | h21 | h22 | h23 | h24 | h25 | h26 | h27 | h28 | h29 | h30 | h31 | h32 | h33 | h34 | h35 | h36 | h37 | h38 | h39 | h40 | h41 | h42 | h43 | h44 | h45 | h46 | h47 | h48 | h49 | h50 | h51 | h52 | h53 | h54 | h55 | h56 | h57 | h58 | h59 | h60 | h61 | h62 | h63 | h64 | h65 | h66 | h67 | h68 | h69 | h70 | h71 | h72 | h73 | h74 | h75 | h76 | h77 | h78 | h79 | h80 | h81 | h82 | h83 | h84 | h85 | h86 | h87 | h88 | h89 | h90 | h91 | h92 | h93 | h94 | h95 | h96 | h97 | h98 | h99 | h100 | h101 | h102 | h103 | h104 | h105 | h106 | h107 | h108 | h109 | h110 | h111 | h112 | h113 | h114 | h115 | h116 | h117 | h118 | h119 | h120 | h121 | h122 | h123 | h124 | h125 | h126 | h127 | h128 | h129 | h130 | h131 | h132 | h133 | h134 | h135 | h136 | h137 | h138 | h139 | h140 | h141 | h142 | h143 | h144 | h145 | h146 | h147 | h148 | h149 | h150 | h151 | h152 | h153 | h154 | h155 | h156 | h157 | h158 | h159 | h160 | h161 | h162 | h163 | h164 | h165 | h166 | h167 | h168 | h169 | h170 | h171 | h172 | h173 | h174 | h175 | h176 | h177 | h178 | h179 | h180 | h181 | h182 | h183 | h184 | h185 | h186 | h187 | h188 | h189 | h190 | h191 | h192 | h193 | h194 | h195 | h196 | h197 | h198 | h199 | h200 | h201 | h202 | h203 | h204 | h205 | h206 | h207 | h208 | h209 | h210 | h211 | h212 | h213 | h214 | h215 | h216 | h217 | h218 | h219 | h220 | h221 | h222 | h223 | h224 | h225 | h226 | h227 | h228 | h229 | h230 | h231 | h232 | h233 | h234 | h235 | h236 | h237 | h238 | h239 | h240 | h241 | h242 | h243 | h244 | h245 | h246 | h247 | h248 | h249 | h250 | h251 | h252 | h253 | aRow_add | iRow_add | lRow_add | cRow_add | kRow_add | dRow_add | h260 | h261 | h262 | h263 | h264 | h265 | h266 | h267 | h268 | h269 | h270 | h271 | h272 | h273 | h274 | h275 | h276 | h277 | h278 | h279 | h280 | h281 | h282 | h283 | h284 | h285 | h286 | h287 | h288 | h289 | h290 | h291 | h292 | h293 | h294 | h295 | h296 | h297 | h298 | h299 | h300 | h301 | h302 | h303 | h304 | h305 | h306 | h307 | h308 | h309 | h310 | h311 | h312 | h313 | h314 | h315 | h316 | h317 | h318 | h319 | h320 | h321 | h322 | h323 | h324 | h325 | h326 | h327 | h328 | h329 | h330 | h331 | h332 | h333 | h334 | h335 | h336 | h337 | h338 | h339 | h340 | h341 | h342 | h343 | h344 | h345 | h346 | h347 | h348 | h349 | h350 | h351 | h352 | h353 | h354 | h355 | h356 | h357 | h358 | h359 | h360 | h361 | h362 | h363 | h364 | h365 | h366 | h367 | h368 | h369 | h370 | h371 | h372 | h373 | h374 | h375 | h376 | aCellar_put | iCellar_put | lCellar_put | cCellar_put | kCellar_put | dCellar_put | aCellar_read | iCellar_read | lCellar_read | cCellar_read | kCellar_read | dCellar_read | h389 | h390 | h391 | h392 | h393 | h394 | h395 | h396 | h397 | h398 | h399 | h400 | h401 | h402 | h403 | h404 | h405 | h406 | h407 | h408 | h409 | h410 | h411 | h412 | h413 | h414 | h415 | h416 | h417 | h418 | h419 | h420 | h421 | h422 | h423 | h424 | h425 | h426 | h427 | h428 | h429 | h430 | h431 | h432 | h433 | h434 | h435 | h436 | h437 | h438 | h439 | h440 | h441 | h442 | h443 | h444 | h445 | h446 | h447 | h448 | h449 | h450 | h451 | h452 | h453 | h454 | h455 | h456 | h457 | h458 | h459 | h460 | h461 | h462 | h463 | h464 | h465 | h466 | h467 | h468 | h469 | h470 | h471 | h472 | h473 | h474 | h475 | h476 | h477 | h478 | h479 | h480 | h481 | h482 | h483 | h484 | h485 | h486 | h487 | h488 | h489 | h490 | h491 | h492 | h493 | h494 | h495=>((try dsimp only);show _=_;k_is)
   case h496=>((try dsimp only);show _=_;kernel_rfl)
   case h497 | h498 | h499 | h500 | h501 | h502=>((try dsimp only);show _=_;k_is)
   case h503 | h504 | h505 | h506 | h507 | h508=>((try dsimp only);show _=_;kernel_rfl)
   case h509 | h510 | h511 | h512 | h513 | h514=>((try dsimp only);show _=_;k_is)
   case h515 | h516 | h517 | h518 | h519 | h520=>((try dsimp only);show _=_;kernel_rfl)
   case h521 | h522 | h523 | h524 | h525 | h526=>((try dsimp only);show _=_;k_is)
   case h527 | h528 | h529 | h530 | h531 | h532=>((try dsimp only);show _=_;kernel_rfl)
   case h533 | h534 | h535 | h536 | h537 | h538=>((try dsimp only);show _=_;k_is)
   case h539 | h540 | h541 | h542 | h543 | h544=>((try dsimp only);show _=_;kernel_rfl)
   case h545 | h546 | h547 | h548 | h549 | h550=>((try dsimp only);show _=_;k_is)
   case h551 | h552 | h553 | h554 | h555 | h556=>((try dsimp only);show _=_;kernel_rfl)
   case h557 | h558 | h559 | h560 | h561 | h562=>((try dsimp only);show _=_;k_is)
   case h563 | h564 | h565 | h566 | h567=>((try dsimp only);show _=_;kernel_rfl)
   case h568 | h569 | h570 | h571 | h572 | h573 | h574 | h575 | h576 | h577 | h578 | h579 | h580 | h581 | h582 | h583 | h584 | h585 | h586 | h587=>((try dsimp only);show _=_;k_is)
   case h588=>repeat (first | exact L2.StrEnts.nil | refine L2.StrEnts.cons ?_)
   case h589 | h590=>rfl
   case h591 | h592 | h593 | h594 | h595 | h596 | h597 | h598=>((try dsimp only);show _=_;k_is)
   case h599=>repeat (first | exact L2.StrEnts.nil | refine L2.StrEnts.cons ?_)
   case h600 | h601=>rfl
   case h602 | h603 | h604 | h605 | h606 | h607 | h608 | h609 | h610=>((try dsimp only);show _=_;k_is)
  obtain⟨t,T⟩:=T
  have e0:=hmg.symm.trans T.Dr.m
  cases e0
  exact⟨_,T.EC,λbase kb nb=>K72.ED T⟩
#print axioms PySem.Challenge.cw_lettercell_k72_numbers_sent_again_holds
