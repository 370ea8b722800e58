/- DevPlays: the switch of its round, taken out of the law's code. -/
import Derived.Test.YtlnocdmechidfaaRefDevP
import Derived.Deep.DeepCutAuto
import Derived.BigQuiet
import Derived.Deep.QuietTactic
import Derived.Test.YtlnocdmechidfaaRegionV
namespace Go.Proofs.Ytlnocdmechidfaa.Dev
open Go Go.RowKit Go.Proofs.Ytlnocdmechidfaa
set_option linter.unusedVariables false

theorem run_minc (P : Program) (w : World) (t : TypeId) (ts : Array TypeId) (a c : Nat) : (Builtin.min_ ts t #[.int .i64 (a : Nat), .int .i64 (c : Nat)]).run P w = .ok (.int .i64 ((min a c : Nat) : Int)) w := by
  have e : ∀ a b : Nat, (if (b : Int) < a then (b : Int) else a) = ((min a b : Nat) : Int) := by intro a b; split <;> omega
  simp only [Builtin.min_, Builtin.min2, List.foldlM, Sem.run_bind, Sem.run_pure, Result.andThen]
  rw [e]
def DuetB (ab : Nat) (cs : List Value) (w0 : World) (p m : Nat) (D D' : Dv) (b c : Bool) (w : World) : Prop := Duet ab cs w0 p m (if b then D' else D) (if c then D' else D) w
theorem DuetB.later {ab : Nat} {cs : List Value} {w0 w w' : World} {p m : Nat} {D D' : Dv} {b c : Bool} (h : DuetB ab cs w0 p m D D' b c w) (hb : Below w.heap.size w w') : DuetB ab cs w0 p m D D' b c w' := Duet.later h hb
theorem DuetB.cell {ab : Nat} {cs : List Value} {w0 w : World} {p m : Nat} {D D' : Dv} {b c : Bool} (h : DuetB ab cs w0 p m D D' b c w) (i : Nat) : w.cell? ⟨ab, i, none⟩ = cs[i]? := h.2.cell i
theorem write_bd {ab : Nat} {cs : List Value} {w0 w : World} {p m : Nat} {D : Dv} {i : Int} {s : ByteArray} {c : Bool} (h : DuetB ab cs w0 p m D (D.writeD i s) false c w) (hl : D.cache.length ≤ 60) (hs : s.size ≤ 1000000000) :
    Calls Try.prog 7 #[.pointer (some ⟨p, 0, none⟩), .int .i64 i, .string s] w fun e w' => e = .returned (.int .i64 (D.writeE i s)) ∧ DuetB ab cs w0 p m D (D.writeD i s) true c w' :=
  write_d (D := D) h (by omega) hs
theorem write_br {ab : Nat} {cs : List Value} {w0 w : World} {p m : Nat} {D : Dv} {i : Int} {s : ByteArray} {b : Bool} (h : DuetB ab cs w0 p m D (D.writeD i s) b false w) (hl : D.cache.length ≤ 60) (hs : s.size ≤ 1000000000) :
    Calls Try.prog 9 #[.pointer (some ⟨m, 0, none⟩), .int .i64 i, .string s] w fun e w' => e = .returned (.int .i64 (D.writeE i s)) ∧ DuetB ab cs w0 p m D (D.writeD i s) b true w' :=
  write_r (E := D) h (by omega) hs
def StrayB (ab : Nat) (cs : List Value) (w0 : World) (p m : Nat) (D : Dv) (ln : Nat) (x : Int) (b c : Bool) (w : World) : Prop := Duet ab cs w0 p m { D with stray := ln, tgt := x } { D with stray := if b then ln else D.stray, tgt := if c then x else D.tgt } w
theorem StrayB.six {ab : Nat} {cs : List Value} {w0 w : World} {p m : Nat} {D : Dv} {ln : Nat} {x : Int} {c : Bool} (h : StrayB ab cs w0 p m D ln x false c w) (hl : ln ≤ 9223372036854775807) : StrayB ab cs w0 p m D ln x true c (w.setCell ⟨m, 6, none⟩ (.int .i64 (ln : Int))) :=
  Duet.set h 6 _ (fun B rv => rfl) rfl rfl (fun ok => ⟨ok.n8, ok.n4096, ok.s128, ok.s1024, ok.media, ok.text, ok.sector, ok.fuse, ok.lose, hl⟩)
theorem StrayB.seven {ab : Nat} {cs : List Value} {w0 w : World} {p m : Nat} {D : Dv} {ln : Nat} {x : Int} {b : Bool} (h : StrayB ab cs w0 p m D ln x b false w) : StrayB ab cs w0 p m D ln x b true (w.setCell ⟨m, 7, none⟩ (.int .i64 x)) :=
  Duet.set h 7 _ (fun B rv => rfl) rfl rfl (fun ok => ⟨ok.n8, ok.n4096, ok.s128, ok.s1024, ok.media, ok.text, ok.sector, ok.fuse, ok.lose, ok.stray⟩)

/-- The first block of a number in a code. -/
def blockOf (n : Nat) : Code → Option Code
  | .block k c => match Nat.beq k n with
    | true => some (.block k c)
    | false => blockOf n c
  | .loop c => blockOf n c
  | .scope c => blockOf n c
  | .seq a b => match blockOf n a with
    | some c => some c
    | none => blockOf n b
  | .cond _ a b => match blockOf n a with
    | some c => some c
    | none => blockOf n b
  | _ => none
noncomputable def switch : Code := ((Try.f3.body.bind (blockOf 2)).getD .skip)
end Go.Proofs.Ytlnocdmechidfaa.Dev
