/-
  Layer 14, in plain words: the first 64 bits behind the point of the roots of primes: the numbers, held against the loops of the code and of the document.
-/
import Derived.Test.YthcnnglpncblaaaShaConst
import Derived.Test.YthcnnglpncblaaaShbPlain
namespace Go.Proofs.Ythcnnglpncblaaa.B
set_option linter.unusedVariables false
set_option maxRecDepth 8192

/-- The first 64 bits behind the point of the cube roots of the first 80 primes. -/
def KL : List Nat := [4794697086780616226, 8158064640168781261, 13096744586834688815, 16840607885511220156, 4131703408338449720, 6480981068601479193, 10538285296894168987, 12329834152419229976, 15566598209576043074, 1334009975649890238, 2608012711638119052, 6128411473006802146, 8268148722764581231, 9286055187155687089, 11230858885718282805, 13951009754708518548, 16472876342353939154, 17275323862435702243, 1135362057144423861, 2597628984639134821, 3308224258029322869, 5365058923640841347, 6679025012923562964, 8573033837759648693, 10970295158949994411, 12119686244451234320, 12683024718118986047, 13788192230050041572, 14330467153632333762, 15395433587784984357, 489312712824947311, 1452737877330783856, 2861767655752347644, 3322285676063803686, 5560940570517711597, 5996557281743188959, 7280758554555802590, 8532644243296465576, 9350256976987008742, 10552545826968843579, 11727347734174303076, 12113106623233404929, 14000437183269869457, 14369950271660146224, 15101387698204529176, 15463397548674623760, 17586052441742319658, 1182934255886127544, 1847814050463011016, 2177327727835720531, 2830643537854262169, 3796741975233480872, 4115178125766777443, 5681478168544905931, 6601373596472566643, 7507060721942968483, 8399075790359081724, 8693463985226723168, 9568029438360202098, 10144078919501101548, 10430055236837252648, 11840083180663258601, 13761210420658862357, 14299343276471374635, 14566680578165727644, 15097957966210449927, 16922976911328602910, 17689382322260857208, 500013540394364858, 748580250866718886, 1242879168328830382, 1977374033974150939, 2944078676154940804, 3659926193048069267, 4368137639120453308, 4836135668995329356, 5532061633213252278, 6448918945643986474, 6902733635092675308, 7801388544844847127]
/-- Of the square roots of the first 8. -/
def SL : List Nat := [7640891576956012808, 13503953896175478587, 4354685564936845355, 11912009170470909681, 5840696475078001361, 11170449401992604703, 2270897969802886507, 6620516959819538809]
def S0 : S8 := ⟨7640891576956012808, 13503953896175478587, 4354685564936845355, 11912009170470909681, 5840696475078001361, 11170449401992604703, 2270897969802886507, 6620516959819538809⟩

/-- x * y + sum + over, its lower word and its upper one. -/
def stLo (x y s o : Nat) : Nat := (x * y + s + o) % 18446744073709551616
def stHi (x y s o : Nat) : Nat := (x * y + s + o) / 18446744073709551616
/-- The square of whole + part / 2^64: three words. -/
def sqT (u p : Nat) : Nat := u * u + stHi (2 * u) p (p * p / 18446744073709551616) 0
def sqM (u p : Nat) : Nat := stLo (2 * u) p (p * p / 18446744073709551616) 0
def sqL (p : Nat) : Nat := p * p % 18446744073709551616
/-- Of the cube what stands ahead of the point. -/
def cb1 (u p : Nat) : Nat := stHi (sqL p) p 0 0
def cbF (u p : Nat) : Nat := stLo (sqM u p) p 0 (cb1 u p)
def cb2 (u p : Nat) : Nat := stHi (sqM u p) p 0 (cb1 u p)
def cbS (u p : Nat) : Nat := stLo (sqT u p) p 0 (cb2 u p)
def cb3 (u p : Nat) : Nat := stHi (sqT u p) p 0 (cb2 u p)
def cb4 (u p : Nat) : Nat := stHi (sqL p) u (cbF u p) 0
def cb5 (u p : Nat) : Nat := stHi (sqM u p) u (cbS u p) (cb4 u p)
def cbT (u p : Nat) : Nat := cb3 u p + sqT u p * u + cb5 u p

/-- The code's root: the whole part, then of bits from the highest on those that keep the power's top below the prime. -/
def whTo (f : Nat → Nat → Nat) (lim : Nat) : Nat → Nat
  | 0 => 0
  | n + 1 => bif Nat.blt (f (whTo f lim n + 1) 0) lim then whTo f lim n + 1 else whTo f lim n
def ptTo (f : Nat → Nat → Nat) (u lim : Nat) : Nat → Nat
  | 0 => 0
  | k + 1 => bif Nat.blt (f u (ptTo f u lim k ||| 2 ^ (63 - k))) lim then ptTo f u lim k ||| 2 ^ (63 - k) else ptTo f u lim k
theorem ptTo_lt (f : Nat → Nat → Nat) (u lim k : Nat) : ptTo f u lim k < 18446744073709551616 := by
  induction k with
  | zero => simp [ptTo]
  | succ k ih =>
    unfold ptTo
    have h1 : ptTo f u lim k ||| 2 ^ (63 - k) < 2 ^ 64 := Nat.or_lt_two_pow ih (Nat.pow_lt_pow_right (by decide) (by omega))
    cases Nat.blt (f u (ptTo f u lim k ||| 2 ^ (63 - k))) lim
    · exact ih
    · exact h1
/-- Whether u is the whole part. -/
def whOk (f : Nat → Nat → Nat) (lim u : Nat) : Bool := (List.range u).all (fun k => Nat.blt (f (k + 1) 0) lim) && !(Nat.blt (f (u + 1) 0) lim) && Nat.blt u 9
def rtB (f : Nat → Nat → Nat) (p : Nat) : Nat := ptTo f (whTo f p 8) p 64
/-- The document's root. -/
def frTo (pw lim : Nat) : Nat → Nat
  | 0 => 0
  | k + 1 => bif Nat.blt lim ((frTo pw lim k + 2 ^ (68 - k)) ^ pw) then frTo pw lim k else frTo pw lim k + 2 ^ (68 - k)
theorem SL_wh : ((prL.take 8).all (fun p => whOk sqT p (whTo sqT p 8))) = true := by decide +kernel
theorem KL_wh : ((prL.take 80).all (fun p => whOk cbT p (whTo cbT p 8))) = true := by decide +kernel
theorem SL_code : (prL.take 8).map (fun p => rtB sqT p) = SL := by decide +kernel
theorem KL_code : (prL.take 80).map (fun p => rtB cbT p) = KL := by decide +kernel
theorem SL_doc : (prL.take 8).map (fun p => frTo 2 (p * 65536 ^ 8) 69 % 18446744073709551616) = SL := by decide +kernel
theorem KL_doc : (prL.take 80).map (fun p => frTo 3 (p * 65536 ^ 12) 69 % 18446744073709551616) = KL := by decide +kernel
theorem KL_length : KL.length = 80 := by decide +kernel
theorem KL_lt : ∀ x ∈ KL, x < 18446744073709551616 := by decide +kernel
theorem S0_ok : S0.Ok := by constructor <;> decide +kernel
theorem S0_list : S0.list = SL := by decide +kernel

/-- The chapter's example. -/
theorem abc_sum : (sumL KL S0 [97, 98, 99])[0]?.getD 0 = 221 ∧ (sumL KL S0 [97, 98, 99])[1]?.getD 0 = 175 ∧ (sumL KL S0 [97, 98, 99])[63]?.getD 0 = 159 := by decide +kernel
end Go.Proofs.Ythcnnglpncblaaa.B
