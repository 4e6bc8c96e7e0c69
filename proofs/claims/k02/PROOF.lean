import PyProof.Rows.All
import Wide.All
import OpenK.AllK
import Wide.FinOn
import PyProof.EqAt
import PyProof.EqKinds
import PyProof.TupleCall
import HandS.ForExc
import HandS.ForMost
import HandS.Wide
import HandS.ExcCtx
import HandS.HotCalls
import HandS.ExcIs
import HandS.IsInst
import HandS.TryOnly
import HandS.Deep
import HandS.DeepEq
import HandS.TupAny
import HandS.TupLen
import HandS.Style
import PySem.Challenge.RW_vatmatch_k02_what_fractions_are
namespace Vm
/-! ### the greatest common divisor, lowest terms -/
def gI (a b : Int) : Int := ((Nat.gcd a.natAbs b.natAbs : Nat) : Int)
theorem gI_pos {a b : Int} (h : b ≠ 0) : 0 < gI a b := by
  have : 0 < Nat.gcd a.natAbs b.natAbs := Nat.gcd_pos_of_pos_right _ (Int.natAbs_pos.mpr h)
  unfold gI; omega
theorem gI_zero (a : Int) : gI a 0 = (a.natAbs : Int) := by
  unfold gI; simp
theorem gI_step {a b : Int} (ha : 0 ≤ a) (hb : 0 < b) : gI b (a % b) = gI a b := by
  unfold gI
  have e : (a % b).natAbs = a.natAbs % b.natAbs := by
    have h1 : ((a % b).natAbs : Int) = ((a.natAbs % b.natAbs : Nat) : Int) := by
      rw [Int.natCast_emod, Int.natAbs_of_nonneg ha, Int.natAbs_of_nonneg (Int.le_of_lt hb), Int.natAbs_of_nonneg (Int.emod_nonneg a (by omega))]
    exact Int.ofNat.inj h1
  rw [e, Nat.gcd_comm, ← Nat.gcd_rec, Nat.gcd_comm]
theorem gI_abs (a b : Int) : gI (if a < 0 then -a else a) (if b < 0 then -b else b) = gI a b := by
  unfold gI
  have e : ∀ x : Int, (if x < 0 then -x else x).natAbs = x.natAbs := fun x => by split <;> omega
  rw [e, e]
theorem gI_absL (a b : Int) : gI (if a < 0 then -a else a) b = gI a b := by
  unfold gI
  have e : ∀ x : Int, (if x < 0 then -x else x).natAbs = x.natAbs := fun x => by split <;> omega
  rw [e]
theorem gI_neg (a b : Int) : gI (-a) (-b) = gI a b := by
  unfold gI
  rw [Int.natAbs_neg, Int.natAbs_neg]
theorem gI_le {a b : Int} (h : b ≠ 0) : (gI a b).natAbs ≤ b.natAbs := by
  have := Nat.le_of_dvd (Int.natAbs_pos.mpr h) (Nat.gcd_dvd_right a.natAbs b.natAbs)
  unfold gI; omega
/-- in lowest terms -/
def lowM (t b : Int) : Int × Int := (t / gI t b, b / gI t b)
def frM (x y : Int) : Int × Int := if y < 0 then lowM (-x) (-y) else lowM x y
/-- the divisor that bears the bottom's sign -/
theorem fdiv_sign {x g : Int} (hg : 0 < g) : x.fdiv (-g) = (-x) / g := by
  have h := Int.neg_fdiv_neg (-x) g
  rw [Int.neg_neg] at h
  rw [h, Int.fdiv_eq_ediv_of_nonneg _ (by omega)]
theorem natAbs_div_le (a : Int) {g : Int} (h : 0 < g) : (a / g).natAbs ≤ a.natAbs := by
  have h1 : a / g * g + a % g = a := Int.ediv_mul_add_emod a g
  have h2 := Int.emod_nonneg a (show g ≠ 0 by omega)
  have h3 := Int.emod_lt_of_pos a h
  rcases Int.le_total 0 a with p | p
  · have q : 0 ≤ a / g := Int.ediv_nonneg p (by omega)
    have : a / g ≤ a / g * g := by
      have := Int.mul_le_mul_of_nonneg_left (show (1:Int) ≤ g by omega) q
      omega
    omega
  · have q : a / g ≤ 0 := by
      rcases Int.lt_or_le 0 (a / g) with z | z
      · have : 1 * g ≤ a / g * g := Int.mul_le_mul_of_nonneg_right (by omega) (by omega)
        omega
      · exact z
    have r : a ≤ a / g := by
      rw [Int.le_ediv_iff_mul_le h]
      have : a * g ≤ a * 1 := Int.mul_le_mul_of_nonpos_left p (by omega)
      omega
    omega
theorem lowM_bot {t b : Int} (h : 0 < b) : 0 < (lowM t b).2 := by
  have hg := gI_pos (a := t) (b := b) (by omega)
  obtain ⟨c, hc⟩ : ∃ c : Int, b = gI t b * c := by
    obtain ⟨c, hc⟩ := Nat.gcd_dvd_right t.natAbs b.natAbs
    refine ⟨(c : Int), ?_⟩
    unfold gI
    rw [← Int.natCast_mul, ← hc]
    omega
  show 0 < b / gI t b
  have e : b / gI t b = c := by
    conv => lhs; lhs; rw [hc]
    exact Int.mul_ediv_cancel_left _ (by omega)
  rw [e]
  rcases Int.lt_or_le 0 c with z | z
  · exact z
  · exfalso
    have := Int.mul_nonpos_of_nonneg_of_nonpos (show 0 ≤ gI t b by omega) z
    omega
theorem lowM_lt {t b : Int} {n : Nat} (h : b ≠ 0) (ht : t.natAbs < n) (hb : b.natAbs < n) : (lowM t b).1.natAbs < n ∧ (lowM t b).2.natAbs < n := by
  have hg := gI_pos (a := t) h
  exact ⟨Nat.lt_of_le_of_lt (natAbs_div_le t hg) ht, Nat.lt_of_le_of_lt (natAbs_div_le b hg) hb⟩
end Vm

set_option Elab.async false
set_option linter.all false
set_option maxRecDepth 100000
set_option maxHeartbeats 4000000
namespace Vm
open PySem PySem.Spec PyProof.Rows L2
def top (i : Nat) : Stmt := PySem.Challenge.pw_vatmatch_k02_what_fractions_are.main.body.getD i (.Pass ⟨0, 0, 0, 0⟩)
/-! ### rules of my own -/
section
variable {X : Cx}
/-- // by a divisor of either sign -/
theorem op_fdivG : OpR X (binaryOp .FloorDiv) (rI (fun _ j => j ≠ 0 ∧ j.natAbs.log2 < 9000) fun i j => .int (i.fdiv j)) :=
  opI fun _ _ _ _ _ _ _ hc q => floordiv_int hc.1 q (.inl (PyProof.noPylong_of_log2 hc.2))
end
/-! ### heaps -/
theorem same_new {H : Hp} {p : Addr} (h : H p = none) (o : HO) : Same H (upd H p o) := fun b u q => by
  rw [upd_ne (ne_of_none q h)]; exact q
/-- a purse -/
def Purse (H : Hp) (a : Addr) : Prop := ∃ s d c : Int, H a = some (.lst [.int s, .int d, .int c])
/-- all that was tracked is as it was, the purse at a aside, which still is one -/
def Kept (a : Addr) (H H' : Hp) : Prop := Purse H' a ∧ ∀ b o, b ≠ a → H b = some o → H' b = some o
theorem Kept.trans {a : Addr} {H H1 H2 : Hp} (x : Kept a H H1) (y : Kept a H1 H2) : Kept a H H2 := ⟨y.1, fun b o hb h => y.2 b o hb (x.2 b o hb h)⟩
theorem Kept.same {a : Addr} {H H1 H2 : Hp} (x : Kept a H H1) (y : Same H1 H2) : Kept a H H2 :=
  ⟨let ⟨s, d, c, h⟩ := x.1; ⟨s, d, c, y _ _ h⟩, fun b o hb h => y _ _ (x.2 b o hb h)⟩
theorem Kept.of_same {a : Addr} {H H1 : Hp} (p : Purse H a) (y : Same H H1) : Kept a H H1 :=
  ⟨let ⟨s, d, c, h⟩ := p; ⟨s, d, c, y _ _ h⟩, fun b o _ h => y _ _ h⟩
section
variable {P : Program} {w : World} {K : PySem.W.Frag} {mg : Str → Option Value} {base : Heap} {f : Addr} {fd : FuncData}
/-! ### common_divisor -/
abbrev sGcd : Stmt := top 5
theorem scGcd : FnScope ["a", "b"] ["a", "b"] (defScope sGcd) := ⟨rfl, rfl, rfl, by decide +kernel, rfl, by decide +kernel, by decide +kernel⟩
def spGcd : Sp := fun vs H Q _ => ∃ a b : Int, vs = [.int a, .int b] ∧ 0 ≤ a ∧ 0 ≤ b ∧ Q (.int (gI a b)) H
def mu2 (i : Nat) (σ : L2.St) (_ : Hp) : Nat := match σ[i]? with
  | some (some (.int b)) => b.toNat
  | _ => 0
theorem ok_gcd (F : Fun K "common_divisor" "common_divisor" sGcd f fd) : FnOk P w K mg base CX0 1 f fd ["a", "b"] spGcd := by
  refine F.ok scGcd (fun vs H Q E h => ?_) (fun cdv A outer s H vs Q E hr h => ?_)
  · obtain ⟨a, b, rfl, _⟩ := h
    rfl
  obtain ⟨a, b, rfl, ha, hb, q⟩ := h
  refine ⟨_, pss_cons (ps_while PassesOwn.never (pt_cmpR op_gt (pv 1) pe_int (nomark _))
      (pss_one (ps_par (i := 0) (j := 1) (by rfl) scGcd.nd rfl rfl (by decide) rfl rfl (pa_cons (pv 1) (pa_cons (pe_op op_mod (pv 0) (pv 1)) pa_nil)) (by rfl))))
    (pss_one (ps_ret (pv 0))), ?_⟩
  refine while_by (fun σ H' => ∃ x y : Int, σ = [some (.int x), some (.int y)] ∧ 0 ≤ x ∧ 0 ≤ y ∧ gI x y = gI a b ∧ H' = H) (mu2 1) ⟨a, b, rfl, ha, hb, rfl, rfl⟩ ?_ ?_
  · rintro σ H' ⟨x, y, rfl, hx, hy, e, rfl⟩
    refine ⟨_, rfl, _, _, rfl, rfl, _, rfl, ?_⟩
    refine ite2 (fun c => ?_) (fun c => ?_)
    · have c' : y > 0 := of_decide_eq_true c
      refine ⟨_, rfl, _, rfl, _, rfl, _, _, rfl, rfl, c', ?_⟩
      refine ⟨_, _, rfl, ⟨y, x % y, rfl, hy, Int.emod_nonneg x (by omega), (gI_step hx c').trans e, rfl⟩, ?_⟩
      show (x % y).toNat < y.toNat
      have := Int.emod_lt_of_pos x c'
      omega
    · have c' : ¬ y > 0 := of_decide_eq_false (Bool.eq_false_iff.mpr c)
      have y0 : y = 0 := by omega
      subst y0
      refine ⟨_, rfl, ?_⟩
      have e2 : x = gI a b := by rw [← e, gI_zero]; omega
      show Q (.int x) H'
      rw [e2]; exact q
  · intro σ H Q Q' h t
    obtain ⟨v, e, i, j, e1, e2, k, e3, q⟩ := t
    exact ⟨v, e, i, j, e1, e2, k, e3, h _ _ q⟩
end
end Vm

set_option Elab.async false
set_option linter.all false
set_option maxRecDepth 100000
set_option maxHeartbeats 4000000
namespace Vm
open PySem PySem.Spec PyProof.Rows L2
/-! ### errors that are let out -/
theorem passN {X : Cx} : Passes (L2N.CX X.prog X.w) X E0 := fun _ _ _ _ _ _ _ h => by
  obtain ⟨_, _, _, _, _, _, _, _, _, _, _, _, z⟩ := h
  exact z.elim
theorem takesN {X : Cx} : L2N.Takes X (fun _ _ _ _ => False) := fun _ _ x => by
  obtain ⟨_, _, _, _, _, _, _, _, _, _, _, _, _, _, _, _, z⟩ := x
  exact z.elim
/-- what is known of the error class at C, called x -/
structure ErrT (K : PySem.W.Frag) (mg : Str → Option Value) (x : Str) (C : Addr) : Prop where
  g : mg x = some (.ref C)
  x : PySem.W.excIn K C [.type "ValueError", .type "Exception", .type "BaseException", .type "object"] "ValueError.__new__" = true
  k : PySem.W.keepIn K (.ref C) = true
  b : PySem.W.subIn K (.ref C) (.type "BaseException") = some true
  t : PySem.W.typeIn K (.ref C) = some (.type "type")
section
variable {P : Program} {w : World} {K : PySem.W.Frag} {mg : Str → Option Value} {base : Heap} {f fG CN : Addr} {fd fdG : FuncData}
theorem okN {x qual : Str} {st : Stmt} {N ps : List Str} {k : Nat} {sp : Sp} (F : Fun K x qual st f fd) (S : FnScope N ps (defScope st)) (len : ∀ vs H Q E, sp vs H Q E → vs.length = ps.length)
    (body : ∀ (cdv : Value) (A : Around) (outer : List Env) (s : Shared) (H : Hp) (vs : List V) (Q : VK) (E : XK), Room k (A.deeper (envOfC qual (defScope st) s.heap.objs.size f cdv)) → sp vs H Q E →
      ∃ t, PSs (cxOf (L2N.CX P w) P w K mg base N qual (defScope st) f cdv A outer s H E) (defBody st) t ∧ t { nx := fun _ H' => Q .non H', rt := Q } (start N vs) H) :
    FnOk P w K mg base (L2N.CX P w) (k + 1) f fd ps sp := by
  obtain ⟨_, _, _, _, _, _, cdv, _, _, rfl, lk, hcd⟩ := F.ex
  refine fn_of lk hcd S len ?_
  intro A outer s H vs Q E hr hsp
  exact body cdv A outer s H vs Q E hr hsp
/-- of at most n bits -/
def Bits (n : Nat) (x : Int) : Prop := x.natAbs < 2 ^ n
theorem Bits.mul {a b : Nat} {x y : Int} (h1 : Bits a x) (h2 : Bits b y) : Bits (a + b) (x * y) := wide_lt h1 h2
theorem Bits.mono {a b : Nat} {x : Int} (h : Bits a x) (hl : a ≤ b) : Bits b x := Nat.lt_of_lt_of_le h (Nat.pow_le_pow_right (by decide) hl)
theorem Bits.add {a : Nat} {x y : Int} (h1 : Bits a x) (h2 : Bits a y) : Bits (a + 1) (x + y) := by
  unfold Bits at *
  rw [Nat.pow_succ]
  omega
theorem Bits.neg {a : Nat} {x : Int} (h : Bits a x) : Bits a (-x) := by
  unfold Bits at *
  rw [Int.natAbs_neg]
  exact h
theorem Bits.sub {a : Nat} {x y : Int} (h1 : Bits a x) (h2 : Bits a y) : Bits (a + 1) (x - y) := by
  rw [Int.sub_eq_add_neg]
  exact h1.add h2.neg
theorem Bits.le {a : Nat} {x y : Int} (h : Bits a y) (l : x.natAbs ≤ y.natAbs) : Bits a x := Nat.lt_of_le_of_lt l h
theorem Bits.okMul {a b : Nat} {x y : Int} (h1 : Bits a x) (h2 : Bits b y) (h0 : 0 < a) (h3 : 0 < b) (h : a + b ≤ 1000000) : CMulW x y := wide_mul h1 h2 h0 h3 h
/-! ### fraction -/
abbrev sFrac : Stmt := top 7
theorem scFrac : FnScope ["top", "bottom", "divisor"] ["top", "bottom"] (defScope sFrac) := ⟨rfl, rfl, rfl, by decide +kernel, rfl, by decide +kernel, by decide +kernel⟩
def tupF (z : Int × Int) : HO := .tup [.int z.1, .int z.2]
def spFrac (CN : Addr) : Sp := fun vs H Q E => ∃ x y : Int, vs = [.int x, .int y] ∧ Bits 4000 x ∧ Bits 4000 y ∧ (y = 0 → E (.ref CN) none H) ∧
  (y ≠ 0 → ∀ p H', Same H H' → H p = none → H' p = some (tupF (frM x y)) → Q (.ref p) H')
theorem abs_nn (x : Int) : 0 ≤ (if x < 0 then -x else x) := by split <;> omega
theorem log2_of {g : Int} {n : Nat} (h0 : 0 < n) (h : Bits n g) (h9 : n ≤ 9000) : g.natAbs.log2 < 9000 := Nat.lt_of_lt_of_le (PySem.Flt.log2_lt_of h0 h) h9
theorem ok_frac (F : Fun K "fraction" "fraction" sFrac f fd) (TN : ErrT K mg "NoNumber" CN) (G : FnOk P w K mg base CX0 1 fG fdG ["a", "b"] spGcd) (bG : Binds K fdG ["a", "b"] []) (kG : PySem.W.keepIn K (.ref fG) = true) (mG : mg "common_divisor" = some (.ref fG)) (mA : mg "abs" = none) :
    FnOk P w K mg base (L2N.CX P w) 2 f fd ["top", "bottom"] (spFrac CN) := by
  refine okN F scFrac (fun vs H Q E h => ?_) (fun cdv A outer s H vs Q E hr h => ?_)
  · obtain ⟨x, y, rfl, _⟩ := h
    rfl
  obtain ⟨x, y, rfl, hx, hy, hE, q⟩ := h
  refine ⟨_, pss_cons (ps_if (pt_cmpR op_eq (pv 1) pe_int (nomark _)) (pss_one (L2N.ps_raise rfl (L2N.takes_of rfl rfl rfl rfl) (L2N.pmk_own PySem.F.excBase_ValueError TN.x TN.g TN.k (raises_own TN.b TN.t) rfl))) pss_nil)
    (PSs.nox (pss_cons (ps_set (i := 2) scFrac.nd rfl (.inl rfl) (pe_call G hr rfl mG kG bG .nil pass0 (pa_cons (pe_callB call_abs rfl mA (by decide +kernel) (pa_cons (pv 0) pa_nil)) (pa_cons (pe_callB call_abs rfl mA (by decide +kernel) (pa_cons (pv 1) pa_nil)) pa_nil))))
    (pss_cons (ps_if (pt_cmpR op_lt (pv 1) pe_int (nomark _)) (pss_one (ps_set (i := 2) scFrac.nd rfl (.inl rfl) (pe_un un_neg (pv 2)))) pss_nil)
    (pss_one (ps_ret (pe_tup (pa_cons (pe_op op_fdivG (pv 0) (pv 2)) (pa_cons (pe_op op_fdivG (pv 1) (pv 2)) pa_nil)))))))), ?_⟩
  refine ⟨_, rfl, rfl, _, rfl, ?_⟩
  refine ite2 (fun c => ?_) (fun c => ?_)
  · have c' : V.int y = V.int 0 := of_decide_eq_true c
    cases c'
    exact hE rfl
  have y0 : y ≠ 0 := fun e => c (by subst e; exact decide_eq_true rfl)
  have hg : 0 < gI x y := gI_pos y0
  have hg2 : Bits 4000 (gI x y) := hy.le (gI_le y0)
  refine ⟨_, rfl, _, rfl, _, rfl, _, rfl, _, _, rfl, abs_nn x, abs_nn y, ?_⟩
  rw [gI_abs]
  refine ⟨_, rfl, _, _, rfl, rfl, _, rfl, ?_⟩
  refine ite2 (fun c => ?_) (fun c => ?_)
  · have c' : y < 0 := of_decide_eq_true c
    refine ⟨_, rfl, _, rfl, ?_⟩
    have d0 : (-gI x y) ≠ 0 := by omega
    have d1 : (-gI x y).natAbs.log2 < 9000 := by rw [Int.natAbs_neg]; exact log2_of (by decide) hg2 (by decide)
    refine ⟨_, rfl, _, rfl, _, _, rfl, rfl, ⟨d0, d1⟩, _, rfl, _, rfl, _, _, rfl, rfl, ⟨d0, d1⟩, (by show 2 ≤ sizeLine; decide), fun p hp => ?_⟩
    refine q y0 p _ (same_new hp _) hp ?_
    rw [upd_same]
    show some (HO.tup [.int (x.fdiv (-gI x y)), .int (y.fdiv (-gI x y))]) = _
    rw [fdiv_sign hg, fdiv_sign hg]
    unfold frM lowM tupF
    rw [if_pos c', gI_neg]
  · have c' : ¬ y < 0 := of_decide_eq_false (Bool.eq_false_iff.mpr c)
    have d0 : (gI x y) ≠ 0 := by omega
    have d1 : (gI x y).natAbs.log2 < 9000 := log2_of (by decide) hg2 (by decide)
    refine ⟨_, rfl, _, rfl, _, _, rfl, rfl, ⟨d0, d1⟩, _, rfl, _, rfl, _, _, rfl, rfl, ⟨d0, d1⟩, (by show 2 ≤ sizeLine; decide), fun p hp => ?_⟩
    refine q y0 p _ (same_new hp _) hp ?_
    rw [upd_same]
    show some (HO.tup [.int (x.fdiv (gI x y)), .int (y.fdiv (gI x y))]) = _
    rw [Int.fdiv_eq_ediv_of_nonneg _ (Int.le_of_lt hg), Int.fdiv_eq_ediv_of_nonneg _ (Int.le_of_lt hg)]
    unfold frM lowM tupF
    rw [if_neg c']
end
end Vm

set_option Elab.async false
set_option linter.all false
set_option maxRecDepth 100000
set_option maxHeartbeats 4000000
namespace Vm
open PySem PySem.Spec PyProof.Rows L2
/-- what is no list stays -/
def Nl (H H' : Hp) : Prop := ∀ b o, (∀ xs, o ≠ HO.lst xs) → H b = some o → H' b = some o
theorem Nl.of_same {H H' : Hp} (h : Same H H') : Nl H H' := fun b o _ e => h b o e
theorem Nl.of_kept {a : Addr} {H H' : Hp} (p : Purse H a) (h : Kept a H H') : Nl H H' := fun b o n e => by
  obtain ⟨s, d, c, q⟩ := p
  refine h.2 b o (fun z => ?_) e
  subst z
  rw [q] at e
  exact n _ (Option.some.inj e).symm
theorem Nl.trans {H H1 H2 : Hp} (a : Nl H H1) (b : Nl H1 H2) : Nl H H2 := fun c o n h => b c o n (a c o n h)
theorem Nl.sqT {K : PySem.W.Frag} {H H' : Hp} {a : Addr} {xs : List V} (e : Nl H H') (h : SqT K H a xs) : SqT K H' a xs := by
  rcases h with (h | ⟨o, h⟩) | h
  · exact .inl (.inl (e _ _ (fun _ z => nomatch z) h))
  · exact .inl (.inr ⟨o, e _ _ (fun _ z => nomatch z) h⟩)
  · exact .inr h
/-- a fraction at p -/
def Fr (K : PySem.W.Frag) (H : Hp) (p : Addr) (z : Int × Int) : Prop := SqT K H p [.int z.1, .int z.2]
theorem Fr.of {K : PySem.W.Frag} {H : Hp} {p : Addr} {z : Int × Int} (h : H p = some (tupF z)) : Fr K H p z := .inl (.inl h)
/-- of n bits, bottom above 0 -/
structure Sized (n : Nat) (z : Int × Int) : Prop where
  t : Bits n z.1
  b : Bits n z.2
  p : 0 < z.2
section
variable {P : Program} {w : World} {K : PySem.W.Frag} {mg : Str → Option Value} {base : Heap} {f fF CN : Addr} {fd fdF : FuncData}
def plusM (a b : Int × Int) : Int × Int := frM (a.1 * b.2 + b.1 * a.2) (a.2 * b.2)
def minusM (a b : Int × Int) : Int × Int := frM (a.1 * b.2 - b.1 * a.2) (a.2 * b.2)
def timesM (a b : Int × Int) : Int × Int := frM (a.1 * b.1) (a.2 * b.2)
def overM (a b : Int × Int) : Int × Int := frM (a.1 * b.2) (a.2 * b.1)
def spBin (K : PySem.W.Frag) (m : Int × Int → Int × Int → Int × Int) : Sp := fun vs H Q _ => ∃ (p r : Addr) (a b : Int × Int), vs = [.ref p, .ref r] ∧ Fr K H p a ∧ Fr K H r b ∧ Sized 1900 a ∧ Sized 1900 b ∧
  ∀ t H', Same H H' → H t = none → H' t = some (tupF (m a b)) → Q (.ref t) H'
def spOver (K : PySem.W.Frag) (CN : Addr) : Sp := fun vs H Q E => ∃ (p r : Addr) (a b : Int × Int), vs = [.ref p, .ref r] ∧ Fr K H p a ∧ Fr K H r b ∧ Sized 1900 a ∧ Sized 1900 b ∧ (b.1 = 0 → E (.ref CN) none H) ∧
  (b.1 ≠ 0 → ∀ t H', Same H H' → H t = none → H' t = some (tupF (overM a b)) → Q (.ref t) H')
def spBelow (K : PySem.W.Frag) : Sp := fun vs H Q _ => ∃ (p r : Addr) (a b : Int × Int), vs = [.ref p, .ref r] ∧ Fr K H p a ∧ Fr K H r b ∧ Sized 1900 a ∧ Sized 1900 b ∧
  Q (.bl (decide (a.1 * b.2 < b.1 * a.2))) H
abbrev sPlus : Stmt := top 8
abbrev sMinus : Stmt := top 9
abbrev sTimes : Stmt := top 10
abbrev sOver : Stmt := top 11
abbrev sBelow : Stmt := top 12
theorem scPlus : FnScope ["a", "b"] ["a", "b"] (defScope sPlus) := ⟨rfl, rfl, rfl, by decide +kernel, rfl, by decide +kernel, by decide +kernel⟩
theorem scMinus : FnScope ["a", "b"] ["a", "b"] (defScope sMinus) := ⟨rfl, rfl, rfl, by decide +kernel, rfl, by decide +kernel, by decide +kernel⟩
theorem scTimes : FnScope ["a", "b"] ["a", "b"] (defScope sTimes) := ⟨rfl, rfl, rfl, by decide +kernel, rfl, by decide +kernel, by decide +kernel⟩
theorem scOver : FnScope ["a", "b"] ["a", "b"] (defScope sOver) := ⟨rfl, rfl, rfl, by decide +kernel, rfl, by decide +kernel, by decide +kernel⟩
theorem scBelow : FnScope ["a", "b"] ["a", "b"] (defScope sBelow) := ⟨rfl, rfl, rfl, by decide +kernel, rfl, by decide +kernel, by decide +kernel⟩
theorem mulOk {x y : Int} (h1 : Bits 1900 x) (h2 : Bits 1900 y) : CMulW x y := h1.okMul h2 (by decide) (by decide) (by decide)
theorem bot_ne {a b : Int × Int} (h1 : Sized 1900 a) (h2 : Sized 1900 b) : a.2 * b.2 ≠ 0 := by
  have := Int.mul_pos h1.p h2.p
  omega
variable (G : FnOk P w K mg base (L2N.CX P w) 2 fF fdF ["top", "bottom"] (spFrac CN)) (bG : Binds K fdF ["top", "bottom"] []) (kG : PySem.W.keepIn K (.ref fF) = true) (mG : mg "fraction" = some (.ref fF))
include G bG kG mG
theorem ok_plus (F : Fun K "plus" "plus" sPlus f fd) : FnOk P w K mg base CX0 3 f fd ["a", "b"] (spBin K plusM) := by
  refine F.ok scPlus (fun vs H Q E h => ?_) (fun cdv A outer s H vs Q E hr h => ?_)
  · obtain ⟨p, r, a, b, rfl, _⟩ := h
    rfl
  obtain ⟨p, r, a, b, rfl, hp, hq, sa, sb, q⟩ := h
  refine ⟨_, pss_one (ps_ret (pe_call G hr rfl mG kG bG .nil passN (pa_cons (pe_op op_add
      (pe_op op_mulW (pe_ix ix_tup (pv 0) pe_int (fun _ _ => rfl)) (pe_ix ix_tup (pv 1) pe_int (fun _ _ => rfl)))
      (pe_op op_mulW (pe_ix ix_tup (pv 1) pe_int (fun _ _ => rfl)) (pe_ix ix_tup (pv 0) pe_int (fun _ _ => rfl))))
      (pa_cons (pe_op op_mulW (pe_ix ix_tup (pv 0) pe_int (fun _ _ => rfl)) (pe_ix ix_tup (pv 1) pe_int (fun _ _ => rfl))) pa_nil)))), ?_⟩
  refine ⟨_, rfl, p, _, _, _, rfl, rfl, hp, rfl, _, rfl, r, _, _, _, rfl, rfl, hq, rfl, _, _, rfl, rfl, mulOk sa.t sb.b, ?_⟩
  refine ⟨_, rfl, r, _, _, _, rfl, rfl, hq, rfl, _, rfl, p, _, _, _, rfl, rfl, hp, rfl, _, _, rfl, rfl, mulOk sb.t sa.b, ?_⟩
  refine ⟨_, _, rfl, rfl, ?_⟩
  refine ⟨_, rfl, p, _, _, _, rfl, rfl, hp, rfl, _, rfl, r, _, _, _, rfl, rfl, hq, rfl, _, _, rfl, rfl, mulOk sa.b sb.b, ?_⟩
  refine ⟨_, _, rfl, (((sa.t.mul sb.b).add (sb.t.mul sa.b)).mono (by decide)), (sa.b.mul sb.b).mono (by decide), fun z => (bot_ne sa sb z).elim, fun _ t H' s1 n1 e1 => ?_⟩
  exact q t H' s1 n1 e1
theorem ok_minus (F : Fun K "minus" "minus" sMinus f fd) : FnOk P w K mg base CX0 3 f fd ["a", "b"] (spBin K minusM) := by
  refine F.ok scMinus (fun vs H Q E h => ?_) (fun cdv A outer s H vs Q E hr h => ?_)
  · obtain ⟨p, r, a, b, rfl, _⟩ := h
    rfl
  obtain ⟨p, r, a, b, rfl, hp, hq, sa, sb, q⟩ := h
  refine ⟨_, pss_one (ps_ret (pe_call G hr rfl mG kG bG .nil passN (pa_cons (pe_op op_sub
      (pe_op op_mulW (pe_ix ix_tup (pv 0) pe_int (fun _ _ => rfl)) (pe_ix ix_tup (pv 1) pe_int (fun _ _ => rfl)))
      (pe_op op_mulW (pe_ix ix_tup (pv 1) pe_int (fun _ _ => rfl)) (pe_ix ix_tup (pv 0) pe_int (fun _ _ => rfl))))
      (pa_cons (pe_op op_mulW (pe_ix ix_tup (pv 0) pe_int (fun _ _ => rfl)) (pe_ix ix_tup (pv 1) pe_int (fun _ _ => rfl))) pa_nil)))), ?_⟩
  refine ⟨_, rfl, p, _, _, _, rfl, rfl, hp, rfl, _, rfl, r, _, _, _, rfl, rfl, hq, rfl, _, _, rfl, rfl, mulOk sa.t sb.b, ?_⟩
  refine ⟨_, rfl, r, _, _, _, rfl, rfl, hq, rfl, _, rfl, p, _, _, _, rfl, rfl, hp, rfl, _, _, rfl, rfl, mulOk sb.t sa.b, ?_⟩
  refine ⟨_, _, rfl, rfl, ?_⟩
  refine ⟨_, rfl, p, _, _, _, rfl, rfl, hp, rfl, _, rfl, r, _, _, _, rfl, rfl, hq, rfl, _, _, rfl, rfl, mulOk sa.b sb.b, ?_⟩
  refine ⟨_, _, rfl, (((sa.t.mul sb.b).sub (sb.t.mul sa.b)).mono (by decide)), (sa.b.mul sb.b).mono (by decide), fun z => (bot_ne sa sb z).elim, fun _ t H' s1 n1 e1 => ?_⟩
  exact q t H' s1 n1 e1
theorem ok_times (F : Fun K "times" "times" sTimes f fd) : FnOk P w K mg base CX0 3 f fd ["a", "b"] (spBin K timesM) := by
  refine F.ok scTimes (fun vs H Q E h => ?_) (fun cdv A outer s H vs Q E hr h => ?_)
  · obtain ⟨p, r, a, b, rfl, _⟩ := h
    rfl
  obtain ⟨p, r, a, b, rfl, hp, hq, sa, sb, q⟩ := h
  refine ⟨_, pss_one (ps_ret (pe_call G hr rfl mG kG bG .nil passN (pa_cons
      (pe_op op_mulW (pe_ix ix_tup (pv 0) pe_int (fun _ _ => rfl)) (pe_ix ix_tup (pv 1) pe_int (fun _ _ => rfl)))
      (pa_cons (pe_op op_mulW (pe_ix ix_tup (pv 0) pe_int (fun _ _ => rfl)) (pe_ix ix_tup (pv 1) pe_int (fun _ _ => rfl))) pa_nil)))), ?_⟩
  refine ⟨_, rfl, p, _, _, _, rfl, rfl, hp, rfl, _, rfl, r, _, _, _, rfl, rfl, hq, rfl, _, _, rfl, rfl, mulOk sa.t sb.t, ?_⟩
  refine ⟨_, rfl, p, _, _, _, rfl, rfl, hp, rfl, _, rfl, r, _, _, _, rfl, rfl, hq, rfl, _, _, rfl, rfl, mulOk sa.b sb.b, ?_⟩
  refine ⟨_, _, rfl, (sa.t.mul sb.t).mono (by decide), (sa.b.mul sb.b).mono (by decide), fun z => (bot_ne sa sb z).elim, fun _ t H' s1 n1 e1 => ?_⟩
  exact q t H' s1 n1 e1
theorem ok_over (F : Fun K "over" "over" sOver f fd) : FnOk P w K mg base (L2N.CX P w) 3 f fd ["a", "b"] (spOver K CN) := by
  refine okN F scOver (fun vs H Q E h => ?_) (fun cdv A outer s H vs Q E hr h => ?_)
  · obtain ⟨p, r, a, b, rfl, _⟩ := h
    rfl
  obtain ⟨p, r, a, b, rfl, hp, hq, sa, sb, hE, q⟩ := h
  refine ⟨_, pss_one (ps_ret (pe_call G hr rfl mG kG bG .nil (L2N.passes_call (L2N.takes_of rfl rfl rfl rfl) (fun _ _ _ _ z => z)) (pa_cons
      (pe_op op_mulW (pe_ix ix_tup (pv 0) pe_int (fun _ _ => rfl)) (pe_ix ix_tup (pv 1) pe_int (fun _ _ => rfl)))
      (pa_cons (pe_op op_mulW (pe_ix ix_tup (pv 0) pe_int (fun _ _ => rfl)) (pe_ix ix_tup (pv 1) pe_int (fun _ _ => rfl))) pa_nil)))), ?_⟩
  refine ⟨_, rfl, p, _, _, _, rfl, rfl, hp, rfl, _, rfl, r, _, _, _, rfl, rfl, hq, rfl, _, _, rfl, rfl, mulOk sa.t sb.b, ?_⟩
  refine ⟨_, rfl, p, _, _, _, rfl, rfl, hp, rfl, _, rfl, r, _, _, _, rfl, rfl, hq, rfl, _, _, rfl, rfl, mulOk sa.b sb.t, ?_⟩
  have pa := sa.p
  refine ⟨_, _, rfl, (sa.t.mul sb.b).mono (by decide), (sa.b.mul sb.t).mono (by decide), fun z => hE ?_, fun z t H' s1 n1 e1 => ?_⟩
  · rcases Int.mul_eq_zero.mp z with y | y
    · omega
    · exact y
  · exact q (fun e => z (by show a.2 * b.1 = 0; rw [e, Int.mul_zero])) t H' s1 n1 e1
omit G bG kG mG in
theorem ok_below (F : Fun K "below" "below" sBelow f fd) : FnOk P w K mg base CX0 1 f fd ["a", "b"] (spBelow K) := by
  refine F.ok scBelow (fun vs H Q E h => ?_) (fun cdv A outer s H vs Q E hr h => ?_)
  · obtain ⟨p, r, a, b, rfl, _⟩ := h
    rfl
  obtain ⟨p, r, a, b, rfl, hp, hq, sa, sb, q⟩ := h
  refine ⟨_, pss_one (ps_ret (pe_cmpR op_lt
      (pe_op op_mulW (pe_ix ix_tup (pv 0) pe_int (fun _ _ => rfl)) (pe_ix ix_tup (pv 1) pe_int (fun _ _ => rfl)))
      (pe_op op_mulW (pe_ix ix_tup (pv 1) pe_int (fun _ _ => rfl)) (pe_ix ix_tup (pv 0) pe_int (fun _ _ => rfl))) (nomark _))), ?_⟩
  refine ⟨_, rfl, p, _, _, _, rfl, rfl, hp, rfl, _, rfl, r, _, _, _, rfl, rfl, hq, rfl, _, _, rfl, rfl, mulOk sa.t sb.b, ?_⟩
  refine ⟨_, rfl, r, _, _, _, rfl, rfl, hq, rfl, _, rfl, p, _, _, _, rfl, rfl, hp, rfl, _, _, rfl, rfl, mulOk sb.t sa.b, ?_⟩
  exact ⟨_, _, rfl, rfl, q⟩
end
end Vm

set_option Elab.async false
set_option linter.all false
set_option maxRecDepth 100000
set_option maxHeartbeats 4000000
namespace Vm
open PySem PySem.Spec PyProof.Rows L2
section
variable {P : Program} {w : World} {K : PySem.W.Frag} {mg : Str → Option Value} {base : Heap} {f fT : Addr} {fd fdT : FuncData}
/-! ### a cell of the script -/
abbrev sCell : Stmt := top 14
theorem scCell : FnScope ["_law_script", "_law_k", "_law_state", "_law_cell_here"] ["_law_script", "_law_k"] (defScope sCell) := ⟨rfl, rfl, rfl, by decide +kernel, rfl, by decide +kernel, by decide +kernel⟩
def spCellV (K : PySem.W.Frag) : Sp := fun vs H Q _ => ∃ (a : Addr) (ns : List Int) (k : Int), vs = [.ref a, .int k] ∧ SqL K H a (ns.map V.int) ∧ 0 ≤ k ∧ k < 100 ∧ ∀ n H', Same H H' → Q (.int n) H'
theorem cut_mem {ns : List Int} {lo hi : Option Int} {i : Nat} {x : V} (h : (cutV (ns.map V.int) lo hi)[i]? = some x) : ∃ n : Int, x = .int n := by
  have h1 := List.mem_of_getElem? h
  unfold cutV at h1
  have h2 := List.mem_of_mem_drop (List.mem_of_mem_take h1)
  obtain ⟨n, _, e⟩ := List.mem_map.mp h2
  exact ⟨n, e.symm⟩
theorem ok_cellV (F : Fun K "_law_cell" "_law_cell" sCell f fd) (ml : mg "len" = none) : FnOk P w K mg base CX0 1 f fd ["_law_script", "_law_k"] (spCellV K) := by
  refine F.ok scCell (fun vs H Q E h => ?_) (fun cdv A outer s H vs Q E hr h => ?_)
  · obtain ⟨a, ns, k, rfl, _⟩ := h
    rfl
  obtain ⟨a, ns, k, rfl, hS, h0, h1, q⟩ := h
  refine ⟨_, pss_cons (ps_if (pt_cmpR op_lt (pv 1) (pe_callB call_len_seq rfl ml PySem.boot_len (pa_cons (pv 0) pa_nil)) (nomark _)) (pss_one (ps_ret (pe_ix ix_list (pv 0) (pv 1) (fun _ _ => rfl)))) pss_nil)
    (pss_cons (ps_set (i := 2) scCell.nd rfl (.inl rfl) (pe_op op_mul (pe_op op_mul pe_int (pe_op op_add (pv 1) pe_int)) (pe_op op_add (pv 1) pe_int)))
    (pss_cons (ps_for PassesOwn.never rfl (pi_list (pe_slice sl_list (pv 0) po_none (po_some pe_int))) (pg_name (i := 3) scCell.nd rfl (.inl rfl))
      (pss_one (ps_set (i := 2) scCell.nd rfl (.inl rfl) (pe_op op_mod (pe_op op_add (pe_op op_mul (pv 2) pe_int) (pv 3)) pe_int))))
    (pss_one (ps_ret (pv 2))))), ?_⟩
  have hl : (ns.map V.int).length = ns.length := List.length_map _
  refine ⟨_, rfl, _, rfl, a, _, rfl, .inl hS, _, _, rfl, rfl, _, rfl, ?_⟩
  refine ite2 (fun c => ?_) (fun c => ?_)
  · have c' : k < (((ns.map V.int).length : Nat) : Int) := of_decide_eq_true c
    rw [hl] at c'
    have hk : k.toNat < ns.length := by omega
    have e : atI (ns.map V.int) ((k.toNat : Nat) : Int) = some (.int ns[k.toNat]) := atI_nat (by rw [List.getElem?_map, List.getElem?_eq_getElem hk] <;> rfl)
    rw [show ((k.toNat : Nat) : Int) = k by omega] at e
    exact ⟨_, rfl, _, rfl, a, _, _, _, rfl, rfl, hS, e, q _ H (Same.refl H)⟩
  · refine ⟨_, rfl, _, _, rfl, rfl, _, _, rfl, rfl, .inl ⟨by decide, by decide⟩, _, rfl, _, _, rfl, rfl, _, _, rfl, rfl, .inr ⟨by omega, by omega⟩, ?_⟩
    refine ⟨_, rfl, _, rfl, a, _, rfl, hS, fun p hp => ?_⟩
    refine ⟨p, rfl, ⟨_, SqL.of upd_same⟩, ?_⟩
    refine for_list (xs := cutV (ns.map V.int) none (some 4)) (fun i σ H' => ∃ (st : Int) (kv : Option V), σ = [some (.ref a), some (.int k), some (.int st), kv] ∧ Same (upd H p (.lst (cutV (ns.map V.int) none (some 4)))) H') ⟨_, none, rfl, Same.refl _⟩ ?_ ?_ ?_
    · rintro i σ H' _ ⟨st, kv, rfl, sm⟩
      exact SqL.of (sm _ _ upd_same)
    · rintro i x σ H' hx ⟨st, kv, rfl, sm⟩
      obtain ⟨n, rfl⟩ := cut_mem hx
      refine ⟨_, rfl, _, _, rfl, rfl, .inr ⟨by decide, by decide⟩, _, rfl, _, _, rfl, rfl, _, _, rfl, rfl, (by show (0 : Int) < _; decide), ?_⟩
      exact ⟨_, _, rfl, sm⟩
    · rintro σ H' ⟨st, kv, rfl, sm⟩
      exact ⟨_, rfl, q st H' ((same_new hp _).trans sm)⟩
/-! ### a purse -/
abbrev sPurse : Stmt := top 15
theorem scPurse : FnScope ["_law_cell_here", "_law_digits"] ["_law_cell_here"] (defScope sPurse) := ⟨rfl, rfl, rfl, by decide +kernel, rfl, by decide +kernel, by decide +kernel⟩
def spPurse : Sp := fun vs H Q _ => ∃ n : Int, vs = [.int n] ∧ ∀ p H', Same H H' → H p = none → Purse H' p → Q (.ref p) H'
theorem ok_purse (F : Fun K "_law_purse" "_law_purse" sPurse f fd) (mA : mg "abs" = none) : FnOk P w K mg base CX0 1 f fd ["_law_cell_here"] spPurse := by
  refine F.ok scPurse (fun vs H Q E h => ?_) (fun cdv A outer s H vs Q E hr h => ?_)
  · obtain ⟨n, rfl, _⟩ := h
    rfl
  obtain ⟨n, rfl, q⟩ := h
  refine ⟨_, pss_cons (ps_set (i := 1) scPurse.nd rfl (.inl rfl) pe_int)
    (pss_cons (ps_if (PW.pt (pw_or (pt_cmpR op_lt (pv 0) pe_int (nomark _)) (pw_or1 (pt_cmpR op_ge (pv 0) (pe_op op_pow pe_int pe_int) (nomark _)))))
      (pss_one (ps_set (i := 1) scPurse.nd rfl (.inl rfl) (pe_callB call_abs rfl mA (by decide +kernel) (pa_cons (pv 0) pa_nil)))) pss_nil)
    (pss_one (ps_ret (pe_lst (pa_cons (pe_op op_mod (pv 0) pe_int) (pa_cons (pv 1) (pa_cons pe_int pa_nil))))))), ?_⟩
  have fin : ∀ d : Int, tRet (tLst (tCons (tOp (rI (fun _ j => 0 < j) fun i j => .int (i % j)) (tVar 0) (tC (.int 2147483563))) (tCons (tVar 1) (tCons (tC (.int 0)) tNil)))) { nx := fun _ H' => Q .non H', rt := Q } [some (.int n), some (.int d)] H := fun d => by
    refine ⟨_, rfl, _, _, rfl, rfl, (by show (0 : Int) < _; decide), _, rfl, (by show 3 ≤ sizeLine; decide), fun p hp => ?_⟩
    exact q p _ (same_new hp _) hp ⟨_, _, _, upd_same⟩
  refine ⟨_, rfl, _, _, rfl, rfl, _, rfl, ?_⟩
  refine ite2 (fun c => ?_) (fun c => ?_)
  · exact ⟨_, rfl, _, rfl, fin _⟩
  · refine ⟨_, rfl, _, _, rfl, rfl, ⟨by decide, by decide, by decide⟩, _, _, rfl, rfl, _, rfl, ?_⟩
    refine ite2 (fun c => ?_) (fun c => ?_)
    · exact ⟨_, rfl, _, rfl, fin _⟩
    · exact fin _
/-! ### a draw -/
abbrev sTake : Stmt := top 16
theorem scTake : FnScope ["_law_purse_here", "_law_many", "_law_state", "_law_taken"] ["_law_purse_here", "_law_many"] (defScope sTake) := ⟨rfl, rfl, rfl, by decide +kernel, rfl, by decide +kernel, by decide +kernel⟩
def spTake : Sp := fun vs H Q _ => ∃ (a : Addr) (m : Int), vs = [.ref a, .int m] ∧ Purse H a ∧ 0 < m ∧ m < 1073741824 ∧ ∀ t H', 0 ≤ t → t < m → Kept a H H' → Q (.int t) H'
theorem ok_take (F : Fun K "_law_take" "_law_take" sTake f fd) : FnOk P w K mg base CX0 1 f fd ["_law_purse_here", "_law_many"] spTake := by
  refine F.ok scTake (fun vs H Q E h => ?_) (fun cdv A outer s H vs Q E hr h => ?_)
  · obtain ⟨a, m, rfl, _⟩ := h
    rfl
  obtain ⟨a, m, rfl, ⟨s0, d0, c0, hp⟩, m0, m1, q⟩ := h
  refine ⟨_, pss_cons (ps_asg (pe_op op_add (pe_ix ix_list (pv 0) pe_int (fun _ _ => rfl)) pe_int) (pg_sub (pv 0) pe_int set_list))
    (pss_cons (ps_set (i := 2) scTake.nd rfl (.inl rfl) (pe_ix ix_list (pv 0) pe_int (fun _ _ => rfl)))
    (pss_cons (ps_asg (pe_op op_mod (pe_op op_add (pe_op op_mul (pv 2) (pe_op op_add (pe_op op_mod (pv 2) pe_int) pe_int)) (pe_op op_mul pe_int (pe_ix ix_list (pv 0) pe_int (fun _ _ => rfl)))) pe_int) (pg_sub (pv 0) pe_int set_list))
    (pss_cons (ps_if (pt_cmpR op_gt (pe_ix ix_list (pv 0) pe_int (fun _ _ => rfl)) pe_int (nomark _))
      (pss_cons (ps_set (i := 3) scTake.nd rfl (.inl rfl) (pe_op op_mod (pe_ix ix_list (pv 0) pe_int (fun _ _ => rfl)) (pv 1)))
      (pss_cons (ps_asg (pe_op op_fdiv (pe_ix ix_list (pv 0) pe_int (fun _ _ => rfl)) (pv 1)) (pg_sub (pv 0) pe_int set_list))
      (pss_one (ps_ret (pv 3))))) pss_nil)
    (pss_one (ps_ret (pe_op op_mod (pe_op op_fdiv (pe_ix ix_list (pv 0) pe_int (fun _ _ => rfl)) pe_int) (pv 1))))))), ?_⟩
  refine ⟨_, rfl, a, _, _, _, rfl, rfl, SqL.of hp, rfl, _, _, rfl, rfl, _, rfl, a, _, _, _, rfl, rfl, hp, rfl, ?_⟩
  have k1 : Kept a H (upd H a (.lst [.int s0, .int d0, .int (c0 + 1)])) := ⟨⟨_, _, _, upd_same⟩, fun b o hb e => by rw [upd_ne hb]; exact e⟩
  have e1 : upd H a (.lst [.int s0, .int d0, .int (c0 + 1)]) a = some (.lst [.int s0, .int d0, .int (c0 + 1)]) := upd_same
  revert k1 e1
  show _ → _ → tSeq _ _ _ _ (upd H a (.lst [.int s0, .int d0, .int (c0 + 1)]))
  generalize upd H a (.lst [.int s0, .int d0, .int (c0 + 1)]) = H1
  intro k1 e1
  refine ⟨_, rfl, a, _, _, _, rfl, rfl, SqL.of e1, rfl, ?_⟩
  have b1 := Int.emod_nonneg s0 (show (45989 : Int) ≠ 0 by decide)
  have b2 := Int.emod_lt_of_pos s0 (show (0 : Int) < 45989 by decide)
  refine ⟨_, rfl, _, rfl, _, _, rfl, rfl, (by show (0 : Int) < _; decide), _, _, rfl, rfl, _, _, rfl, rfl, .inr ⟨by omega, by omega⟩, _, rfl, a, _, _, _, rfl, rfl, SqL.of e1, rfl, _, _, rfl, rfl, .inl ⟨by decide, by decide⟩, _, _, rfl, rfl, _, _, rfl, rfl, (by show (0 : Int) < _; decide), _, rfl, a, _, _, _, rfl, rfl, e1, rfl, ?_⟩
  have k2 : Kept a H (upd H1 a (.lst [.int ((s0 * (s0 % 45989 + 28019) + 104723 * (c0 + 1)) % 2147483563), .int d0, .int (c0 + 1)])) := k1.trans ⟨⟨_, _, _, upd_same⟩, fun b o hb e => by rw [upd_ne hb]; exact e⟩
  have e2 : upd H1 a (.lst [.int ((s0 * (s0 % 45989 + 28019) + 104723 * (c0 + 1)) % 2147483563), .int d0, .int (c0 + 1)]) a = some (.lst [.int ((s0 * (s0 % 45989 + 28019) + 104723 * (c0 + 1)) % 2147483563), .int d0, .int (c0 + 1)]) := upd_same
  revert k2 e2
  show _ → _ → tSeq _ _ _ _ (upd H1 a (.lst [.int ((s0 * (s0 % 45989 + 28019) + 104723 * (c0 + 1)) % 2147483563), .int d0, .int (c0 + 1)]))
  generalize upd H1 a (.lst [.int ((s0 * (s0 % 45989 + 28019) + 104723 * (c0 + 1)) % 2147483563), .int d0, .int (c0 + 1)]) = H2
  intro k2 e2
  refine ⟨_, rfl, a, _, _, _, rfl, rfl, SqL.of e2, rfl, _, _, rfl, rfl, _, rfl, ?_⟩
  refine ite2 (fun c => ?_) (fun c => ?_)
  · refine ⟨_, rfl, a, _, _, _, rfl, rfl, SqL.of e2, rfl, _, rfl, _, _, rfl, rfl, m0, ?_⟩
    refine ⟨_, rfl, a, _, _, _, rfl, rfl, SqL.of e2, rfl, _, rfl, _, _, rfl, rfl, ⟨m0, m1⟩, _, rfl, a, _, _, _, rfl, rfl, e2, rfl, ?_⟩
    refine ⟨_, rfl, q _ _ (Int.emod_nonneg _ (by omega)) (Int.emod_lt_of_pos _ m0) (k2.trans ⟨⟨_, _, _, upd_same⟩, fun b o hb e => by rw [upd_ne hb]; exact e⟩)⟩
  · refine ⟨_, rfl, a, _, _, _, rfl, rfl, SqL.of e2, rfl, _, _, rfl, rfl, ⟨by decide, by decide⟩, _, rfl, _, _, rfl, rfl, m0, ?_⟩
    exact q _ _ (Int.emod_nonneg _ (by omega)) (Int.emod_lt_of_pos _ m0) k2
/-! ### lowest terms, by the law -/
abbrev sLow : Stmt := top 17
theorem scLow : FnScope ["_law_top", "_law_bottom", "_law_a", "_law_b"] ["_law_top", "_law_bottom"] (defScope sLow) := ⟨rfl, rfl, rfl, by decide +kernel, rfl, by decide +kernel, by decide +kernel⟩
def spLow : Sp := fun vs H Q _ => ∃ t b : Int, vs = [.int t, .int b] ∧ 0 < b ∧ Bits 8000 b ∧ ∀ p H', Same H H' → H p = none → H' p = some (tupF (lowM t b)) → Q (.ref p) H'
theorem ok_low (F : Fun K "_law_low" "_law_low" sLow f fd) (mA : mg "abs" = none) : FnOk P w K mg base CX0 1 f fd ["_law_top", "_law_bottom"] spLow := by
  refine F.ok scLow (fun vs H Q E h => ?_) (fun cdv A outer s H vs Q E hr h => ?_)
  · obtain ⟨a, b, rfl, _⟩ := h
    rfl
  obtain ⟨t, b, rfl, hb, hB, q⟩ := h
  refine ⟨_, pss_cons (ps_par (i := 2) (j := 3) (by rfl) scLow.nd rfl rfl (by decide) rfl rfl (pa_cons (pe_callB call_abs rfl mA (by decide +kernel) (pa_cons (pv 0) pa_nil)) (pa_cons (pv 1) pa_nil)) (by rfl))
    (pss_cons (ps_while PassesOwn.never (pt_cmpR op_gt (pv 3) pe_int (nomark _))
      (pss_one (ps_par (i := 2) (j := 3) (by rfl) scLow.nd rfl rfl (by decide) rfl rfl (pa_cons (pv 3) (pa_cons (pe_op op_mod (pv 2) (pv 3)) pa_nil)) (by rfl))))
    (pss_one (ps_ret (pe_tup (pa_cons (pe_op op_fdivW (pv 0) (pv 2)) (pa_cons (pe_op op_fdivW (pv 1) (pv 2)) pa_nil)))))), ?_⟩
  refine ⟨_, rfl, _, rfl, _, rfl, _, _, rfl, ?_⟩
  refine while_by (fun σ H' => ∃ x y : Int, σ = [some (.int t), some (.int b), some (.int x), some (.int y)] ∧ 0 ≤ x ∧ 0 ≤ y ∧ gI x y = gI t b ∧ H' = H) (mu2 3) ⟨_, _, rfl, abs_nn t, Int.le_of_lt hb, gI_absL t b, rfl⟩ ?_ ?_
  · rintro σ H' ⟨x, y, rfl, hx, hy, e, rfl⟩
    refine ⟨_, rfl, _, _, rfl, rfl, _, rfl, ?_⟩
    refine ite2 (fun c => ?_) (fun c => ?_)
    · have c' : y > 0 := of_decide_eq_true c
      refine ⟨_, rfl, _, rfl, _, rfl, _, _, rfl, rfl, c', ?_⟩
      refine ⟨_, _, rfl, ⟨y, x % y, rfl, hy, Int.emod_nonneg x (by omega), (gI_step hx c').trans e, rfl⟩, ?_⟩
      show (x % y).toNat < y.toNat
      have := Int.emod_lt_of_pos x c'
      omega
    · have c' : ¬ y > 0 := of_decide_eq_false (Bool.eq_false_iff.mpr c)
      have y0 : y = 0 := by omega
      subst y0
      have e2 : x = gI t b := by rw [← e, gI_zero]; omega
      subst e2
      have hg := gI_pos (a := t) (b := b) (by omega)
      have hd : ∀ z : Int, CDivW z (gI t b) := fun z => ⟨hg, log2_of (n := 8000) (by decide) (hB.le (gI_le (by omega))) (by decide)⟩
      refine ⟨_, rfl, _, rfl, _, _, rfl, rfl, hd _, _, rfl, _, rfl, _, _, rfl, rfl, hd _, (by show 2 ≤ sizeLine; decide), fun p hp => ?_⟩
      exact q p _ (same_new hp _) hp upd_same
  · intro σ H Q Q' h t
    obtain ⟨v, e, i, j, e1, e2, k, e3, q⟩ := t
    exact ⟨v, e, i, j, e1, e2, k, e3, h _ _ q⟩
end
end Vm

set_option Elab.async false
set_option linter.all false
set_option maxRecDepth 100000
set_option maxHeartbeats 4000000
namespace Vm
open PySem PySem.Spec PyProof.Rows L2
/-! ### defs that are called where nothing is being shown (no guard stands around) -/
def FnG (P : Program) (w : World) (K : PySem.W.Frag) (mg : Str → Option Value) (base : Heap) (k : Nat) (f : Addr) (fd : FuncData) (ps : List Str) (sp : Sp) : Prop :=
  ∀ (A : Around) (outer : List Env) (s : Shared) (H : Hp) (args : Args) (us : List Value) (vs : List V) (Q : VK), A.guards = some [] → Room k A → Env0 P w K mg base A outer s H → BindsTo s fd args (ps.zip us) → Vals vs us → sp vs H Q E0 →
    codeAny (model P w) A (.call (.ref f) args) (CR CX0 outer P w H s Q E0) s
theorem fnG_of {P : Program} {w : World} {K : PySem.W.Frag} {mg : Str → Option Value} {base : Heap} {k : Nat} {f : Addr} {fd : FuncData} {N ps : List Str} {qual name : Str} {st : Stmt} {sp : Sp} (F : Fun K name qual st f fd) (S : FnScope N ps (defScope st))
    (len : ∀ vs H Q E, sp vs H Q E → vs.length = ps.length)
    (body : ∀ (cdv : Value) (A : Around) (outer : List Env) (s : Shared) (H : Hp) (vs : List V) (Q : VK), A.guards = some [] → Room k (A.deeper (envOfC qual (defScope st) s.heap.objs.size f cdv)) → sp vs H Q E0 →
      ∃ t, PSs (cxOf CX0 P w K mg base N qual (defScope st) f cdv A outer s H E0).nox (defBody st) t ∧ t { nx := fun _ H' => Q .non H', rt := Q } (start N vs) H) :
    FnG P w K mg base (k + 1) f fd ps sp := by
  intro A outer s H args us vs Q hgd hr e0 hb r hsp
  obtain ⟨_, _, _, _, _, _, cdv, _, _, rfl, lk, hcd⟩ := F.ex
  have keepB : ∀ b o, base.get? b = some o → s.heap.get? b = some o := fun b o e => (e0.bs b o e).1
  have KX := e0.mod.kin.keeps keepB
  have lim := e0.mod.nolimit.keeps keepB
  refine codeAny_call_function hr.depth (KX _ _ lk) rfl S.co S.gen rfl (PySem.W.codeRec_of KX hcd) (hb _ _ _ _ ?_)
  refine wpAny_newFunctionEnv_cells S.kind (fun y hy => ?_) fun env he s1 ic => ?_
  · obtain ⟨n, v⟩ := y
    rcases S.par n (List.of_mem_zip hy).1 with h | h
    · exact .inl h
    · exact .inr ⟨h, PySem.W.cellsFrom_some _ _ _ (.inl h)⟩
  subst he
  refine ⟨lim.keeps ic.toInCall.keep, codeAny_func ?_⟩
  obtain ⟨t, ht, h2⟩ := body cdv A outer s H vs Q hgd (hr.deeper _) hsp
  have I := inv_start (CX := CX0) (E := E0) S hr.hd e0 (len _ _ _ _ hsp) r ic
  refine wpAny_mono (ht.nox.run [] s1 _ H _ I h2) (fun fl s' r => ?_) (fun _ _ r => r)
  match fl, r with
  | .ret u, ⟨v, _, H', J, rv, q⟩ => exact ⟨v, H', J.os, J.bare, J.base, J.hok, rv, q⟩
  | .next, ⟨_, H', J, q⟩ => exact ⟨.non, H', J.os, J.bare, J.base, J.hok, rfl, q⟩
  | .brk, ⟨_, _, _, q⟩ => exact q.elim
  | .cont, ⟨_, _, _, q⟩ => exact q.elim
theorem pe_callG {X : Cx} {k : Nat} {f : Addr} {fd : FuncData} {ps : List Str} {sp : Sp} {x : Str} {p pos : Pos} {e : Expr} {es : List Expr} {t : TA} (F : FnG X.prog X.w X.K X.mg X.base k f fd ps sp) (len : ∀ vs H Q E, sp vs H Q E → vs.length = ps.length) (hgd : X.A.guards = some []) (hr : Room k X.A)
    (hg : Gl X x) (hm : X.mg x = some (.ref f)) (hk : PySem.W.keepIn X.K (.ref f) = true) (hb : Binds X.K fd ps []) (ha : PA X (e :: es) t) (hdb : (x == ("__debug__" : Str)) = false := by decide) (he : starEach (e :: es) X.env = (false, eval e X.env) :: starEach es X.env := by rfl) (hpl : (backTo pos (starEach es X.env)).any (·.1) = false := by rfl) :
    PE X (.Call (.Name x p) (e :: es) [] pos) (tCall sp [] E0 t) := by
  refine ⟨fun pins s σ H Q I h => wpAny_Call_Name_kw (ld_glob I hg hm ?_ hdb)⟩
  refine PySem.W.callWith_K (h₀ := X.base) I.ok.mod.kin hk (thn (ha.run pos pins s σ H _ I h) ?_) he hpl
  rintro us s1 ⟨vs, H1, I1, r, q⟩
  refine ⟨I1.kIn, ?_⟩
  have q' : sp vs H1 Q E0 := by rw [List.append_nil] at q; exact q
  have hl : us.length = ps.length := by rw [← r.length]; exact len _ _ _ _ q'
  have bnd := hb s1 us I1.kIn (by rw [List.append_nil]; exact hl)
  rw [List.append_nil] at bnd
  refine wpAny_call (codeAny_mono (F X.A X.stack s1 H1 ⟨us, []⟩ us vs Q hgd hr I1.env0 bnd r q') fun rs s' hq => ?_)
  match rs, hq with
  | .ok (.ret u), hq => exact I1.after hq
/-- the law's own call -/
theorem law_callG {P : Program} {w : World} {K : PySem.W.Frag} {mg mb : Str → Option Value} {k : Nat} {fa a : Addr} {fd : FuncData} {x : Str} {sp : Sp} {s1 : Shared} {vs : List Value} {ns : List Int}
    (KX : K.In s1.heap) (hns : s1.heap.Ns mainGlobals mg) (hb : s1.heap.Ns builtinsNs mb) (hbb : ∀ y : Str, y ≠ "__name__" → mb y = bootBuiltins y) (hlim : s1.heap.NoLimit) (hg : s1.gens = #[])
    (ha : s1.heap.get? a = some { cls := .type "list", data := .seq vs.toArray }) (hi : IntsAre vs ns) (hl : ns.length ≤ sizeLine) (hr : Room k callerA)
    (F : ∀ base : Heap, K.In base → base.Ns mainGlobals mg → FnG P w K mg base k fa fd [x] sp) (hbind : ∀ (s : Shared) (u : Value), BindsTo s fd ⟨[u], []⟩ [(x, u)])
    (hsp : ∀ H : Hp, SqL K H a (ns.map V.int) → sp [.ref a] H (fun v _ => v = .bl true) E0) :
    codeAny (model P w) callerA (.call (.ref fa) ⟨[.ref a], []⟩) (fun r s' => r = .ok (.ret (.bool true)) ∧ OldK s1.heap s'.heap ∧ s'.os = s1.os ∧ AllBare s'.gens) s1 := by
  have rv := vals_ints hi
  have hsz : (ns.map V.int).length ≤ sizeLine := by rw [List.length_map]; exact hl
  -- run over the heap H, that tracks the script at most, frozen
  have go : ∀ H : Hp, (∀ b u, H b = some u → b = a ∧ u = .frz { cls := .type "list", data := .seq vs.toArray } (.lst (ns.map V.int))) → (H a ≠ none → K.lookup a = none) → SqL K H a (ns.map V.int) →
      codeAny (model P w) callerA (.call (.ref fa) ⟨[.ref a], []⟩) (fun r s' => r = .ok (.ret (.bool true)) ∧ OldK s1.heap s'.heap ∧ s'.os = s1.os ∧ AllBare s'.gens) s1 := by
    intro H only notK hS
    have okH : HOk P w H s1.heap := fun b u e => by
      obtain ⟨rfl, rfl⟩ := only b u e
      exact ⟨ha, hsz, vs, _, rv, ha⟩
    have off : ∀ b o, s1.heap.get? b = some o → (∀ its n, o.data ≠ .seq its n) → H b = none := fun b o e d => by
      cases q : H b with
      | none => rfl
      | some u =>
        obtain ⟨rfl, _⟩ := only b u q
        rw [ha] at e
        cases e
        exact absurd rfl (d _ _)
    have names : ∀ {b : Addr} {m : Str → Option Value}, s1.heap.Ns b m → (hidT s1.heap H).Ns b m := fun {b m} z => by
      obtain ⟨o, es, ep, e, d, r⟩ := z
      exact ⟨o, es, ep, hidT_get e (off b o e fun its n z => by rw [d] at z; cases z), d, r⟩
    have kb : K.In (hidT s1.heap H) := fun b o e => hidT_get (KX b o e) (by
      cases q : H b with
      | none => rfl
      | some u =>
        obtain ⟨rfl, _⟩ := only b u q
        rw [notK (by rw [q]; simp)] at e
        cases e)
    obtain ⟨mc, c1, c2⟩ := hlim
    have e0 : Env0 P w K mg (hidT s1.heap H) callerA [] s1 H :=
      ⟨rfl, ⟨kb, names hns, ⟨mb, names hb, hbb⟩, ⟨mc, names c1, c2⟩⟩, fun b o e => of_hidT e, Nat.le_of_eq (hidT_size _ _), trivial, (fun b z => absurd (show b ∈ ([] : List Addr) from z) (by simp)), okH, .of_eq hg⟩
    refine codeAny_mono (F _ kb (names hns) callerA [] s1 H ⟨[.ref a], []⟩ [.ref a] [.ref a] _ rfl hr e0 (hbind s1 (.ref a)) (.cons rfl .nil) (hsp H hS)) fun r s' h => ?_
    match r, h with
    | .ok (.ret u), ⟨v, H', os, bare, un, ok', r', q⟩ =>
      cases (show v = .bl true from q)
      cases (show u = Value.bool true from r')
      refine ⟨rfl, OldK.of_keep fun b o e => ?_, os, bare⟩
      cases q : H b with
      | none => exact un.keep b o e q (fun z => absurd (show b ∈ ([] : List Addr) from z) (by simp)) (by simp)
      | some u =>
        obtain ⟨rfl, rfl⟩ := only b u q
        have z := (ok' _ _ (un.frzs _ _ _ q)).1
        rw [ha] at e
        cases e
        exact z
  cases hk : K.lookup a with
  | some o =>
    have e := KX a o hk
    rw [ha] at e
    cases e
    exact go (fun _ => none) (fun b u z => nomatch z) (fun z => absurd rfl z) (.inr ⟨_, vs.toArray, _, hk, rfl, rfl, rfl, by rw [List.size_toArray, ← rv.length]; exact hsz, by simpa using rv⟩)
  | none =>
    refine go (upd (fun _ => none) a (.frz { cls := .type "list", data := .seq vs.toArray } (.lst (ns.map V.int)))) (fun b u z => ?_) (fun _ => hk) (.inl (.inr ⟨_, upd_same⟩))
    by_cases hb2 : b = a
    · subst hb2
      rw [upd_same] at z
      exact ⟨rfl, (Option.some.inj z).symm⟩
    · rw [upd_ne hb2] at z
      cases z
theorem walk_ofG {l : PySem.W.OpenLaw} {n k : Nat} {q : Program} {loose : List Str} {XP : (Str → Option Value) → Heap → Prop} {YP : World → Heap → Prop} {d : DefRec} {K : Params → PySem.W.Frag} {sp : World → Sp} {x : Str}
    (hn : l.most = some n) (hn2 : n ≤ sizeLine) (hdf : d.params.defaults = []) (hr : Room k callerA) (hY : ∀ (w : World) (h : Heap), YP w h → (K w.params).In h)
    (F : ∀ (w : World) (mg : Str → Option Value) (fa : Addr) (h : Heap), (K w.params).In h → h.Ns mainGlobals mg → mg d.name = some (.ref fa) →
      ∃ fd : FuncData, (∀ (s : Shared) (u : Value), BindsTo s fd ⟨[u], []⟩ [(x, u)]) ∧ ∀ base : Heap, (K w.params).In base → base.Ns mainGlobals mg → FnG l.prog w (K w.params) mg base k fa fd [x] (sp w))
    (hsp : ∀ (w : World) (H : Hp) (a : Addr) (ns : List Int), ns.length ≤ n → SqL (K w.params) H a (ns.map V.int) → sp w [.ref a] H (fun v _ => v = .bl true) E0) :
    PySem.W.WalkO q loose XP YP l.row.toRowW d [] (fun f vs => PySem.call f vs) := by
  refine Att.attach_call hn hdf ?_
  intro w s0 s1 mg mb fa o pm cd doc a vs ns G Y ho hd hcd hmg hobj hints hlen hg
  have KX := hY w _ Y
  obtain ⟨fd, hb, hF⟩ := F w mg fa _ KX G.T.g hmg
  exact law_callG KX G.T.g G.T.b G.T.builtins G.T.nolimit hg hobj hints (Nat.le_trans hlen hn2) hr hF hb (fun H hS => hsp w H a ns hlen hS)
end Vm

set_option Elab.async false
set_option linter.all false
set_option maxRecDepth 100000
set_option maxHeartbeats 4000000
namespace Vm
open PySem PySem.Spec PyProof.Rows L2
/-! ### things of any kind, as data; m: dicts may be in it, else lists; n: how large -/
mutual
inductive Th (m : Bool) (K : PySem.W.Frag) (H : Hp) : Nat → V → PyData → Prop
  | non : Th m K H 1 .non .none
  | bl (b : Bool) : Th m K H 1 (.bl b) (.bool b)
  | int {i : Int} (h : Bits 400 i) : Th m K H 1 (.int i) (.int i)
  | str {z : Str} (h : z.cps.toList.all (fun c => decide (c < 16 ^ 8)) = true) (hl : z.cps.size ≤ 100) : Th m K H 1 (.str z) (.str z)
  | tup {n : Nat} {a : Addr} {xs : List V} {ds : List PyData} (h : SqT K H a xs) (hs : ThL m K H n xs ds) : Th m K H (n + 1) (.ref a) (.tuple ds)
  | lst {n : Nat} {a : Addr} {xs : List V} {ds : List PyData} (hm : m = false) (h : SqL K H a xs) (hs : ThL m K H n xs ds) : Th m K H (n + 1) (.ref a) (.list ds)
  | dic0 {a : Addr} (hm : m = true) (h : H a = some (.dK [])) : Th m K H 1 (.ref a) (.dict [])
  | dic1 {n : Nat} {a : Addr} {v : V} {d : PyData} {z : Str} (hm : m = true) (hz : z.cps.toList.all (fun c => decide (c < 16 ^ 8)) = true) (hl : z.cps.size ≤ 100) (h : H a = some (.dK [(.inr z, v)])) (hs : Th m K H n v d) : Th m K H (n + 2) (.ref a) (.dict [(.str z, d)])
inductive ThL (m : Bool) (K : PySem.W.Frag) (H : Hp) : Nat → List V → List PyData → Prop
  | nil : ThL m K H 0 [] []
  | cons {n k : Nat} {v : V} {vs : List V} {d : PyData} {ds : List PyData} (h : Th m K H n v d) (hs : ThL m K H k vs ds) : ThL m K H (n + k) (v :: vs) (d :: ds)
end
theorem bits_log {i : Int} (h : Bits 400 i) : i.natAbs.log2 < 400 := PySem.Flt.log2_lt_of (by decide) h
theorem int_shown {i : Int} (h : Bits 400 i) : (PyData.shown (.int i)).length ≤ 450 := by
  have q := int_text_length_le (a := i) (k := 400) (by decide) (bits_log h)
  have e : (Str.ofString (toString i)).length ≤ 400 + 1 := by rw [PySem.ofString_length]; exact q
  exact Nat.le_trans e (by decide)
/-- what the library's showing asks of data -/
structure Small (n : Nat) (d : PyData) : Prop where
  sh : d.showable = true
  le : d.leavesShort 450 = true
  wt : d.weight + 1 ≤ 420 * n
  dp : d.depth ≤ n
structure SmallL (n : Nat) (ds : List PyData) : Prop where
  sh : PyData.showableAll ds = true
  le : PyData.leavesShortAll 450 ds = true
  wt : PyData.weightAll ds ≤ 420 * n
  dp : PyData.depthAll ds ≤ n
section
variable {m : Bool} {K : PySem.W.Frag} {H : Hp}
mutual
theorem Th.small : ∀ {n : Nat} {v : V} {d : PyData}, Th m K H n v d → Small n d
  | _, _, _, .non => ⟨rfl, rfl, by decide, by decide⟩
  | _, _, _, .bl b => ⟨rfl, rfl, (by show 0 + 1 ≤ 420 * 1; decide), (by show 0 ≤ 1; decide)⟩
  | _, _, _, .int (i := i) h => by
    have l := bits_log h
    refine ⟨?_, ?_, ?_, Nat.zero_le _⟩
    · simp only [PyData.showable]
      exact decide_eq_true (by omega)
    · simp only [PyData.leavesShort]
      exact decide_eq_true (int_shown h)
    · simp only [PyData.weight]
      split <;> omega
  | _, _, _, .str (z := z) h hl => by
    refine ⟨rfl, ?_, ?_, Nat.zero_le _⟩
    · simp only [PyData.leavesShort]
      exact h
    · simp only [PyData.weight]
      omega
  | _, _, _, .tup h hs => by
    have q := ThL.small hs
    refine ⟨?_, ?_, ?_, ?_⟩
    · simp only [PyData.showable]; exact q.sh
    · simp only [PyData.leavesShort]; exact q.le
    · simp only [PyData.weight]; have := q.wt; omega
    · simp only [PyData.depth]; have := q.dp; omega
  | _, _, _, .lst _ h hs => by
    have q := ThL.small hs
    refine ⟨?_, ?_, ?_, ?_⟩
    · simp only [PyData.showable]; exact q.sh
    · simp only [PyData.leavesShort]; exact q.le
    · simp only [PyData.weight]; have := q.wt; omega
    · simp only [PyData.depth]; have := q.dp; omega
  | _, _, _, .dic0 _ _ => ⟨rfl, rfl, by decide, by decide⟩
  | _, _, _, .dic1 (z := z) _ hz hl h hs => by
    have q := Th.small hs
    refine ⟨?_, ?_, ?_, ?_⟩
    · simp only [PyData.showable, PyData.showableKv, q.sh]; rfl
    · simp only [PyData.leavesShort, PyData.leavesShortKv, q.le, hz]; rfl
    · simp only [PyData.weight, PyData.weightKv]; have := q.wt; omega
    · simp only [PyData.depth, PyData.depthKv]; have := q.dp; omega
theorem ThL.small : ∀ {n : Nat} {vs : List V} {ds : List PyData}, ThL m K H n vs ds → SmallL n ds
  | _, _, _, .nil => ⟨rfl, rfl, by decide, by decide⟩
  | _, _, _, .cons h hs => by
    have p := Th.small h
    have q := ThL.small hs
    refine ⟨?_, ?_, ?_, ?_⟩
    · simp only [PyData.showableAll, p.sh, q.sh]; rfl
    · simp only [PyData.leavesShortAll, p.le, q.le]; rfl
    · simp only [PyData.weightAll]; have := p.wt; have := q.wt; omega
    · simp only [PyData.depthAll]; have := p.dp; have := q.dp; omega
end
end
theorem Small.fits {n : Nat} {d : PyData} (h : Small n d) (hn : n ≤ 40) : d.shown.length ≤ sizeLine := by
  have q := PyData.shown_le 450 (by decide) d h.le
  have w := h.wt
  have e := sizeLine_eq
  omega
section
variable {X : Cx} {pins : List (Addr × Obj)} {σ : L2.St} {H : Hp} {s : Shared} {m : Bool}
mutual
theorem Th.reads (I : Inv X pins σ H s) : ∀ {n : Nat} {v : V} {d : PyData} {u : Value}, Th m X.K H n v d → RelV v u → ∃ as, Reads s.heap u d as ∧ (m = true → ∀ b ∈ as, (b == sysModules) = false) ∧ (m = false → d.hasDict = false)
  | _, _, _, _, .non, r => by
    cases r
    exact ⟨_, .none, (fun _ b hb => nomatch hb), fun _ => rfl⟩
  | _, _, _, _, .bl b, r => by
    cases r
    exact ⟨_, .bool b, (fun _ b hb => nomatch hb), fun _ => rfl⟩
  | _, _, _, _, .int h, r => by
    obtain ⟨t, rfl⟩ := r
    exact ⟨_, .int _ t, (fun _ b hb => nomatch hb), fun _ => rfl⟩
  | _, _, _, _, .str h hl, r => by
    obtain ⟨t, rfl⟩ := r
    exact ⟨_, .str _ t, (fun _ b hb => nomatch hb), fun _ => rfl⟩
  | _, _, _, _, .tup h hs, r => by
    cases r
    obtain ⟨its, rv, ⟨o, ho, hc, n, hd⟩, _⟩ := I.tuple h
    obtain ⟨as, hr, h1, h2⟩ := ThL.reads I hs rv
    exact ⟨_, .tuple ho hc hd hr, h1, fun z => by simp only [PyData.hasDict]; exact h2 z⟩
  | _, _, _, _, .lst hm h hs, r => by
    cases r
    obtain ⟨its, rv, ⟨o, n, ho, hc, _, hd⟩, _⟩ := I.list h
    obtain ⟨as, hr, h1, h2⟩ := ThL.reads I hs rv
    exact ⟨_, .list ho hc hd hr, (fun z => by rw [hm] at z; cases z), fun z => by simp only [PyData.hasDict]; exact h2 z⟩
  | _, _, _, _, .dic0 (a := a) hm h, r => by
    cases r
    obtain ⟨_, hsm, vs, kv, o, es, ep, e, ex, hd, _, hp, _⟩ := I.hok a _ h
    cases kv
    cases hes : es.toList with
    | cons x r => rw [hes] at hp; cases hp
    | nil =>
      refine ⟨_, .dict (kvs := []) (as := []) (bs := []) e ex.1 hd ?_ ?_, fun _ b hb => ?_, fun z => by rw [hm] at z; cases z⟩
      · rw [hes]; exact .nil
      · rw [hes]; exact .nil
      · have : b = a := by simpa using hb
        subst this
        exact hsm
  | _, _, _, _, .dic1 (a := a) (v := v) (d := d) (z := z) hm hz hl h hs, r => by
    cases r
    obtain ⟨_, hsm, vs, kv, o, es, ep, e, ex, hd, _, hp, _⟩ := I.hok a _ h
    match vs, kv with
    | [(k, u)], .cons hk .nil =>
    obtain ⟨k1, k2⟩ := hk
    dsimp only at k1 k2
    cases hes : es.toList with
    | nil => rw [hes] at hp; cases hp
    | cons x r =>
      rw [hes] at hp
      cases hp with
      | cons p1 p2 p3 =>
        cases p3
        dsimp only at p1 p2
        obtain ⟨as, hr, h1, _⟩ := Th.reads I hs k2
        have key : ∃ t, x.key = Value.str z t := by
          rw [← k1] at p1
          have p1' : keyIs (.inr z) x.key = true := p1
          rcases keyIs_shape p1' with ⟨i, t, q, _⟩ | ⟨y, t, q, q2⟩
          · cases q
          · cases q
            exact ⟨t, q2⟩
        obtain ⟨t, ek⟩ := key
        refine ⟨_, .dict (kvs := [(.str z, d)]) (as := []) (bs := as ++ []) e ex.1 hd ?_ ?_, fun _ b hb => ?_, fun z => by rw [hm] at z; cases z⟩
        · rw [hes]
          show ReadsAll s.heap [x.key] [.str z] []
          rw [ek]
          exact .cons (as := []) (bs := []) (.str z t) .nil
        · rw [hes]
          show ReadsAll s.heap [x.val] [d] (as ++ [])
          rw [p2]
          exact .cons hr .nil
        · have hb' : b = a ∨ b ∈ as := by simpa using hb
          rcases hb' with rfl | hb'
          · exact hsm
          · exact h1 hm b hb'
theorem ThL.reads (I : Inv X pins σ H s) : ∀ {n : Nat} {vs : List V} {ds : List PyData} {us : List Value}, ThL m X.K H n vs ds → Vals vs us → ∃ as, ReadsAll s.heap us ds as ∧ (m = true → ∀ b ∈ as, (b == sysModules) = false) ∧ (m = false → PyData.hasDictAll ds = false)
  | _, _, _, _, .nil, r => by
    cases r
    exact ⟨_, .nil, (fun _ b hb => nomatch hb), fun _ => rfl⟩
  | _, _, _, _, .cons h hs, r => by
    cases r with
    | cons r1 r2 =>
      obtain ⟨as, p1, p2, p3⟩ := Th.reads I h r1
      obtain ⟨bs, q1, q2, q3⟩ := ThL.reads I hs r2
      refine ⟨_, .cons p1 q1, fun z b hb => ?_, fun z => by simp only [PyData.hasDictAll, p3 z, q3 z]; rfl⟩
      rcases List.mem_append.mp hb with w | w
      · exact p2 z b w
      · exact q2 z b w
end
/-- repr(x), where nothing else is being shown -/
def rShow (K : PySem.W.Frag) : List V → Hp → VK → Prop := fun xs H Q => ∃ (v : V) (d : PyData) (m : Bool) (n : Nat), xs = [v] ∧ Th m K H n v d ∧ n ≤ 40 ∧ Q (.str d.shown) H
theorem call_show {X : Cx} (hgd : X.A.guards = some []) (hu : X.A.units + 64 < cLine) : CallR X (.builtin "repr") (rShow X.K) := by
  intro pins s σ H xs us Q I r h
  obtain ⟨v, d, m, n, rfl, th, hn, q⟩ := h
  match us, r with
  | [u], .cons ru .nil =>
    have sm := th.small
    have dpt := sm.dp
    obtain ⟨as, rd, h1, h2⟩ := Th.reads I th ru
    have fin : ∀ h' tk t, (∀ b o, s.heap.get? b = some o → h'.get? b = some o) → EP X pins σ Q (.str d.shown t) { s with heap := h', toks := tk } := fun h' tk t k => ⟨.str d.shown, H, I.kept (t' := tk) k, ⟨t, rfl⟩, q⟩
    have hsys : d.hasDict = true → sysModules ∉ as := fun z hb => by
      cases m with
      | true =>
        have := h1 rfl _ hb
        simp at this
      | false => rw [h2 rfl] at z; cases z
    have ft := sm.fits hn
    cases v with
    | non =>
      cases ru
      cases th
      exact P.repr_of_none (fin s.heap _ _ fun _ _ e => e)
    | bl b =>
      cases ru
      cases th
      exact P.repr_of_bool (fin s.heap _ _ fun _ _ e => e)
    | int i =>
      obtain ⟨t, rfl⟩ := ru
      cases th with
      | int hb => exact P.repr_of_int (by have := bits_log hb; omega) (fin s.heap _ _ fun _ _ e => e)
    | str z =>
      obtain ⟨t, rfl⟩ := ru
      cases th with
      | str h1 h2 => exact P.repr_of_str (fin s.heap _ _ fun _ _ e => e) ft
    | ref a =>
      cases ru
      exact repr_of_reads' rd sm.sh hsys hgd (by omega) (fun _ _ e => e) (fun h' t tk k => fin h' tk t k) ft
    | byt b => cases th
    | flt b => cases th
    | ty n => cases th
end
end Vm

set_option Elab.async false
set_option linter.all false
set_option maxRecDepth 100000
set_option maxHeartbeats 4000000
namespace Vm
open PySem PySem.Spec PyProof.Rows L2
/-! ### kinds of things -/
def tyName : PyData → String
  | .none => "NoneType"
  | .bool _ => "bool"
  | .int _ => "int"
  | .str _ => "str"
  | .list _ => "list"
  | .tuple _ => "tuple"
  | .dict _ => "dict"
def isW : PyData → Bool
  | .int _ => true
  | _ => false
def isTp : PyData → Bool
  | .tuple _ => true
  | _ => false
def isB : PyData → Bool
  | .bool _ => true
  | _ => false
def isI : PyData → Bool
  | .int _ => true
  | .bool _ => true
  | _ => false
theorem ty_lst {K : PySem.W.Frag} {H : Hp} {p : Addr} {xs : List V} (h : SqL K H p xs) : TyX K H (.ref p) (.type "list") := by
  rcases h with (h | ⟨o, h⟩) | ⟨o, _, _, h, c, _⟩
  · exact .base (.lst h)
  · exact .base (.frz h)
  · exact .kList h c
theorem ty_tup {K : PySem.W.Frag} {H : Hp} {p : Addr} {xs : List V} (h : SqT K H p xs) : TyX K H (.ref p) (.type "tuple") := by
  rcases h with (h | ⟨o, h⟩) | ⟨o, _, _, h, c, _⟩
  · exact .base (.tup h)
  · exact .fTuple h
  · exact .kTuple h c
theorem Th.ty {m : Bool} {K : PySem.W.Frag} {H : Hp} {n : Nat} {v : V} {d : PyData} (h : Th m K H n v d) : TyX K H v (.type (tyName d)) := by
  cases h with
  | non => exact .base .non
  | bl b => exact .base (.bl b)
  | int h => exact .base (.int _)
  | str h _ => exact .base (.str _)
  | tup h _ => exact ty_tup h
  | lst _ h _ => exact ty_lst h
  | dic0 _ h => exact .base (.dK h)
  | dic1 _ _ _ h _ => exact .base (.dK h)
theorem kit_tup {K : PySem.W.Frag} (d : PyData) : PySem.W.kitOne K (.type (tyName d)) (.type "tuple") = some (isTp d) := by
  cases d <;> (refine kit_ty ?_; dsimp only [tyName, isTp]; decide +kernel)
theorem kit_int {K : PySem.W.Frag} (d : PyData) : PySem.W.kitOne K (.type (tyName d)) (.type "int") = some (isI d) := by
  cases d <;> (refine kit_ty ?_; dsimp only [tyName, isI]; decide +kernel)
theorem kit_bool {K : PySem.W.Frag} (d : PyData) : PySem.W.kitOne K (.type (tyName d)) (.type "bool") = some (isB d) := by
  cases d <;> (refine kit_ty ?_; dsimp only [tyName, isB]; decide +kernel)
/-- what a fraction is -/
def isF : PyData → Bool
  | .tuple [.int t, .int b] => decide (1 ≤ b) && decide (gI t b = 1)
  | _ => false
theorem isF_not {d : PyData} (h : isTp d = false) : isF d = false := by
  cases d <;> first | rfl | cases h
theorem isF_len {ds : List PyData} (h : ds.length ≠ 2) : isF (.tuple ds) = false := by
  unfold isF
  split
  · rename_i q
    cases q
    exact absurd rfl h
  · rfl
theorem isF_two {d e : PyData} (h : (isW d && isW e) = false) : isF (.tuple [d, e]) = false := by
  unfold isF
  split
  · rename_i q
    cases q
    cases h
  · rfl
structure Blt (mg : Str → Option Value) : Prop where
  isi : mg "isinstance" = none
  tup : mg "tuple" = none
  bol : mg "bool" = none
  int : mg "int" = none
  len : mg "len" = none
  all : mg "all" = none
  rng : mg "range" = none
  abs : mg "abs" = none
  lst : mg "list" = none
  rep : mg "repr" = none
  max : mg "max" = none
  min : mg "min" = none
theorem ThL.len {m : Bool} {K : PySem.W.Frag} {H : Hp} : ∀ {n : Nat} {vs : List V} {ds : List PyData}, ThL m K H n vs ds → vs.length = ds.length
  | _, _, _, .nil => rfl
  | _, _, _, .cons _ hs => congrArg (· + 1) (ThL.len hs)
theorem thl_two {m : Bool} {K : PySem.W.Frag} {H : Hp} {n : Nat} {vs : List V} {ds : List PyData} (h : ThL m K H n vs ds) (h2 : vs.length = 2) : ∃ x0 x1 d0 d1 n0 n1, vs = [x0, x1] ∧ ds = [d0, d1] ∧ Th m K H n0 x0 d0 ∧ Th m K H n1 x1 d1 := by
  cases h with
  | nil => cases h2
  | cons h hs =>
    cases hs with
    | nil => cases h2
    | cons h' hs' =>
      cases hs' with
      | nil => exact ⟨_, _, _, _, _, _, rfl, rfl, h, h'⟩
      | cons h'' hs'' =>
        simp only [List.length_cons] at h2
        omega
theorem if_yes {c : Bool} {A B : Prop} (hc : c = true) (h : A) : if c = true then A else B := by
  rw [if_pos hc]
  exact h
theorem if_no {c : Bool} {A B : Prop} (hc : c = false) (h : B) : if c = true then A else B := by
  rw [hc, if_neg Bool.false_ne_true]
  exact h
section
variable {P : Program} {w : World} {K : PySem.W.Frag} {mg : Str → Option Value} {base : Heap} {f fW fG fL : Addr} {fd dW dG dL : FuncData}
structure At (K : PySem.W.Frag) (mg : Str → Option Value) (x : Str) (ps : List Str) (f : Addr) (fd : FuncData) : Prop where
  b : Binds K fd ps []
  k : PySem.W.keepIn K (.ref f) = true
  m : mg x = some (.ref f)
/-! ### is_whole, the program's and the law's -/
abbrev sIsW : Stmt := top 4
abbrev sLIsW : Stmt := top 24
theorem scIsW : FnScope ["thing"] ["thing"] (defScope sIsW) := ⟨rfl, rfl, rfl, by decide +kernel, rfl, by decide +kernel, by decide +kernel⟩
theorem scLIsW : FnScope ["_law_thing_here"] ["_law_thing_here"] (defScope sLIsW) := ⟨rfl, rfl, rfl, by decide +kernel, rfl, by decide +kernel, by decide +kernel⟩
def spIsW (K : PySem.W.Frag) : Sp := fun vs H Q _ => ∃ (m : Bool) (n : Nat) (v : V) (d : PyData), vs = [v] ∧ Th m K H n v d ∧ Q (.bl (isW d)) H
theorem ok_isW (F : Fun K "is_whole" "is_whole" sIsW f fd) (B : Blt mg) : FnOk P w K mg base CX0 1 f fd ["thing"] (spIsW K) := by
  refine F.ok scIsW (fun vs H Q E h => ?_) (fun cdv A outer s H vs Q E hr h => ?_)
  · obtain ⟨m, n, v, d, rfl, _⟩ := h
    rfl
  obtain ⟨m, n, v, d, rfl, th, q⟩ := h
  refine ⟨_, pss_one (ps_ret (pe_and (pe_callB call_isi rfl B.isi (by decide +kernel) (pa_cons (pv 0) (pa_cons (pe_bltn (v := .ty "int") rfl B.int (by decide +kernel) rfl) pa_nil)))
    (pe_one (pe_not (pe_callB call_isi rfl B.isi (by decide +kernel) (pa_cons (pv 0) (pa_cons (pe_bltn (v := .ty "bool") rfl B.bol (by decide +kernel) rfl) pa_nil))))))), ?_⟩
  refine ⟨_, rfl, _, _, _, _, _, rfl, .ty _, th.ty, kit_int d, _, rfl, ?_⟩
  refine ite2 (fun c => ?_) (fun c => ?_)
  · refine ⟨_, rfl, _, _, _, _, _, rfl, .ty _, th.ty, kit_bool d, _, rfl, ?_⟩
    have e : (!isB d) = isW d := by cases d <;> first | rfl | cases c
    show Q (.bl (!isB d)) H
    rw [e]
    exact q
  · have e : isW d = false := by cases d <;> first | rfl | exact absurd rfl c
    rw [e] at q
    exact q
theorem ok_LIsW (F : Fun K "_law_is_whole" "_law_is_whole" sLIsW f fd) (B : Blt mg) : FnOk P w K mg base CX0 1 f fd ["_law_thing_here"] (spIsW K) := by
  refine F.ok scLIsW (fun vs H Q E h => ?_) (fun cdv A outer s H vs Q E hr h => ?_)
  · obtain ⟨m, n, v, d, rfl, _⟩ := h
    rfl
  obtain ⟨m, n, v, d, rfl, th, q⟩ := h
  refine ⟨_, pss_one (ps_ret (pe_and (pe_callB call_isi rfl B.isi (by decide +kernel) (pa_cons (pv 0) (pa_cons (pe_bltn (v := .ty "int") rfl B.int (by decide +kernel) rfl) pa_nil)))
    (pe_one (pe_not (pe_callB call_isi rfl B.isi (by decide +kernel) (pa_cons (pv 0) (pa_cons (pe_bltn (v := .ty "bool") rfl B.bol (by decide +kernel) rfl) pa_nil))))))), ?_⟩
  refine ⟨_, rfl, _, _, _, _, _, rfl, .ty _, th.ty, kit_int d, _, rfl, ?_⟩
  refine ite2 (fun c => ?_) (fun c => ?_)
  · refine ⟨_, rfl, _, _, _, _, _, rfl, .ty _, th.ty, kit_bool d, _, rfl, ?_⟩
    have e : (!isB d) = isW d := by cases d <;> first | rfl | cases c
    show Q (.bl (!isB d)) H
    rw [e]
    exact q
  · have e : isW d = false := by cases d <;> first | rfl | exact absurd rfl c
    rw [e] at q
    exact q
/-! ### is_fraction -/
abbrev sIsF : Stmt := top 6
theorem scIsF : FnScope ["thing", "top", "bottom"] ["thing"] (defScope sIsF) := ⟨rfl, rfl, rfl, by decide +kernel, rfl, by decide +kernel, by decide +kernel⟩
def spIsF (K : PySem.W.Frag) : Sp := fun vs H Q _ => ∃ (m : Bool) (n : Nat) (v : V) (d : PyData), vs = [v] ∧ Th m K H n v d ∧ ∀ H', Same H H' → Q (.bl (isF d)) H'
theorem th_int {m : Bool} {H : Hp} {n : Nat} {v : V} {d : PyData} (h : Th m K H n v d) (z : isW d = true) : ∃ i, v = .int i ∧ d = .int i ∧ Bits 400 i := by
  cases h with
  | int h => exact ⟨_, rfl, rfl, h⟩
  | _ => cases z
theorem ok_isF (F : Fun K "is_fraction" "is_fraction" sIsF f fd) (B : Blt mg) (GW : FnOk P w K mg base CX0 1 fW dW ["thing"] (spIsW K)) (aW : At K mg "is_whole" ["thing"] fW dW) (GG : FnOk P w K mg base CX0 1 fG dG ["a", "b"] spGcd) (aG : At K mg "common_divisor" ["a", "b"] fG dG) :
    FnOk P w K mg base CX0 2 f fd ["thing"] (spIsF K) := by
  refine F.ok scIsF (fun vs H Q E h => ?_) (fun cdv A outer s H vs Q E hr h => ?_)
  · obtain ⟨m, n, v, d, rfl, _⟩ := h
    rfl
  obtain ⟨m, n, v, d, rfl, th, q⟩ := h
  replace q := q H (Same.refl H)
  refine ⟨_, pss_cons (ps_if (PW.pt (pw_or (pt_not (pt_val (pe_callB call_isi rfl B.isi (by decide +kernel) (pa_cons (pv 0) (pa_cons (pe_bltn (v := .ty "tuple") rfl B.tup (by decide +kernel) rfl) pa_nil)))))
      (pw_or1 (pt_cmpR op_ne (pe_callB call_len_seq rfl B.len PySem.boot_len (pa_cons (pv 0) pa_nil)) pe_int (nomark _))))) (pss_one (ps_ret pe_bl)) pss_nil)
    (pss_cons (ps_asg (pv 0) (pg_tup rfl (pgs_cons (pg_name (i := 1) scIsF.nd rfl (.inl rfl)) (pgs_cons (pg_name (i := 2) scIsF.nd rfl (.inl rfl)) pgs_nil))))
    (pss_cons (ps_if (PW.pt (pw_or (pt_not (pt_val (pe_call GW hr rfl aW.m aW.k aW.b .nil pass0 (pa_cons (pv 1) pa_nil)))) (pw_or (pt_not (pt_val (pe_call GW hr rfl aW.m aW.k aW.b .nil pass0 (pa_cons (pv 2) pa_nil))))
      (pw_or1 (pt_cmpR op_lt (pv 2) pe_int (nomark _)))))) (pss_one (ps_ret pe_bl)) pss_nil)
    (pss_one (ps_ret (pe_cmpR op_eq (pe_call GG hr rfl aG.m aG.k aG.b .nil pass0 (pa_cons (pe_callB call_abs rfl B.abs (by decide +kernel) (pa_cons (pv 1) pa_nil)) (pa_cons (pv 2) pa_nil))) pe_int (nomark _)))))), ?_⟩
  refine ⟨_, rfl, _, _, _, _, _, rfl, .ty _, th.ty, kit_tup d, _, rfl, ?_⟩
  cases ht : isTp d with
  | false =>
    rw [isF_not ht] at q
    exact iteT (iteT q)
  | true =>
  refine iteF ?_
  cases th with
  | tup hT hL =>
    rename_i n a xs ds
    refine ⟨_, rfl, a, _, rfl, .inr hT, rfl, _, rfl, ?_⟩
    by_cases h2 : xs.length = 2
    · have c2 : V.int ((xs.length : Nat) : Int) = V.int 2 := by rw [h2]; rfl
      refine iteNS c2 ?_
      obtain ⟨x0, x1, d0, d1, n0, n1, rfl, rfl, h0, h1⟩ := thl_two hL h2
      refine ⟨_, rfl, a, _, rfl, hT, rfl, _, _, rfl, _, _, rfl, rfl, ?_⟩
      refine ⟨_, rfl, _, _, _, _, rfl, h0, _, rfl, ?_⟩
      cases w0 : isW d0 with
      | false =>
        rw [isF_two (by rw [w0]; rfl)] at q
        exact iteT (iteT q)
      | true =>
      refine iteF ⟨_, rfl, _, _, _, _, rfl, h1, _, rfl, ?_⟩
      cases w1 : isW d1 with
      | false =>
        rw [isF_two (by rw [w0, w1]; rfl)] at q
        exact iteT (iteT q)
      | true =>
      obtain ⟨t, rfl, rfl, bt⟩ := th_int h0 w0
      obtain ⟨b, rfl, rfl, bb⟩ := th_int h1 w1
      refine iteF ⟨_, rfl, _, _, rfl, rfl, _, rfl, ?_⟩
      refine ite2 (fun c => ?_) (fun c => ?_)
      · have c' : b < 1 := of_decide_eq_true c
        have e : isF (.tuple [.int t, .int b]) = false := by
          show (decide (1 ≤ b) && _) = false
          rw [decide_eq_false (by omega)]
          rfl
        rw [e] at q
        exact q
      · have c' : ¬ b < 1 := of_decide_eq_false (Bool.eq_false_iff.mpr c)
        refine ⟨_, rfl, _, rfl, _, rfl, _, _, rfl, abs_nn t, by omega, ?_⟩
        rw [gI_absL]
        refine ⟨rfl, ?_⟩
        have e : isF (.tuple [.int t, .int b]) = decide (V.int (gI t b) = V.int 1) := by
          show (decide (1 ≤ b) && decide (gI t b = 1)) = _
          rw [decide_eq_true (show 1 ≤ b by omega), Bool.true_and]
          exact decide_eq_decide.mpr ⟨fun z => by rw [z], fun z => by injection z⟩
        rw [e] at q
        exact q
    · have c : (!decide (V.int ((xs.length : Nat) : Int) = V.int 2)) = true := by
        rw [decide_eq_false (fun z => h2 (by injection z with z; omega))]
        rfl
      rw [isF_len (by rw [← hL.len]; exact h2)] at q
      exact if_yes c q
  | _ => cases ht
end
end Vm

set_option Elab.async false
set_option linter.all false
set_option maxRecDepth 100000
set_option maxHeartbeats 4000000
namespace Vm
open PySem PySem.Spec PyProof.Rows L2
theorem yes_then {σ : L2.St} {H : Hp} {Q : Bool → Hp → Prop} (h : Q true H) : tYes σ H Q := h
theorem Same.sqT {K : PySem.W.Frag} {H H' : Hp} {a : Addr} {xs : List V} (e : Same H H') (h : SqT K H a xs) : SqT K H' a xs := (Nl.of_same e).sqT h
mutual
theorem Th.same {m : Bool} {K : PySem.W.Frag} {H H' : Hp} (s : Same H H') : ∀ {n : Nat} {v : V} {d : PyData}, Th m K H n v d → Th m K H' n v d
  | _, _, _, .non => .non
  | _, _, _, .bl b => .bl b
  | _, _, _, .int h => .int h
  | _, _, _, .str h hl => .str h hl
  | _, _, _, .tup h hs => .tup (Same.sqT s h) (ThL.same s hs)
  | _, _, _, .lst hm h hs => .lst hm (s.seq h) (ThL.same s hs)
  | _, _, _, .dic0 hm h => .dic0 hm (s _ _ h)
  | _, _, _, .dic1 hm hz hl h hs => .dic1 hm hz hl (s _ _ h) (Th.same s hs)
theorem ThL.same {m : Bool} {K : PySem.W.Frag} {H H' : Hp} (s : Same H H') : ∀ {n : Nat} {vs : List V} {ds : List PyData}, ThL m K H n vs ds → ThL m K H' n vs ds
  | _, _, _, .nil => .nil
  | _, _, _, .cons h hs => .cons (Th.same s h) (ThL.same s hs)
end
/-! ### lowest terms -/
theorem low_self {t b : Int} (hb : 0 < b) : lowM t b = (t, b) ↔ gI t b = 1 := by
  have hg := gI_pos (a := t) (b := b) (by omega)
  constructor
  · intro h
    have h2 : b / gI t b = b := congrArg Prod.snd h
    have h3 : b / gI t b * gI t b ≤ b := Int.ediv_mul_le b (by omega)
    rw [h2] at h3
    rcases Int.lt_or_le 1 (gI t b) with z | z
    · have : b * 2 ≤ b * gI t b := Int.mul_le_mul_of_nonneg_left (by omega) (by omega)
      omega
    · omega
  · intro h
    unfold lowM
    rw [h, Int.ediv_one, Int.ediv_one]
theorem bits_wide {x : Int} {a b : Nat} (h : Bits a x) (l : a ≤ b) : Bits b x := h.mono l
section
variable {P : Program} {w : World} {K : PySem.W.Frag} {mg : Str → Option Value} {base : Heap} {f fW fG fL fT : Addr} {fd dW dG dL dT : FuncData}
/-! ### the law's own is_fraction -/
abbrev sLIsF : Stmt := top 25
theorem scLIsF : FnScope ["_law_thing_here", "_law_one"] ["_law_thing_here"] (defScope sLIsF) := ⟨rfl, rfl, rfl, by decide +kernel, rfl, by decide +kernel, by decide +kernel⟩
theorem two_items {x0 x1 x : V} {i : Nat} (h : [x0, x1][i]? = some x) : (i = 0 ∧ x = x0) ∨ (i = 1 ∧ x = x1) := by
  match i, h with
  | 0, h => cases h; exact .inl ⟨rfl, rfl⟩
  | 1, h => cases h; exact .inr ⟨rfl, rfl⟩
  | i + 2, h => simp at h
theorem eqv_pair (a b c d : Int) : PyData.eqv (.tuple [.int a, .int b]) (.tuple [.int c, .int d]) = decide ((a, b) = (c, d)) := by
  simp only [PyData.eqv, PyData.eqvAll, Bool.and_true]
  rw [Bool.eq_iff_iff]
  simp
theorem dp_pair {H : Hp} {p : Addr} {z : Int × Int} (h : Fr K H p z) : Dp K H (.ref p) (.tuple [.int z.1, .int z.2]) := .tup h (.cons (.int _) (.cons (.int _) .nil))
theorem shaped_pair (a b : Int) : SeqAt.shaped (.tuple [.int a, .int b]) = true := by
  simp [SeqAt.shaped, PyData.canLay0, PyData.canLayAll0, PyData.depth, PyData.depthAll]
theorem ok_LIsF (F : Fun K "_law_is_fraction" "_law_is_fraction" sLIsF f fd) (B : Blt mg) (GW : FnOk P w K mg base CX0 1 fW dW ["_law_thing_here"] (spIsW K)) (aW : At K mg "_law_is_whole" ["_law_thing_here"] fW dW) (GL : FnOk P w K mg base CX0 1 fL dL ["_law_top", "_law_bottom"] spLow) (aL : At K mg "_law_low" ["_law_top", "_law_bottom"] fL dL) :
    FnOk P w K mg base CX0 2 f fd ["_law_thing_here"] (spIsF K) := by
  refine F.ok scLIsF (fun vs H Q E h => ?_) (fun cdv A outer s H vs Q E hr h => ?_)
  · obtain ⟨m, n, v, d, rfl, _⟩ := h
    rfl
  obtain ⟨m, n, v, d, rfl, th, q⟩ := h
  refine ⟨_, pss_cons (ps_if (PW.pt (pw_or (pt_not (pt_val (pe_callB call_isi rfl B.isi (by decide +kernel) (pa_cons (pv 0) (pa_cons (pe_bltn (v := .ty "tuple") rfl B.tup (by decide +kernel) rfl) pa_nil)))))
      (pw_or (pt_cmpR op_ne (pe_callB call_len_seq rfl B.len PySem.boot_len (pa_cons (pv 0) pa_nil)) pe_int (nomark _))
      (pw_or1 (pt_not (pt_val (pe_callB (cr_all rfl) rfl B.all (by decide +kernel) (pa_cons (pe_lc (own := [("_law_one", 1)]) (g := gName 1) (tt := tYes) rfl scLIsF.nd (pi_tup (pv 0)) (blkOk_by (own := [("_law_one", 1)]) (N := ["_law_thing_here", "_law_one"]) (sc := defScope sLIsF) (by decide +kernel))
        (fun _ _ _ _ _ => pg_name (i := 1) scLIsF.nd rfl (Or.inl rfl)) (fun _ _ _ _ _ => pts_nil) (fun _ _ _ _ _ => pe_call GW hr rfl aW.m aW.k aW.b .nil pass0 (pa_cons (pv 1) pa_nil))) pa_nil)))))))) (pss_one (ps_ret pe_bl)) pss_nil)
    (pss_one (ps_ret (pe_and (pe_cmpR op_gt (pe_ix ix_tup (pv 0) pe_int (fun _ _ => rfl)) pe_int (nomark _)) (pe_one (pe_cmpR (op_eqD hr.units) (pe_call GL hr rfl aL.m aL.k aL.b .nil pass0 (pa_cons (pe_ix ix_tup (pv 0) pe_int (fun _ _ => rfl)) (pa_cons (pe_ix ix_tup (pv 0) pe_int (fun _ _ => rfl)) pa_nil))) (pv 0) (nomark _)))))), ?_⟩
  refine ⟨_, rfl, _, _, _, _, _, rfl, .ty _, th.ty, kit_tup d, _, rfl, ?_⟩
  cases ht : isTp d with
  | false =>
    have q' := q H (Same.refl H)
    rw [isF_not ht] at q'
    exact iteT (iteT q')
  | true =>
  refine iteF ?_
  cases th with
  | tup hT hL =>
    rename_i n a xs ds
    refine ⟨_, rfl, a, _, rfl, .inr hT, rfl, _, rfl, ?_⟩
    by_cases h2 : xs.length = 2
    · have c2 : V.int ((xs.length : Nat) : Int) = V.int 2 := by rw [h2]; rfl
      refine iteNS c2 ?_
      obtain ⟨x0, x1, d0, d1, n0, n1, rfl, rfl, h0, h1⟩ := thl_two hL h2
      refine ⟨_, rfl, a, rfl, ⟨_, hT⟩, fun D hD => ?_⟩
      refine lc_tup (K := K) (a := a) (xs := [x0, x1]) (fun i H' => Same H H' ∧ H' D = some (.lst (([isW d0, isW d1].take i).map V.bl))) ⟨same_new hD _, upd_same⟩ ?_ ?_ ?_
      · rintro i H1 _ ⟨s1, _⟩
        exact Same.sqT s1 hT
      · rintro i x H1 hx ⟨s1, d1'⟩
        refine ⟨rfl, yes_then ?_⟩
        refine iteT ?_
        rcases two_items hx with ⟨rfl, rfl⟩ | ⟨rfl, rfl⟩
        · refine ⟨_, rfl, _, _, _, _, rfl, h0.same s1, _, d1', (by show 0 < sizeLine; decide), ?_, ?_⟩
          · intro b o e
            rw [upd_ne (ne_of_none e hD)]
            exact s1 _ _ e
          · rw [upd_same]
            rfl
        · refine ⟨_, rfl, _, _, _, _, rfl, h1.same s1, _, d1', (by show 1 < sizeLine; decide), ?_, ?_⟩
          · intro b o e
            rw [upd_ne (ne_of_none e hD)]
            exact s1 _ _ e
          · rw [upd_same]
            rfl
      rintro H1 ⟨s1, d1'⟩
      refine ⟨D, [isW d0, isW d1], rfl, SqL.of d1', _, rfl, ?_⟩
      have q1 := q H1 s1
      cases w0 : isW d0 with
      | false =>
        rw [isF_two (by rw [w0]; rfl)] at q1
        exact iteT q1
      | true =>
      cases w1 : isW d1 with
      | false =>
        rw [isF_two (by rw [w0, w1]; rfl)] at q1
        exact iteT q1
      | true =>
      obtain ⟨t, rfl, rfl, bt⟩ := th_int h0 w0
      obtain ⟨b, rfl, rfl, bb⟩ := th_int h1 w1
      have hT1 := Same.sqT s1 hT
      refine iteF ?_
      refine ⟨_, rfl, a, _, _, _, rfl, rfl, hT1, rfl, _, _, rfl, rfl, _, rfl, ?_⟩
      refine ite2 (fun c => ?_) (fun c => ?_)
      · have c' : b > 0 := of_decide_eq_true c
        refine ⟨_, rfl, a, _, _, _, rfl, rfl, hT1, rfl, _, rfl, a, _, _, _, rfl, rfl, hT1, rfl, t, b, rfl, c', bits_wide bb (by decide), fun p H2 s2 n2 e2 => ?_⟩
        refine ⟨_, rfl, _, _, dp_pair (z := lowM t b) (Fr.of e2), dp_pair (z := (t, b)) (Same.sqT s2 hT1), shaped_pair _ _, shaped_pair _ _, ?_⟩
        rw [eqv_pair]
        have e : isF (.tuple [.int t, .int b]) = decide (((lowM t b).1, (lowM t b).2) = (t, b)) := by
          show (decide (1 ≤ b) && decide (gI t b = 1)) = _
          rw [decide_eq_true (show 1 ≤ b by omega), Bool.true_and]
          exact decide_eq_decide.mpr (low_self c').symm
        have q2 := q H2 (s1.trans s2)
        rw [e] at q2
        exact q2
      · have c' : ¬ b > 0 := of_decide_eq_false (Bool.eq_false_iff.mpr c)
        have e : isF (.tuple [.int t, .int b]) = false := by
          show (decide (1 ≤ b) && _) = false
          rw [decide_eq_false (by omega)]
          rfl
        rw [e] at q1
        exact q1
    · have c : (!decide (V.int ((xs.length : Nat) : Int) = V.int 2)) = true := by
        rw [decide_eq_false (fun z => h2 (by injection z with z; omega))]
        rfl
      have q' := q H (Same.refl H)
      rw [isF_len (by rw [← hL.len]; exact h2)] at q'
      exact if_yes c (iteT q')
  | _ => cases ht
/-! ### great numbers, drawn fractions -/
theorem Purse.ne {H : Hp} {a l : Addr} (p : Purse H a) (h : H l = none) : l ≠ a := fun e => by
  obtain ⟨_, _, _, q⟩ := p
  subst e
  rw [q] at h
  cases h
theorem Purse.same {H H' : Hp} {a : Addr} (p : Purse H a) (h : Same H H') : Purse H' a := let ⟨s, d, c, q⟩ := p; ⟨s, d, c, h _ _ q⟩
abbrev sGreat : Stmt := top 18
theorem scGreat : FnScope ["_law_purse_here", "_law_number", "_law_k"] ["_law_purse_here"] (defScope sGreat) := ⟨rfl, rfl, rfl, by decide +kernel, rfl, by decide +kernel, by decide +kernel⟩
def spGreat : Sp := fun vs H Q _ => ∃ a : Addr, vs = [.ref a] ∧ Purse H a ∧ ∀ n H', Bits 180 n → Kept a H H' → Q (.int n) H'
theorem turns_at {t : Int} (h0 : 0 ≤ t) (h7 : t < 6) : ∃ n : Nat, n ≤ 9 ∧ atI [V.int 1, .int 1, .int 2, .int 4, .int 9, .int 0] t = some (.int (n : Int)) := by
  have h : t = 0 ∨ t = 1 ∨ t = 2 ∨ t = 3 ∨ t = 4 ∨ t = 5 := by omega
  rcases h with rfl | rfl | rfl | rfl | rfl | rfl
  · exact ⟨1, by decide, rfl⟩
  · exact ⟨1, by decide, rfl⟩
  · exact ⟨2, by decide, rfl⟩
  · exact ⟨4, by decide, rfl⟩
  · exact ⟨9, by decide, rfl⟩
  · exact ⟨0, by decide, rfl⟩
theorem width_at {t : Int} (h0 : 0 ≤ t) (h3 : t < 3) : ∃ n : Int, 0 < n ∧ n ≤ 1000000 ∧ atI [V.int (10 ^ (6 : Int).toNat), .int 10, .int 1000] t = some (.int n) := by
  have h : t = 0 ∨ t = 1 ∨ t = 2 := by omega
  rcases h with rfl | rfl | rfl
  · exact ⟨10 ^ (6 : Int).toNat, by decide, by decide, rfl⟩
  · exact ⟨10, by decide, by decide, rfl⟩
  · exact ⟨1000, by decide, by decide, rfl⟩
theorem grow {i : Nat} {x t : Int} (h : Bits (20 * i) x) (hx : 0 ≤ x) (t0 : 0 ≤ t) (t1 : t < 1000000) : Bits (20 * (i + 1)) (x * 1000000 + t) := by
  unfold Bits at *
  rw [Nat.mul_add, Nat.pow_add]
  generalize 2 ^ (20 * i) = k at h
  have e : 2 ^ (20 * 1) = 1048576 := by decide
  rw [e]
  omega
theorem ok_great (F : Fun K "_law_great" "_law_great" sGreat f fd) (T : FnOk P w K mg base CX0 1 fT dT ["_law_purse_here", "_law_many"] spTake) (aT : At K mg "_law_take" ["_law_purse_here", "_law_many"] fT dT) (mR : mg "range" = none) :
    FnOk P w K mg base CX0 2 f fd ["_law_purse_here"] spGreat := by
  refine F.ok scGreat (fun vs H Q E h => ?_) (fun cdv A outer s H vs Q E hr h => ?_)
  · obtain ⟨a, rfl, _⟩ := h
    rfl
  obtain ⟨a, rfl, hp, q⟩ := h
  refine ⟨_, pss_cons (ps_set (i := 1) scGreat.nd rfl (.inl rfl) pe_int)
    (pss_cons (ps_for PassesOwn.never rfl (pi_range1 rfl mR (pa_cons (pe_ix ix_list (pe_lst (pa_cons pe_int (pa_cons pe_int (pa_cons pe_int (pa_cons pe_int (pa_cons pe_int (pa_cons pe_int pa_nil)))))))
          (pe_call T hr rfl aT.m aT.k aT.b .nil pass0 (pa_cons (pv 0) (pa_cons pe_int pa_nil))) (fun _ _ => rfl)) pa_nil)) (pg_name (i := 2) scGreat.nd rfl (.inl rfl))
      (pss_one (ps_set (i := 1) scGreat.nd rfl (.inl rfl) (pe_op op_add (pe_op op_mul (pv 1) (pe_op op_pow pe_int pe_int))
        (pe_call T hr rfl aT.m aT.k aT.b .nil pass0 (pa_cons (pv 0) (pa_cons (pe_ix ix_list (pe_lst (pa_cons (pe_op op_pow pe_int pe_int) (pa_cons pe_int (pa_cons pe_int pa_nil)))) (pe_op op_mod (pv 2) pe_int) (fun _ _ => rfl)) pa_nil)))))))
    (pss_one (ps_ret (pe_op op_mulW (pv 1) (pe_op op_sub pe_int (pe_op op_mul pe_int (pe_call T hr rfl aT.m aT.k aT.b .nil pass0 (pa_cons (pv 0) (pa_cons pe_int pa_nil))))))))), ?_⟩
  refine ⟨(by show 6 ≤ sizeLine; decide), fun l hl => ?_⟩
  have pl : Purse (upd H l (.lst [V.int 1, .int 1, .int 2, .int 4, .int 9, .int 0])) a := hp.same (same_new hl _)
  have nla := hp.ne hl
  refine ⟨_, rfl, a, 6, rfl, pl, by decide, by decide, fun t H1 t0 t7 k1 => ?_⟩
  obtain ⟨n, hn, et⟩ := turns_at t0 t7
  have k0 : Kept a H H1 := (Kept.of_same hp (same_new hl _)).trans k1
  refine ⟨l, _, _, _, rfl, rfl, SqL.of (k1.2 l _ nla upd_same), et, ?_⟩
  refine ⟨_, rfl, by omega, by omega, ?_⟩
  refine for_range (lo := 0) (n := ((n : Nat) : Int).toNat) (fun i σ H' => ∃ (x : Int) (kv : Option V), σ = [some (.ref a), some (.int x), kv] ∧ 0 ≤ x ∧ Bits (20 * i) x ∧ Kept a H H') ⟨0, none, rfl, by decide, (by show (0 : Int).natAbs < 2 ^ (20 * 0); decide), k0⟩ ?_ ?_
  · rintro i σ H2 hi ⟨x, kv, rfl, hx, bx, k2⟩
    refine ⟨_, rfl, _, _, rfl, rfl, ⟨by decide, by decide, by decide⟩, _, _, rfl, rfl, .inr ⟨by decide, by decide⟩, ?_⟩
    refine ⟨_, rfl, _, _, rfl, rfl, ⟨by decide, by decide, by decide⟩, (by show 3 ≤ sizeLine; decide), fun l2 hl2 => ?_⟩
    have nl2 := k2.1.ne hl2
    obtain ⟨m, m0, m1, em⟩ := width_at (Int.emod_nonneg ((0 : Int) + (i : Int)) (show (3 : Int) ≠ 0 by decide)) (Int.emod_lt_of_pos ((0 : Int) + (i : Int)) (show (0 : Int) < 3 by decide))
    refine ⟨_, rfl, _, _, rfl, rfl, (by show (0 : Int) < _; decide), l2, _, _, _, rfl, rfl, SqL.of upd_same, em, ?_⟩
    refine ⟨a, m, rfl, k2.1.same (same_new hl2 _), m0, by omega, fun t2 H3 t20 t21 k3 => ?_⟩
    refine ⟨_, _, rfl, rfl, ?_⟩
    refine ⟨_, _, rfl, ?_, ?_, (k2.same (same_new hl2 _)).trans k3⟩
    · have h6 : (10 : Int) ^ (6 : Int).toNat = 1000000 := by decide
      show 0 ≤ x * 10 ^ (6 : Int).toNat + t2
      rw [h6]
      omega
    · have h6 : (10 : Int) ^ (6 : Int).toNat = 1000000 := by decide
      show Bits (20 * (i + 1)) (x * 10 ^ (6 : Int).toNat + t2)
      rw [h6]
      exact grow bx hx t20 (by omega)
  · rintro σ H2 ⟨x, kv, rfl, hx, bx, k2⟩
    refine ⟨_, rfl, _, rfl, a, 2, rfl, k2.1, by decide, by decide, fun t H3 t0 t2 k3 => ?_⟩
    have bx2 : Bits 180 x := bx.mono (by omega)
    have ht : t = 0 ∨ t = 1 := by omega
    refine ⟨_, _, rfl, rfl, .inl ⟨by decide, by decide⟩, _, _, rfl, rfl, _, _, rfl, rfl, bx2.okMul (b := 2) (by unfold Bits; rcases ht with rfl | rfl <;> decide) (by decide) (by decide) (by decide), ?_⟩
    refine q _ _ ?_ (k2.trans k3)
    show Bits 180 (x * (1 - 2 * t))
    rcases ht with rfl | rfl
    · rw [show x * (1 - 2 * 0) = x by omega]
      exact bx2
    · rw [show x * (1 - 2 * 1) = -x by omega]
      exact bx2.neg
/-- in lowest terms -/
def Canon (z : Int × Int) : Prop := 0 < z.2 ∧ gI z.1 z.2 = 1
theorem gI_div {t b : Int} (h : b ≠ 0) : gI (t / gI t b) (b / gI t b) = 1 := by
  have hg : 0 < Nat.gcd t.natAbs b.natAbs := Nat.gcd_pos_of_pos_right _ (Int.natAbs_pos.mpr h)
  have key : ∀ x : Int, Nat.gcd t.natAbs b.natAbs ∣ x.natAbs → (x / gI t b).natAbs = x.natAbs / Nat.gcd t.natAbs b.natAbs := fun x hx => by
    unfold gI
    exact Int.natAbs_ediv_of_dvd (Int.ofNat_dvd_left.mpr hx)
  unfold gI
  have e1 := key t (Nat.gcd_dvd_left _ _)
  have e2 := key b (Nat.gcd_dvd_right _ _)
  unfold gI at e1 e2
  rw [e1, e2, Nat.gcd_div (Nat.gcd_dvd_left _ _) (Nat.gcd_dvd_right _ _), Nat.div_self hg]
  rfl
theorem low_canon {t b : Int} (h : 0 < b) : Canon (lowM t b) := ⟨lowM_bot h, gI_div (by omega)⟩
theorem low_sized {t b : Int} {n : Nat} (h : 0 < b) (ht : Bits n t) (hb : Bits n b) : Sized n (lowM t b) :=
  let q := lowM_lt (by omega) ht hb
  ⟨q.1, q.2, lowM_bot h⟩
abbrev sFr : Stmt := top 26
theorem scFr : FnScope ["_law_purse_here", "_law_bottom"] ["_law_purse_here", "_law_bottom"] (defScope sFr) := ⟨rfl, rfl, rfl, by decide +kernel, rfl, by decide +kernel, by decide +kernel⟩
def spFr : Sp := fun vs H Q _ => ∃ (a : Addr) (b : Int), vs = [.ref a, .int b] ∧ Purse H a ∧ 0 < b ∧ Bits 181 b ∧ ∀ p z H', Sized 181 z → Canon z → H' p = some (tupF z) → Kept a H H' → Q (.ref p) H'
theorem ok_fr (F : Fun K "_law_fraction" "_law_fraction" sFr f fd) (G : FnOk P w K mg base CX0 2 fG dG ["_law_purse_here"] spGreat) (aG : At K mg "_law_great" ["_law_purse_here"] fG dG)
    (L : FnOk P w K mg base CX0 1 fL dL ["_law_top", "_law_bottom"] spLow) (aL : At K mg "_law_low" ["_law_top", "_law_bottom"] fL dL) (T : FnOk P w K mg base CX0 1 fT dT ["_law_purse_here", "_law_many"] spTake) (aT : At K mg "_law_take" ["_law_purse_here", "_law_many"] fT dT) (mA : mg "abs" = none) :
    FnOk P w K mg base CX0 3 f fd ["_law_purse_here", "_law_bottom"] spFr := by
  refine F.ok scFr (fun vs H Q E h => ?_) (fun cdv A outer s H vs Q E hr h => ?_)
  · obtain ⟨a, b, rfl, _⟩ := h
    rfl
  obtain ⟨a, bo, rfl, hp, b0, b1, q⟩ := h
  have h1 := hr.mono (show 1 ≤ 2 by decide)
  refine ⟨_, pss_one (ps_ret (pe_call L h1 rfl aL.m aL.k aL.b .nil pass0 (pa_cons (pe_call G hr rfl aG.m aG.k aG.b .nil pass0 (pa_cons (pv 0) pa_nil)) (pa_cons (pe_ix ix_list (pe_lst (pa_cons (pv 1) (pa_cons (pe_op op_add pe_int (pe_callB call_abs rfl mA (by decide +kernel) (pa_cons (pe_call G hr rfl aG.m aG.k aG.b .nil pass0 (pa_cons (pv 0) pa_nil)) pa_nil))) pa_nil)))
    (pe_call T h1 rfl aT.m aT.k aT.b .nil pass0 (pa_cons (pv 0) (pa_cons pe_int pa_nil))) (fun _ _ => rfl)) pa_nil)))), ?_⟩
  refine ⟨_, rfl, a, rfl, hp, fun n H1 bn k1 => ?_⟩
  refine ⟨_, rfl, _, rfl, a, rfl, k1.1, fun m H2 bm k2 => ?_⟩
  have ba : Bits 180 (if m < 0 then -m else m) := by split; exact bm.neg; exact bm
  have b2 : Bits 181 (1 + (if m < 0 then -m else m)) := Bits.add (a := 180) (by unfold Bits; decide +kernel) ba
  have nn := abs_nn m
  refine ⟨_, rfl, _, _, rfl, rfl, (by show 2 ≤ sizeLine; decide), fun l hl => ?_⟩
  have nl := k2.1.ne hl
  refine ⟨_, rfl, a, 2, rfl, k2.1.same (same_new hl _), by decide, by decide, fun t H3 t0 t2 k3 => ?_⟩
  have el : H3 l = some (.lst [.int bo, .int (1 + (if m < 0 then -m else m))]) := k3.2 _ _ nl upd_same
  obtain ⟨b, eb, pb, bb⟩ : ∃ b : Int, atI [V.int bo, .int (1 + (if m < 0 then -m else m))] t = some (.int b) ∧ 0 < b ∧ Bits 181 b := by
    have ht : t = 0 ∨ t = 1 := by omega
    rcases ht with rfl | rfl
    · exact ⟨bo, rfl, b0, b1⟩
    · exact ⟨_, rfl, by omega, b2⟩
  refine ⟨l, _, _, _, rfl, rfl, SqL.of el, eb, n, b, rfl, pb, bb.mono (by decide), fun p H4 s4 n4 e4 => ?_⟩
  exact q p _ H4 (low_sized pb (bn.mono (by decide)) bb) (low_canon pb) e4 ((k1.trans ((k2.same (same_new hl _)).trans k3)).same s4)
end
end Vm

set_option Elab.async false
set_option linter.all false
set_option maxRecDepth 100000
set_option maxHeartbeats 4000000
namespace Vm
open PySem PySem.Spec PyProof.Rows L2
/-! ### t[::-1] of two -/
section
variable {prog : Program} {w : World} {A : Around} {E : Value → Shared → Prop} {s : Shared}
theorem applied_back {sl : Addr} {vl vu vs : Value} {Q : Int × Int × Nat → Shared → Prop} (hs : s.heap.IsSliceOf sl vl vu vs) (pl : IsPart vl none) (pu : IsPart vu none) (ps : IsPart vs (some (-1))) (h : Q (1, -1, 2) s) :
    wpAny (model prog w) A (Builtin.Slice.sliceApplied (.ref sl) (pure ((2 : Nat) : Int))) Q E s := by
  obtain ⟨o, ho, _, hd⟩ := id hs
  unfold Builtin.Slice.sliceApplied Builtin.Slice.sliceFields
  refine wpAny_bind (wpAny_bind (wpAny_field ho hd (x := vl) rfl (wpAny_bind (wpAny_field ho hd (x := vu) rfl (wpAny_bind (wpAny_field ho hd (x := vs) rfl (wpAny_pure ?_)))))))
  refine wpAny_bind (HT.slicePart_ ps ?_)
  show wpAny _ _ (if ((-1 : Int) == 0) = true then _ else _) _ _ s
  rw [if_neg (by decide)]
  refine wpAny_bind (HT.slicePart_ pl (wpAny_bind (HT.slicePart_ pu (wpAny_bind (wpAny_pure ?_)))))
  exact wpAny_pure h
theorem item_back {t sl : Addr} {u0 u1 vl vu vs : Value} {Q : Value → Shared → Prop} (ht : IsTup s.heap t #[u0, u1]) (hs : s.heap.IsSliceOf sl vl vu vs) (pl : IsPart vl none) (pu : IsPart vu none) (ps : IsPart vs (some (-1)))
    (h : Q (.ref s.heap.objs.size) { s with heap := s.heap.push { cls := .type "tuple", data := .seq #[u1, u0] } }) : wpAny (model prog w) A (getItem (.ref t) (.ref sl)) Q E s := by
  obtain ⟨o, ho, hcl, hd⟩ := id hs
  have tys : s.TypeIs (.ref sl) "slice" := ⟨o, ho, hcl⟩
  unfold getItem
  try with_reducible refine wpAny_holding ?_
  first | refine wpAny_bind (wpAny_pure ?_) | skip
  refine wpAny_bind (wpAny_sequenceKey ht.typeIs (by decide) ?_)
  refine wpAny_bind (wpAny_callSpecial?_slot (name := Str.ofString "__getitem__") ht.typeIs PyProof.Rows.slot_tuple_getitem
    (wpAny_call_entry PyProof.Rows.slot_tuple_getitem ht.typeIs entry_tuple_getitem ?_ (args_tuple_getitem _ _)))
  show wpAny _ _ (Builtin.Tuple.tupleItemsOf (.ref t) >>= _) _ _ s
  refine wpAny_bind (tupleItemsOf_ ht ?_)
  refine wpAny_bind (wpAny_typeOf tys ?_)
  rw [if_pos (by decide)]
  refine wpAny_bind (applied_back hs pl pu ps ?_)
  show wpAny _ _ (if ((1 : Int) == 0 && (-1 : Int) == 1 && 2 == 2) = true then _ else _) _ _ s
  rw [if_neg (by decide)]
  have room : sizeOk (.seq #[u1, u0]) := by show 2 ≤ sizeLine; decide
  first
    | exact wpAny_bind (m := Builtin.Tuple.tupleExact _) (wpAny_newObj_type (wpAny_pure ⟨_, rfl, wpAny_pure h⟩) room)
    | exact wpAny_bind (m := Builtin.Tuple.tupleExact _) (wpAny_newObj_type (wpAny_bind (wpAny_pure (wpAny_pure ⟨_, rfl, wpAny_pure h⟩))) room)
    | exact wpAny_bind (wpAny_bind (m := Builtin.Tuple.tupleExact _) (wpAny_newObj_type (wpAny_pure (wpAny_pure ⟨_, rfl, wpAny_pure h⟩)) room))
    | exact wpAny_bind (wpAny_bind (m := Builtin.Tuple.tupleExact _) (wpAny_newObj_type (wpAny_pure ⟨_, rfl, wpAny_pure h⟩) room))
end
def tRevT (K : PySem.W.Frag) (te : TE) : TE := fun σ H Q => te σ H fun x H1 => ∃ (a : Addr) (x0 x1 : V), x = .ref a ∧ SqT K H1 a [x0, x1] ∧ ∀ p, H1 p = none → Q (.ref p) (upd H1 p (.tup [x1, x0]))
theorem pe_revT {X : Cx} {e : Expr} {te : TE} {k : Nat} {p1 p2 p3 pos : Pos} (he : PE X e te) : PE X (.Subscript e (.Slice none none (some (.UnaryOp .USub (.Constant (.int 1) k p1) p2)) p3) pos) (tRevT X.K te) := by
  refine ⟨fun pins s σ H Q I h => Subscript_ (thn (he.run pins s σ H _ I h) ?_)⟩
  rintro v s1 ⟨x, H1, I1, r1, a, x0, x1, rfl, hx, q⟩
  cases r1
  have minus : PO X (some (.UnaryOp .USub (.Constant (.int 1) k p1) p2)) (tPart (tUn (rU fun i => .int (-i)) (tC (.int 1)))) := po_some (pe_un un_neg pe_int)
  refine wpAny_Slice (thn (po_none.run pins s1 σ H1 (fun o I => o = none ∧ I = H1) I1 ⟨rfl, rfl⟩) ?_)
  rintro vl s2 ⟨_, _, I2, pl, rfl, rfl⟩
  refine thn (po_none.run pins s2 σ _ (fun o I => o = none ∧ I = _) I2 ⟨rfl, rfl⟩) ?_
  rintro vu s3 ⟨_, _, I3, pu, rfl, rfl⟩
  refine thn (minus.run pins s3 σ _ (fun o I => o = some (-1) ∧ I = _) I3 ⟨1, rfl, -1, rfl, rfl, rfl⟩) ?_
  rintro vs s4 ⟨_, _, I4, ps, rfl, rfl⟩
  have I5 := I4.kept (h' := s4.heap.push { cls := .type "slice", data := .fields #[vl, vu, vs] }) (t' := s4.toks) fun b ob z => Heap.get?_push_of_some _ z
  obtain ⟨its, r, ht, _⟩ := I5.tuple hx
  cases r with
  | cons ra rr =>
    cases rr with
    | cons rb rn =>
      cases rn
      refine tail_any (ops := [.ref a, .ref s4.heap.objs.size]) ht.typeIs PyProof.Rows.slot_tuple_getitem.lookup ?_ (by with_unfolding_all rfl)
      refine item_back ht (Heap.IsSliceOf.new _ vl vu vs) pl pu ps ?_
      refine ⟨.ref _, _, I5.laid (t' := s4.toks) (o := .tup [x1, x0]) (fun b ob z => Heap.get?_push_of_some _ z) (Nat.le_refl _) ?_, rfl, q _ (I5.hok.fresh (Nat.le_refl _))⟩
      exact ⟨(by show 2 ≤ sizeLine; decide), _, .cons rb (.cons ra .nil), ⟨_, Heap.get?_push_size _ rfl, rfl, _, rfl⟩⟩
end Vm

set_option Elab.async false
set_option linter.all false
set_option maxRecDepth 100000
set_option maxHeartbeats 8000000
namespace Vm
open PySem PySem.Spec PyProof.Rows L2
/-! ### things that stay while the purse at a is drawn from -/
def Rb (a : Addr) (m : Bool) (K : PySem.W.Frag) (H : Hp) (n : Nat) (v : V) (d : PyData) : Prop := ∀ H', Kept a H H' → Th m K H' n v d
def RbL (a : Addr) (m : Bool) (K : PySem.W.Frag) (H : Hp) (n : Nat) (vs : List V) (ds : List PyData) : Prop := ∀ H', Kept a H H' → ThL m K H' n vs ds
section
variable {a p : Addr} {m : Bool} {K : PySem.W.Frag} {H H' : Hp} {n k : Nat} {v : V} {d : PyData} {xs : List V} {ds : List PyData}
theorem Kept.back (s : Same H H') {H2 : Hp} (x : Kept a H' H2) : Kept a H H2 := ⟨x.1, fun b o hb e => x.2 b o hb (s _ _ e)⟩
theorem Rb.same (r : Rb a m K H n v d) (s : Same H H') : Rb a m K H' n v d := fun H2 x => r H2 (x.back s)
theorem Rb.kept (r : Rb a m K H n v d) (s : Kept a H H') : Rb a m K H' n v d := fun H2 x => r H2 (s.trans x)
theorem Rb.at (r : Rb a m K H n v d) (hp : Purse H a) : Th m K H n v d := r H ⟨hp, fun _ _ _ e => e⟩
theorem rbl_nil : RbL a m K H 0 [] [] := fun _ _ => .nil
theorem rbl_cons (r : Rb a m K H n v d) (rs : RbL a m K H k xs ds) : RbL a m K H (n + k) (v :: xs) (d :: ds) := fun H2 x => .cons (r H2 x) (rs H2 x)
theorem rb_tup (ne : p ≠ a) (h : H p = some (.tup xs)) (rs : RbL a m K H n xs ds) : Rb a m K H (n + 1) (.ref p) (.tuple ds) := fun H2 x => .tup (SqT.of (x.2 _ _ ne h)) (rs H2 x)
theorem rb_lst (ne : p ≠ a) (h : H p = some (.lst xs)) (rs : RbL a false K H n xs ds) : Rb a false K H (n + 1) (.ref p) (.list ds) := fun H2 x => .lst rfl (SqL.of (x.2 _ _ ne h)) (rs H2 x)
theorem rb_dic0 (ne : p ≠ a) (h : H p = some (.dK [])) : Rb a true K H 1 (.ref p) (.dict []) := fun H2 x => .dic0 rfl (x.2 _ _ ne h)
theorem rb_dic1 {z : Str} (hz : z.cps.toList.all (fun c => decide (c < 16 ^ 8)) = true) (hl : z.cps.size ≤ 100) (ne : p ≠ a) (h : H p = some (.dK [(.inr z, v)])) (r : Rb a true K H n v d) : Rb a true K H (n + 2) (.ref p) (.dict [(.str z, d)]) := fun H2 x => .dic1 rfl hz hl (x.2 _ _ ne h) (r H2 x)
theorem rb_non : Rb a m K H 1 .non .none := fun _ _ => .non
theorem rb_bl (b : Bool) : Rb a m K H 1 (.bl b) (.bool b) := fun _ _ => .bl b
theorem rb_int {i : Int} (h : Bits 400 i) : Rb a m K H 1 (.int i) (.int i) := fun _ _ => .int h
theorem rb_str {z : Str} (h : z.cps.toList.all (fun c => decide (c < 16 ^ 8)) = true) (l : z.cps.size ≤ 100) : Rb a m K H 1 (.str z) (.str z) := fun _ _ => .str h l
/-- a thing of any kind, not great -/
def AnyR (a : Addr) (K : PySem.W.Frag) (H : Hp) (N : Nat) (v : V) : Prop := ∃ (m : Bool) (n : Nat) (d : PyData), Rb a m K H n v d ∧ n ≤ N
theorem AnyR.same {N : Nat} (r : AnyR a K H N v) (s : Same H H') : AnyR a K H' N v := let ⟨m, n, d, r, l⟩ := r; ⟨m, n, d, r.same s, l⟩
theorem AnyR.kept {N : Nat} (r : AnyR a K H N v) (s : Kept a H H') : AnyR a K H' N v := let ⟨m, n, d, r, l⟩ := r; ⟨m, n, d, r.kept s, l⟩
end
theorem at_some {xs : List V} {t : Int} (h0 : 0 ≤ t) (h1 : t < (xs.length : Int)) : ∃ x, x ∈ xs ∧ atI xs t = some x := by
  have hk : t.toNat < xs.length := by omega
  refine ⟨xs[t.toNat], List.getElem_mem hk, ?_⟩
  have e : atI xs ((t.toNat : Nat) : Int) = some xs[t.toNat] := atI_nat (List.getElem?_eq_getElem hk)
  rwa [show ((t.toNat : Nat) : Int) = t by omega] at e
theorem put_dict {H : Hp} {p : Addr} {o u : HO} (h : H p = none) : Same H (upd (upd H p o) p u) := by
  rw [upd_upd]
  exact same_new h u
theorem new_at {H : Hp} {p : Addr} (h : H p = none) (o : HO) : upd H p o p = some o := upd_same
theorem put_at {H : Hp} {p : Addr} {o : HO} (h : H p = none) (u : HO) : upd (upd H p o) p u p = some u := upd_same
theorem b200 {i : Int} (h : i.natAbs < 2 ^ 100) : Bits 400 i := Nat.lt_of_lt_of_le h (Nat.pow_le_pow_right (by decide) (by decide))
abbrev sOdd : Stmt := top 19
theorem scOdd : FnScope ["_law_purse_here", "_law_old", "_law_some"] ["_law_purse_here", "_law_old"] (defScope sOdd) := ⟨rfl, rfl, rfl, by decide +kernel, rfl, by decide +kernel, by decide +kernel⟩
section
variable {P : Program} {w : World} {K : PySem.W.Frag} {mg : Str → Option Value} {base : Heap} {f fT : Addr} {fd dT : FuncData}
def spOdd (K : PySem.W.Frag) : Sp := fun vs H Q _ => ∃ (a : Addr) (v : V) (n : Nat) (d : PyData), vs = [.ref a, v] ∧ Purse H a ∧ (∀ m, Rb a m K H n v d) ∧ n ≤ 6 ∧ ∀ u H', AnyR a K H' 20 u → Kept a H H' → Q u H'
theorem ok_odd (F : Fun K "_law_odd" "_law_odd" sOdd f fd) (T : FnOk P w K mg base CX0 1 fT dT ["_law_purse_here", "_law_many"] spTake) (aT : At K mg "_law_take" ["_law_purse_here", "_law_many"] fT dT) :
    FnOk P w K mg base CX0 2 f fd ["_law_purse_here", "_law_old"] (spOdd K) := by
  refine F.ok scOdd (fun vs H Q E h => ?_) (fun cdv A outer s H vs Q E hr h => ?_)
  · obtain ⟨a, v, n, d, rfl, _⟩ := h
    rfl
  obtain ⟨a, v, n, d, rfl, hp, pl, hn, q⟩ := h
  refine ⟨_, pss_cons (ps_set (i := 2) scOdd.nd rfl (.inl rfl) (pe_lst (pa_cons pe_non (pa_cons pe_bl (pa_cons pe_bl (pa_cons pe_int (pa_cons (pe_un un_neg pe_int) (pa_cons (pe_op op_pow pe_int pe_int) (pa_cons pe_str (pa_cons pe_str (pa_cons pe_str (pa_cons (pe_tup pa_nil) (pa_cons (pe_lst pa_nil) (pa_cons pe_dnewK (pa_cons (pe_tup (pa_cons pe_int (pa_cons pe_int pa_nil))) pa_nil)))))))))))))))
    (pss_cons (ps_set (i := 2) scOdd.nd rfl (.inl rfl) (pe_op op_cat (pv 2) (pe_lst (pa_cons (pe_lst (pa_cons (pv 1) pa_nil)) (pa_cons (pe_tup (pa_cons (pv 1) pa_nil)) (pa_cons (pe_tup (pa_cons (pv 1) (pa_cons (pv 1) pa_nil))) (pa_cons (pe_tup (pa_cons (pe_lst pa_nil) pa_nil)) (pa_cons (pe_tup (pa_cons (pv 1) (pa_cons pe_dnewK pa_nil))) (pa_cons (pe_disp (pps_cons pe_str (pv 1) pps_nil) (by rfl) (by rfl) (fun z => by cases z) (by decide)) (pa_cons (pe_lst (pa_cons pe_int (pa_cons pe_int pa_nil))) (pa_cons (pe_tup (pa_cons pe_int pa_nil)) pa_nil)))))))))))
    (pss_one (ps_ret (pe_ix ix_list (pv 2) (pe_call T hr rfl aT.m aT.k aT.b .nil pass0 (pa_cons (pv 0) (pa_cons pe_int pa_nil))) (fun _ _ => rfl))))), ?_⟩
  refine ⟨_, rfl, _, _, rfl, rfl, ⟨by decide, by decide, by decide⟩, (by show 0 ≤ sizeLine; decide), fun p1 n_p1 => ?_⟩
  have s_p1 := same_new n_p1 (.tup [])
  have S_p1 := s_p1
  have ne_p1 : p1 ≠ a := hp.ne n_p1
  have e_p1 := new_at n_p1 (.tup [])
  have r_p1 := rb_tup (K := K) (m := true) ne_p1 e_p1 rbl_nil
  refine ⟨(by show 0 ≤ sizeLine; decide), fun p2 n_p2 => ?_⟩
  have s_p2 := same_new n_p2 (.lst [])
  have S_p2 := S_p1.trans s_p2
  have ne_p2 : p2 ≠ a := (hp.same S_p1).ne n_p2
  have e_p2 := new_at n_p2 (.lst [])
  have r_p2 := rb_lst (K := K) ne_p2 e_p2 rbl_nil
  refine fun p3 n_p3 => ?_
  have s_p3 := same_new n_p3 (.dK [])
  have S_p3 := S_p2.trans s_p3
  have ne_p3 : p3 ≠ a := (hp.same S_p2).ne n_p3
  have e_p3 := new_at n_p3 (.dK [])
  have r_p3 := rb_dic0 (K := K) ne_p3 e_p3
  refine ⟨(by show 2 ≤ sizeLine; decide), fun p4 n_p4 => ?_⟩
  have s_p4 := same_new n_p4 (.tup [.int 0, .int 1])
  have S_p4 := S_p3.trans s_p4
  have ne_p4 : p4 ≠ a := (hp.same S_p3).ne n_p4
  have e_p4 := new_at n_p4 (.tup [.int 0, .int 1])
  have r_p4 := rb_tup (K := K) (m := true) ne_p4 e_p4 (rbl_cons (rb_int (b200 (by decide))) (rbl_cons (rb_int (b200 (by decide))) rbl_nil))
  refine ⟨(by show 13 ≤ sizeLine; decide), fun l1 n_l1 => ?_⟩
  have s_l1 := same_new n_l1 (.lst [V.non, .bl true, .bl false, .int 0, .int (-1), .int (10 ^ (20 : Int).toNat), .str "", .str "1", .str "ab", .ref p1, .ref p2, .ref p3, .ref p4])
  have S_l1 := S_p4.trans s_l1
  have ne_l1 : l1 ≠ a := (hp.same S_p4).ne n_l1
  have e_l1 := new_at n_l1 (.lst [V.non, .bl true, .bl false, .int 0, .int (-1), .int (10 ^ (20 : Int).toNat), .str "", .str "1", .str "ab", .ref p1, .ref p2, .ref p3, .ref p4])
  refine ⟨_, rfl, _, rfl, (by show 1 ≤ sizeLine; decide), fun p5 n_p5 => ?_⟩
  have s_p5 := same_new n_p5 (.lst [v])
  have S_p5 := S_l1.trans s_p5
  have ne_p5 : p5 ≠ a := (hp.same S_l1).ne n_p5
  have e_p5 := new_at n_p5 (.lst [v])
  have r_p5 := rb_lst (K := K) ne_p5 e_p5 (rbl_cons ((pl false).same S_p5) rbl_nil)
  refine ⟨_, rfl, (by show 1 ≤ sizeLine; decide), fun p6 n_p6 => ?_⟩
  have s_p6 := same_new n_p6 (.tup [v])
  have S_p6 := S_p5.trans s_p6
  have ne_p6 : p6 ≠ a := (hp.same S_p5).ne n_p6
  have e_p6 := new_at n_p6 (.tup [v])
  have r_p6 := rb_tup (m := true) ne_p6 e_p6 (rbl_cons ((pl true).same S_p6) rbl_nil)
  refine ⟨_, rfl, _, rfl, (by show 2 ≤ sizeLine; decide), fun p7 n_p7 => ?_⟩
  have s_p7 := same_new n_p7 (.tup [v, v])
  have S_p7 := S_p6.trans s_p7
  have ne_p7 : p7 ≠ a := (hp.same S_p6).ne n_p7
  have e_p7 := new_at n_p7 (.tup [v, v])
  have r_p7 := rb_tup (m := true) ne_p7 e_p7 (rbl_cons ((pl true).same S_p7) (rbl_cons ((pl true).same S_p7) rbl_nil))
  refine ⟨(by show 0 ≤ sizeLine; decide), fun p8 n_p8 => ?_⟩
  have s_p8 := same_new n_p8 (.lst [])
  have S_p8 := S_p7.trans s_p8
  have ne_p8 : p8 ≠ a := (hp.same S_p7).ne n_p8
  have e_p8 := new_at n_p8 (.lst [])
  have r_p8 := rb_lst (K := K) ne_p8 e_p8 rbl_nil
  refine ⟨(by show 1 ≤ sizeLine; decide), fun p9 n_p9 => ?_⟩
  have s_p9 := same_new n_p9 (.tup [.ref p8])
  have S_p9 := S_p8.trans s_p9
  have ne_p9 : p9 ≠ a := (hp.same S_p8).ne n_p9
  have e_p9 := new_at n_p9 (.tup [.ref p8])
  have r_p9 := rb_tup ne_p9 e_p9 (rbl_cons (r_p8.same s_p9) rbl_nil)
  refine ⟨_, rfl, fun p10 n_p10 => ?_⟩
  have s_p10 := same_new n_p10 (.dK [])
  have S_p10 := S_p9.trans s_p10
  have ne_p10 : p10 ≠ a := (hp.same S_p9).ne n_p10
  have e_p10 := new_at n_p10 (.dK [])
  have r_p10 := rb_dic0 (K := K) ne_p10 e_p10
  refine ⟨(by show 2 ≤ sizeLine; decide), fun p11 n_p11 => ?_⟩
  have s_p11 := same_new n_p11 (.tup [v, .ref p10])
  have S_p11 := S_p10.trans s_p11
  have ne_p11 : p11 ≠ a := (hp.same S_p10).ne n_p11
  have e_p11 := new_at n_p11 (.tup [v, .ref p10])
  have r_p11 := rb_tup ne_p11 e_p11 (rbl_cons ((pl true).same S_p11) (rbl_cons (r_p10.same s_p11) rbl_nil))
  refine fun p12 n_p12 => ⟨_, rfl, upd_same, [(.inr "ab", v)], rfl, (by show 1 ≤ 15; decide), ?_⟩
  have s_p12 := put_dict (o := .dK []) (u := .dK [(.inr "ab", v)]) n_p12
  have S_p12 := S_p11.trans s_p12
  have ne_p12 : p12 ≠ a := (hp.same S_p11).ne n_p12
  have e_p12 := put_at (o := .dK []) n_p12 (.dK [(.inr "ab", v)])
  have r_p12 := rb_dic1 (by decide +kernel) (by decide +kernel) ne_p12 e_p12 ((pl true).same S_p12)
  refine ⟨(by show 2 ≤ sizeLine; decide), fun p13 n_p13 => ?_⟩
  have s_p13 := same_new n_p13 (.lst [.int 0, .int 1])
  have S_p13 := S_p12.trans s_p13
  have ne_p13 : p13 ≠ a := (hp.same S_p12).ne n_p13
  have e_p13 := new_at n_p13 (.lst [.int 0, .int 1])
  have r_p13 := rb_lst (K := K) ne_p13 e_p13 (rbl_cons (rb_int (b200 (by decide))) (rbl_cons (rb_int (b200 (by decide))) rbl_nil))
  refine ⟨(by show 1 ≤ sizeLine; decide), fun p14 n_p14 => ?_⟩
  have s_p14 := same_new n_p14 (.tup [.int 1])
  have S_p14 := S_p13.trans s_p14
  have ne_p14 : p14 ≠ a := (hp.same S_p13).ne n_p14
  have e_p14 := new_at n_p14 (.tup [.int 1])
  have r_p14 := rb_tup (K := K) (m := true) ne_p14 e_p14 (rbl_cons (rb_int (b200 (by decide))) rbl_nil)
  refine ⟨(by show 8 ≤ sizeLine; decide), fun l2 n_l2 => ?_⟩
  have s_l2 := same_new n_l2 (.lst [.ref p5, .ref p6, .ref p7, .ref p9, .ref p11, .ref p12, .ref p13, .ref p14])
  have S_l2 := S_p14.trans s_l2
  have ne_l2 : l2 ≠ a := (hp.same S_p14).ne n_l2
  have e_l2 := new_at n_l2 (.lst [.ref p5, .ref p6, .ref p7, .ref p9, .ref p11, .ref p12, .ref p13, .ref p14])
  refine ⟨l1, l2, _, _, rfl, rfl, (s_p5.trans (s_p6.trans (s_p7.trans (s_p8.trans (s_p9.trans (s_p10.trans (s_p11.trans (s_p12.trans (s_p13.trans (s_p14.trans s_l2)))))))))) _ _ upd_same, upd_same, (by show 21 ≤ sizeLine; decide), fun l3 n_l3 => ?_⟩
  have s_l3 := same_new n_l3 (.lst [V.non, .bl true, .bl false, .int 0, .int (-1), .int (10 ^ (20 : Int).toNat), .str "", .str "1", .str "ab", .ref p1, .ref p2, .ref p3, .ref p4, .ref p5, .ref p6, .ref p7, .ref p9, .ref p11, .ref p12, .ref p13, .ref p14])
  have S_l3 := S_l2.trans s_l3
  have ne_l3 : l3 ≠ a := (hp.same S_l2).ne n_l3
  have e_l3 := new_at n_l3 (.lst [V.non, .bl true, .bl false, .int 0, .int (-1), .int (10 ^ (20 : Int).toNat), .str "", .str "1", .str "ab", .ref p1, .ref p2, .ref p3, .ref p4, .ref p5, .ref p6, .ref p7, .ref p9, .ref p11, .ref p12, .ref p13, .ref p14])
  refine ⟨_, rfl, _, rfl, a, 21, rfl, hp.same S_l3, by decide, by decide, fun t H' t0 t1 k => ?_⟩
  have el := k.2 _ _ ne_l3 e_l3
  obtain ⟨x, hx, ex⟩ := at_some (xs := [V.non, .bl true, .bl false, .int 0, .int (-1), .int (10 ^ (20 : Int).toNat), .str "", .str "1", .str "ab", .ref p1, .ref p2, .ref p3, .ref p4, .ref p5, .ref p6, .ref p7, .ref p9, .ref p11, .ref p12, .ref p13, .ref p14]) t0 t1
  refine ⟨l3, _, _, _, rfl, rfl, SqL.of el, ex, q x H' (AnyR.kept ?_ k) (Kept.back S_l3 k)⟩
  simp only [List.mem_cons, List.not_mem_nil, or_false] at hx
  rcases hx with rfl | rfl | rfl | rfl | rfl | rfl | rfl | rfl | rfl | rfl | rfl | rfl | rfl | rfl | rfl | rfl | rfl | rfl | rfl | rfl | rfl
  · exact ⟨true, 1, _, rb_non, by decide⟩
  · exact ⟨true, 1, _, rb_bl _, by decide⟩
  · exact ⟨true, 1, _, rb_bl _, by decide⟩
  · exact ⟨true, 1, _, rb_int (b200 (by decide)), by decide⟩
  · exact ⟨true, 1, _, rb_int (b200 (by decide)), by decide⟩
  · exact ⟨true, 1, _, rb_int (b200 (by decide)), by decide⟩
  · exact ⟨true, 1, _, rb_str (by decide +kernel) (by decide +kernel), by decide⟩
  · exact ⟨true, 1, _, rb_str (by decide +kernel) (by decide +kernel), by decide⟩
  · exact ⟨true, 1, _, rb_str (by decide +kernel) (by decide +kernel), by decide⟩
  · exact ⟨_, _, _, r_p1.same (s_p2.trans (s_p3.trans (s_p4.trans (s_l1.trans (s_p5.trans (s_p6.trans (s_p7.trans (s_p8.trans (s_p9.trans (s_p10.trans (s_p11.trans (s_p12.trans (s_p13.trans (s_p14.trans (s_l2.trans s_l3))))))))))))))), by omega⟩
  · exact ⟨_, _, _, r_p2.same (s_p3.trans (s_p4.trans (s_l1.trans (s_p5.trans (s_p6.trans (s_p7.trans (s_p8.trans (s_p9.trans (s_p10.trans (s_p11.trans (s_p12.trans (s_p13.trans (s_p14.trans (s_l2.trans s_l3)))))))))))))), by omega⟩
  · exact ⟨_, _, _, r_p3.same (s_p4.trans (s_l1.trans (s_p5.trans (s_p6.trans (s_p7.trans (s_p8.trans (s_p9.trans (s_p10.trans (s_p11.trans (s_p12.trans (s_p13.trans (s_p14.trans (s_l2.trans s_l3))))))))))))), by omega⟩
  · exact ⟨_, _, _, r_p4.same (s_l1.trans (s_p5.trans (s_p6.trans (s_p7.trans (s_p8.trans (s_p9.trans (s_p10.trans (s_p11.trans (s_p12.trans (s_p13.trans (s_p14.trans (s_l2.trans s_l3)))))))))))), by omega⟩
  · exact ⟨_, _, _, r_p5.same (s_p6.trans (s_p7.trans (s_p8.trans (s_p9.trans (s_p10.trans (s_p11.trans (s_p12.trans (s_p13.trans (s_p14.trans (s_l2.trans s_l3)))))))))), by omega⟩
  · exact ⟨_, _, _, r_p6.same (s_p7.trans (s_p8.trans (s_p9.trans (s_p10.trans (s_p11.trans (s_p12.trans (s_p13.trans (s_p14.trans (s_l2.trans s_l3))))))))), by omega⟩
  · exact ⟨_, _, _, r_p7.same (s_p8.trans (s_p9.trans (s_p10.trans (s_p11.trans (s_p12.trans (s_p13.trans (s_p14.trans (s_l2.trans s_l3)))))))), by omega⟩
  · exact ⟨_, _, _, r_p9.same (s_p10.trans (s_p11.trans (s_p12.trans (s_p13.trans (s_p14.trans (s_l2.trans s_l3)))))), by omega⟩
  · exact ⟨_, _, _, r_p11.same (s_p12.trans (s_p13.trans (s_p14.trans (s_l2.trans s_l3)))), by omega⟩
  · exact ⟨_, _, _, r_p12.same (s_p13.trans (s_p14.trans (s_l2.trans s_l3))), by omega⟩
  · exact ⟨_, _, _, r_p13.same (s_p14.trans (s_l2.trans s_l3)), by omega⟩
  · exact ⟨_, _, _, r_p14.same (s_l2.trans s_l3), by omega⟩
end
end Vm

set_option Elab.async false
set_option linter.all false
set_option maxRecDepth 100000
set_option maxHeartbeats 8000000
namespace Vm
open PySem PySem.Spec PyProof.Rows L2
section
variable {P : Program} {w : World} {K : PySem.W.Frag} {mg : Str → Option Value} {base : Heap} {f g fT : Addr} {fd gd dT : FuncData}
/-! ### put -/
abbrev sPut : Stmt := top 20
theorem scPut : FnScope ["_law_thing_here", "_law_way_here", "_law_new", "_law_at_here", "_law_part"] ["_law_thing_here", "_law_way_here", "_law_new"] (defScope sPut) := ⟨rfl, rfl, rfl, by decide +kernel, rfl, by decide +kernel, by decide +kernel⟩
def spPut (K : PySem.W.Frag) (n : Nat) : Sp := fun vs H Q _ => ∃ (x : V) (r : Addr) (new : V), vs = [x, .ref r, new] ∧
  ((1 ≤ n ∧ SqT K H r [] ∧ ∀ H', Same H H' → Q new H') ∨
   (2 ≤ n ∧ ∃ (p : Addr) (x0 x1 : V), x = .ref p ∧ SqT K H p [x0, x1] ∧
     ((SqT K H r [.int 0] ∧ ∀ t H', Same H H' → H t = none → H' t = some (.tup [new, x1]) → Q (.ref t) H') ∨ (SqT K H r [.int 1] ∧ ∀ t H', Same H H' → H t = none → H' t = some (.tup [x0, new]) → Q (.ref t) H'))))
theorem eqv_nil : PyData.eqv (.tuple []) (.tuple []) = true := by simp [PyData.eqv, PyData.eqvAll]
theorem eqv_one (i : Int) : PyData.eqv (.tuple [.int i]) (.tuple []) = false := by simp [PyData.eqv, PyData.eqvAll]
theorem shaped_nil : SeqAt.shaped (.tuple []) = true := by simp [SeqAt.shaped, PyData.canLay0, PyData.canLayAll0, PyData.depth, PyData.depthAll]
theorem shaped_one (i : Int) : SeqAt.shaped (.tuple [.int i]) = true := by simp [SeqAt.shaped, PyData.canLay0, PyData.canLayAll0, PyData.depth, PyData.depthAll]
theorem nt_h0 : ¬ (HT.sIx 2 0 none = 0 ∧ HT.sIx 2 2 (some 0) = 2) := by decide
theorem nt_h1 : ¬ (HT.sIx 2 0 none = 0 ∧ HT.sIx 2 2 (some 1) = 2) := by decide
theorem nt_l1 : ¬ (HT.sIx 2 0 (some (0 + 1)) = 0 ∧ HT.sIx 2 2 none = 2) := by decide
theorem nt_l2 : ¬ (HT.sIx 2 0 (some (1 + 1)) = 0 ∧ HT.sIx 2 2 none = 2) := by decide
theorem free_back {H H' : Hp} (s : Same H H') {t : Addr} (h : H' t = none) : H t = none := s.free h
theorem ok_put {n : Nat} (F : Fun K "_law_put" "_law_put" sPut f fd) (G : FnOk P w K mg base CX0 n g gd ["_law_thing_here", "_law_way_here", "_law_new"] (spPut K n)) (aG : At K mg "_law_put" ["_law_thing_here", "_law_way_here", "_law_new"] g gd) :
    FnOk P w K mg base CX0 (n + 1) f fd ["_law_thing_here", "_law_way_here", "_law_new"] (spPut K (n + 1)) := by
  refine F.ok scPut (fun vs H Q E h => ?_) (fun cdv A outer s H vs Q E hr h => ?_)
  · obtain ⟨x, r, new, rfl, _⟩ := h
    rfl
  obtain ⟨x, r, new, rfl, h⟩ := h
  refine ⟨_, pss_cons (ps_if (pt_cmpR (op_eqD hr.units) (pv 1) (pe_tup pa_nil) (nomark _)) (pss_one (ps_ret (pv 2))) pss_nil)
    (pss_cons (ps_set (i := 3) scPut.nd rfl (.inl rfl) (pe_ix ix_tup (pv 1) pe_int (fun _ _ => rfl)))
    (pss_cons (ps_set (i := 4) scPut.nd rfl (.inl rfl) (pe_call G hr rfl aG.m aG.k aG.b .nil pass0 (pa_cons (pe_ix ix_tup (pv 0) (pv 3) (fun _ _ => rfl)) (pa_cons (pe_slice sl_tupA (pv 1) (po_some pe_int) po_none) (pa_cons (pv 2) pa_nil)))))
    (pss_one (ps_ret (pe_op op_catA (pe_op op_catA (pe_slice sl_tupA (pv 0) po_none (po_some (pv 3))) (pe_tup (pa_cons (pv 4) pa_nil))) (pe_slice sl_tupA (pv 0) (po_some (pe_op op_add (pv 3) pe_int)) po_none)))))), ?_⟩
  rcases h with ⟨_, hw, q⟩ | ⟨h2, p, x0, x1, rfl, hx, h⟩
  · refine ⟨_, rfl, (by show 0 ≤ sizeLine; decide), fun e ne => ?_⟩
    have s1 := same_new ne (.tup [])
    refine ⟨_, _, .tup (Same.sqT s1 hw) .nil, .tup (SqT.of upd_same) .nil, shaped_nil, shaped_nil, _, rfl, ?_⟩
    exact if_yes eqv_nil ⟨_, rfl, q _ s1⟩
  · have h1n : 1 ≤ n := by omega
    rcases h with ⟨hw, q⟩ | ⟨hw, q⟩
    · refine ⟨_, rfl, (by show 0 ≤ sizeLine; decide), fun e ne => ?_⟩
      have s1 := same_new ne (.tup [])
      refine ⟨_, _, .tup (Same.sqT s1 hw) (.cons (.int 0) .nil), .tup (SqT.of upd_same) .nil, shaped_one 0, shaped_nil, _, rfl, ?_⟩
      refine if_no (eqv_one 0) ?_
      refine ⟨_, rfl, r, _, _, _, rfl, rfl, Same.sqT s1 hw, rfl, ?_⟩
      refine ⟨_, rfl, _, rfl, p, _, _, _, rfl, rfl, Same.sqT s1 hx, rfl, ?_⟩
      refine ⟨_, rfl, _, rfl, r, _, rfl, Same.sqT s1 hw, fun z => absurd z (by decide), fun _ c nc => ?_⟩
      have s2 := s1.trans (same_new nc (.tup []))
      refine ⟨_, rfl, _, c, _, rfl, .inl ⟨h1n, SqT.of upd_same, fun H1 s3 => ?_⟩⟩
      have s4 := s2.trans s3
      refine ⟨_, rfl, _, rfl, _, rfl, p, _, rfl, Same.sqT s4 hx, fun z => absurd z nt_h0, fun _ u nu => ?_⟩
      have s5 := same_new nu (.tup [])
      refine ⟨_, rfl, (by show 1 ≤ sizeLine; decide), fun b nb => ?_⟩
      have s6 := same_new nb (.tup [new])
      refine ⟨u, b, [], [new], rfl, rfl, SqT.of (s6 _ _ upd_same), SqT.of upd_same, (by show 0 + 1 ≤ sizeLine; decide), fun _ => ?_, (fun z => absurd rfl z), (fun z => absurd rfl z)⟩
      have s7 := s4.trans (s5.trans s6)
      refine ⟨_, rfl, _, rfl, _, _, rfl, rfl, _, rfl, p, _, rfl, Same.sqT s7 hx, fun z => absurd z nt_l1, fun _ y ny => ?_⟩
      have s8 := same_new ny (.tup [x1])
      refine ⟨b, y, [new], [x1], rfl, rfl, SqT.of (s8 _ _ upd_same), SqT.of upd_same, (by show 1 + 1 ≤ sizeLine; decide), (fun z => nomatch z), (fun _ z => nomatch z), fun _ _ t nt => ?_⟩
      exact q t _ (s7.trans (s8.trans (same_new nt _))) ((s7.trans s8).free nt) upd_same
    · refine ⟨_, rfl, (by show 0 ≤ sizeLine; decide), fun e ne => ?_⟩
      have s1 := same_new ne (.tup [])
      refine ⟨_, _, .tup (Same.sqT s1 hw) (.cons (.int 1) .nil), .tup (SqT.of upd_same) .nil, shaped_one 1, shaped_nil, _, rfl, ?_⟩
      refine if_no (eqv_one 1) ?_
      refine ⟨_, rfl, r, _, _, _, rfl, rfl, Same.sqT s1 hw, rfl, ?_⟩
      refine ⟨_, rfl, _, rfl, p, _, _, _, rfl, rfl, Same.sqT s1 hx, rfl, ?_⟩
      refine ⟨_, rfl, _, rfl, r, _, rfl, Same.sqT s1 hw, fun z => absurd z (by decide), fun _ c nc => ?_⟩
      have s2 := s1.trans (same_new nc (.tup []))
      refine ⟨_, rfl, _, c, _, rfl, .inl ⟨h1n, SqT.of upd_same, fun H1 s3 => ?_⟩⟩
      have s4 := s2.trans s3
      refine ⟨_, rfl, _, rfl, _, rfl, p, _, rfl, Same.sqT s4 hx, fun z => absurd z nt_h1, fun _ u nu => ?_⟩
      have s5 := same_new nu (.tup [x0])
      refine ⟨_, rfl, (by show 1 ≤ sizeLine; decide), fun b nb => ?_⟩
      have s6 := same_new nb (.tup [new])
      refine ⟨u, b, [x0], [new], rfl, rfl, SqT.of (s6 _ _ upd_same), SqT.of upd_same, (by show 1 + 1 ≤ sizeLine; decide), (fun z => nomatch z), (fun _ z => nomatch z), fun _ _ t nt => ?_⟩
      have s7 := s4.trans (s5.trans s6)
      have s8 := s7.trans (same_new nt (.tup [x0, new]))
      have et := new_at nt (.tup [x0, new])
      refine ⟨_, rfl, _, rfl, _, _, rfl, rfl, _, rfl, p, _, rfl, Same.sqT s8 hx, fun z => absurd z nt_l2, fun _ y ny => ?_⟩
      have s9 := same_new ny (.tup [])
      refine ⟨t, y, [x0, new], [], rfl, rfl, SqT.of (s9 _ _ et), SqT.of upd_same, (by show 2 + 0 ≤ sizeLine; decide), (fun z => nomatch z), (fun _ _ => ?_), (fun _ z => absurd rfl z)⟩
      exact q t _ (s8.trans s9) (s7.free nt) (s9 _ _ et)
theorem none_put : FnOk P w K mg base CX0 0 f fd ["_law_thing_here", "_law_way_here", "_law_new"] (spPut K 0) := by
  have no : ∀ vs H Q E, ¬ spPut K 0 vs H Q E := fun vs H Q E h => by
    obtain ⟨_, _, _, _, ⟨z, _⟩ | ⟨z, _⟩⟩ := h
    · omega
    · omega
  exact ⟨fun vs H Q E h => absurd h (no vs H Q E), fun A outer s H args us vs Q E _ _ _ _ h => absurd h (no vs H Q E)⟩
theorem put_all (F : Fun K "_law_put" "_law_put" sPut f fd) (aG : At K mg "_law_put" ["_law_thing_here", "_law_way_here", "_law_new"] f fd) : ∀ n : Nat, FnOk P w K mg base CX0 n f fd ["_law_thing_here", "_law_way_here", "_law_new"] (spPut K n)
  | 0 => none_put
  | n + 1 => ok_put F (put_all F aG n) aG
/-! ### the way to a place, what stands there -/
abbrev sAtW : Stmt := top 22
theorem scAtW : FnScope ["_law_thing_here", "_law_way_here", "_law_at_here"] ["_law_thing_here", "_law_way_here"] (defScope sAtW) := ⟨rfl, rfl, rfl, by decide +kernel, rfl, by decide +kernel, by decide +kernel⟩
def spAtW (K : PySem.W.Frag) : Sp := fun vs H Q _ => ∃ (p r : Addr) (x0 x1 : V), vs = [.ref p, .ref r] ∧ SqT K H p [x0, x1] ∧ ((SqT K H r [] ∧ Q (.ref p) H) ∨ (SqT K H r [.int 0] ∧ Q x0 H) ∨ (SqT K H r [.int 1] ∧ Q x1 H))
theorem one_item {x0 x : V} {i : Nat} (h : [x0][i]? = some x) : i = 0 ∧ x = x0 := by
  match i, h with
  | 0, h => cases h; exact ⟨rfl, rfl⟩
  | i + 1, h => simp at h
theorem ok_atW (F : Fun K "_law_at" "_law_at" sAtW f fd) : FnOk P w K mg base CX0 1 f fd ["_law_thing_here", "_law_way_here"] (spAtW K) := by
  refine F.ok scAtW (fun vs H Q E h => ?_) (fun cdv A outer s H vs Q E hr h => ?_)
  · obtain ⟨p, r, x0, x1, rfl, _⟩ := h
    rfl
  obtain ⟨p, r, x0, x1, rfl, hx, h⟩ := h
  refine ⟨_, pss_cons (ps_for PassesOwn.never rfl (pi_tup (pv 1)) (pg_name (i := 2) scAtW.nd rfl (.inl rfl)) (pss_one (ps_set (i := 0) scAtW.nd rfl (.inl rfl) (pe_ix ix_tup (pv 0) (pv 2) (fun _ _ => rfl)))))
    (pss_one (ps_ret (pv 0))), ?_⟩
  rcases h with ⟨hw, q⟩ | ⟨hw, q⟩ | ⟨hw, q⟩
  · refine ⟨_, rfl, r, rfl, ⟨_, hw⟩, ?_⟩
    refine for_tup (xs := []) (fun i σ H' => σ = [some (.ref p), some (.ref r), none] ∧ H' = H) ⟨rfl, rfl⟩ ?_ ?_ ?_
    · rintro i σ H' _ ⟨_, rfl⟩
      exact hw
    · rintro i x σ H' hx _
      simp at hx
    · rintro σ H' ⟨rfl, rfl⟩
      exact ⟨_, rfl, q⟩
  · refine ⟨_, rfl, r, rfl, ⟨_, hw⟩, ?_⟩
    refine for_tup (xs := [.int 0]) (fun i σ H' => H' = H ∧ ((i = 0 ∧ σ = [some (.ref p), some (.ref r), none]) ∨ (i = 1 ∧ σ = [some x0, some (.ref r), some (.int 0)]))) ⟨rfl, .inl ⟨rfl, rfl⟩⟩ ?_ ?_ ?_
    · rintro i σ H' _ ⟨rfl, _⟩
      exact hw
    · rintro i x σ H' hi ⟨rfl, ⟨rfl, rfl⟩ | ⟨rfl, rfl⟩⟩
      · obtain ⟨_, rfl⟩ := one_item hi
        exact ⟨_, rfl, _, rfl, p, _, _, _, rfl, rfl, hx, rfl, rfl, .inr ⟨rfl, rfl⟩⟩
      · exact absurd (one_item hi).1 (by decide)
    · rintro σ H' ⟨rfl, ⟨z, rfl⟩ | ⟨_, rfl⟩⟩
      · exact absurd z (by decide)
      · exact ⟨_, rfl, q⟩
  · refine ⟨_, rfl, r, rfl, ⟨_, hw⟩, ?_⟩
    refine for_tup (xs := [.int 1]) (fun i σ H' => H' = H ∧ ((i = 0 ∧ σ = [some (.ref p), some (.ref r), none]) ∨ (i = 1 ∧ σ = [some x1, some (.ref r), some (.int 1)]))) ⟨rfl, .inl ⟨rfl, rfl⟩⟩ ?_ ?_ ?_
    · rintro i σ H' _ ⟨rfl, _⟩
      exact hw
    · rintro i x σ H' hi ⟨rfl, ⟨rfl, rfl⟩ | ⟨rfl, rfl⟩⟩
      · obtain ⟨_, rfl⟩ := one_item hi
        exact ⟨_, rfl, _, rfl, p, _, _, _, rfl, rfl, hx, rfl, rfl, .inr ⟨rfl, rfl⟩⟩
      · exact absurd (one_item hi).1 (by decide)
    · rintro σ H' ⟨rfl, ⟨z, rfl⟩ | ⟨_, rfl⟩⟩
      · exact absurd z (by decide)
      · exact ⟨_, rfl, q⟩
end
end Vm

set_option Elab.async false
set_option linter.all false
set_option maxRecDepth 100000
set_option maxHeartbeats 8000000
namespace Vm
open PySem PySem.Spec PyProof.Rows L2
theorem if_map {c : Bool} {A B A' B' : Prop} (ha : A → A') (hb : B → B') : (if c = true then A else B) → (if c = true then A' else B') := by
  cases c
  · exact fun h => iteF (hb (by simpa using h))
  · exact fun h => iteT (ha (by simpa using h))
section
variable {P : Program} {w : World} {K : PySem.W.Frag} {mg : Str → Option Value} {base : Heap} {f fT fW fA fP fO : Addr} {fd dT dW dA dP dO : FuncData}
abbrev sWay : Stmt := top 21
theorem scWay : FnScope ["_law_purse_here", "_law_thing_here", "_law_way_here", "_law_at_here"] ["_law_purse_here", "_law_thing_here"] (defScope sWay) := ⟨rfl, rfl, rfl, by decide +kernel, rfl, by decide +kernel, by decide +kernel⟩
def spWay (K : PySem.W.Frag) : Sp := fun vs H Q _ => ∃ (a p : Addr) (t b : Int), vs = [.ref a, .ref p] ∧ Purse H a ∧ SqT K H p [.int t, .int b] ∧ ∀ r H', Kept a H H' → (SqT K H' r [] ∨ SqT K H' r [.int 0] ∨ SqT K H' r [.int 1]) → Q (.ref r) H'
def muW (σ : L2.St) (_ : Hp) : Nat := match σ[1]? with
  | some (some (L2.V.ref _)) => 1
  | _ => 0
theorem Kept.sqT {a r : Addr} {H H' : Hp} {xs : List V} (hp : Purse H a) (k : Kept a H H') (h : SqT K H r xs) : SqT K H' r xs := (Nl.of_kept hp k).sqT h
theorem ok_way (F : Fun K "_law_way" "_law_way" sWay f fd) (B : Blt mg) (T : FnOk P w K mg base CX0 1 fT dT ["_law_purse_here", "_law_many"] spTake) (aT : At K mg "_law_take" ["_law_purse_here", "_law_many"] fT dT) :
    FnOk P w K mg base CX0 2 f fd ["_law_purse_here", "_law_thing_here"] (spWay K) := by
  refine F.ok scWay (fun vs H Q E h => ?_) (fun cdv A outer s H vs Q E hr h => ?_)
  · obtain ⟨a, p, t, b, rfl, _⟩ := h
    rfl
  obtain ⟨a, p, t, b, rfl, hp, hx, q⟩ := h
  refine ⟨_, pss_cons (ps_set (i := 2) scWay.nd rfl (.inl rfl) (pe_tup pa_nil))
    (pss_cons (ps_while PassesOwn.never (PW.pt (pw_and (pt_val (pe_callB call_isi rfl B.isi (by decide +kernel) (pa_cons (pv 1) (pa_cons (pe_bltn (v := .ty "tuple") rfl B.tup (by decide +kernel) rfl) pa_nil))))
        (pw_and (pt_cmpR op_gt (pe_callB call_len_seq rfl B.len PySem.boot_len (pa_cons (pv 1) pa_nil)) pe_int (nomark _)) (pw_and1 (pt_cmpR op_gt (pe_call T hr rfl aT.m aT.k aT.b .nil pass0 (pa_cons (pv 0) (pa_cons pe_int pa_nil))) pe_int (nomark _))))))
      (pss_cons (ps_set (i := 3) scWay.nd rfl (.inl rfl) (pe_call T hr rfl aT.m aT.k aT.b .nil pass0 (pa_cons (pv 0) (pa_cons (pe_callB call_len_seq rfl B.len PySem.boot_len (pa_cons (pv 1) pa_nil)) pa_nil))))
      (pss_cons (ps_set (i := 2) scWay.nd rfl (.inl rfl) (pe_op op_catA (pv 2) (pe_tup (pa_cons (pv 3) pa_nil))))
      (pss_one (ps_set (i := 1) scWay.nd rfl (.inl rfl) (pe_ix ix_tup (pv 1) (pv 3) (fun _ _ => rfl)))))))
    (pss_one (ps_ret (pv 2)))), ?_⟩
  refine ⟨(by show 0 ≤ sizeLine; decide), fun r0 n0 => ?_⟩
  have s0 := same_new n0 (.tup [])
  have k0 : Kept a H (upd H r0 (.tup [])) := Kept.of_same hp s0
  refine while_by (fun σ H' => Kept a H H' ∧ ∃ (r : Addr) (kv : Option V), (σ = [some (.ref a), some (.ref p), some (.ref r), kv] ∧ SqT K H' r []) ∨ (∃ n : Int, σ = [some (.ref a), some (.int n), some (.ref r), kv] ∧ (SqT K H' r [.int 0] ∨ SqT K H' r [.int 1]))) muW
    ⟨k0, r0, none, .inl ⟨rfl, SqT.of upd_same⟩⟩ ?_ ?_
  · rintro σ H1 ⟨k1, r, kv, ⟨rfl, hr1⟩ | ⟨n, rfl, hr1⟩⟩
    · have hx1 : SqT K H1 p [.int t, .int b] := Kept.sqT hp k1 hx
      refine ⟨_, rfl, _, _, _, _, true, rfl, .ty _, ty_tup hx1, kit_ty (by decide +kernel), _, rfl, iteT ?_⟩
      refine ⟨_, rfl, p, _, rfl, .inr hx1, _, _, rfl, rfl, _, rfl, ?_⟩
      refine if_yes (show decide ((0 : Int) < ((([V.int t, V.int b] : List V).length : Nat) : Int)) = true from rfl) ?_
      refine ⟨_, rfl, a, 4, rfl, k1.1, by decide, by decide, fun c H2 c0 c4 k2 => ?_⟩
      have hx2 : SqT K H2 p [.int t, .int b] := Kept.sqT k1.1 k2 hx1
      have hr2 : SqT K H2 r [] := Kept.sqT k1.1 k2 hr1
      have k12 := k1.trans k2
      refine ⟨_, _, rfl, rfl, _, rfl, ?_⟩
      refine ite2 (fun _ => ?_) (fun _ => ?_)
      · refine ⟨_, rfl, _, rfl, p, _, rfl, .inr hx2, a, 2, rfl, k2.1, by decide, by decide, fun i H3 i0 i2 k3 => ?_⟩
        have hx3 : SqT K H3 p [.int t, .int b] := Kept.sqT k2.1 k3 hx2
        have hr3 : SqT K H3 r [] := Kept.sqT k2.1 k3 hr2
        have k13 := k12.trans k3
        refine ⟨_, rfl, _, rfl, (by show 1 ≤ sizeLine; decide), fun y ny => ?_⟩
        have s4 := same_new ny (.tup [.int i])
        refine ⟨r, y, [], [.int i], rfl, rfl, Same.sqT s4 hr3, SqT.of upd_same, (by show 0 + 1 ≤ sizeLine; decide), fun _ => ?_, (fun z => absurd rfl z), (fun z => absurd rfl z)⟩
        have hi : i = 0 ∨ i = 1 := by omega
        rcases hi with rfl | rfl
        · refine ⟨_, rfl, _, rfl, p, _, _, _, rfl, rfl, Same.sqT s4 hx3, rfl, ⟨k13.same s4, y, _, .inr ⟨t, rfl, .inl (SqT.of upd_same)⟩⟩, ?_⟩
          show 0 < 1
          decide
        · refine ⟨_, rfl, _, rfl, p, _, _, _, rfl, rfl, Same.sqT s4 hx3, rfl, ⟨k13.same s4, y, _, .inr ⟨b, rfl, .inr (SqT.of upd_same)⟩⟩, ?_⟩
          show 0 < 1
          decide
      · exact ⟨_, rfl, q r H2 k12 (.inl hr2)⟩
    · refine ⟨_, rfl, _, _, _, _, false, rfl, .ty _, .base (.int n), kit_ty (by decide +kernel), _, rfl, iteF ?_⟩
      exact iteF ⟨_, rfl, q r H1 k1 (.inr hr1)⟩
  · intro σ H Q Q' h t
    obtain ⟨v, e1, x, c, ty, u, b, e2, e3, e4, e5, k, e6, t⟩ := t
    refine ⟨v, e1, x, c, ty, u, b, e2, e3, e4, e5, k, e6, if_map (fun t => ?_) (fun t => h _ _ t) t⟩
    obtain ⟨v2, f1, p2, ys, f2, f3, i, j, f4, f5, k2, f6, t⟩ := t
    refine ⟨v2, f1, p2, ys, f2, f3, i, j, f4, f5, k2, f6, if_map (fun t => ?_) (fun t => h _ _ t) t⟩
    obtain ⟨v3, g1, a3, m3, g2, g3, g4, g5, t⟩ := t
    refine ⟨v3, g1, a3, m3, g2, g3, g4, g5, fun t0 H1 l0 l1 kk => ?_⟩
    obtain ⟨i, j, e, e', k3, e'', q⟩ := t t0 H1 l0 l1 kk
    exact ⟨i, j, e, e', k3, e'', h _ _ q⟩
end
end Vm

set_option Elab.async false
set_option linter.all false
set_option maxRecDepth 100000
set_option maxHeartbeats 8000000
namespace Vm
open PySem PySem.Spec PyProof.Rows L2
theorem nt_f0 : HT.sIx 2 0 (some 0) = 0 ∧ HT.sIx 2 2 none = 2 := by decide
theorem nt_f1 : ¬ (HT.sIx 2 0 (some 1) = 0 ∧ HT.sIx 2 2 none = 2) := by decide
theorem same_over {H H6 H9 : Hp} {l : Addr} {o : HO} (t6 : Same H H6) (nl : H6 l = none) (t9 : Same H H9) : Same H (upd H9 l o) := fun b u e => by
  rw [upd_ne (ne_of_none (t6 _ _ e) nl)]
  exact t9 _ _ e
theorem over_at {H : Hp} {l x : Addr} {o u : HO} {ys : List V} (h : H x = some u) (hl : H l = some (.lst ys)) (d : ∀ zs, u ≠ .lst zs) : upd H l o x = some u := by
  have : x ≠ l := fun e => by
    subst e
    rw [h] at hl
    exact d _ (Option.some.inj hl)
  rw [upd_ne this]
  exact h
section
variable {P : Program} {w : World} {K : PySem.W.Frag} {mg : Str → Option Value} {base : Heap} {f fT fW fA fP fO : Addr} {fd dT dW dA dP dO : FuncData}
abbrev nBent : List Str := ["_law_purse_here", "_law_thing_here", "_law_way_here", "_law_pick", "_law_old", "_law_at_here", "_law_rows", "_law_near"]
abbrev sBent : Stmt := top 23
theorem scBent : FnScope nBent ["_law_purse_here", "_law_thing_here"] (defScope sBent) := ⟨rfl, rfl, rfl, by decide +kernel, rfl, by decide +kernel, by decide +kernel⟩
def spBent (K : PySem.W.Frag) : Sp := fun vs H Q _ => ∃ (a p : Addr) (t b : Int), vs = [.ref a, .ref p] ∧ Purse H a ∧ SqT K H p [.int t, .int b] ∧ Bits 190 t ∧ Bits 190 b ∧ ∀ v H', AnyR a K H' 30 v → Kept a H H' → Q v H'
theorem AnyR.le {a : Addr} {H : Hp} {M N : Nat} {v : V} (r : AnyR a K H M v) (l : M ≤ N) : AnyR a K H N v := let ⟨m, n, d, r, h⟩ := r; ⟨m, n, d, r, Nat.le_trans h l⟩
/-- a tuple of ints -/
theorem rb_ints {a p : Addr} {H : Hp} (ne : p ≠ a) : ∀ {ns : List Int}, H p = some (.tup (ns.map V.int)) → (∀ n ∈ ns, Bits 400 n) → ns.length ≤ 5 → AnyR a K H 30 (.ref p) := by
  intro ns h hb hl
  have L : ∀ ms : List Int, (∀ n ∈ ms, Bits 400 n) → RbL a true K H ms.length (ms.map V.int) (ms.map PyData.int) := by
    intro ms
    induction ms with
    | nil => exact fun _ => rbl_nil
    | cons x r ih =>
      intro hb
      have := rbl_cons (rb_int (a := a) (m := true) (K := K) (H := H) (hb x List.mem_cons_self)) (ih fun n hn => hb n (List.mem_cons_of_mem _ hn))
      rw [Nat.add_comm] at this
      exact this
  exact ⟨true, _, _, rb_tup ne h (L ns hb), by omega⟩
theorem bits_tight {x : Int} (h : Bits 190 x) : Bits 400 x := h.mono (by decide)
theorem bits_near {x : Int} (h : Bits 190 x) : Bits 400 (x + 1) ∧ Bits 400 (x - 1) ∧ Bits 400 (0 - x) ∧ Bits 400 (10 * x) := by
  have o1 : Bits 190 (1 : Int) := by unfold Bits; decide +kernel
  have o4 : Bits 4 (10 : Int) := by unfold Bits; decide +kernel
  refine ⟨(h.add o1).mono (by decide), (h.sub o1).mono (by decide), ?_, (o4.mul h).mono (by decide)⟩
  rw [Int.zero_sub]
  exact bits_tight h.neg
/-- put at a place: a tuple of two, one of them any thing -/
theorem any_pair0 {a r : Addr} {H : Hp} {N : Nat} {v : V} {x : Int} (ne : r ≠ a) (h : H r = some (.tup [v, .int x])) (rv : AnyR a K H N v) (bx : Bits 400 x) : AnyR a K H (N + 5) (.ref r) := by
  obtain ⟨m, n, d, rv, l⟩ := rv
  exact ⟨m, _, _, rb_tup ne h (rbl_cons rv (rbl_cons (rb_int bx) rbl_nil)), by omega⟩
theorem any_pair1 {a r : Addr} {H : Hp} {N : Nat} {v : V} {x : Int} (ne : r ≠ a) (h : H r = some (.tup [.int x, v])) (rv : AnyR a K H N v) (bx : Bits 400 x) : AnyR a K H (N + 5) (.ref r) := by
  obtain ⟨m, n, d, rv, l⟩ := rv
  exact ⟨m, _, _, rb_tup ne h (rbl_cons (rb_int bx) (rbl_cons rv rbl_nil)), by omega⟩
theorem ok_bent (F : Fun K "_law_bent" "_law_bent" sBent f fd) (B : Blt mg) (GT : FnOk P w K mg base CX0 1 fT dT ["_law_purse_here", "_law_many"] spTake) (aT : At K mg "_law_take" ["_law_purse_here", "_law_many"] fT dT)
    (GW : FnOk P w K mg base CX0 2 fW dW ["_law_purse_here", "_law_thing_here"] (spWay K)) (aW : At K mg "_law_way" ["_law_purse_here", "_law_thing_here"] fW dW)
    (GA : FnOk P w K mg base CX0 1 fA dA ["_law_thing_here", "_law_way_here"] (spAtW K)) (aA : At K mg "_law_at" ["_law_thing_here", "_law_way_here"] fA dA)
    (GP : FnOk P w K mg base CX0 2 fP dP ["_law_thing_here", "_law_way_here", "_law_new"] (spPut K 2)) (aP : At K mg "_law_put" ["_law_thing_here", "_law_way_here", "_law_new"] fP dP)
    (GO : FnOk P w K mg base CX0 2 fO dO ["_law_purse_here", "_law_old"] (spOdd K)) (aO : At K mg "_law_odd" ["_law_purse_here", "_law_old"] fO dO) :
    FnOk P w K mg base CX0 3 f fd ["_law_purse_here", "_law_thing_here"] (spBent K) := by
  refine F.ok scBent (fun vs H Q E h => ?_) (fun cdv A outer s H vs Q E hr h => ?_)
  · obtain ⟨a, p, t, b, rfl, _⟩ := h
    rfl
  obtain ⟨a, p, t, b, rfl, hp, hx, bt, bb, q⟩ := h
  have h1 := hr.mono (show 1 ≤ 2 by decide)
  refine ⟨_, pss_cons (ps_set (i := 2) scBent.nd rfl (.inl rfl) (pe_call GW hr rfl aW.m aW.k aW.b .nil pass0 (pa_cons (pv 0) (pa_cons (pv 1) pa_nil))))
    (pss_cons (ps_set (i := 3) scBent.nd rfl (.inl rfl) (pe_call GT h1 rfl aT.m aT.k aT.b .nil pass0 (pa_cons (pv 0) (pa_cons pe_int pa_nil))))
    (pss_cons (ps_set (i := 4) scBent.nd rfl (.inl rfl) (pe_call GA h1 rfl aA.m aA.k aA.b .nil pass0 (pa_cons (pv 1) (pa_cons (pv 2) pa_nil))))
    (pss_cons (ps_if (PW.pt (pw_and (pt_val (pe_callB call_isi rfl B.isi (by decide +kernel) (pa_cons (pv 4) (pa_cons (pe_bltn (v := .ty "tuple") rfl B.tup (by decide +kernel) rfl) pa_nil))))
        (pw_and (pt_cmpR op_gt (pe_callB call_len_seq rfl B.len PySem.boot_len (pa_cons (pv 4) pa_nil)) pe_int (nomark _)) (pw_and1 (pt_cmpR op_lt (pv 3) pe_int (nomark _))))))
      (pss_cons (ps_set (i := 5) scBent.nd rfl (.inl rfl) (pe_call GT h1 rfl aT.m aT.k aT.b .nil pass0 (pa_cons (pv 0) (pa_cons (pe_callB call_len_seq rfl B.len PySem.boot_len (pa_cons (pv 4) pa_nil)) pa_nil))))
      (pss_cons (ps_set (i := 6) scBent.nd rfl (.inl rfl) (pe_lst
        (pa_cons (pe_op op_catA (pe_slice sl_tupA (pv 4) po_none (po_some (pv 5))) (pe_slice sl_tupA (pv 4) (po_some (pe_op op_add (pv 5) pe_int)) po_none))
        (pa_cons (pe_op op_catA (pe_op op_catA (pe_slice sl_tupA (pv 4) po_none (po_some (pv 5))) (pe_tup (pa_cons (pe_ix ix_tup (pv 4) (pv 5) (fun _ _ => rfl)) pa_nil))) (pe_slice sl_tupA (pv 4) (po_some (pv 5)) po_none))
        (pa_cons (pe_revT (pv 4)) pa_nil)))))
      (pss_cons (ps_expr (pe_bm PySem.F.plainAttrs_list PySem.F.slot_list_append PySem.F.type_list_append mt_append (pv 6) (pa_cons (pe_op op_catA (pe_ix ix_list (pv 6) pe_int (fun _ _ => rfl)) (pe_tup (pa_cons (pe_ix ix_tup (pv 4) (pv 5) (fun _ _ => rfl)) pa_nil))) pa_nil)))
      (pss_one (ps_ret (pe_call GP hr rfl aP.m aP.k aP.b .nil pass0 (pa_cons (pv 1) (pa_cons (pv 2) (pa_cons (pe_ix ix_list (pv 6) (pv 3) (fun _ _ => rfl)) pa_nil))))))))) pss_nil)
    (pss_cons (ps_if (PW.pt (pw_and (pt_val (pe_callB call_isi rfl B.isi (by decide +kernel) (pa_cons (pv 4) (pa_cons (pe_bltn (v := .ty "tuple") rfl B.tup (by decide +kernel) rfl) pa_nil)))) (pw_and1 (pt_cmpR op_eq (pv 3) pe_int (nomark _)))))
      (pss_one (ps_ret (pe_call GP hr rfl aP.m aP.k aP.b .nil pass0 (pa_cons (pv 1) (pa_cons (pv 2) (pa_cons (pe_callTy call_list_of rfl B.lst (by decide +kernel) (pa_cons (pv 4) pa_nil)) pa_nil)))))) pss_nil)
    (pss_cons (ps_if (PW.pt (pw_and (pt_val (pe_callB call_isi rfl B.isi (by decide +kernel) (pa_cons (pv 4) (pa_cons (pe_bltn (v := .ty "int") rfl B.int (by decide +kernel) rfl) pa_nil)))) (pw_and1 (pt_cmpR op_lt (pv 3) pe_int (nomark _)))))
      (pss_cons (ps_set (i := 7) scBent.nd rfl (.inl rfl) (pe_lst (pa_cons (pe_op op_add (pv 4) pe_int) (pa_cons (pe_op op_sub (pv 4) pe_int) (pa_cons (pe_op op_sub pe_int (pv 4)) (pa_cons (pe_op op_mul pe_int (pv 4)) (pa_cons (pe_cmpR op_eq (pv 4) pe_int (nomark _)) pa_nil)))))))
      (pss_one (ps_ret (pe_call GP hr rfl aP.m aP.k aP.b .nil pass0 (pa_cons (pv 1) (pa_cons (pv 2) (pa_cons (pe_ix ix_list (pv 7) (pv 3) (fun _ _ => rfl)) pa_nil))))))) pss_nil)
    (pss_one (ps_ret (pe_call GP hr rfl aP.m aP.k aP.b .nil pass0 (pa_cons (pv 1) (pa_cons (pv 2) (pa_cons (pe_call GO hr rfl aO.m aO.k aO.b .nil pass0 (pa_cons (pv 0) (pa_cons (pv 4) pa_nil))) pa_nil))))))))))), ?_⟩
  refine ⟨_, rfl, _, rfl, a, p, t, b, rfl, hp, hx, fun r H1 k1 hw => ?_⟩
  have hx1 := Kept.sqT hp k1 hx
  refine ⟨_, rfl, a, 8, rfl, k1.1, by decide, by decide, fun c H2 c0 c8 k2 => ?_⟩
  have hx2 := Kept.sqT k1.1 k2 hx1
  have k12 := k1.trans k2
  have hp2 := k2.1
  have bt2 := bits_tight bt
  have bb2 := bits_tight bb
  rcases hw with hw | hw | hw
  · -- the whole of it
    have hw2 := Kept.sqT k1.1 k2 hw
    refine ⟨_, rfl, _, rfl, p, r, _, _, rfl, hx2, .inl ⟨hw2, ?_⟩⟩
    have put_it : ∀ (v : V) (H3 : Hp), Kept a H2 H3 → AnyR a K H3 30 v → spPut K 2 [.ref p, .ref r, v] H3 Q E0 := fun v H3 k3 rv =>
      ⟨_, r, v, rfl, .inl ⟨by decide, Kept.sqT hp2 k3 hw2, fun H' s' => q v H' (rv.same s') ((k12.trans k3).same s')⟩⟩
    refine ⟨_, rfl, _, _, _, _, true, rfl, .ty _, ty_tup hx2, kit_ty (by decide +kernel), _, rfl, iteT ?_⟩
    refine ⟨_, rfl, p, _, rfl, .inr hx2, _, _, rfl, rfl, _, rfl, ?_⟩
    refine if_yes (show decide ((0 : Int) < ((([V.int t, V.int b] : List V).length : Nat) : Int)) = true from rfl) ?_
    refine ⟨_, rfl, _, _, rfl, rfl, _, rfl, ?_⟩
    refine ite2 (fun c4 => ?_) (fun c4 => ?_)
    · have c4' : c < 4 := of_decide_eq_true c4
      refine ⟨_, rfl, _, rfl, p, _, rfl, .inr hx2, a, 2, rfl, hp2, by decide, by decide, fun i H3 i0 i2 k3 => ?_⟩
      have hx3 := Kept.sqT hp2 k3 hx2
      have hp3 := k3.1
      have hi : i = 0 ∨ i = 1 := by omega
      rcases hi with rfl | rfl
      · -- at 0
        refine ⟨_, rfl, _, rfl, _, rfl, p, _, rfl, hx3, fun z => absurd z nt_h0, fun _ u1 n1 => ?_⟩
        have s1 := same_new n1 (.tup [])
        refine ⟨_, rfl, _, rfl, _, _, rfl, rfl, _, rfl, p, _, rfl, Same.sqT s1 hx3, fun z => absurd z nt_l1, fun _ u2 n2 => ?_⟩
        have s2 := same_new n2 (.tup [.int b])
        have e2 := new_at n2 (.tup [.int b])
        have ne2 := (hp3.same s1).ne n2
        have t2 := s1.trans s2
        refine ⟨u1, u2, [], [.int b], rfl, rfl, SqT.of (s2 _ _ upd_same), SqT.of e2, (by show 0 + 1 ≤ sizeLine; decide), fun _ => ?_, (fun z => absurd rfl z), (fun z => absurd rfl z)⟩
        refine ⟨_, rfl, _, rfl, _, rfl, p, _, rfl, Same.sqT t2 hx3, fun z => absurd z nt_h0, fun _ u3 n3 => ?_⟩
        have s3 := same_new n3 (.tup [])
        have t3 := t2.trans s3
        refine ⟨_, rfl, _, rfl, p, _, _, _, rfl, rfl, Same.sqT t3 hx3, rfl, (by show 1 ≤ sizeLine; decide), fun u4 n4 => ?_⟩
        have s4 := same_new n4 (.tup [.int t])
        have t4 := t3.trans s4
        refine ⟨u3, u4, [], [.int t], rfl, rfl, SqT.of (s4 _ _ upd_same), SqT.of upd_same, (by show 0 + 1 ≤ sizeLine; decide), fun _ => ?_, (fun z => absurd rfl z), (fun z => absurd rfl z)⟩
        refine ⟨_, rfl, _, rfl, _, rfl, p, _, rfl, Same.sqT t4 hx3, fun _ => ?_, fun z => absurd nt_f0 z⟩
        refine ⟨u4, p, [.int t], [.int t, .int b], rfl, rfl, SqT.of upd_same, Same.sqT t4 hx3, (by show 1 + 2 ≤ sizeLine; decide), (fun z => nomatch z), (fun _ z => nomatch z), fun _ _ u5 n5 => ?_⟩
        have s5 := same_new n5 (.tup [.int t, .int t, .int b])
        have e5 := new_at n5 (.tup [.int t, .int t, .int b])
        have ne5 := (hp3.same t4).ne n5
        have t5 := t4.trans s5
        refine ⟨_, rfl, p, _, _, rfl, Same.sqT t5 hx3, fun u6 n6 => ?_⟩
        have s6 := same_new n6 (.tup [.int b, .int t])
        have e6 := new_at n6 (.tup [.int b, .int t])
        have ne6 := (hp3.same t5).ne n6
        have t6 := t5.trans s6
        refine ⟨(by show 3 ≤ sizeLine; decide), fun l nl => ?_⟩
        have s7 := same_new nl (.lst [.ref u2, .ref u5, .ref u6])
        have e7 := new_at nl (.lst [.ref u2, .ref u5, .ref u6])
        have nel := (hp3.same t6).ne nl
        have t7 := t6.trans s7
        refine ⟨_, rfl, .inl ⟨rfl, _, SqL.of e7⟩, _, rfl, l, _, _, _, rfl, rfl, SqL.of e7, rfl, _, rfl, _, rfl, p, _, _, _, rfl, rfl, Same.sqT t7 hx3, rfl, (by show 1 ≤ sizeLine; decide), fun u8 n8 => ?_⟩
        have s8 := same_new n8 (.tup [.int t])
        have t8 := t7.trans s8
        have e28 := (s3.trans (s4.trans (s5.trans (s6.trans (s7.trans s8))))) _ _ e2
        refine ⟨u2, u8, [.int b], [.int t], rfl, rfl, SqT.of e28, SqT.of upd_same, (by show 1 + 1 ≤ sizeLine; decide), (fun z => nomatch z), (fun _ z => nomatch z), fun _ _ u9 n9 => ?_⟩
        have s9 := same_new n9 (.tup [.int b, .int t])
        have e9 := new_at n9 (.tup [.int b, .int t])
        have ne9 := (hp3.same t8).ne n9
        have t9 := t8.trans s9
        refine ⟨l, _, _, rfl, rfl, (s8.trans s9) _ _ e7, (by show 3 < sizeLine; decide), ?_⟩
        have d2 := (s3.trans (s4.trans (s5.trans (s6.trans (s7.trans (s8.trans s9)))))) _ _ e2
        have d5 := (s6.trans (s7.trans (s8.trans s9))) _ _ e5
        have d6 := (s7.trans (s8.trans s9)) _ _ e6
        have d7 := (s8.trans s9) _ _ e7
        obtain ⟨x, mx, ex⟩ := at_some (xs := [.ref u2, .ref u5, .ref u6, .ref u9]) c0 c4'
        refine ⟨_, rfl, _, rfl, _, rfl, _, rfl, l, _, _, _, rfl, rfl, SqL.of upd_same, ex, ?_⟩
        refine put_it x _ (k3.same (same_over t6 nl t9)) ?_
        simp only [List.mem_cons, List.not_mem_nil, or_false] at mx
        rcases mx with rfl | rfl | rfl | rfl
        · exact ⟨true, _, _, rb_tup ne2 (over_at d2 d7 fun _ z => nomatch z) (rbl_cons (rb_int bb2) rbl_nil), by decide⟩
        · exact ⟨true, _, _, rb_tup ne5 (over_at d5 d7 fun _ z => nomatch z) (rbl_cons (rb_int bt2) (rbl_cons (rb_int bt2) (rbl_cons (rb_int bb2) rbl_nil))), by decide⟩
        · exact ⟨true, _, _, rb_tup ne6 (over_at d6 d7 fun _ z => nomatch z) (rbl_cons (rb_int bb2) (rbl_cons (rb_int bt2) rbl_nil)), by decide⟩
        · exact ⟨true, _, _, rb_tup ne9 (over_at e9 d7 fun _ z => nomatch z) (rbl_cons (rb_int bb2) (rbl_cons (rb_int bt2) rbl_nil)), by decide⟩
      · -- at 1
        refine ⟨_, rfl, _, rfl, _, rfl, p, _, rfl, hx3, fun z => absurd z nt_h1, fun _ u1 n1 => ?_⟩
        have s1 := same_new n1 (.tup [.int t])
        have e1 := new_at n1 (.tup [.int t])
        have ne1 := hp3.ne n1
        refine ⟨_, rfl, _, rfl, _, _, rfl, rfl, _, rfl, p, _, rfl, Same.sqT s1 hx3, fun z => absurd z nt_l2, fun _ u2 n2 => ?_⟩
        have s2 := same_new n2 (.tup [])
        have t2 := s1.trans s2
        refine ⟨u1, u2, [.int t], [], rfl, rfl, SqT.of (s2 _ _ e1), SqT.of upd_same, (by show 1 + 0 ≤ sizeLine; decide), (fun z => nomatch z), (fun _ _ => ?_), (fun _ z => absurd rfl z)⟩
        refine ⟨_, rfl, _, rfl, _, rfl, p, _, rfl, Same.sqT t2 hx3, fun z => absurd z nt_h1, fun _ u3 n3 => ?_⟩
        have s3 := same_new n3 (.tup [.int t])
        have t3 := t2.trans s3
        refine ⟨_, rfl, _, rfl, p, _, _, _, rfl, rfl, Same.sqT t3 hx3, rfl, (by show 1 ≤ sizeLine; decide), fun u4 n4 => ?_⟩
        have s4 := same_new n4 (.tup [.int b])
        have t4 := t3.trans s4
        refine ⟨u3, u4, [.int t], [.int b], rfl, rfl, SqT.of (s4 _ _ upd_same), SqT.of upd_same, (by show 1 + 1 ≤ sizeLine; decide), (fun z => nomatch z), (fun _ z => nomatch z), fun _ _ u4b n4b => ?_⟩
        have s4b := same_new n4b (.tup [.int t, .int b])
        have e4b := new_at n4b (.tup [.int t, .int b])
        have t4b := t4.trans s4b
        refine ⟨_, rfl, _, rfl, _, rfl, p, _, rfl, Same.sqT t4b hx3, (fun z => absurd z nt_f1), fun _ u4c n4c => ?_⟩
        have s4c := same_new n4c (.tup [.int b])
        have t4c := t4b.trans s4c
        refine ⟨u4b, u4c, [.int t, .int b], [.int b], rfl, rfl, SqT.of (s4c _ _ e4b), SqT.of upd_same, (by show 2 + 1 ≤ sizeLine; decide), (fun z => nomatch z), (fun _ z => nomatch z), fun _ _ u5 n5 => ?_⟩
        have s5 := same_new n5 (.tup [.int t, .int b, .int b])
        have e5 := new_at n5 (.tup [.int t, .int b, .int b])
        have ne5 := (hp3.same t4c).ne n5
        have t5 := t4c.trans s5
        refine ⟨_, rfl, p, _, _, rfl, Same.sqT t5 hx3, fun u6 n6 => ?_⟩
        have s6 := same_new n6 (.tup [.int b, .int t])
        have e6 := new_at n6 (.tup [.int b, .int t])
        have ne6 := (hp3.same t5).ne n6
        have t6 := t5.trans s6
        refine ⟨(by show 3 ≤ sizeLine; decide), fun l nl => ?_⟩
        have s7 := same_new nl (.lst [.ref u1, .ref u5, .ref u6])
        have e7 := new_at nl (.lst [.ref u1, .ref u5, .ref u6])
        have t7 := t6.trans s7
        refine ⟨_, rfl, .inl ⟨rfl, _, SqL.of e7⟩, _, rfl, l, _, _, _, rfl, rfl, SqL.of e7, rfl, _, rfl, _, rfl, p, _, _, _, rfl, rfl, Same.sqT t7 hx3, rfl, (by show 1 ≤ sizeLine; decide), fun u8 n8 => ?_⟩
        have s8 := same_new n8 (.tup [.int b])
        have t8 := t7.trans s8
        have e18 := (s2.trans (s3.trans (s4.trans (s4b.trans (s4c.trans (s5.trans (s6.trans (s7.trans s8)))))))) _ _ e1
        refine ⟨u1, u8, [.int t], [.int b], rfl, rfl, SqT.of e18, SqT.of upd_same, (by show 1 + 1 ≤ sizeLine; decide), (fun z => nomatch z), (fun _ z => nomatch z), fun _ _ u9 n9 => ?_⟩
        have s9 := same_new n9 (.tup [.int t, .int b])
        have e9 := new_at n9 (.tup [.int t, .int b])
        have ne9 := (hp3.same t8).ne n9
        have t9 := t8.trans s9
        refine ⟨l, _, _, rfl, rfl, (s8.trans s9) _ _ e7, (by show 3 < sizeLine; decide), ?_⟩
        have d1 := s9 _ _ e18
        have d5 := (s6.trans (s7.trans (s8.trans s9))) _ _ e5
        have d6 := (s7.trans (s8.trans s9)) _ _ e6
        have d7 := (s8.trans s9) _ _ e7
        obtain ⟨x, mx, ex⟩ := at_some (xs := [.ref u1, .ref u5, .ref u6, .ref u9]) c0 c4'
        refine ⟨_, rfl, _, rfl, _, rfl, _, rfl, l, _, _, _, rfl, rfl, SqL.of upd_same, ex, ?_⟩
        refine put_it x _ (k3.same (same_over t6 nl t9)) ?_
        simp only [List.mem_cons, List.not_mem_nil, or_false] at mx
        rcases mx with rfl | rfl | rfl | rfl
        · exact ⟨true, _, _, rb_tup ne1 (over_at d1 d7 fun _ z => nomatch z) (rbl_cons (rb_int bt2) rbl_nil), by decide⟩
        · exact ⟨true, _, _, rb_tup ne5 (over_at d5 d7 fun _ z => nomatch z) (rbl_cons (rb_int bt2) (rbl_cons (rb_int bb2) (rbl_cons (rb_int bb2) rbl_nil))), by decide⟩
        · exact ⟨true, _, _, rb_tup ne6 (over_at d6 d7 fun _ z => nomatch z) (rbl_cons (rb_int bb2) (rbl_cons (rb_int bt2) rbl_nil)), by decide⟩
        · exact ⟨true, _, _, rb_tup ne9 (over_at e9 d7 fun _ z => nomatch z) (rbl_cons (rb_int bt2) (rbl_cons (rb_int bb2) rbl_nil)), by decide⟩
    · refine ⟨_, rfl, _, _, _, _, true, rfl, .ty _, ty_tup hx2, kit_ty (by decide +kernel), _, rfl, iteT ?_⟩
      refine ⟨_, rfl, rfl, _, rfl, ?_⟩
      refine ite2 (fun _ => ?_) (fun _ => ?_)
      · refine ⟨_, rfl, _, rfl, _, rfl, p, _, rfl, .inr hx2, fun l nl => ?_⟩
        exact put_it (.ref l) _ (Kept.of_same hp2 (same_new nl _)) ⟨false, _, _, rb_lst (hp2.ne nl) upd_same (rbl_cons (rb_int bt2) (rbl_cons (rb_int bb2) rbl_nil)), by decide⟩
      · refine ⟨_, rfl, _, _, _, _, false, rfl, .ty _, ty_tup hx2, kit_ty (by decide +kernel), _, rfl, iteF (iteF ?_)⟩
        refine ⟨_, rfl, _, rfl, _, rfl, _, rfl, a, _, _, _, rfl, hp2, (fun m H' k => Th.tup (Kept.sqT hp2 k hx2) (.cons (.int bt2) (.cons (.int bb2) .nil))), by decide, fun u H' ru ku => ?_⟩
        exact put_it u H' ku (ru.le (by decide))
  · -- its place 0
    have hw2 := Kept.sqT k1.1 k2 hw
    refine ⟨_, rfl, _, rfl, p, r, _, _, rfl, hx2, .inr (.inl ⟨hw2, ?_⟩)⟩
    have put_it : ∀ (v : V) (H3 : Hp), Kept a H2 H3 → AnyR a K H3 20 v → spPut K 2 [.ref p, .ref r, v] H3 Q E0 := fun v H3 k3 rv =>
      ⟨_, r, v, rfl, .inr ⟨by decide, p, _, _, rfl, Kept.sqT hp2 k3 hx2, .inl ⟨Kept.sqT hp2 k3 hw2, fun t' H' s' n' e' => q (.ref t') H' ((any_pair0 (k3.1.ne n') e' (rv.same s') bb2).le (by decide)) ((k12.trans k3).same s')⟩⟩⟩
    refine ⟨_, rfl, _, _, _, _, false, rfl, .ty _, .base (.int t), kit_ty (by decide +kernel), _, rfl, iteF (iteF ?_)⟩
    refine ⟨_, rfl, _, _, _, _, false, rfl, .ty _, .base (.int t), kit_ty (by decide +kernel), _, rfl, iteF (iteF ?_)⟩
    refine ⟨_, rfl, _, _, _, _, true, rfl, .ty _, .base (.int t), kit_ty (by decide +kernel), _, rfl, iteT ?_⟩
    refine ⟨_, rfl, _, _, rfl, rfl, _, rfl, ?_⟩
    refine ite2 (fun c5 => ?_) (fun _ => ?_)
    · have c5' : c < 5 := of_decide_eq_true c5
      refine ⟨_, rfl, _, _, rfl, rfl, _, rfl, _, _, rfl, rfl, _, rfl, _, _, rfl, rfl, _, rfl, _, _, rfl, rfl, .inl ⟨by decide, by decide⟩, _, rfl, rfl, (by show 5 ≤ sizeLine; decide), fun l nl => ?_⟩
      obtain ⟨x, mx, ex⟩ := at_some (xs := [.int (t + 1), .int (t - 1), .int (0 - t), .int (10 * t), .bl (decide (V.int t = V.int 1))]) c0 c5'
      refine ⟨_, rfl, _, rfl, _, rfl, _, rfl, l, _, _, _, rfl, rfl, SqL.of upd_same, ex, ?_⟩
      refine put_it x _ (Kept.of_same hp2 (same_new nl _)) ?_
      obtain ⟨b1, b2, b3, b4⟩ := bits_near bt
      simp only [List.mem_cons, List.not_mem_nil, or_false] at mx
      rcases mx with rfl | rfl | rfl | rfl | rfl
      · exact ⟨true, 1, _, rb_int b1, by decide⟩
      · exact ⟨true, 1, _, rb_int b2, by decide⟩
      · exact ⟨true, 1, _, rb_int b3, by decide⟩
      · exact ⟨true, 1, _, rb_int b4, by decide⟩
      · exact ⟨true, 1, _, rb_bl _, by decide⟩
    · refine ⟨_, rfl, _, rfl, _, rfl, _, rfl, a, _, _, _, rfl, hp2, (fun m H' k => Th.int (bits_tight bt)), by decide, fun u H' ru ku => ?_⟩
      exact put_it u H' ku ru
  · -- its place 1
    have hw2 := Kept.sqT k1.1 k2 hw
    refine ⟨_, rfl, _, rfl, p, r, _, _, rfl, hx2, .inr (.inr ⟨hw2, ?_⟩)⟩
    have put_it : ∀ (v : V) (H3 : Hp), Kept a H2 H3 → AnyR a K H3 20 v → spPut K 2 [.ref p, .ref r, v] H3 Q E0 := fun v H3 k3 rv =>
      ⟨_, r, v, rfl, .inr ⟨by decide, p, _, _, rfl, Kept.sqT hp2 k3 hx2, .inr ⟨Kept.sqT hp2 k3 hw2, fun t' H' s' n' e' => q (.ref t') H' ((any_pair1 (k3.1.ne n') e' (rv.same s') bt2).le (by decide)) ((k12.trans k3).same s')⟩⟩⟩
    refine ⟨_, rfl, _, _, _, _, false, rfl, .ty _, .base (.int b), kit_ty (by decide +kernel), _, rfl, iteF (iteF ?_)⟩
    refine ⟨_, rfl, _, _, _, _, false, rfl, .ty _, .base (.int b), kit_ty (by decide +kernel), _, rfl, iteF (iteF ?_)⟩
    refine ⟨_, rfl, _, _, _, _, true, rfl, .ty _, .base (.int b), kit_ty (by decide +kernel), _, rfl, iteT ?_⟩
    refine ⟨_, rfl, _, _, rfl, rfl, _, rfl, ?_⟩
    refine ite2 (fun c5 => ?_) (fun _ => ?_)
    · have c5' : c < 5 := of_decide_eq_true c5
      refine ⟨_, rfl, _, _, rfl, rfl, _, rfl, _, _, rfl, rfl, _, rfl, _, _, rfl, rfl, _, rfl, _, _, rfl, rfl, .inl ⟨by decide, by decide⟩, _, rfl, rfl, (by show 5 ≤ sizeLine; decide), fun l nl => ?_⟩
      obtain ⟨x, mx, ex⟩ := at_some (xs := [.int (b + 1), .int (b - 1), .int (0 - b), .int (10 * b), .bl (decide (V.int b = V.int 1))]) c0 c5'
      refine ⟨_, rfl, _, rfl, _, rfl, _, rfl, l, _, _, _, rfl, rfl, SqL.of upd_same, ex, ?_⟩
      refine put_it x _ (Kept.of_same hp2 (same_new nl _)) ?_
      obtain ⟨b1, b2, b3, b4⟩ := bits_near bb
      simp only [List.mem_cons, List.not_mem_nil, or_false] at mx
      rcases mx with rfl | rfl | rfl | rfl | rfl
      · exact ⟨true, 1, _, rb_int b1, by decide⟩
      · exact ⟨true, 1, _, rb_int b2, by decide⟩
      · exact ⟨true, 1, _, rb_int b3, by decide⟩
      · exact ⟨true, 1, _, rb_int b4, by decide⟩
      · exact ⟨true, 1, _, rb_bl _, by decide⟩
    · refine ⟨_, rfl, _, rfl, _, rfl, _, rfl, a, _, _, _, rfl, hp2, (fun m H' k => Th.int (bits_tight bb)), by decide, fun u H' ru ku => ?_⟩
      exact put_it u H' ku ru
end
end Vm

set_option Elab.async false
set_option linter.all false
set_option maxRecDepth 100000
set_option maxHeartbeats 4000000
namespace Vm
/-! ### fractions as numbers -/
def val (z : Int × Int) : Rat := (z.1 : Rat) / (z.2 : Rat)
theorem val_mk {z : Int × Int} (h : Canon z) (nz : z.2.natAbs ≠ 0) (c : z.1.natAbs.Coprime z.2.natAbs) : val z = ⟨z.1, z.2.natAbs, nz, c⟩ := by
  rw [Rat.mk_eq_divInt, Rat.divInt_eq_div]
  unfold val
  have e : ((z.2.natAbs : Nat) : Int) = z.2 := by have := h.1; omega
  rw [e]
theorem canon_cop {z : Int × Int} (h : Canon z) : z.1.natAbs.Coprime z.2.natAbs := by
  have q : ((Nat.gcd z.1.natAbs z.2.natAbs : Nat) : Int) = 1 := h.2
  unfold Nat.Coprime
  omega
theorem val_inj {z y : Int × Int} (hz : Canon z) (hy : Canon y) (e : val z = val y) : z = y := by
  have p1 := hz.1
  have p2 := hy.1
  rw [val_mk hz (by omega) (canon_cop hz), val_mk hy (by omega) (canon_cop hy)] at e
  injection e with e1 e2
  exact Prod.ext e1 (by omega)
theorem ne_zero {b : Int} (h : b ≠ 0) : (b : Rat) ≠ 0 := by
  intro z
  exact h (by exact_mod_cast z)
theorem low_val {t b : Int} (h : b ≠ 0) : val (lowM t b) = (t : Rat) / (b : Rat) := by
  have hg := gI_pos (a := t) h
  have d1 : gI t b ∣ t := by unfold gI; exact Int.ofNat_dvd_left.mpr (Nat.gcd_dvd_left _ _)
  have d2 : gI t b ∣ b := by unfold gI; exact Int.ofNat_dvd_left.mpr (Nat.gcd_dvd_right _ _)
  obtain ⟨x, hx⟩ := d1
  obtain ⟨y, hy⟩ := d2
  have g0 : gI t b ≠ 0 := by omega
  have ex : t / gI t b = x := by
    conv => lhs; lhs; rw [hx]
    exact Int.mul_ediv_cancel_left _ g0
  have ey : b / gI t b = y := by
    conv => lhs; lhs; rw [hy]
    exact Int.mul_ediv_cancel_left _ g0
  have y0 : y ≠ 0 := fun z => h (by rw [hy, z, Int.mul_zero])
  unfold val lowM
  rw [ex, ey]
  have gq := ne_zero g0
  have yq := ne_zero y0
  have tq : (t : Rat) = (gI t b : Rat) * (x : Rat) := by rw [← Rat.intCast_mul, ← hx]
  have bq : (b : Rat) = (gI t b : Rat) * (y : Rat) := by rw [← Rat.intCast_mul, ← hy]
  rw [tq, bq]
  grind
theorem fr_canon {x y : Int} (h : y ≠ 0) : Canon (frM x y) := by
  unfold frM
  split
  · exact low_canon (by omega)
  · exact low_canon (by omega)
theorem fr_val {x y : Int} (h : y ≠ 0) : val (frM x y) = (x : Rat) / (y : Rat) := by
  unfold frM
  split
  · rw [low_val (by omega), Rat.intCast_neg, Rat.intCast_neg]
    have := ne_zero h
    grind
  · exact low_val h
theorem mul_ne {a b : Int} (h1 : a ≠ 0) (h2 : b ≠ 0) : a * b ≠ 0 := Int.mul_ne_zero h1 h2
section
variable {a b c : Int × Int}
theorem plus_val (ha : Canon a) (hb : Canon b) : val (plusM a b) = val a + val b := by
  have p := ha.1
  have q := hb.1
  have a0 := ne_zero (show a.2 ≠ 0 by omega)
  have b0 := ne_zero (show b.2 ≠ 0 by omega)
  unfold plusM
  rw [fr_val (mul_ne (by omega) (by omega)), Rat.intCast_add, Rat.intCast_mul, Rat.intCast_mul, Rat.intCast_mul]
  unfold val
  grind
theorem minus_val (ha : Canon a) (hb : Canon b) : val (minusM a b) = val a - val b := by
  have p := ha.1
  have q := hb.1
  have a0 := ne_zero (show a.2 ≠ 0 by omega)
  have b0 := ne_zero (show b.2 ≠ 0 by omega)
  unfold minusM
  rw [fr_val (mul_ne (by omega) (by omega)), Rat.intCast_sub, Rat.intCast_mul, Rat.intCast_mul, Rat.intCast_mul]
  unfold val
  grind
theorem times_val (ha : Canon a) (hb : Canon b) : val (timesM a b) = val a * val b := by
  have p := ha.1
  have q := hb.1
  have a0 := ne_zero (show a.2 ≠ 0 by omega)
  have b0 := ne_zero (show b.2 ≠ 0 by omega)
  unfold timesM
  rw [fr_val (mul_ne (by omega) (by omega)), Rat.intCast_mul, Rat.intCast_mul]
  unfold val
  grind
theorem over_val (ha : Canon a) (hb : Canon b) (h : b.1 ≠ 0) : val (overM a b) = val a / val b := by
  have p := ha.1
  have q := hb.1
  have a0 := ne_zero (show a.2 ≠ 0 by omega)
  have b0 := ne_zero (show b.2 ≠ 0 by omega)
  have b1 := ne_zero h
  unfold overM
  rw [fr_val (mul_ne (by omega) h), Rat.intCast_mul, Rat.intCast_mul]
  unfold val
  grind
theorem plus_canon (ha : Canon a) (hb : Canon b) : Canon (plusM a b) := by
  have p := ha.1; have q := hb.1
  exact fr_canon (mul_ne (by omega) (by omega))
theorem minus_canon (ha : Canon a) (hb : Canon b) : Canon (minusM a b) := by
  have p := ha.1; have q := hb.1
  exact fr_canon (mul_ne (by omega) (by omega))
theorem times_canon (ha : Canon a) (hb : Canon b) : Canon (timesM a b) := by
  have p := ha.1; have q := hb.1
  exact fr_canon (mul_ne (by omega) (by omega))
theorem over_canon (ha : Canon a) (hb : Canon b) (h : b.1 ≠ 0) : Canon (overM a b) := by
  have p := ha.1
  exact fr_canon (mul_ne (by omega) h)
theorem less_val (ha : Canon a) (hb : Canon b) : a.1 * b.2 < b.1 * a.2 ↔ val a < val b := by
  have p := ha.1
  have q := hb.1
  have a0 : (0 : Rat) < (a.2 : Rat) := by exact_mod_cast p
  have b0 : (0 : Rat) < (b.2 : Rat) := by exact_mod_cast q
  have e : (a.1 * b.2 < b.1 * a.2) ↔ ((a.1 : Rat) * (b.2 : Rat) < (b.1 : Rat) * (a.2 : Rat)) := by
    rw [← Rat.intCast_mul, ← Rat.intCast_mul]
    exact (Rat.intCast_lt_intCast).symm
  rw [e]
  unfold val
  constructor
  · intro h
    rw [Rat.div_lt_iff a0]
    have : (b.1 : Rat) / (b.2 : Rat) * (a.2 : Rat) = ((b.1 : Rat) * (a.2 : Rat)) / (b.2 : Rat) := by grind
    rw [this, Rat.lt_div_iff b0]
    exact h
  · intro h
    rw [Rat.div_lt_iff a0] at h
    have e2 : (b.1 : Rat) / (b.2 : Rat) * (a.2 : Rat) = ((b.1 : Rat) * (a.2 : Rat)) / (b.2 : Rat) := by grind
    rw [e2, Rat.lt_div_iff b0] at h
    exact h
theorem canon_zero : Canon (0, 1) := ⟨by decide, by decide⟩
theorem canon_one : Canon (1, 1) := ⟨by decide, by decide⟩
theorem val_zero : val (0, 1) = 0 := by unfold val; grind
theorem val_one : val (1, 1) = 1 := by unfold val; grind
theorem canon_opp (ha : Canon a) : Canon (0 - a.1, a.2) := by
  refine ⟨ha.1, ?_⟩
  have := ha.2
  unfold gI at *
  rw [Int.zero_sub, Int.natAbs_neg]
  exact this
/-! what the law asks -/
theorem law1 (ha : Canon a) (hb : Canon b) (hc : Canon c) : plusM (plusM a b) c = plusM a (plusM c b) := by
  refine val_inj (plus_canon (plus_canon ha hb) hc) (plus_canon ha (plus_canon hc hb)) ?_
  rw [plus_val (plus_canon ha hb) hc, plus_val ha hb, plus_val ha (plus_canon hc hb), plus_val hc hb]
  grind
theorem law2 (ha : Canon a) (hb : Canon b) : plusM a b = plusM b a := by
  refine val_inj (plus_canon ha hb) (plus_canon hb ha) ?_
  rw [plus_val ha hb, plus_val hb ha]
  grind
theorem law3 (ha : Canon a) (hb : Canon b) : minusM (plusM a b) b = a := by
  refine val_inj (minus_canon (plus_canon ha hb) hb) ha ?_
  rw [minus_val (plus_canon ha hb) hb, plus_val ha hb]
  grind
theorem law4 (ha : Canon a) (hb : Canon b) (hc : Canon c) : timesM a (plusM b c) = plusM (timesM b a) (timesM c a) := by
  refine val_inj (times_canon ha (plus_canon hb hc)) (plus_canon (times_canon hb ha) (times_canon hc ha)) ?_
  rw [times_val ha (plus_canon hb hc), plus_val hb hc, plus_val (times_canon hb ha) (times_canon hc ha), times_val hb ha, times_val hc ha]
  grind
theorem law5 (ha : Canon a) (hb : Canon b) (hc : Canon c) : timesM (timesM a b) c = timesM a (timesM b c) := by
  refine val_inj (times_canon (times_canon ha hb) hc) (times_canon ha (times_canon hb hc)) ?_
  rw [times_val (times_canon ha hb) hc, times_val ha hb, times_val ha (times_canon hb hc), times_val hb hc]
  grind
theorem law6 (ha : Canon a) (hb : Canon b) (h : b.1 ≠ 0) : overM (timesM a b) b = a := by
  refine val_inj (over_canon (times_canon ha hb) hb h) ha ?_
  rw [over_val (times_canon ha hb) hb h, times_val ha hb]
  have b0 : val b ≠ 0 := by
    have q := hb.1
    have b1 := ne_zero h
    have b2 := ne_zero (show b.2 ≠ 0 by omega)
    unfold val
    grind
  grind
theorem law7 (ha : Canon a) : minusM a a = (0, 1) := by
  refine val_inj (minus_canon ha ha) canon_zero ?_
  rw [minus_val ha ha, val_zero]
  grind
theorem law8 (ha : Canon a) : timesM a (1, 1) = a := by
  refine val_inj (times_canon ha canon_one) ha ?_
  rw [times_val ha canon_one, val_one]
  grind
theorem law9 (ha : Canon a) (hb : Canon b) : ((minusM a b).1 * 1 < 0 * (minusM a b).2) ↔ (a.1 * b.2 < b.1 * a.2) := by
  have e := less_val (a := minusM a b) (b := (0, 1)) (minus_canon ha hb) canon_zero
  rw [less_val ha hb]
  refine e.trans ?_
  rw [minus_val ha hb, val_zero]
  constructor <;> intro h <;> grind
theorem law10 (ha : Canon a) (hb : Canon b) : (a.1 * b.2 < b.1 * a.2 ∧ ¬ b.1 * a.2 < a.1 * b.2 ∧ a ≠ b) ∨ (¬ a.1 * b.2 < b.1 * a.2 ∧ b.1 * a.2 < a.1 * b.2 ∧ a ≠ b) ∨ (¬ a.1 * b.2 < b.1 * a.2 ∧ ¬ b.1 * a.2 < a.1 * b.2 ∧ a = b) := by
  by_cases e : a = b
  · subst e
    exact .inr (.inr ⟨by omega, by omega, rfl⟩)
  · have ne : val a ≠ val b := fun z => e (val_inj ha hb z)
    rcases Int.lt_trichotomy (a.1 * b.2) (b.1 * a.2) with h | h | h
    · exact .inl ⟨h, by omega, e⟩
    · exfalso
      have h1 : ¬ val a < val b := fun z => by have := (less_val ha hb).mpr z; omega
      have h2 : ¬ val b < val a := fun z => by have := (less_val hb ha).mpr z; omega
      exact ne (by grind)
    · exact .inr (.inl ⟨by omega, h, e⟩)
end
end Vm

set_option Elab.async false
set_option linter.all false
set_option maxRecDepth 100000
set_option maxHeartbeats 8000000
namespace Vm
open PySem PySem.Spec PyProof.Rows L2
/-! ### how often a flat thing stands in a list -/
section
variable {X : Cx}
def rCntF (K : PySem.W.Frag) : V → List V → Hp → VK → Prop := fun x xs H Q => ∃ (a : Addr) (ys : List V) (y : V), x = .ref a ∧ xs = [y] ∧ SqL K H a ys ∧ flatV y = true ∧ ys.all flatV = true ∧ Q (.int ((ys.countP fun z => eqV z y : Nat) : Int)) H
theorem countP_vals {y : V} : ∀ {ys : List V} {us : List Value}, Vals ys us → ys.all flatV = true → us.countP (eqU y) = ys.countP fun z => eqV z y
  | _, _, .nil, _ => rfl
  | _ :: _, _ :: _, .cons r t, f => by
    rw [List.all_cons, Bool.and_eq_true] at f
    rw [List.countP_cons, List.countP_cons, eqU_of r f.1, countP_vals t f.2]
theorem mt_cntF : MtR X "list.count" (rCntF X.K) := by
  intro pins s σ H x xs v us Q I rx rxs h
  obtain ⟨a, ys, y, rfl, rfl, hs, fy, fys, q⟩ := h
  cases rx
  match us, rxs with
  | [uy], .cons ry .nil =>
    obtain ⟨its, rv, ⟨⟨cls, dd, data, sl⟩, n, ho, hc, hdn, hd⟩, _⟩ := I.list hs
    simp only at hc hd
    subst hc hd
    refine call_meets PySem.F.slot_list_count ⟨_, ho, rfl⟩ PySem.F.entry_list_count (PySem.F.args_list_count_2 _ _)
      (SeqAt.list_countAt a its.toArray n dd sl uy (eqU y)) ⟨ho, fun z hz => mem_eqAt ry fy rv fys z (by simpa using hz), ?_⟩
    have ec : its.toArray.toList.countP (eqU y) = ys.countP fun z => eqV z y := countP_vals rv fys
    refine ⟨.int ((ys.countP fun z => eqV z y : Nat) : Int), H, I.tok _, ⟨s.toks, ?_⟩, q⟩
    show Value.int _ s.toks = Value.int _ s.toks
    rw [ec]
end
/-! ### how great the reckoned ones are -/
theorem fr_pos {x y : Int} (h : 0 < y) : frM x y = lowM x y := by
  unfold frM
  rw [if_neg (by omega)]
theorem Sized.mono {m n : Nat} {z : Int × Int} (h : Sized m z) (l : m ≤ n) : Sized n z := ⟨h.t.mono l, h.b.mono l, h.p⟩
section
variable {m n : Nat} {a b : Int × Int}
theorem sz_plus (ha : Sized m a) (hb : Sized n b) : Sized (m + n + 1) (plusM a b) := by
  unfold plusM
  rw [fr_pos (Int.mul_pos ha.p hb.p)]
  refine low_sized (Int.mul_pos ha.p hb.p) ((ha.t.mul hb.b).add ?_) ((ha.b.mul hb.b).mono (by omega))
  have := hb.t.mul ha.b
  rwa [Nat.add_comm] at this
theorem sz_minus (ha : Sized m a) (hb : Sized n b) : Sized (m + n + 1) (minusM a b) := by
  unfold minusM
  rw [fr_pos (Int.mul_pos ha.p hb.p)]
  refine low_sized (Int.mul_pos ha.p hb.p) ((ha.t.mul hb.b).sub ?_) ((ha.b.mul hb.b).mono (by omega))
  have := hb.t.mul ha.b
  rwa [Nat.add_comm] at this
theorem sz_times (ha : Sized m a) (hb : Sized n b) : Sized (m + n) (timesM a b) := by
  unfold timesM
  rw [fr_pos (Int.mul_pos ha.p hb.p)]
  exact low_sized (Int.mul_pos ha.p hb.p) (ha.t.mul hb.t) (ha.b.mul hb.b)
end
theorem sz_small {n : Nat} (hn : 2 ≤ n) (t : Int) (ht : t = 0 ∨ t = 1) : Sized n (t, 1) := by
  have o : Bits 2 (1 : Int) := by unfold Bits; decide
  have z : Bits 2 (0 : Int) := by unfold Bits; decide
  rcases ht with rfl | rfl
  · exact ⟨z.mono hn, o.mono hn, (by decide)⟩
  · exact ⟨o.mono hn, o.mono hn, (by decide)⟩
theorem Fr.same {K : PySem.W.Frag} {H H' : Hp} {p : Addr} {z : Int × Int} (h : Fr K H p z) (s : Same H H') : Fr K H' p z := (Nl.of_same s).sqT h
theorem pair_same {z y : Int × Int} (h : z = y) : PyData.eqv (.tuple [.int z.1, .int z.2]) (.tuple [.int y.1, .int y.2]) = true := by
  rw [eqv_pair, decide_eq_true (by rw [h])]
theorem ne_pair {z y : Int × Int} (h : z = y) : (!PyData.eqv (.tuple [.int z.1, .int z.2]) (.tuple [.int y.1, .int y.2])) = false := by
  rw [pair_same h]
  rfl
section
variable {P : Program} {w : World} {K : PySem.W.Frag} {mg : Str → Option Value} {base : Heap} {f fT fF fB fG fI fL fP fM fX fO fZ : Addr} {fd dT dF dB dG dI dL dP dM dX dO dZ : FuncData}
/-! ### a thing -/
abbrev sThing : Stmt := top 27
theorem scThing : FnScope ["_law_purse_here", "_law_pick", "_law_one", "_law_much"] ["_law_purse_here"] (defScope sThing) := ⟨rfl, rfl, rfl, by decide +kernel, rfl, by decide +kernel, by decide +kernel⟩
def spThing (K : PySem.W.Frag) : Sp := fun vs H Q _ => ∃ a : Addr, vs = [.ref a] ∧ Purse H a ∧ ∀ v H', AnyR a K H' 30 v → Kept a H H' → Q v H'
theorem ok_thing (F : Fun K "_law_thing" "_law_thing" sThing f fd) (GT : FnOk P w K mg base CX0 1 fT dT ["_law_purse_here", "_law_many"] spTake) (aT : At K mg "_law_take" ["_law_purse_here", "_law_many"] fT dT)
    (GF : FnOk P w K mg base CX0 3 fF dF ["_law_purse_here", "_law_bottom"] spFr) (aF : At K mg "_law_fraction" ["_law_purse_here", "_law_bottom"] fF dF)
    (GB : FnOk P w K mg base CX0 3 fB dB ["_law_purse_here", "_law_thing_here"] (spBent K)) (aB : At K mg "_law_bent" ["_law_purse_here", "_law_thing_here"] fB dB) :
    FnOk P w K mg base CX0 4 f fd ["_law_purse_here"] (spThing K) := by
  refine F.ok scThing (fun vs H Q E h => ?_) (fun cdv A outer s H vs Q E hr h => ?_)
  · obtain ⟨a, rfl, _⟩ := h
    rfl
  obtain ⟨a, rfl, hp, q⟩ := h
  have h1 := hr.mono (show 1 ≤ 3 by decide)
  refine ⟨_, pss_cons (ps_set (i := 1) scThing.nd rfl (.inl rfl) (pe_call GT h1 rfl aT.m aT.k aT.b .nil pass0 (pa_cons (pv 0) (pa_cons pe_int pa_nil))))
    (pss_cons (ps_set (i := 2) scThing.nd rfl (.inl rfl) (pe_call GF hr rfl aF.m aF.k aF.b .nil pass0 (pa_cons (pv 0) (pa_cons pe_int pa_nil))))
    (pss_cons (ps_set (i := 3) scThing.nd rfl (.inl rfl) (pe_op op_add pe_int (pe_call GT h1 rfl aT.m aT.k aT.b .nil pass0 (pa_cons (pv 0) (pa_cons pe_int pa_nil)))))
    (pss_cons (ps_if (pt_cmpR op_eq (pv 1) pe_int (nomark _)) (pss_one (ps_ret (pv 2))) pss_nil)
    (pss_cons (ps_if (pt_cmpR op_eq (pv 1) pe_int (nomark _)) (pss_one (ps_ret (pe_tup (pa_cons (pe_op op_mul (pe_ix ix_tup (pv 2) pe_int (fun _ _ => rfl)) (pv 3)) (pa_cons (pe_op op_mul (pe_ix ix_tup (pv 2) pe_int (fun _ _ => rfl)) (pv 3)) pa_nil))))) pss_nil)
    (pss_cons (ps_if (pt_cmpR op_eq (pv 1) pe_int (nomark _)) (pss_one (ps_ret (pe_tup (pa_cons (pe_op op_sub pe_int (pe_ix ix_tup (pv 2) pe_int (fun _ _ => rfl))) (pa_cons (pe_op op_sub pe_int (pe_ix ix_tup (pv 2) pe_int (fun _ _ => rfl))) pa_nil))))) pss_nil)
    (pss_one (ps_ret (pe_call GB hr rfl aB.m aB.k aB.b .nil pass0 (pa_cons (pv 0) (pa_cons (pv 2) pa_nil)))))))))), ?_⟩
  refine ⟨_, rfl, a, 6, rfl, hp, by decide, by decide, fun c H1 c0 c6 k1 => ?_⟩
  refine ⟨_, rfl, a, 1, rfl, k1.1, by decide, (by unfold Bits; decide +kernel), fun p z H2 sz cz e2 k2 => ?_⟩
  refine ⟨_, rfl, a, 9, rfl, k2.1, by decide, by decide, fun y H3 y0 y9 k3 => ?_⟩
  have k13 := (k1.trans k2).trans k3
  have hx : SqT K H3 p [.int z.1, .int z.2] := Kept.sqT k2.1 k3 (SqT.of e2)
  have nep : p ≠ a := ne_of e2 k2.1.choose_spec.choose_spec.choose_spec (by intro z; cases z)
  have e3 : H3 p = some (tupF z) := k3.2 _ _ nep e2
  have b1 : Bits 190 z.1 := sz.t.mono (by decide)
  have b2 : Bits 190 z.2 := sz.b.mono (by decide)
  have by4 : Bits 4 (2 + y) := by unfold Bits; omega
  refine ⟨_, _, rfl, rfl, ?_⟩
  refine ⟨_, rfl, rfl, _, rfl, ?_⟩
  refine ite2 (fun _ => ?_) (fun _ => ?_)
  · exact ⟨_, rfl, q _ _ ⟨true, _, _, rb_tup nep e3 (rbl_cons (rb_int (bits_tight b1)) (rbl_cons (rb_int (bits_tight b2)) rbl_nil)), by decide⟩ k13⟩
  refine ⟨_, rfl, rfl, _, rfl, ?_⟩
  refine ite2 (fun _ => ?_) (fun _ => ?_)
  · refine ⟨_, rfl, p, _, _, _, rfl, rfl, hx, rfl, _, rfl, _, _, rfl, rfl, .inr ⟨by omega, by omega⟩, _, rfl, p, _, _, _, rfl, rfl, hx, rfl, _, rfl, _, _, rfl, rfl, .inr ⟨by omega, by omega⟩, (by show 2 ≤ sizeLine; decide), fun r nr => ?_⟩
    exact q _ _ ⟨true, _, _, rb_tup (k3.1.ne nr) upd_same (rbl_cons (rb_int ((sz.t.mul by4).mono (by decide))) (rbl_cons (rb_int ((sz.b.mul by4).mono (by decide))) rbl_nil)), by decide⟩ (k13.same (same_new nr _))
  refine ⟨_, rfl, rfl, _, rfl, ?_⟩
  refine ite2 (fun _ => ?_) (fun _ => ?_)
  · refine ⟨_, rfl, p, _, _, _, rfl, rfl, hx, rfl, _, _, rfl, rfl, _, rfl, p, _, _, _, rfl, rfl, hx, rfl, _, _, rfl, rfl, (by show 2 ≤ sizeLine; decide), fun r nr => ?_⟩
    have m1 := (bits_near b1).2.2.1
    have m2 := (bits_near b2).2.2.1
    exact q _ _ ⟨true, _, _, rb_tup (k3.1.ne nr) upd_same (rbl_cons (rb_int m1) (rbl_cons (rb_int m2) rbl_nil)), by decide⟩ (k13.same (same_new nr _))
  refine ⟨_, rfl, _, rfl, a, p, z.1, z.2, rfl, k3.1, hx, b1, b2, fun v H4 rv k4 => ?_⟩
  exact q v H4 rv (k13.trans k4)
/-! ### told -/
abbrev sTold : Stmt := top 28
theorem scTold : FnScope ["_law_purse_here", "_law_thing_here", "_law_text", "_law_told_here"] ["_law_purse_here"] (defScope sTold) := ⟨rfl, rfl, rfl, by decide +kernel, rfl, by decide +kernel, by decide +kernel⟩
def spTold : Sp := fun vs H Q _ => ∃ a : Addr, vs = [.ref a] ∧ Purse H a ∧ ∀ H', Kept a H H' → Q (.bl true) H'
theorem len_told : ∀ vs H Q E, spTold vs H Q E → vs.length = (["_law_purse_here"] : List Str).length := fun vs H Q E h => by
  obtain ⟨a, rfl, _⟩ := h
  rfl
theorem ok_told (F : Fun K "_law_told" "_law_told" sTold f fd) (B : Blt mg) (GT : FnOk P w K mg base CX0 4 fT dT ["_law_purse_here"] (spThing K)) (aT : At K mg "_law_thing" ["_law_purse_here"] fT dT)
    (GI : FnOk P w K mg base CX0 2 fI dI ["thing"] (spIsF K)) (aI : At K mg "is_fraction" ["thing"] fI dI) (GL : FnOk P w K mg base CX0 2 fL dL ["_law_thing_here"] (spIsF K)) (aL : At K mg "_law_is_fraction" ["_law_thing_here"] fL dL) :
    FnG P w K mg base 5 f fd ["_law_purse_here"] spTold := by
  refine fnG_of (k := 4) F scTold len_told ?_
  intro cdv A outer s H vs Q hgd hr h
  obtain ⟨a, rfl, hp, q⟩ := h
  have h2 := hr.mono (show 2 ≤ 4 by decide)
  refine ⟨_, pss_cons (ps_set (i := 1) scTold.nd rfl (.inl rfl) (pe_call GT hr rfl aT.m aT.k aT.b .nil pass0 (pa_cons (pv 0) pa_nil)))
    (pss_cons (ps_set (i := 2) scTold.nd rfl (.inl rfl) (pe_callB (call_show hgd hr.units) rfl B.rep (by decide +kernel) (pa_cons (pv 1) pa_nil)))
    (pss_cons (ps_set (i := 3) scTold.nd rfl (.inl rfl) (pe_call GI h2 rfl aI.m aI.k aI.b .nil pass0 (pa_cons (pv 1) pa_nil)))
    (pss_one (ps_ret (pe_and (pe_callB call_isi rfl B.isi (by decide +kernel) (pa_cons (pv 3) (pa_cons (pe_bltn (v := .ty "bool") rfl B.bol (by decide +kernel) rfl) pa_nil)))
      (pe_and (pe_cmpR op_eq (pv 3) (pe_call GL h2 rfl aL.m aL.k aL.b .nil pass0 (pa_cons (pv 1) pa_nil)) (nomark _))
      (pe_one (pe_cmpR op_eq (pe_callB (call_show hgd hr.units) rfl B.rep (by decide +kernel) (pa_cons (pv 1) pa_nil)) (pv 2) (nomark _))))))))), ?_⟩
  refine ⟨_, rfl, a, rfl, hp, fun v H1 rv k1 => ?_⟩
  obtain ⟨m, n, d, rb, hn⟩ := rv
  have th := rb.at k1.1
  refine ⟨_, rfl, v, d, m, n, rfl, th, by omega, ?_⟩
  refine ⟨_, rfl, m, n, v, d, rfl, th, fun H2 s2 => ?_⟩
  refine ⟨_, rfl, _, _, _, _, true, rfl, .ty _, .base (.bl _), kit_ty (by decide +kernel), _, rfl, iteT ?_⟩
  refine ⟨_, rfl, _, rfl, m, n, v, d, rfl, th.same s2, fun H3 s3 => ⟨rfl, ?_⟩⟩
  refine ⟨_, rfl, ?_⟩
  rw [decide_eq_true rfl]
  refine iteT ⟨_, rfl, v, d, m, n, rfl, (th.same s2).same s3, by omega, _, rfl, rfl, ?_⟩
  rw [decide_eq_true rfl]
  exact q H3 (k1.same (s2.trans s3))
end
end Vm

set_option Elab.async false
set_option linter.all false
set_option maxRecDepth 100000
set_option maxHeartbeats 8000000
namespace Vm
open PySem PySem.Spec PyProof.Rows L2
theorem seq_by {t u : TS} {D : Ends} {σ : L2.St} {H : Hp} (R : L2.St → Hp → Prop) (h1 : ∀ nx : L2.St → Hp → Prop, (∀ σ' H', R σ' H' → nx σ' H') → t { D with nx := nx } σ H) (h2 : ∀ σ' H', R σ' H' → u D σ' H') : tSeq t u D σ H := h1 (u D) h2
section
variable {P : Program} {w : World} {K : PySem.W.Frag} {mg : Str → Option Value} {base : Heap} {f fT fF fG fL fP fM fX fO fZ fH fR fU fC : Addr} {fd dT dF dG dL dP dM dX dO dZ dH dR dU dC : FuncData}
abbrev nThree : List Str := ["_law_purse_here", "_law_bottom", "_law_a", "_law_b", "_law_c", "_law_k", "_law_one"]
abbrev sThree : Stmt := top 29
theorem scThree : FnScope nThree ["_law_purse_here"] (defScope sThree) := ⟨rfl, rfl, rfl, by decide +kernel, rfl, by decide +kernel, by decide +kernel⟩
theorem three_items {x0 x1 x2 x : V} {i : Nat} (h : [x0, x1, x2][i]? = some x) : (i = 0 ∧ x = x0) ∨ (i = 1 ∧ x = x1) ∨ (i = 2 ∧ x = x2) := by
  match i, h with
  | 0, h => cases h; exact .inl ⟨rfl, rfl⟩
  | 1, h => cases h; exact .inr (.inl ⟨rfl, rfl⟩)
  | 2, h => cases h; exact .inr (.inr ⟨rfl, rfl⟩)
  | i + 3, h => simp at h
theorem th_frac {m : Bool} {H : Hp} {p : Addr} {z : Int × Int} (h : Fr K H p z) (s : Sized 400 z) : Th m K H 3 (.ref p) (.tuple [.int z.1, .int z.2]) := .tup h (.cons (.int s.t) (.cons (.int s.b) .nil))
theorem isF_canon {z : Int × Int} (h : Canon z) : isF (.tuple [.int z.1, .int z.2]) = true := by
  show (decide (1 ≤ z.2) && decide (gI z.1 z.2 = 1)) = true
  have := h.1
  rw [decide_eq_true (show 1 ≤ z.2 by omega), decide_eq_true h.2]
  rfl
theorem list_three {α : Type} {xs : List α} (h : xs.length = 3) : ∃ a b c, xs = [a, b, c] := by
  match xs, h with
  | [a, b, c], _ => exact ⟨a, b, c, rfl⟩
theorem cnt_one {p q : Prop} [Decidable p] [Decidable q] {e : Bool} (h : (p ∧ ¬ q ∧ e = false) ∨ (¬ p ∧ q ∧ e = false) ∨ (¬ p ∧ ¬ q ∧ e = true)) : ([V.bl (decide p), V.bl (decide q), V.bl e].countP fun z => eqV z (.bl true)) = 1 := by
  rcases h with ⟨h1, h2, rfl⟩ | ⟨h1, h2, rfl⟩ | ⟨h1, h2, rfl⟩
  · rw [decide_eq_true h1, decide_eq_false h2]; rfl
  · rw [decide_eq_false h1, decide_eq_true h2]; rfl
  · rw [decide_eq_false h1, decide_eq_false h2]; rfl
theorem ok_three (F : Fun K "_law_three" "_law_three" sThree f fd) (B : Blt mg)
    (GT : FnOk P w K mg base CX0 1 fT dT ["_law_purse_here", "_law_many"] spTake) (aT : At K mg "_law_take" ["_law_purse_here", "_law_many"] fT dT)
    (GG : FnOk P w K mg base CX0 2 fG dG ["_law_purse_here"] spGreat) (aG : At K mg "_law_great" ["_law_purse_here"] fG dG)
    (GF : FnOk P w K mg base CX0 3 fF dF ["_law_purse_here", "_law_bottom"] spFr) (aF : At K mg "_law_fraction" ["_law_purse_here", "_law_bottom"] fF dF)
    (GL : FnOk P w K mg base CX0 2 fL dL ["_law_thing_here"] (spIsF K)) (aL : At K mg "_law_is_fraction" ["_law_thing_here"] fL dL)
    (GP : FnOk P w K mg base CX0 3 fP dP ["a", "b"] (spBin K plusM)) (aP : At K mg "plus" ["a", "b"] fP dP)
    (GM : FnOk P w K mg base CX0 3 fM dM ["a", "b"] (spBin K minusM)) (aM : At K mg "minus" ["a", "b"] fM dM)
    (GX : FnOk P w K mg base CX0 3 fX dX ["a", "b"] (spBin K timesM)) (aX : At K mg "times" ["a", "b"] fX dX)
    (GO : FnOk P w K mg base (L2N.CX P w) 3 fO dO ["a", "b"] (spOver K fC)) (aO : At K mg "over" ["a", "b"] fO dO)
    (GZ : FnOk P w K mg base CX0 1 fZ dZ ["a", "b"] (spBelow K)) (aZ : At K mg "below" ["a", "b"] fZ dZ) :
    FnOk P w K mg base CX0 4 f fd ["_law_purse_here"] spTold := by
  refine F.ok scThree len_told (fun cdv A outer s H vs Q E hr h => ?_)
  obtain ⟨a, rfl, hp, q⟩ := h
  have h1 := hr.mono (show 1 ≤ 3 by decide)
  have h2 := hr.mono (show 2 ≤ 3 by decide)
  refine ⟨_, (pss_cons (ps_set (i := 1) scThree.nd rfl (.inr rfl) (pe_op op_add pe_int (pe_callB call_abs rfl B.abs (by decide +kernel) (pa_cons (pe_call GG h2 rfl aG.m aG.k aG.b .nil pass0 (pa_cons (pv 0) pa_nil)) pa_nil))))
    (pss_cons (ps_asg (pe_lc (own := [("_law_k", 5)]) (g := gName 5) (tt := tYes) rfl scThree.nd (pi_range1 rfl B.rng (pa_cons pe_int pa_nil)) (blkOk_by (own := [("_law_k", 5)]) (N := nThree) (sc := defScope sThree) (by decide +kernel)) (fun _ _ _ _ _ => pg_name (i := 5) scThree.nd rfl (Or.inl rfl)) (fun _ _ _ _ _ => pts_nil)
        (fun _ _ _ _ _ => pe_call GF hr rfl aF.m aF.k aF.b .nil pass0 (pa_cons (pv 0) (pa_cons (pv 1) pa_nil))))
      (pg_lst rfl (pgs_cons (pg_name (i := 2) scThree.nd rfl (.inl rfl)) (pgs_cons (pg_name (i := 3) scThree.nd rfl (.inl rfl)) (pgs_cons (pg_name (i := 4) scThree.nd rfl (.inl rfl)) pgs_nil)))))
    (pss_cons (ps_if (pt_cmpR op_eq (pe_call GT h1 rfl aT.m aT.k aT.b .nil pass0 (pa_cons (pv 0) (pa_cons pe_int pa_nil))) pe_int (nomark _)) (pss_one (ps_set (i := 4) scThree.nd rfl (.inl rfl) (pe_tup (pa_cons (pe_op op_sub pe_int (pe_ix ix_tup (pv 2) pe_int (fun _ _ => rfl))) (pa_cons (pe_ix ix_tup (pv 2) pe_int (fun _ _ => rfl)) pa_nil))))) pss_nil)
    (pss_cons (ps_if (PW.pt (pw_or (pt_cmpR (op_neD hr.units) (pe_call GP hr rfl aP.m aP.k aP.b .nil pass0 (pa_cons (pe_call GP hr rfl aP.m aP.k aP.b .nil pass0 (pa_cons (pv 2) (pa_cons (pv 3) pa_nil))) (pa_cons (pv 4) pa_nil))) (pe_call GP hr rfl aP.m aP.k aP.b .nil pass0 (pa_cons (pv 2) (pa_cons (pe_call GP hr rfl aP.m aP.k aP.b .nil pass0 (pa_cons (pv 4) (pa_cons (pv 3) pa_nil))) pa_nil))) (nomark _)) (pw_or (pt_cmpR (op_neD hr.units) (pe_call GP hr rfl aP.m aP.k aP.b .nil pass0 (pa_cons (pv 2) (pa_cons (pv 3) pa_nil))) (pe_call GP hr rfl aP.m aP.k aP.b .nil pass0 (pa_cons (pv 3) (pa_cons (pv 2) pa_nil))) (nomark _)) (pw_or1 (pt_cmpR (op_neD hr.units) (pe_call GM hr rfl aM.m aM.k aM.b .nil pass0 (pa_cons (pe_call GP hr rfl aP.m aP.k aP.b .nil pass0 (pa_cons (pv 2) (pa_cons (pv 3) pa_nil))) (pa_cons (pv 3) pa_nil))) (pv 2) (nomark _)))))) (pss_one (ps_ret pe_bl)) pss_nil)
    (pss_cons (ps_if (PW.pt (pw_or (pt_cmpR (op_neD hr.units) (pe_call GX hr rfl aX.m aX.k aX.b .nil pass0 (pa_cons (pv 2) (pa_cons (pe_call GP hr rfl aP.m aP.k aP.b .nil pass0 (pa_cons (pv 3) (pa_cons (pv 4) pa_nil))) pa_nil))) (pe_call GP hr rfl aP.m aP.k aP.b .nil pass0 (pa_cons (pe_call GX hr rfl aX.m aX.k aX.b .nil pass0 (pa_cons (pv 3) (pa_cons (pv 2) pa_nil))) (pa_cons (pe_call GX hr rfl aX.m aX.k aX.b .nil pass0 (pa_cons (pv 4) (pa_cons (pv 2) pa_nil))) pa_nil))) (nomark _)) (pw_or1 (pt_cmpR (op_neD hr.units) (pe_call GX hr rfl aX.m aX.k aX.b .nil pass0 (pa_cons (pe_call GX hr rfl aX.m aX.k aX.b .nil pass0 (pa_cons (pv 2) (pa_cons (pv 3) pa_nil))) (pa_cons (pv 4) pa_nil))) (pe_call GX hr rfl aX.m aX.k aX.b .nil pass0 (pa_cons (pv 2) (pa_cons (pe_call GX hr rfl aX.m aX.k aX.b .nil pass0 (pa_cons (pv 3) (pa_cons (pv 4) pa_nil))) pa_nil))) (nomark _))))) (pss_one (ps_ret pe_bl)) pss_nil)
    (pss_cons (ps_if (PW.pt (pw_or (PW.pt (pw_and (pt_cmpR op_ne (pe_ix ix_tup (pv 3) pe_int (fun _ _ => rfl)) pe_int (nomark _)) (pw_and1 (pt_cmpR (op_neD hr.units) (pe_call GO hr rfl aO.m aO.k aO.b .nil passN (pa_cons (pe_call GX hr rfl aX.m aX.k aX.b .nil pass0 (pa_cons (pv 2) (pa_cons (pv 3) pa_nil))) (pa_cons (pv 3) pa_nil))) (pv 2) (nomark _))))) (pw_or (pt_cmpR (op_neD hr.units) (pe_call GM hr rfl aM.m aM.k aM.b .nil pass0 (pa_cons (pv 2) (pa_cons (pv 2) pa_nil))) (pe_tup (pa_cons pe_int (pa_cons pe_int pa_nil))) (nomark _)) (pw_or1 (pt_cmpR (op_neD hr.units) (pe_call GX hr rfl aX.m aX.k aX.b .nil pass0 (pa_cons (pv 2) (pa_cons (pe_tup (pa_cons pe_int (pa_cons pe_int pa_nil))) pa_nil))) (pv 2) (nomark _)))))) (pss_one (ps_ret pe_bl)) pss_nil)
    (pss_cons (ps_if (pt_not (pt_val (pe_callB (cr_all rfl) rfl B.all (by decide +kernel) (pa_cons (pe_lc (own := [("_law_one", 6)]) (g := gName 6) (tt := tYes) rfl scThree.nd (pi_list (pe_lst (pa_cons (pe_call GP hr rfl aP.m aP.k aP.b .nil pass0 (pa_cons (pv 2) (pa_cons (pv 3) pa_nil))) (pa_cons (pe_call GM hr rfl aM.m aM.k aM.b .nil pass0 (pa_cons (pv 2) (pa_cons (pv 4) pa_nil))) (pa_cons (pe_call GX hr rfl aX.m aX.k aX.b .nil pass0 (pa_cons (pv 3) (pa_cons (pv 4) pa_nil))) pa_nil))))) (blkOk_by (own := [("_law_one", 6)]) (N := nThree) (sc := defScope sThree) (by decide +kernel)) (fun _ _ _ _ _ => pg_name (i := 6) scThree.nd rfl (Or.inl rfl)) (fun _ _ _ _ _ => pts_nil)
        (fun _ _ _ _ _ => pe_call GL h2 rfl aL.m aL.k aL.b .nil pass0 (pa_cons (pv 6) pa_nil))) pa_nil)))) (pss_one (ps_ret pe_bl)) pss_nil)
    (pss_one (ps_ret (pe_and (pe_cmpR op_eq (pe_bm PySem.F.plainAttrs_list PySem.F.slot_list_count PySem.F.type_list_count mt_cntF (pe_lst (pa_cons (pe_call GZ h1 rfl aZ.m aZ.k aZ.b .nil pass0 (pa_cons (pv 2) (pa_cons (pv 3) pa_nil))) (pa_cons (pe_call GZ h1 rfl aZ.m aZ.k aZ.b .nil pass0 (pa_cons (pv 3) (pa_cons (pv 2) pa_nil))) (pa_cons (pe_cmpR (op_eqD hr.units) (pv 2) (pv 3) (nomark _)) pa_nil)))) (pa_cons pe_bl pa_nil)) pe_int (nomark _)) (pe_one (pe_cmpR op_eq (pe_call GZ h1 rfl aZ.m aZ.k aZ.b .nil pass0 (pa_cons (pe_call GM hr rfl aM.m aM.k aM.b .nil pass0 (pa_cons (pv 2) (pa_cons (pv 3) pa_nil))) (pa_cons (pe_tup (pa_cons pe_int (pa_cons pe_int pa_nil))) pa_nil))) (pe_call GZ h1 rfl aZ.m aZ.k aZ.b .nil pass0 (pa_cons (pv 2) (pa_cons (pv 3) pa_nil))) (nomark _))))))))))))), ?_⟩
  refine ⟨_, rfl, a, rfl, hp, fun n H1 bn k1 => ?_⟩
  have ba : Bits 180 (if n < 0 then -n else n) := by split; exact bn.neg; exact bn
  have b1 : Bits 181 (1 + (if n < 0 then -n else n)) := Bits.add (a := 180) (by unfold Bits; decide +kernel) ba
  have nn := abs_nn n
  refine ⟨_, rfl, _, _, rfl, rfl, ?_⟩
  refine ⟨_, rfl, by decide, by decide, fun D hD => ?_⟩
  have nD := k1.1.ne hD
  refine lc_range (lo := 0) (n := (3 : Int).toNat) (fun i H' => Kept a H1 H' ∧ ∃ ps : List (Addr × (Int × Int)), ps.length = i ∧ H' D = some (.lst (ps.map fun x => V.ref x.1)) ∧ ∀ x ∈ ps, H' x.1 = some (tupF x.2) ∧ Sized 181 x.2 ∧ Canon x.2)
    ⟨Kept.of_same k1.1 (same_new hD _), [], rfl, upd_same, fun _ z => nomatch z⟩ ?_ ?_
  · rintro i H2 hi ⟨k2, ps, ln, d2, fs⟩
    refine ⟨rfl, yes_then ?_⟩
    refine iteT ?_
    refine ⟨_, rfl, _, rfl, a, _, rfl, k2.1, by omega, b1, fun p z H3 sz cz e3 k3 => ?_⟩
    have d3 := k3.2 _ _ nD d2
    refine ⟨_, d3, ?_, ?_, ps ++ [(p, z)], ?_, ?_, ?_⟩
    · rw [List.length_map]
      exact Nat.lt_of_lt_of_le (show ps.length < 3 from ln ▸ hi) (by decide)
    · obtain ⟨s3, d3', c3, p3⟩ := k3.1
      refine ⟨⟨s3, d3', c3, by rw [upd_ne nD.symm]; exact p3⟩, fun b o hb e => ?_⟩
      rw [upd_ne (fun z => by subst z; rw [hD] at e; cases e)]
      exact k3.2 _ _ hb (k2.2 _ _ hb e)
    · rw [List.length_append, ln]
      rfl
    · rw [upd_same, List.map_append]
      rfl
    · intro x hx
      rcases List.mem_append.mp hx with h | h
      · obtain ⟨g1, g2⟩ := fs x h
        exact ⟨over_at (Nl.of_kept k2.1 k3 _ _ (fun _ z => nomatch z) g1) d3 (fun _ z => nomatch z), g2⟩
      · rw [List.mem_singleton.mp h]
        exact ⟨over_at e3 d3 (fun _ z => nomatch z), sz, cz⟩
  rintro H2 ⟨k2, ps, ln, d2, fs⟩
  obtain ⟨⟨pA, zA⟩, ⟨pB, zB⟩, ⟨pC0, zC0⟩, rfl⟩ := list_three ln
  obtain ⟨eA, sA, cA⟩ := fs (pA, zA) (by simp)
  obtain ⟨eB, sB, cB⟩ := fs (pB, zB) (by simp)
  obtain ⟨eC, sC0, cC0⟩ := fs (pC0, zC0) (by simp)
  refine ⟨D, _, rfl, SqL.of d2, rfl, _, _, rfl, _, _, rfl, _, _, rfl, rfl, ?_⟩
  have k12 := k1.trans k2
  dsimp only
  refine seq_by (t := tIfS _ _ _) (fun σ' H' => Kept a H H' ∧ ∃ (pC : Addr) (zC : Int × Int), σ' = [some (.ref a), some (.int (1 + (if n < 0 then -n else n))), some (.ref pA), some (.ref pB), some (.ref pC), none, none] ∧ Fr K H' pA zA ∧ Fr K H' pB zB ∧ Fr K H' pC zC ∧ Sized 181 zC ∧ Canon zC) (fun nx hnx => ?_) ?_
  · refine ⟨_, rfl, a, 4, rfl, k2.1, by decide, by decide, fun t H3 t0 t4 k3 => ⟨rfl, ?_⟩⟩
    have fA : Fr K H3 pA zA := Kept.sqT k2.1 k3 (Fr.of eA)
    have fB : Fr K H3 pB zB := Kept.sqT k2.1 k3 (Fr.of eB)
    have fC : Fr K H3 pC0 zC0 := Kept.sqT k2.1 k3 (Fr.of eC)
    have k13 := k12.trans k3
    refine ⟨_, rfl, ?_⟩
    refine ite2 (fun _ => ?_) (fun _ => ?_)
    · refine ⟨_, rfl, pA, _, _, _, rfl, rfl, fA, rfl, _, _, rfl, rfl, _, rfl, pA, _, _, _, rfl, rfl, fA, rfl, (by show 2 ≤ sizeLine; decide), fun r nr => ?_⟩
      have sr := same_new nr (tupF (0 - zA.1, zA.2))
      refine hnx _ _ ⟨k13.same sr, r, (0 - zA.1, zA.2), rfl, fA.same sr, fB.same sr, Fr.of upd_same, ⟨by show Bits 181 (0 - zA.1); rw [Int.zero_sub]; exact sA.t.neg, sA.b, sA.p⟩, canon_opp cA⟩
    · exact hnx _ _ ⟨k13, pC0, zC0, rfl, fA, fB, fC, sC0, cC0⟩
  rintro σ' H0 ⟨k0, pC, zC, rfl, fA, fB, fC, sC, cC⟩
  have S0 := Same.refl H0
  refine ⟨_, rfl, ?_⟩
  refine ⟨_, rfl, ?_⟩
  refine ⟨pA, pB, zA, zB, rfl, (fA.same S0), (fB.same S0), sA.mono (by decide), sB.mono (by decide), fun t1 H1_ s1 n1 e1 => ?_⟩
  have S1 := S0.trans s1
  refine ⟨_, rfl, ?_⟩
  refine ⟨t1, pC, (plusM zA zB), zC, rfl, (Fr.of e1), (fC.same S1), (sz_plus sA sB).mono (by decide), sC.mono (by decide), fun t2 H2_ s2 n2 e2 => ?_⟩
  have S2 := S1.trans s2
  refine ⟨_, rfl, ?_⟩
  refine ⟨_, rfl, ?_⟩
  refine ⟨_, rfl, ?_⟩
  refine ⟨pC, pB, zC, zB, rfl, (fC.same S2), (fB.same S2), sC.mono (by decide), sB.mono (by decide), fun t3 H3_ s3 n3 e3 => ?_⟩
  have S3 := S2.trans s3
  refine ⟨pA, t3, zA, (plusM zC zB), rfl, (fA.same S3), (Fr.of e3), sA.mono (by decide), (sz_plus sC sB).mono (by decide), fun t4 H4_ s4 n4 e4 => ?_⟩
  have S4 := S3.trans s4
  refine ⟨_, _, dp_pair (z := (plusM (plusM zA zB) zC)) (Fr.of ((s3.trans s4) _ _ e2)), dp_pair (z := (plusM zA (plusM zC zB))) (Fr.of e4), shaped_pair _ _, shaped_pair _ _, _, rfl, if_no (ne_pair (law1 cA cB cC)) ?_⟩
  refine ⟨_, rfl, ?_⟩
  refine ⟨_, rfl, ?_⟩
  refine ⟨pA, pB, zA, zB, rfl, (fA.same S4), (fB.same S4), sA.mono (by decide), sB.mono (by decide), fun t5 H5_ s5 n5 e5 => ?_⟩
  have S5 := S4.trans s5
  refine ⟨_, rfl, ?_⟩
  refine ⟨_, rfl, ?_⟩
  refine ⟨pB, pA, zB, zA, rfl, (fB.same S5), (fA.same S5), sB.mono (by decide), sA.mono (by decide), fun t6 H6_ s6 n6 e6 => ?_⟩
  have S6 := S5.trans s6
  refine ⟨_, _, dp_pair (z := (plusM zA zB)) (Fr.of (s6 _ _ e5)), dp_pair (z := (plusM zB zA)) (Fr.of e6), shaped_pair _ _, shaped_pair _ _, _, rfl, if_no (ne_pair (law2 cA cB)) ?_⟩
  refine ⟨_, rfl, ?_⟩
  refine ⟨_, rfl, ?_⟩
  refine ⟨pA, pB, zA, zB, rfl, (fA.same S6), (fB.same S6), sA.mono (by decide), sB.mono (by decide), fun t7 H7_ s7 n7 e7 => ?_⟩
  have S7 := S6.trans s7
  refine ⟨_, rfl, ?_⟩
  refine ⟨t7, pB, (plusM zA zB), zB, rfl, (Fr.of e7), (fB.same S7), (sz_plus sA sB).mono (by decide), sB.mono (by decide), fun t8 H8_ s8 n8 e8 => ?_⟩
  have S8 := S7.trans s8
  refine ⟨_, rfl, ?_⟩
  refine ⟨_, _, dp_pair (z := (minusM (plusM zA zB) zB)) (Fr.of e8), dp_pair (z := zA) (fA.same S8), shaped_pair _ _, shaped_pair _ _, _, rfl, if_no (ne_pair (law3 cA cB)) ?_⟩
  refine ⟨_, rfl, ?_⟩
  refine ⟨_, rfl, ?_⟩
  refine ⟨_, rfl, ?_⟩
  refine ⟨pB, pC, zB, zC, rfl, (fB.same S8), (fC.same S8), sB.mono (by decide), sC.mono (by decide), fun t9 H9_ s9 n9 e9 => ?_⟩
  have S9 := S8.trans s9
  refine ⟨pA, t9, zA, (plusM zB zC), rfl, (fA.same S9), (Fr.of e9), sA.mono (by decide), (sz_plus sB sC).mono (by decide), fun t10 H10_ s10 n10 e10 => ?_⟩
  have S10 := S9.trans s10
  refine ⟨_, rfl, ?_⟩
  refine ⟨_, rfl, ?_⟩
  refine ⟨pB, pA, zB, zA, rfl, (fB.same S10), (fA.same S10), sB.mono (by decide), sA.mono (by decide), fun t11 H11_ s11 n11 e11 => ?_⟩
  have S11 := S10.trans s11
  refine ⟨_, rfl, ?_⟩
  refine ⟨_, rfl, ?_⟩
  refine ⟨pC, pA, zC, zA, rfl, (fC.same S11), (fA.same S11), sC.mono (by decide), sA.mono (by decide), fun t12 H12_ s12 n12 e12 => ?_⟩
  have S12 := S11.trans s12
  refine ⟨t11, t12, (timesM zB zA), (timesM zC zA), rfl, (Fr.of (s12 _ _ e11)), (Fr.of e12), (sz_times sB sA).mono (by decide), (sz_times sC sA).mono (by decide), fun t13 H13_ s13 n13 e13 => ?_⟩
  have S13 := S12.trans s13
  refine ⟨_, _, dp_pair (z := (timesM zA (plusM zB zC))) (Fr.of ((s11.trans (s12.trans s13)) _ _ e10)), dp_pair (z := (plusM (timesM zB zA) (timesM zC zA))) (Fr.of e13), shaped_pair _ _, shaped_pair _ _, _, rfl, if_no (ne_pair (law4 cA cB cC)) ?_⟩
  refine ⟨_, rfl, ?_⟩
  refine ⟨_, rfl, ?_⟩
  refine ⟨pA, pB, zA, zB, rfl, (fA.same S13), (fB.same S13), sA.mono (by decide), sB.mono (by decide), fun t14 H14_ s14 n14 e14 => ?_⟩
  have S14 := S13.trans s14
  refine ⟨_, rfl, ?_⟩
  refine ⟨t14, pC, (timesM zA zB), zC, rfl, (Fr.of e14), (fC.same S14), (sz_times sA sB).mono (by decide), sC.mono (by decide), fun t15 H15_ s15 n15 e15 => ?_⟩
  have S15 := S14.trans s15
  refine ⟨_, rfl, ?_⟩
  refine ⟨_, rfl, ?_⟩
  refine ⟨_, rfl, ?_⟩
  refine ⟨pB, pC, zB, zC, rfl, (fB.same S15), (fC.same S15), sB.mono (by decide), sC.mono (by decide), fun t16 H16_ s16 n16 e16 => ?_⟩
  have S16 := S15.trans s16
  refine ⟨pA, t16, zA, (timesM zB zC), rfl, (fA.same S16), (Fr.of e16), sA.mono (by decide), (sz_times sB sC).mono (by decide), fun t17 H17_ s17 n17 e17 => ?_⟩
  have S17 := S16.trans s17
  refine ⟨_, _, dp_pair (z := (timesM (timesM zA zB) zC)) (Fr.of ((s16.trans s17) _ _ e15)), dp_pair (z := (timesM zA (timesM zB zC))) (Fr.of e17), shaped_pair _ _, shaped_pair _ _, _, rfl, if_no (ne_pair (law5 cA cB cC)) ?_⟩
  dsimp only [tNext]
  refine seq_by (t := tIfS _ _ _) (fun σ' H' => σ' = [some (.ref a), some (.int (1 + (if n < 0 then -n else n))), some (.ref pA), some (.ref pB), some (.ref pC), none, none] ∧ Same H0 H') (fun nx hnx => ?_) ?_
  · refine ⟨_, rfl, pB, _, _, _, rfl, rfl, fB.same S17, rfl, rfl, _, rfl, ?_⟩
    by_cases bz : zB.1 = 0
    · refine if_no (show (!decide (V.int zB.1 = V.int 0)) = false by rw [decide_eq_true (congrArg V.int bz)]; rfl) ?_
      refine iteF ?_
      refine ⟨_, rfl, ?_⟩
      refine ⟨_, rfl, ?_⟩
      refine ⟨pA, pA, zA, zA, rfl, (fA.same S17), (fA.same S17), sA.mono (by decide), sA.mono (by decide), fun t18 H18_ s18 n18 e18 => ?_⟩
      have S18 := S17.trans s18
      refine ⟨(by show 2 ≤ sizeLine; decide), fun t19 n19 => ?_⟩
      have s19 := same_new n19 (tupF (0, 1))
      have e19 := new_at n19 (tupF (0, 1))
      have S19 := S18.trans s19
      refine ⟨_, _, dp_pair (z := (minusM zA zA)) (Fr.of (s19 _ _ e18)), dp_pair (z := ((0 : Int), (1 : Int))) (Fr.of e19), shaped_pair _ _, shaped_pair _ _, _, rfl, if_no (ne_pair (law7 cA)) ?_⟩
      refine ⟨_, rfl, ?_⟩
      refine ⟨(by show 2 ≤ sizeLine; decide), fun t20 n20 => ?_⟩
      have s20 := same_new n20 (tupF (1, 1))
      have e20 := new_at n20 (tupF (1, 1))
      have S20 := S19.trans s20
      refine ⟨pA, t20, zA, ((1 : Int), (1 : Int)), rfl, (fA.same S20), (Fr.of e20), sA.mono (by decide), (sz_small (n := 1900) (by decide) 1 (by decide)).mono (by decide), fun t21 H21_ s21 n21 e21 => ?_⟩
      have S21 := S20.trans s21
      refine ⟨_, rfl, ?_⟩
      refine ⟨_, _, dp_pair (z := (timesM zA ((1 : Int), (1 : Int)))) (Fr.of e21), dp_pair (z := zA) (fA.same S21), shaped_pair _ _, shaped_pair _ _, _, rfl, if_no (ne_pair (law8 cA)) ?_⟩
      exact hnx _ _ ⟨rfl, S21⟩
    · have bne : zB.1 ≠ 0 := bz
      refine if_yes (show (!decide (V.int zB.1 = V.int 0)) = true by rw [decide_eq_false (fun z => bz (by injection z))]; rfl) ?_
      refine ⟨_, rfl, ?_⟩
      refine ⟨_, rfl, ?_⟩
      refine ⟨pA, pB, zA, zB, rfl, (fA.same S17), (fB.same S17), sA.mono (by decide), sB.mono (by decide), fun t18 H18_ s18 n18 e18 => ?_⟩
      have S18 := S17.trans s18
      refine ⟨_, rfl, ?_⟩
      refine ⟨t18, pB, (timesM zA zB), zB, rfl, (Fr.of e18), (fB.same S18), (sz_times sA sB).mono (by decide), sB.mono (by decide), (fun z => (bne z).elim), fun _ t19 H19_ s19 n19 e19 => ?_⟩
      have S19 := S18.trans s19
      refine ⟨_, rfl, ?_⟩
      refine ⟨_, _, dp_pair (z := (overM (timesM zA zB) zB)) (Fr.of e19), dp_pair (z := zA) (fA.same S19), shaped_pair _ _, shaped_pair _ _, _, rfl, if_no (ne_pair (law6 cA cB bne)) ?_⟩
      refine ⟨_, rfl, ?_⟩
      refine ⟨_, rfl, ?_⟩
      refine ⟨pA, pA, zA, zA, rfl, (fA.same S19), (fA.same S19), sA.mono (by decide), sA.mono (by decide), fun t20 H20_ s20 n20 e20 => ?_⟩
      have S20 := S19.trans s20
      refine ⟨(by show 2 ≤ sizeLine; decide), fun t21 n21 => ?_⟩
      have s21 := same_new n21 (tupF (0, 1))
      have e21 := new_at n21 (tupF (0, 1))
      have S21 := S20.trans s21
      refine ⟨_, _, dp_pair (z := (minusM zA zA)) (Fr.of (s21 _ _ e20)), dp_pair (z := ((0 : Int), (1 : Int))) (Fr.of e21), shaped_pair _ _, shaped_pair _ _, _, rfl, if_no (ne_pair (law7 cA)) ?_⟩
      refine ⟨_, rfl, ?_⟩
      refine ⟨(by show 2 ≤ sizeLine; decide), fun t22 n22 => ?_⟩
      have s22 := same_new n22 (tupF (1, 1))
      have e22 := new_at n22 (tupF (1, 1))
      have S22 := S21.trans s22
      refine ⟨pA, t22, zA, ((1 : Int), (1 : Int)), rfl, (fA.same S22), (Fr.of e22), sA.mono (by decide), (sz_small (n := 1900) (by decide) 1 (by decide)).mono (by decide), fun t23 H23_ s23 n23 e23 => ?_⟩
      have S23 := S22.trans s23
      refine ⟨_, rfl, ?_⟩
      refine ⟨_, _, dp_pair (z := (timesM zA ((1 : Int), (1 : Int)))) (Fr.of e23), dp_pair (z := zA) (fA.same S23), shaped_pair _ _, shaped_pair _ _, _, rfl, if_no (ne_pair (law8 cA)) ?_⟩
      exact hnx _ _ ⟨rfl, S23⟩
  rintro σ' H5 ⟨rfl, S5⟩
  replace fA := fA.same S5
  replace fB := fB.same S5
  replace fC := fC.same S5
  have k5 := k0.same S5
  clear S0
  have S0 := Same.refl H5
  refine ⟨_, rfl, ?_⟩
  refine ⟨_, rfl, ?_⟩
  refine ⟨pA, pB, zA, zB, rfl, (fA.same S0), (fB.same S0), sA.mono (by decide), sB.mono (by decide), fun t1 H1_ s1 n1 e1 => ?_⟩
  have S1 := S0.trans s1
  refine ⟨_, rfl, ?_⟩
  refine ⟨_, rfl, ?_⟩
  refine ⟨pA, pC, zA, zC, rfl, (fA.same S1), (fC.same S1), sA.mono (by decide), sC.mono (by decide), fun t2 H2_ s2 n2 e2 => ?_⟩
  have S2 := S1.trans s2
  refine ⟨_, rfl, ?_⟩
  refine ⟨_, rfl, ?_⟩
  refine ⟨pB, pC, zB, zC, rfl, (fB.same S2), (fC.same S2), sB.mono (by decide), sC.mono (by decide), fun t3 H3_ s3 n3 e3 => ?_⟩
  have S3 := S2.trans s3
  refine ⟨(by show 3 ≤ sizeLine; decide), fun l nl => ?_⟩
  have sl := same_new nl (.lst [.ref t1, .ref t2, .ref t3])
  have el := new_at nl (.lst [.ref t1, .ref t2, .ref t3])
  have Sl := S3.trans sl
  have q0 : Fr K _ t1 (plusM zA zB) := (Fr.of ((s2.trans s3) _ _ e1)).same sl
  have q1 : Fr K _ t2 (minusM zA zC) := (Fr.of (s3 _ _ e2)).same sl
  have q2 : Fr K _ t3 (timesM zB zC) := (Fr.of e3).same sl
  refine ⟨l, rfl, ⟨_, SqL.of el⟩, fun D2 hD2 => ?_⟩
  refine lc_list (K := K) (a := l) (xs := [.ref t1, .ref t2, .ref t3]) (fun i H' => Same (upd _ l (.lst [.ref t1, .ref t2, .ref t3])) H' ∧ H' D2 = some (.lst ((List.replicate i true).map V.bl))) ⟨same_new hD2 _, upd_same⟩ ?_ ?_ ?_
  · rintro i H6 _ ⟨s6, _⟩
    exact SqL.of (s6 _ _ el)
  · rintro i x H6 hx ⟨s6, d6⟩
    refine ⟨rfl, yes_then ?_⟩
    refine iteT ?_
    obtain ⟨p, z, rfl, fz, cz, sz⟩ : ∃ (p : Addr) (z : Int × Int), x = .ref p ∧ Fr K H6 p z ∧ Canon z ∧ Sized 400 z := by
      rcases three_items hx with ⟨_, rfl⟩ | ⟨_, rfl⟩ | ⟨_, rfl⟩
      · exact ⟨_, _, rfl, q0.same s6, plus_canon cA cB, (sz_plus sA sB).mono (by decide)⟩
      · exact ⟨_, _, rfl, q1.same s6, minus_canon cA cC, (sz_minus sA sC).mono (by decide)⟩
      · exact ⟨_, _, rfl, q2.same s6, times_canon cB cC, (sz_times sB sC).mono (by decide)⟩
    refine ⟨_, rfl, true, _, _, _, rfl, th_frac fz sz, fun H7 s7 => ?_⟩
    rw [isF_canon cz]
    have hi : i < 3 := by
      rcases three_items hx with ⟨z, _⟩ | ⟨z, _⟩ | ⟨z, _⟩ <;> omega
    refine ⟨_, s7 _ _ d6, ?_, ?_, ?_⟩
    · rw [List.length_map, List.length_replicate]
      exact Nat.lt_of_lt_of_le hi (by decide)
    · intro b o e
      rw [upd_ne (ne_of_none e hD2)]
      exact s7 _ _ (s6 _ _ e)
    · rw [upd_same, List.replicate_succ', List.map_append]
      rfl
  rintro H6 ⟨s6, d6⟩
  refine ⟨D2, _, rfl, SqL.of d6, _, rfl, iteF ?_⟩
  have S6 := Sl.trans s6
  replace fA := fA.same S6
  replace fB := fB.same S6
  have k6 := k5.same S6
  clear S0 S1 S2 S3
  have S0 := Same.refl H6
  have sA9 := sA.mono (show 181 ≤ 1900 by decide)
  have sB9 := sB.mono (show 181 ≤ 1900 by decide)
  refine ⟨_, rfl, _, rfl, pA, pB, zA, zB, rfl, fA, fB, sA9, sB9, _, rfl, _, rfl, pB, pA, zB, zA, rfl, fB, fA, sB9, sA9, _, rfl, _, rfl, _, _, dp_pair fA, dp_pair fB, shaped_pair _ _, shaped_pair _ _, (by show 3 ≤ sizeLine; decide), fun l2 nl2 => ?_⟩
  have s7 := same_new nl2 (.lst [.bl (decide (zA.1 * zB.2 < zB.1 * zA.2)), .bl (decide (zB.1 * zA.2 < zA.1 * zB.2)), .bl (PyData.eqv (.tuple [.int zA.1, .int zA.2]) (.tuple [.int zB.1, .int zB.2]))])
  have e7 := new_at nl2 (.lst [.bl (decide (zA.1 * zB.2 < zB.1 * zA.2)), .bl (decide (zB.1 * zA.2 < zA.1 * zB.2)), .bl (PyData.eqv (.tuple [.int zA.1, .int zA.2]) (.tuple [.int zB.1, .int zB.2]))])
  refine ⟨.inl ⟨rfl, _, SqL.of e7⟩, l2, _, .bl true, rfl, rfl, SqL.of e7, rfl, rfl, ?_⟩
  have one : ([V.bl (decide (zA.1 * zB.2 < zB.1 * zA.2)), V.bl (decide (zB.1 * zA.2 < zA.1 * zB.2)), V.bl (PyData.eqv (.tuple [.int zA.1, .int zA.2]) (.tuple [.int zB.1, .int zB.2]))].countP fun z => eqV z (.bl true)) = 1 := by
    refine cnt_one ?_
    rw [eqv_pair]
    rcases law10 cA cB with ⟨h1, h2, h3⟩ | ⟨h1, h2, h3⟩ | ⟨h1, h2, h3⟩
    · exact .inl ⟨h1, h2, decide_eq_false h3⟩
    · exact .inr (.inl ⟨h1, h2, decide_eq_false h3⟩)
    · exact .inr (.inr ⟨h1, h2, decide_eq_true h3⟩)
  rw [one]
  refine ⟨rfl, _, rfl, ?_⟩
  rw [decide_eq_true (show V.int ((1 : Nat) : Int) = V.int 1 from rfl)]
  refine iteT ?_
  refine ⟨_, rfl, _, rfl, pA, pB, zA, zB, rfl, fA.same s7, fB.same s7, sA9, sB9, fun t1 H8 s8 n8 e8 => ?_⟩
  refine ⟨(by show 2 ≤ sizeLine; decide), fun t2 n9 => ?_⟩
  have s9 := same_new n9 (tupF (0, 1))
  have S9 := s7.trans (s8.trans s9)
  refine ⟨t1, t2, minusM zA zB, (0, 1), rfl, Fr.of (s9 _ _ e8), Fr.of upd_same, (sz_minus sA sB).mono (by decide), sz_small (by decide) 0 (by decide), ?_⟩
  refine ⟨_, rfl, _, rfl, pA, pB, zA, zB, rfl, fA.same S9, fB.same S9, sA9, sB9, rfl, ?_⟩
  have e : decide ((minusM zA zB).1 * 1 < 0 * (minusM zA zB).2) = decide (zA.1 * zB.2 < zB.1 * zA.2) := decide_eq_decide.mpr (law9 cA cB)
  rw [decide_eq_true (congrArg V.bl e)]
  exact q _ (k6.same S9)
end
end Vm

set_option Elab.async false
set_option linter.all false
set_option maxRecDepth 100000
set_option maxHeartbeats 8000000
namespace Vm
open PySem PySem.Spec PyProof.Rows L2
theorem all_true (n : Nat) : (List.replicate n true).all id = true := by
  induction n with
  | zero => rfl
  | succ n ih => rw [List.replicate_succ]; exact ih
section
variable {P : Program} {w : World} {K : PySem.W.Frag} {mg : Str → Option Value} {base : Heap} {f fR fP fC fT fH : Addr} {fd dR dP dC dT dH : FuncData}
abbrev sRight : Stmt := top 30
theorem scRight : FnScope ["_law_purse_here"] ["_law_purse_here"] (defScope sRight) := ⟨rfl, rfl, rfl, by decide +kernel, rfl, by decide +kernel, by decide +kernel⟩
theorem ok_right (F : Fun K "_law_right" "_law_right" sRight f fd) (GT : FnG P w K mg base 5 fT dT ["_law_purse_here"] spTold) (aT : At K mg "_law_told" ["_law_purse_here"] fT dT)
    (GH : FnOk P w K mg base CX0 4 fH dH ["_law_purse_here"] spTold) (aH : At K mg "_law_three" ["_law_purse_here"] fH dH) : FnG P w K mg base 6 f fd ["_law_purse_here"] spTold := by
  refine fnG_of (k := 5) F scRight len_told ?_
  intro cdv A outer s H vs Q hgd hr h
  obtain ⟨a, rfl, hp, q⟩ := h
  have h4 := hr.mono (show 4 ≤ 5 by decide)
  refine ⟨_, pss_one (ps_ret (pe_and (pe_callG GT len_told hgd hr rfl aT.m aT.k aT.b (pa_cons (pv 0) pa_nil)) (pe_and (pe_callG GT len_told hgd hr rfl aT.m aT.k aT.b (pa_cons (pv 0) pa_nil)) (pe_one (pe_call GH h4 rfl aH.m aH.k aH.b .nil pass0 (pa_cons (pv 0) pa_nil)))))), ?_⟩
  refine ⟨_, rfl, a, rfl, hp, fun H1 k1 => ⟨_, rfl, iteT ?_⟩⟩
  refine ⟨_, rfl, a, rfl, k1.1, fun H2 k2 => ⟨_, rfl, iteT ?_⟩⟩
  refine ⟨_, rfl, a, rfl, k2.1, fun H3 k3 => ?_⟩
  exact q H3 ((k1.trans k2).trans k3)
abbrev sLaw : Stmt := top 31
theorem scLaw : FnScope ["_law_script", "_law_k"] ["_law_script"] (defScope sLaw) := ⟨rfl, rfl, rfl, by decide +kernel, rfl, by decide +kernel, by decide +kernel⟩
def spLaw (K : PySem.W.Frag) : Sp := fun vs H Q _ => ∃ (a : Addr) (ns : List Int), vs = [.ref a] ∧ SqL K H a (ns.map V.int) ∧ ns.length ≤ 63 ∧ ∀ H', Q (.bl true) H'
theorem ok_law (F : Fun K "law" "law" sLaw f fd) (B : Blt mg)
    (GR : FnG P w K mg base 6 fR dR ["_law_purse_here"] spTold) (aR : At K mg "_law_right" ["_law_purse_here"] fR dR)
    (GP : FnOk P w K mg base CX0 1 fP dP ["_law_cell_here"] spPurse) (aP : At K mg "_law_purse" ["_law_cell_here"] fP dP)
    (GC : FnOk P w K mg base CX0 1 fC dC ["_law_script", "_law_k"] (spCellV K)) (aC : At K mg "_law_cell" ["_law_script", "_law_k"] fC dC) :
    FnG P w K mg base 7 f fd ["_law_script"] (spLaw K) := by
  refine fnG_of (k := 6) F scLaw (fun vs H Q E h => ?_) ?_
  · obtain ⟨a, ns, rfl, _⟩ := h
    rfl
  intro cdv A outer s H vs Q hgd hr h
  obtain ⟨a, ns, rfl, hS, h63, q⟩ := h
  have h1 := hr.mono (show 1 ≤ 6 by decide)
  refine ⟨_, pss_one (ps_ret (pe_callB (cr_all rfl) rfl B.all (by decide +kernel) (pa_cons (pe_lc (own := [("_law_k", 1)]) (g := gName 1) (tt := tYes) rfl scLaw.nd
      (pi_range1 rfl B.rng (pa_cons (pe_callB (call_max2 rfl) rfl B.max (by decide +kernel) (pa_cons pe_int (pa_cons (pe_callB (call_min2 rfl) rfl B.min (by decide +kernel) (pa_cons (pe_callB call_len_seq rfl B.len PySem.boot_len (pa_cons (pv 0) pa_nil)) (pa_cons pe_int pa_nil))) pa_nil))) pa_nil))
      (blkOk_by (own := [("_law_k", 1)]) (N := ["_law_script", "_law_k"]) (sc := defScope sLaw) (by decide +kernel)) (fun _ _ _ _ _ => pg_name (i := 1) scLaw.nd rfl (Or.inl rfl)) (fun _ _ _ _ _ => pts_nil)
      (fun _ _ _ _ _ => pe_callG GR len_told hgd hr rfl aR.m aR.k aR.b (pa_cons (pe_call GP h1 rfl aP.m aP.k aP.b .nil pass0 (pa_cons (pe_call GC h1 rfl aC.m aC.k aC.b .nil pass0 (pa_cons (pv 0) (pa_cons (pv 1) pa_nil))) pa_nil)) pa_nil))) pa_nil))), ?_⟩
  refine ⟨_, rfl, a, _, rfl, .inl hS, _, _, rfl, _, _, rfl, ?_⟩
  obtain ⟨n, hn, hn8⟩ : ∃ n : Nat, (if (if (8 : Int) < (((ns.map V.int).length : Nat) : Int) then 8 else (((ns.map V.int).length : Nat) : Int)) > (1 : Int) then (if (8 : Int) < (((ns.map V.int).length : Nat) : Int) then 8 else (((ns.map V.int).length : Nat) : Int)) else 1) = (n : Int) ∧ n ≤ 8 := by
    generalize (((ns.map V.int).length : Nat) : Int) = m
    refine ⟨(if (if (8 : Int) < m then 8 else m) > 1 then (if (8 : Int) < m then 8 else m) else 1).toNat, ?_, ?_⟩
    · split <;> split at * <;> omega
    · split <;> split at * <;> omega
  rw [hn]
  refine ⟨_, rfl, by omega, by omega, fun D hD => ?_⟩
  refine lc_range (lo := 0) (n := ((n : Nat) : Int).toNat) (fun i H' => Same H H' ∧ H' D = some (.lst ((List.replicate i true).map V.bl))) ⟨same_new hD _, upd_same⟩ ?_ ?_
  · rintro i H1 hi ⟨s1, d1⟩
    refine ⟨rfl, yes_then ?_⟩
    refine iteT ?_
    refine ⟨_, rfl, _, rfl, a, ns, _, rfl, s1.seq hS, by omega, by omega, fun c H2 s2 => ?_⟩
    refine ⟨c, rfl, fun p H3 s3 n3 p3 => ?_⟩
    refine ⟨p, rfl, p3, fun H4 k4 => ?_⟩
    have old : ∀ b o, H2 b = some o → H4 b = some o := fun b o e => k4.2 b o (ne_of_none e n3) (s3 _ _ e)
    refine ⟨_, old _ _ (s2 _ _ d1), ?_, ?_, ?_⟩
    · rw [List.length_map, List.length_replicate]
      exact Nat.lt_of_lt_of_le (by omega : i < 1000) (by decide)
    · intro b o e
      rw [upd_ne (ne_of_none e hD)]
      exact old _ _ (s2 _ _ (s1 _ _ e))
    · rw [upd_same, List.replicate_succ', List.map_append]
      rfl
  · rintro H1 ⟨s1, d1⟩
    refine ⟨D, _, rfl, SqL.of d1, ?_⟩
    rw [all_true]
    exact q H1
end
/-! ### what the top leaves -/

theorem all_mk {l : PySem.W.OpenLaw} {w : World} {K : PySem.W.Frag} {h : Heap} {mg : Str → Option Value} {fa : Addr} (X : K.In h) (G : h.Ns mainGlobals mg) (hfa : mg "law" = some (.ref fa))
    {od0 an0 : Option Addr} {sl0 : Array (Option Value)} {oc0 kV0 dc0 pm0 cd0 ct0 : Value} {f0 : Addr}
    {od1 an1 : Option Addr} {sl1 : Array (Option Value)} {oc1 kV1 dc1 pm1 cd1 ct1 : Value} {f1 : Addr}
    {od2 an2 : Option Addr} {sl2 : Array (Option Value)} {oc2 kV2 dc2 pm2 cd2 ct2 : Value} {f2 : Addr}
    {od3 an3 : Option Addr} {sl3 : Array (Option Value)} {oc3 kV3 dc3 pm3 cd3 ct3 : Value} {f3 : Addr}
    {od4 an4 : Option Addr} {sl4 : Array (Option Value)} {oc4 kV4 dc4 pm4 cd4 ct4 : Value} {f4 : Addr}
    {od5 an5 : Option Addr} {sl5 : Array (Option Value)} {oc5 kV5 dc5 pm5 cd5 ct5 : Value} {f5 : Addr}
    {od6 an6 : Option Addr} {sl6 : Array (Option Value)} {oc6 kV6 dc6 pm6 cd6 ct6 : Value} {f6 : Addr}
    {od7 an7 : Option Addr} {sl7 : Array (Option Value)} {oc7 kV7 dc7 pm7 cd7 ct7 : Value} {f7 : Addr}
    {od8 an8 : Option Addr} {sl8 : Array (Option Value)} {oc8 kV8 dc8 pm8 cd8 ct8 : Value} {f8 : Addr}
    {od9 an9 : Option Addr} {sl9 : Array (Option Value)} {oc9 kV9 dc9 pm9 cd9 ct9 : Value} {f9 : Addr}
    {od10 an10 : Option Addr} {sl10 : Array (Option Value)} {oc10 kV10 dc10 pm10 cd10 ct10 : Value} {f10 : Addr}
    {od11 an11 : Option Addr} {sl11 : Array (Option Value)} {oc11 kV11 dc11 pm11 cd11 ct11 : Value} {f11 : Addr}
    {od12 an12 : Option Addr} {sl12 : Array (Option Value)} {oc12 kV12 dc12 pm12 cd12 ct12 : Value} {f12 : Addr}
    {od13 an13 : Option Addr} {sl13 : Array (Option Value)} {oc13 kV13 dc13 pm13 cd13 ct13 : Value} {f13 : Addr}
    {od14 an14 : Option Addr} {sl14 : Array (Option Value)} {oc14 kV14 dc14 pm14 cd14 ct14 : Value} {f14 : Addr}
    {od15 an15 : Option Addr} {sl15 : Array (Option Value)} {oc15 kV15 dc15 pm15 cd15 ct15 : Value} {f15 : Addr}
    {od16 an16 : Option Addr} {sl16 : Array (Option Value)} {oc16 kV16 dc16 pm16 cd16 ct16 : Value} {f16 : Addr}
    {od17 an17 : Option Addr} {sl17 : Array (Option Value)} {oc17 kV17 dc17 pm17 cd17 ct17 : Value} {f17 : Addr}
    {od18 an18 : Option Addr} {sl18 : Array (Option Value)} {oc18 kV18 dc18 pm18 cd18 ct18 : Value} {f18 : Addr}
    {od19 an19 : Option Addr} {sl19 : Array (Option Value)} {oc19 kV19 dc19 pm19 cd19 ct19 : Value} {f19 : Addr}
    {od20 an20 : Option Addr} {sl20 : Array (Option Value)} {oc20 kV20 dc20 pm20 cd20 ct20 : Value} {f20 : Addr}
    {od21 an21 : Option Addr} {sl21 : Array (Option Value)} {oc21 kV21 dc21 pm21 cd21 ct21 : Value} {f21 : Addr}
    {od22 an22 : Option Addr} {sl22 : Array (Option Value)} {oc22 kV22 dc22 pm22 cd22 ct22 : Value} {f22 : Addr}
    {od23 an23 : Option Addr} {sl23 : Array (Option Value)} {oc23 kV23 dc23 pm23 cd23 ct23 : Value} {f23 : Addr}
    {od24 an24 : Option Addr} {sl24 : Array (Option Value)} {oc24 kV24 dc24 pm24 cd24 ct24 : Value} {f24 : Addr}
    {od25 an25 : Option Addr} {sl25 : Array (Option Value)} {oc25 kV25 dc25 pm25 cd25 ct25 : Value} {f25 : Addr}
    {od26 an26 : Option Addr} {sl26 : Array (Option Value)} {oc26 kV26 dc26 pm26 cd26 ct26 : Value} {f26 : Addr}
    {e0 : Addr}
    (a0 : PySem.W.nsIn K mainGlobals "is_whole" = some (some (.ref f0)))
    (l0 : K.lookup f0 = some ⟨oc0, od0, .func (PySem.W.fnOf "is_whole" "is_whole" (defArgs sIsW) (defBody sIsW) (defScope sIsW) .none kV0 dc0 pm0 an0 cd0 ct0), sl0⟩)
    (c0 : PySem.W.codeIn K cd0 "is_whole" = true)
    (k0 : PySem.W.keepIn K (.ref f0) = true)
    (a1 : PySem.W.nsIn K mainGlobals "common_divisor" = some (some (.ref f1)))
    (l1 : K.lookup f1 = some ⟨oc1, od1, .func (PySem.W.fnOf "common_divisor" "common_divisor" (defArgs sGcd) (defBody sGcd) (defScope sGcd) .none kV1 dc1 pm1 an1 cd1 ct1), sl1⟩)
    (c1 : PySem.W.codeIn K cd1 "common_divisor" = true)
    (k1 : PySem.W.keepIn K (.ref f1) = true)
    (a2 : PySem.W.nsIn K mainGlobals "is_fraction" = some (some (.ref f2)))
    (l2 : K.lookup f2 = some ⟨oc2, od2, .func (PySem.W.fnOf "is_fraction" "is_fraction" (defArgs sIsF) (defBody sIsF) (defScope sIsF) .none kV2 dc2 pm2 an2 cd2 ct2), sl2⟩)
    (c2 : PySem.W.codeIn K cd2 "is_fraction" = true)
    (k2 : PySem.W.keepIn K (.ref f2) = true)
    (a3 : PySem.W.nsIn K mainGlobals "fraction" = some (some (.ref f3)))
    (l3 : K.lookup f3 = some ⟨oc3, od3, .func (PySem.W.fnOf "fraction" "fraction" (defArgs sFrac) (defBody sFrac) (defScope sFrac) .none kV3 dc3 pm3 an3 cd3 ct3), sl3⟩)
    (c3 : PySem.W.codeIn K cd3 "fraction" = true)
    (k3 : PySem.W.keepIn K (.ref f3) = true)
    (a4 : PySem.W.nsIn K mainGlobals "plus" = some (some (.ref f4)))
    (l4 : K.lookup f4 = some ⟨oc4, od4, .func (PySem.W.fnOf "plus" "plus" (defArgs sPlus) (defBody sPlus) (defScope sPlus) .none kV4 dc4 pm4 an4 cd4 ct4), sl4⟩)
    (c4 : PySem.W.codeIn K cd4 "plus" = true)
    (k4 : PySem.W.keepIn K (.ref f4) = true)
    (a5 : PySem.W.nsIn K mainGlobals "minus" = some (some (.ref f5)))
    (l5 : K.lookup f5 = some ⟨oc5, od5, .func (PySem.W.fnOf "minus" "minus" (defArgs sMinus) (defBody sMinus) (defScope sMinus) .none kV5 dc5 pm5 an5 cd5 ct5), sl5⟩)
    (c5 : PySem.W.codeIn K cd5 "minus" = true)
    (k5 : PySem.W.keepIn K (.ref f5) = true)
    (a6 : PySem.W.nsIn K mainGlobals "times" = some (some (.ref f6)))
    (l6 : K.lookup f6 = some ⟨oc6, od6, .func (PySem.W.fnOf "times" "times" (defArgs sTimes) (defBody sTimes) (defScope sTimes) .none kV6 dc6 pm6 an6 cd6 ct6), sl6⟩)
    (c6 : PySem.W.codeIn K cd6 "times" = true)
    (k6 : PySem.W.keepIn K (.ref f6) = true)
    (a7 : PySem.W.nsIn K mainGlobals "over" = some (some (.ref f7)))
    (l7 : K.lookup f7 = some ⟨oc7, od7, .func (PySem.W.fnOf "over" "over" (defArgs sOver) (defBody sOver) (defScope sOver) .none kV7 dc7 pm7 an7 cd7 ct7), sl7⟩)
    (c7 : PySem.W.codeIn K cd7 "over" = true)
    (k7 : PySem.W.keepIn K (.ref f7) = true)
    (a8 : PySem.W.nsIn K mainGlobals "below" = some (some (.ref f8)))
    (l8 : K.lookup f8 = some ⟨oc8, od8, .func (PySem.W.fnOf "below" "below" (defArgs sBelow) (defBody sBelow) (defScope sBelow) .none kV8 dc8 pm8 an8 cd8 ct8), sl8⟩)
    (c8 : PySem.W.codeIn K cd8 "below" = true)
    (k8 : PySem.W.keepIn K (.ref f8) = true)
    (a9 : PySem.W.nsIn K mainGlobals "_law_cell" = some (some (.ref f9)))
    (l9 : K.lookup f9 = some ⟨oc9, od9, .func (PySem.W.fnOf "_law_cell" "_law_cell" (defArgs sCell) (defBody sCell) (defScope sCell) .none kV9 dc9 pm9 an9 cd9 ct9), sl9⟩)
    (c9 : PySem.W.codeIn K cd9 "_law_cell" = true)
    (k9 : PySem.W.keepIn K (.ref f9) = true)
    (a10 : PySem.W.nsIn K mainGlobals "_law_purse" = some (some (.ref f10)))
    (l10 : K.lookup f10 = some ⟨oc10, od10, .func (PySem.W.fnOf "_law_purse" "_law_purse" (defArgs sPurse) (defBody sPurse) (defScope sPurse) .none kV10 dc10 pm10 an10 cd10 ct10), sl10⟩)
    (c10 : PySem.W.codeIn K cd10 "_law_purse" = true)
    (k10 : PySem.W.keepIn K (.ref f10) = true)
    (a11 : PySem.W.nsIn K mainGlobals "_law_take" = some (some (.ref f11)))
    (l11 : K.lookup f11 = some ⟨oc11, od11, .func (PySem.W.fnOf "_law_take" "_law_take" (defArgs sTake) (defBody sTake) (defScope sTake) .none kV11 dc11 pm11 an11 cd11 ct11), sl11⟩)
    (c11 : PySem.W.codeIn K cd11 "_law_take" = true)
    (k11 : PySem.W.keepIn K (.ref f11) = true)
    (a12 : PySem.W.nsIn K mainGlobals "_law_low" = some (some (.ref f12)))
    (l12 : K.lookup f12 = some ⟨oc12, od12, .func (PySem.W.fnOf "_law_low" "_law_low" (defArgs sLow) (defBody sLow) (defScope sLow) .none kV12 dc12 pm12 an12 cd12 ct12), sl12⟩)
    (c12 : PySem.W.codeIn K cd12 "_law_low" = true)
    (k12 : PySem.W.keepIn K (.ref f12) = true)
    (a13 : PySem.W.nsIn K mainGlobals "_law_great" = some (some (.ref f13)))
    (l13 : K.lookup f13 = some ⟨oc13, od13, .func (PySem.W.fnOf "_law_great" "_law_great" (defArgs sGreat) (defBody sGreat) (defScope sGreat) .none kV13 dc13 pm13 an13 cd13 ct13), sl13⟩)
    (c13 : PySem.W.codeIn K cd13 "_law_great" = true)
    (k13 : PySem.W.keepIn K (.ref f13) = true)
    (a14 : PySem.W.nsIn K mainGlobals "_law_odd" = some (some (.ref f14)))
    (l14 : K.lookup f14 = some ⟨oc14, od14, .func (PySem.W.fnOf "_law_odd" "_law_odd" (defArgs sOdd) (defBody sOdd) (defScope sOdd) .none kV14 dc14 pm14 an14 cd14 ct14), sl14⟩)
    (c14 : PySem.W.codeIn K cd14 "_law_odd" = true)
    (k14 : PySem.W.keepIn K (.ref f14) = true)
    (a15 : PySem.W.nsIn K mainGlobals "_law_put" = some (some (.ref f15)))
    (l15 : K.lookup f15 = some ⟨oc15, od15, .func (PySem.W.fnOf "_law_put" "_law_put" (defArgs sPut) (defBody sPut) (defScope sPut) .none kV15 dc15 pm15 an15 cd15 ct15), sl15⟩)
    (c15 : PySem.W.codeIn K cd15 "_law_put" = true)
    (k15 : PySem.W.keepIn K (.ref f15) = true)
    (a16 : PySem.W.nsIn K mainGlobals "_law_way" = some (some (.ref f16)))
    (l16 : K.lookup f16 = some ⟨oc16, od16, .func (PySem.W.fnOf "_law_way" "_law_way" (defArgs sWay) (defBody sWay) (defScope sWay) .none kV16 dc16 pm16 an16 cd16 ct16), sl16⟩)
    (c16 : PySem.W.codeIn K cd16 "_law_way" = true)
    (k16 : PySem.W.keepIn K (.ref f16) = true)
    (a17 : PySem.W.nsIn K mainGlobals "_law_at" = some (some (.ref f17)))
    (l17 : K.lookup f17 = some ⟨oc17, od17, .func (PySem.W.fnOf "_law_at" "_law_at" (defArgs sAtW) (defBody sAtW) (defScope sAtW) .none kV17 dc17 pm17 an17 cd17 ct17), sl17⟩)
    (c17 : PySem.W.codeIn K cd17 "_law_at" = true)
    (k17 : PySem.W.keepIn K (.ref f17) = true)
    (a18 : PySem.W.nsIn K mainGlobals "_law_bent" = some (some (.ref f18)))
    (l18 : K.lookup f18 = some ⟨oc18, od18, .func (PySem.W.fnOf "_law_bent" "_law_bent" (defArgs sBent) (defBody sBent) (defScope sBent) .none kV18 dc18 pm18 an18 cd18 ct18), sl18⟩)
    (c18 : PySem.W.codeIn K cd18 "_law_bent" = true)
    (k18 : PySem.W.keepIn K (.ref f18) = true)
    (a19 : PySem.W.nsIn K mainGlobals "_law_is_whole" = some (some (.ref f19)))
    (l19 : K.lookup f19 = some ⟨oc19, od19, .func (PySem.W.fnOf "_law_is_whole" "_law_is_whole" (defArgs sLIsW) (defBody sLIsW) (defScope sLIsW) .none kV19 dc19 pm19 an19 cd19 ct19), sl19⟩)
    (c19 : PySem.W.codeIn K cd19 "_law_is_whole" = true)
    (k19 : PySem.W.keepIn K (.ref f19) = true)
    (a20 : PySem.W.nsIn K mainGlobals "_law_is_fraction" = some (some (.ref f20)))
    (l20 : K.lookup f20 = some ⟨oc20, od20, .func (PySem.W.fnOf "_law_is_fraction" "_law_is_fraction" (defArgs sLIsF) (defBody sLIsF) (defScope sLIsF) .none kV20 dc20 pm20 an20 cd20 ct20), sl20⟩)
    (c20 : PySem.W.codeIn K cd20 "_law_is_fraction" = true)
    (k20 : PySem.W.keepIn K (.ref f20) = true)
    (a21 : PySem.W.nsIn K mainGlobals "_law_fraction" = some (some (.ref f21)))
    (l21 : K.lookup f21 = some ⟨oc21, od21, .func (PySem.W.fnOf "_law_fraction" "_law_fraction" (defArgs sFr) (defBody sFr) (defScope sFr) .none kV21 dc21 pm21 an21 cd21 ct21), sl21⟩)
    (c21 : PySem.W.codeIn K cd21 "_law_fraction" = true)
    (k21 : PySem.W.keepIn K (.ref f21) = true)
    (a22 : PySem.W.nsIn K mainGlobals "_law_thing" = some (some (.ref f22)))
    (l22 : K.lookup f22 = some ⟨oc22, od22, .func (PySem.W.fnOf "_law_thing" "_law_thing" (defArgs sThing) (defBody sThing) (defScope sThing) .none kV22 dc22 pm22 an22 cd22 ct22), sl22⟩)
    (c22 : PySem.W.codeIn K cd22 "_law_thing" = true)
    (k22 : PySem.W.keepIn K (.ref f22) = true)
    (a23 : PySem.W.nsIn K mainGlobals "_law_told" = some (some (.ref f23)))
    (l23 : K.lookup f23 = some ⟨oc23, od23, .func (PySem.W.fnOf "_law_told" "_law_told" (defArgs sTold) (defBody sTold) (defScope sTold) .none kV23 dc23 pm23 an23 cd23 ct23), sl23⟩)
    (c23 : PySem.W.codeIn K cd23 "_law_told" = true)
    (k23 : PySem.W.keepIn K (.ref f23) = true)
    (a24 : PySem.W.nsIn K mainGlobals "_law_three" = some (some (.ref f24)))
    (l24 : K.lookup f24 = some ⟨oc24, od24, .func (PySem.W.fnOf "_law_three" "_law_three" (defArgs sThree) (defBody sThree) (defScope sThree) .none kV24 dc24 pm24 an24 cd24 ct24), sl24⟩)
    (c24 : PySem.W.codeIn K cd24 "_law_three" = true)
    (k24 : PySem.W.keepIn K (.ref f24) = true)
    (a25 : PySem.W.nsIn K mainGlobals "_law_right" = some (some (.ref f25)))
    (l25 : K.lookup f25 = some ⟨oc25, od25, .func (PySem.W.fnOf "_law_right" "_law_right" (defArgs sRight) (defBody sRight) (defScope sRight) .none kV25 dc25 pm25 an25 cd25 ct25), sl25⟩)
    (c25 : PySem.W.codeIn K cd25 "_law_right" = true)
    (k25 : PySem.W.keepIn K (.ref f25) = true)
    (a26 : PySem.W.nsIn K mainGlobals "law" = some (some (.ref f26)))
    (l26 : K.lookup f26 = some ⟨oc26, od26, .func (PySem.W.fnOf "law" "law" (defArgs sLaw) (defBody sLaw) (defScope sLaw) .none kV26 dc26 pm26 an26 cd26 ct26), sl26⟩)
    (c26 : PySem.W.codeIn K cd26 "law" = true)
    (k26 : PySem.W.keepIn K (.ref f26) = true)
    (g0 : PySem.W.nsIn K mainGlobals "NoNumber" = some (some (.ref e0)))
    (xN : PySem.W.excIn K e0 [.type "ValueError", .type "Exception", .type "BaseException", .type "object"] "ValueError.__new__" = true)
    (kN : PySem.W.keepIn K (.ref e0) = true)
    (bN : PySem.W.subIn K (.ref e0) (.type "BaseException") = some true)
    (tN : PySem.W.typeIn K (.ref e0) = some (.type "type"))
    (z_isinstance : PySem.W.nsIn K mainGlobals "isinstance" = some none)
    (z_tuple : PySem.W.nsIn K mainGlobals "tuple" = some none)
    (z_bool : PySem.W.nsIn K mainGlobals "bool" = some none)
    (z_int : PySem.W.nsIn K mainGlobals "int" = some none)
    (z_len : PySem.W.nsIn K mainGlobals "len" = some none)
    (z_all : PySem.W.nsIn K mainGlobals "all" = some none)
    (z_range : PySem.W.nsIn K mainGlobals "range" = some none)
    (z_abs : PySem.W.nsIn K mainGlobals "abs" = some none)
    (z_list : PySem.W.nsIn K mainGlobals "list" = some none)
    (z_repr : PySem.W.nsIn K mainGlobals "repr" = some none)
    (z_max : PySem.W.nsIn K mainGlobals "max" = some none)
    (z_min : PySem.W.nsIn K mainGlobals "min" = some none)
    : ∃ fd : FuncData, (∀ (s : Shared) (v : Value), BindsTo s fd ⟨[v], []⟩ [("_law_script", v)]) ∧ ∀ base : Heap, K.In base → base.Ns mainGlobals mg → FnG l.prog w K mg base 7 fa fd ["_law_script"] (spLaw K) := by
  have e := hfa.symm.trans (PySem.W.mg_of X G a26)
  cases e
  have F0 := fun_mk (st := sIsW) l0 c0 k0
  have A0 : At K mg "is_whole" ["thing"] f0 _ := ⟨F0.binds (ps := ["thing"]) fun _ _ _ _ _ _ us hl => match us, hl with | [_], _ => rfl, k0, PySem.W.mg_of X G a0⟩
  have F1 := fun_mk (st := sGcd) l1 c1 k1
  have A1 : At K mg "common_divisor" ["a", "b"] f1 _ := ⟨F1.binds (ps := ["a", "b"]) fun _ _ _ _ _ _ us hl => match us, hl with | [_, _], _ => rfl, k1, PySem.W.mg_of X G a1⟩
  have F2 := fun_mk (st := sIsF) l2 c2 k2
  have A2 : At K mg "is_fraction" ["thing"] f2 _ := ⟨F2.binds (ps := ["thing"]) fun _ _ _ _ _ _ us hl => match us, hl with | [_], _ => rfl, k2, PySem.W.mg_of X G a2⟩
  have F3 := fun_mk (st := sFrac) l3 c3 k3
  have A3 : At K mg "fraction" ["top", "bottom"] f3 _ := ⟨F3.binds (ps := ["top", "bottom"]) fun _ _ _ _ _ _ us hl => match us, hl with | [_, _], _ => rfl, k3, PySem.W.mg_of X G a3⟩
  have F4 := fun_mk (st := sPlus) l4 c4 k4
  have A4 : At K mg "plus" ["a", "b"] f4 _ := ⟨F4.binds (ps := ["a", "b"]) fun _ _ _ _ _ _ us hl => match us, hl with | [_, _], _ => rfl, k4, PySem.W.mg_of X G a4⟩
  have F5 := fun_mk (st := sMinus) l5 c5 k5
  have A5 : At K mg "minus" ["a", "b"] f5 _ := ⟨F5.binds (ps := ["a", "b"]) fun _ _ _ _ _ _ us hl => match us, hl with | [_, _], _ => rfl, k5, PySem.W.mg_of X G a5⟩
  have F6 := fun_mk (st := sTimes) l6 c6 k6
  have A6 : At K mg "times" ["a", "b"] f6 _ := ⟨F6.binds (ps := ["a", "b"]) fun _ _ _ _ _ _ us hl => match us, hl with | [_, _], _ => rfl, k6, PySem.W.mg_of X G a6⟩
  have F7 := fun_mk (st := sOver) l7 c7 k7
  have A7 : At K mg "over" ["a", "b"] f7 _ := ⟨F7.binds (ps := ["a", "b"]) fun _ _ _ _ _ _ us hl => match us, hl with | [_, _], _ => rfl, k7, PySem.W.mg_of X G a7⟩
  have F8 := fun_mk (st := sBelow) l8 c8 k8
  have A8 : At K mg "below" ["a", "b"] f8 _ := ⟨F8.binds (ps := ["a", "b"]) fun _ _ _ _ _ _ us hl => match us, hl with | [_, _], _ => rfl, k8, PySem.W.mg_of X G a8⟩
  have F9 := fun_mk (st := sCell) l9 c9 k9
  have A9 : At K mg "_law_cell" ["_law_script", "_law_k"] f9 _ := ⟨F9.binds (ps := ["_law_script", "_law_k"]) fun _ _ _ _ _ _ us hl => match us, hl with | [_, _], _ => rfl, k9, PySem.W.mg_of X G a9⟩
  have F10 := fun_mk (st := sPurse) l10 c10 k10
  have A10 : At K mg "_law_purse" ["_law_cell_here"] f10 _ := ⟨F10.binds (ps := ["_law_cell_here"]) fun _ _ _ _ _ _ us hl => match us, hl with | [_], _ => rfl, k10, PySem.W.mg_of X G a10⟩
  have F11 := fun_mk (st := sTake) l11 c11 k11
  have A11 : At K mg "_law_take" ["_law_purse_here", "_law_many"] f11 _ := ⟨F11.binds (ps := ["_law_purse_here", "_law_many"]) fun _ _ _ _ _ _ us hl => match us, hl with | [_, _], _ => rfl, k11, PySem.W.mg_of X G a11⟩
  have F12 := fun_mk (st := sLow) l12 c12 k12
  have A12 : At K mg "_law_low" ["_law_top", "_law_bottom"] f12 _ := ⟨F12.binds (ps := ["_law_top", "_law_bottom"]) fun _ _ _ _ _ _ us hl => match us, hl with | [_, _], _ => rfl, k12, PySem.W.mg_of X G a12⟩
  have F13 := fun_mk (st := sGreat) l13 c13 k13
  have A13 : At K mg "_law_great" ["_law_purse_here"] f13 _ := ⟨F13.binds (ps := ["_law_purse_here"]) fun _ _ _ _ _ _ us hl => match us, hl with | [_], _ => rfl, k13, PySem.W.mg_of X G a13⟩
  have F14 := fun_mk (st := sOdd) l14 c14 k14
  have A14 : At K mg "_law_odd" ["_law_purse_here", "_law_old"] f14 _ := ⟨F14.binds (ps := ["_law_purse_here", "_law_old"]) fun _ _ _ _ _ _ us hl => match us, hl with | [_, _], _ => rfl, k14, PySem.W.mg_of X G a14⟩
  have F15 := fun_mk (st := sPut) l15 c15 k15
  have A15 : At K mg "_law_put" ["_law_thing_here", "_law_way_here", "_law_new"] f15 _ := ⟨F15.binds (ps := ["_law_thing_here", "_law_way_here", "_law_new"]) fun _ _ _ _ _ _ us hl => match us, hl with | [_, _, _], _ => rfl, k15, PySem.W.mg_of X G a15⟩
  have F16 := fun_mk (st := sWay) l16 c16 k16
  have A16 : At K mg "_law_way" ["_law_purse_here", "_law_thing_here"] f16 _ := ⟨F16.binds (ps := ["_law_purse_here", "_law_thing_here"]) fun _ _ _ _ _ _ us hl => match us, hl with | [_, _], _ => rfl, k16, PySem.W.mg_of X G a16⟩
  have F17 := fun_mk (st := sAtW) l17 c17 k17
  have A17 : At K mg "_law_at" ["_law_thing_here", "_law_way_here"] f17 _ := ⟨F17.binds (ps := ["_law_thing_here", "_law_way_here"]) fun _ _ _ _ _ _ us hl => match us, hl with | [_, _], _ => rfl, k17, PySem.W.mg_of X G a17⟩
  have F18 := fun_mk (st := sBent) l18 c18 k18
  have A18 : At K mg "_law_bent" ["_law_purse_here", "_law_thing_here"] f18 _ := ⟨F18.binds (ps := ["_law_purse_here", "_law_thing_here"]) fun _ _ _ _ _ _ us hl => match us, hl with | [_, _], _ => rfl, k18, PySem.W.mg_of X G a18⟩
  have F19 := fun_mk (st := sLIsW) l19 c19 k19
  have A19 : At K mg "_law_is_whole" ["_law_thing_here"] f19 _ := ⟨F19.binds (ps := ["_law_thing_here"]) fun _ _ _ _ _ _ us hl => match us, hl with | [_], _ => rfl, k19, PySem.W.mg_of X G a19⟩
  have F20 := fun_mk (st := sLIsF) l20 c20 k20
  have A20 : At K mg "_law_is_fraction" ["_law_thing_here"] f20 _ := ⟨F20.binds (ps := ["_law_thing_here"]) fun _ _ _ _ _ _ us hl => match us, hl with | [_], _ => rfl, k20, PySem.W.mg_of X G a20⟩
  have F21 := fun_mk (st := sFr) l21 c21 k21
  have A21 : At K mg "_law_fraction" ["_law_purse_here", "_law_bottom"] f21 _ := ⟨F21.binds (ps := ["_law_purse_here", "_law_bottom"]) fun _ _ _ _ _ _ us hl => match us, hl with | [_, _], _ => rfl, k21, PySem.W.mg_of X G a21⟩
  have F22 := fun_mk (st := sThing) l22 c22 k22
  have A22 : At K mg "_law_thing" ["_law_purse_here"] f22 _ := ⟨F22.binds (ps := ["_law_purse_here"]) fun _ _ _ _ _ _ us hl => match us, hl with | [_], _ => rfl, k22, PySem.W.mg_of X G a22⟩
  have F23 := fun_mk (st := sTold) l23 c23 k23
  have A23 : At K mg "_law_told" ["_law_purse_here"] f23 _ := ⟨F23.binds (ps := ["_law_purse_here"]) fun _ _ _ _ _ _ us hl => match us, hl with | [_], _ => rfl, k23, PySem.W.mg_of X G a23⟩
  have F24 := fun_mk (st := sThree) l24 c24 k24
  have A24 : At K mg "_law_three" ["_law_purse_here"] f24 _ := ⟨F24.binds (ps := ["_law_purse_here"]) fun _ _ _ _ _ _ us hl => match us, hl with | [_], _ => rfl, k24, PySem.W.mg_of X G a24⟩
  have F25 := fun_mk (st := sRight) l25 c25 k25
  have A25 : At K mg "_law_right" ["_law_purse_here"] f25 _ := ⟨F25.binds (ps := ["_law_purse_here"]) fun _ _ _ _ _ _ us hl => match us, hl with | [_], _ => rfl, k25, PySem.W.mg_of X G a25⟩
  have F26 := fun_mk (st := sLaw) l26 c26 k26
  have m_isinstance := PySem.W.mg_none_of X G z_isinstance
  have m_tuple := PySem.W.mg_none_of X G z_tuple
  have m_bool := PySem.W.mg_none_of X G z_bool
  have m_int := PySem.W.mg_none_of X G z_int
  have m_len := PySem.W.mg_none_of X G z_len
  have m_all := PySem.W.mg_none_of X G z_all
  have m_range := PySem.W.mg_none_of X G z_range
  have m_abs := PySem.W.mg_none_of X G z_abs
  have m_list := PySem.W.mg_none_of X G z_list
  have m_repr := PySem.W.mg_none_of X G z_repr
  have m_max := PySem.W.mg_none_of X G z_max
  have m_min := PySem.W.mg_none_of X G z_min
  have B : Blt mg := ⟨m_isinstance, m_tuple, m_bool, m_int, m_len, m_all, m_range, m_abs, m_list, m_repr, m_max, m_min⟩
  have TN : ErrT K mg "NoNumber" e0 := ⟨PySem.W.mg_of X G g0, xN, kN, bN, tN⟩
  refine ⟨PySem.W.fnOf "law" "law" (defArgs sLaw) (defBody sLaw) (defScope sLaw) .none kV26 dc26 pm26 an26 cd26 ct26, fun s v => .of_eq rfl, fun base _ _ => ?_⟩
  have G1 := ok_gcd (P := l.prog) (w := w) (mg := mg) (base := base) F1
  have G3 := ok_frac (P := l.prog) (w := w) (base := base) F3 TN G1 A1.b A1.k A1.m m_abs
  have G4 := ok_plus G3 A3.b A3.k A3.m F4
  have G5 := ok_minus G3 A3.b A3.k A3.m F5
  have G6 := ok_times G3 A3.b A3.k A3.m F6
  have G7 := ok_over G3 A3.b A3.k A3.m F7
  have G8 := ok_below (P := l.prog) (w := w) (mg := mg) (base := base) F8
  have G0 := ok_isW (P := l.prog) (w := w) (base := base) F0 B
  have G2 := ok_isF F2 B G0 A0 G1 A1
  have G9 := ok_cellV (P := l.prog) (w := w) (base := base) F9 m_len
  have G10 := ok_purse (P := l.prog) (w := w) (base := base) F10 m_abs
  have G11 := ok_take (P := l.prog) (w := w) (mg := mg) (base := base) F11
  have G12 := ok_low (P := l.prog) (w := w) (base := base) F12 m_abs
  have G13 := ok_great F13 G11 A11 m_range
  have G14 := ok_odd F14 G11 A11
  have G15 := put_all (P := l.prog) (w := w) (mg := mg) (base := base) F15 A15 2
  have G16 := ok_way F16 B G11 A11
  have G17 := ok_atW (P := l.prog) (w := w) (mg := mg) (base := base) F17
  have G18 := ok_bent F18 B G11 A11 G16 A16 G17 A17 G15 A15 G14 A14
  have G19 := ok_LIsW (P := l.prog) (w := w) (base := base) F19 B
  have G20 := ok_LIsF F20 B G19 A19 G12 A12
  have G21 := ok_fr F21 G13 A13 G12 A12 G11 A11 m_abs
  have G22 := ok_thing F22 G11 A11 G21 A21 G18 A18
  have G23 := ok_told F23 B G22 A22 G2 A2 G20 A20
  have G24 := ok_three F24 B G11 A11 G13 A13 G21 A21 G20 A20 G4 A4 G5 A5 G6 A6 G7 A7 G8 A8
  have G25 := ok_right F25 G23 A23 G24 A24
  exact ok_law F26 B G25 A25 G10 A10 G9 A9
theorem walk {l : PySem.W.OpenLaw} {q : Program} {loose : List Str} {XP : (Str → Option Value) → Heap → Prop} {YP : World → Heap → Prop} {d : DefRec} {K : Params → PySem.W.Frag} (hn : l.most = some 63) (hdf : d.params.defaults = [])
    (hY : ∀ (w : World) (h : Heap), YP w h → (K w.params).In h)
    (F : ∀ (w : World) (mg : Str → Option Value) (fa : Addr) (h : Heap), (K w.params).In h → h.Ns mainGlobals mg → mg d.name = some (.ref fa) →
      ∃ fd : FuncData, (∀ (s : Shared) (u : Value), BindsTo s fd ⟨[u], []⟩ [("_law_script", u)]) ∧ ∀ base : Heap, (K w.params).In base → base.Ns mainGlobals mg → FnG l.prog w (K w.params) mg base 7 fa fd ["_law_script"] (spLaw (K w.params))) :
    PySem.W.WalkO q loose XP YP l.row.toRowW d [] (fun f vs => PySem.call f vs) :=
  walk_ofG (n := 63) (k := 7) (x := "_law_script") (sp := fun w => spLaw (K w.params)) hn (by decide) hdf ⟨rfl, by decide, by decide⟩ hY F (fun _ _ a ns hl hS => ⟨a, ns, rfl, hS, hl, fun _ => rfl⟩)
end Vm


set_option Elab.async false
set_option linter.all false
set_option maxRecDepth 100000
open PySem PySem.W PyProof.Rows
set_option maxRecDepth 100000 in
set_option maxHeartbeats 0 in
theorem PySem.Challenge.cw_vatmatch_k02_what_fractions_are_holds : PySem.Challenge.rw_vatmatch_k02_what_fractions_are.Holds := by
  w_on; o_law; k_head; (case hw => w_witness2)
  k_fill
  refine Vm.walk (l := PySem.Challenge.rw_vatmatch_k02_what_fractions_are) rfl rfl (fun w h Y => PySem.W.kIn_of Y) ?F
  case F =>
    intro w mg fa h KX G hmg
    refine' Vm.all_mk KX G hmg ?vm_a0 ?vm_l0 ?vm_c0 ?vm_k0 ?vm_a1 ?vm_l1 ?vm_c1 ?vm_k1 ?vm_a2 ?vm_l2 ?vm_c2 ?vm_k2 ?vm_a3 ?vm_l3 ?vm_c3 ?vm_k3 ?vm_a4 ?vm_l4 ?vm_c4 ?vm_k4 ?vm_a5 ?vm_l5 ?vm_c5 ?vm_k5 ?vm_a6 ?vm_l6 ?vm_c6 ?vm_k6 ?vm_a7 ?vm_l7 ?vm_c7 ?vm_k7 ?vm_a8 ?vm_l8 ?vm_c8 ?vm_k8 ?vm_a9 ?vm_l9 ?vm_c9 ?vm_k9 ?vm_a10 ?vm_l10 ?vm_c10 ?vm_k10 ?vm_a11 ?vm_l11 ?vm_c11 ?vm_k11 ?vm_a12 ?vm_l12 ?vm_c12 ?vm_k12 ?vm_a13 ?vm_l13 ?vm_c13 ?vm_k13 ?vm_a14 ?vm_l14 ?vm_c14 ?vm_k14 ?vm_a15 ?vm_l15 ?vm_c15 ?vm_k15 ?vm_a16 ?vm_l16 ?vm_c16 ?vm_k16 ?vm_a17 ?vm_l17 ?vm_c17 ?vm_k17 ?vm_a18 ?vm_l18 ?vm_c18 ?vm_k18 ?vm_a19 ?vm_l19 ?vm_c19 ?vm_k19 ?vm_a20 ?vm_l20 ?vm_c20 ?vm_k20 ?vm_a21 ?vm_l21 ?vm_c21 ?vm_k21 ?vm_a22 ?vm_l22 ?vm_c22 ?vm_k22 ?vm_a23 ?vm_l23 ?vm_c23 ?vm_k23 ?vm_a24 ?vm_l24 ?vm_c24 ?vm_k24 ?vm_a25 ?vm_l25 ?vm_c25 ?vm_k25 ?vm_a26 ?vm_l26 ?vm_c26 ?vm_k26 ?vm_g0 ?vm_xN ?vm_kN ?vm_bN ?vm_tN ?vm_z_isinstance ?vm_z_tuple ?vm_z_bool ?vm_z_int ?vm_z_len ?vm_z_all ?vm_z_range ?vm_z_abs ?vm_z_list ?vm_z_repr ?vm_z_max ?vm_z_min
    (case vm_a0 => k_is)
    (case vm_l0 => k_is)
    (case vm_c0 => k_is)
    (case vm_k0 => k_is)
    (case vm_a1 => k_is)
    (case vm_l1 => k_is)
    (case vm_c1 => k_is)
    (case vm_k1 => k_is)
    (case vm_a2 => k_is)
    (case vm_l2 => k_is)
    (case vm_c2 => k_is)
    (case vm_k2 => k_is)
    (case vm_a3 => k_is)
    (case vm_l3 => k_is)
    (case vm_c3 => k_is)
    (case vm_k3 => k_is)
    (case vm_a4 => k_is)
    (case vm_l4 => k_is)
    (case vm_c4 => k_is)
    (case vm_k4 => k_is)
    (case vm_a5 => k_is)
    (case vm_l5 => k_is)
    (case vm_c5 => k_is)
    (case vm_k5 => k_is)
    (case vm_a6 => k_is)
    (case vm_l6 => k_is)
    (case vm_c6 => k_is)
    (case vm_k6 => k_is)
    (case vm_a7 => k_is)
    (case vm_l7 => k_is)
    (case vm_c7 => k_is)
    (case vm_k7 => k_is)
    (case vm_a8 => k_is)
    (case vm_l8 => k_is)
    (case vm_c8 => k_is)
    (case vm_k8 => k_is)
    (case vm_a9 => k_is)
    (case vm_l9 => k_is)
    (case vm_c9 => k_is)
    (case vm_k9 => k_is)
    (case vm_a10 => k_is)
    (case vm_l10 => k_is)
    (case vm_c10 => k_is)
    (case vm_k10 => k_is)
    (case vm_a11 => k_is)
    (case vm_l11 => k_is)
    (case vm_c11 => k_is)
    (case vm_k11 => k_is)
    (case vm_a12 => k_is)
    (case vm_l12 => k_is)
    (case vm_c12 => k_is)
    (case vm_k12 => k_is)
    (case vm_a13 => k_is)
    (case vm_l13 => k_is)
    (case vm_c13 => k_is)
    (case vm_k13 => k_is)
    (case vm_a14 => k_is)
    (case vm_l14 => k_is)
    (case vm_c14 => k_is)
    (case vm_k14 => k_is)
    (case vm_a15 => k_is)
    (case vm_l15 => k_is)
    (case vm_c15 => k_is)
    (case vm_k15 => k_is)
    (case vm_a16 => k_is)
    (case vm_l16 => k_is)
    (case vm_c16 => k_is)
    (case vm_k16 => k_is)
    (case vm_a17 => k_is)
    (case vm_l17 => k_is)
    (case vm_c17 => k_is)
    (case vm_k17 => k_is)
    (case vm_a18 => k_is)
    (case vm_l18 => k_is)
    (case vm_c18 => k_is)
    (case vm_k18 => k_is)
    (case vm_a19 => k_is)
    (case vm_l19 => k_is)
    (case vm_c19 => k_is)
    (case vm_k19 => k_is)
    (case vm_a20 => k_is)
    (case vm_l20 => k_is)
    (case vm_c20 => k_is)
    (case vm_k20 => k_is)
    (case vm_a21 => k_is)
    (case vm_l21 => k_is)
    (case vm_c21 => k_is)
    (case vm_k21 => k_is)
    (case vm_a22 => k_is)
    (case vm_l22 => k_is)
    (case vm_c22 => k_is)
    (case vm_k22 => k_is)
    (case vm_a23 => k_is)
    (case vm_l23 => k_is)
    (case vm_c23 => k_is)
    (case vm_k23 => k_is)
    (case vm_a24 => k_is)
    (case vm_l24 => k_is)
    (case vm_c24 => k_is)
    (case vm_k24 => k_is)
    (case vm_a25 => k_is)
    (case vm_l25 => k_is)
    (case vm_c25 => k_is)
    (case vm_k25 => k_is)
    (case vm_a26 => k_is)
    (case vm_l26 => k_is)
    (case vm_c26 => k_is)
    (case vm_k26 => k_is)
    (case vm_g0 => k_is)
    (case vm_xN => first | k_exc | k_is)
    (case vm_kN => k_is)
    (case vm_bN => k_is)
    (case vm_tN => k_is)
    (case vm_z_isinstance => k_is)
    (case vm_z_tuple => k_is)
    (case vm_z_bool => k_is)
    (case vm_z_int => k_is)
    (case vm_z_len => k_is)
    (case vm_z_all => k_is)
    (case vm_z_range => k_is)
    (case vm_z_abs => k_is)
    (case vm_z_list => k_is)
    (case vm_z_repr => k_is)
    (case vm_z_max => k_is)
    (case vm_z_min => k_is)
