import PyProof.Rows.All
import Wide.All
import OpenK.AllK
import Wide.FinOn
import PyProof.EqAt
import PyProof.EqKinds
import PyProof.TupleCall
import HandS.ForExc
import HandS.ForMost
import HandS.Wide
import HandS.ExcCtx
import HandS.HotCalls
import HandS.ExcIs
import HandS.IsInst
import HandS.TryOnly
import PySem.Challenge.RW_vatmatch_k01_fractions_reckoned
namespace Vm
/-! ### the greatest common divisor, lowest terms -/
def gI (a b : Int) : Int := ((Nat.gcd a.natAbs b.natAbs : Nat) : Int)
theorem gI_pos {a b : Int} (h : b ≠ 0) : 0 < gI a b := by
  have : 0 < Nat.gcd a.natAbs b.natAbs := Nat.gcd_pos_of_pos_right _ (Int.natAbs_pos.mpr h)
  unfold gI; omega
theorem gI_zero (a : Int) : gI a 0 = (a.natAbs : Int) := by
  unfold gI; simp
theorem gI_step {a b : Int} (ha : 0 ≤ a) (hb : 0 < b) : gI b (a % b) = gI a b := by
  unfold gI
  have e : (a % b).natAbs = a.natAbs % b.natAbs := by
    have h1 : ((a % b).natAbs : Int) = ((a.natAbs % b.natAbs : Nat) : Int) := by
      rw [Int.natCast_emod, Int.natAbs_of_nonneg ha, Int.natAbs_of_nonneg (Int.le_of_lt hb), Int.natAbs_of_nonneg (Int.emod_nonneg a (by omega))]
    exact Int.ofNat.inj h1
  rw [e, Nat.gcd_comm, ← Nat.gcd_rec, Nat.gcd_comm]
theorem gI_abs (a b : Int) : gI (if a < 0 then -a else a) (if b < 0 then -b else b) = gI a b := by
  unfold gI
  have e : ∀ x : Int, (if x < 0 then -x else x).natAbs = x.natAbs := fun x => by split <;> omega
  rw [e, e]
theorem gI_absL (a b : Int) : gI (if a < 0 then -a else a) b = gI a b := by
  unfold gI
  have e : ∀ x : Int, (if x < 0 then -x else x).natAbs = x.natAbs := fun x => by split <;> omega
  rw [e]
theorem gI_neg (a b : Int) : gI (-a) (-b) = gI a b := by
  unfold gI
  rw [Int.natAbs_neg, Int.natAbs_neg]
theorem gI_le {a b : Int} (h : b ≠ 0) : (gI a b).natAbs ≤ b.natAbs := by
  have := Nat.le_of_dvd (Int.natAbs_pos.mpr h) (Nat.gcd_dvd_right a.natAbs b.natAbs)
  unfold gI; omega
/-- in lowest terms -/
def lowM (t b : Int) : Int × Int := (t / gI t b, b / gI t b)
def frM (x y : Int) : Int × Int := if y < 0 then lowM (-x) (-y) else lowM x y
/-- the divisor that bears the bottom's sign -/
theorem fdiv_sign {x g : Int} (hg : 0 < g) : x.fdiv (-g) = (-x) / g := by
  have h := Int.neg_fdiv_neg (-x) g
  rw [Int.neg_neg] at h
  rw [h, Int.fdiv_eq_ediv_of_nonneg _ (by omega)]
theorem natAbs_div_le (a : Int) {g : Int} (h : 0 < g) : (a / g).natAbs ≤ a.natAbs := by
  have h1 : a / g * g + a % g = a := Int.ediv_mul_add_emod a g
  have h2 := Int.emod_nonneg a (show g ≠ 0 by omega)
  have h3 := Int.emod_lt_of_pos a h
  rcases Int.le_total 0 a with p | p
  · have q : 0 ≤ a / g := Int.ediv_nonneg p (by omega)
    have : a / g ≤ a / g * g := by
      have := Int.mul_le_mul_of_nonneg_left (show (1:Int) ≤ g by omega) q
      omega
    omega
  · have q : a / g ≤ 0 := by
      rcases Int.lt_or_le 0 (a / g) with z | z
      · have : 1 * g ≤ a / g * g := Int.mul_le_mul_of_nonneg_right (by omega) (by omega)
        omega
      · exact z
    have r : a ≤ a / g := by
      rw [Int.le_ediv_iff_mul_le h]
      have : a * g ≤ a * 1 := Int.mul_le_mul_of_nonpos_left p (by omega)
      omega
    omega
theorem lowM_bot {t b : Int} (h : 0 < b) : 0 < (lowM t b).2 := by
  have hg := gI_pos (a := t) (b := b) (by omega)
  obtain ⟨c, hc⟩ : ∃ c : Int, b = gI t b * c := by
    obtain ⟨c, hc⟩ := Nat.gcd_dvd_right t.natAbs b.natAbs
    refine ⟨(c : Int), ?_⟩
    unfold gI
    rw [← Int.natCast_mul, ← hc]
    omega
  show 0 < b / gI t b
  have e : b / gI t b = c := by
    conv => lhs; lhs; rw [hc]
    exact Int.mul_ediv_cancel_left _ (by omega)
  rw [e]
  rcases Int.lt_or_le 0 c with z | z
  · exact z
  · exfalso
    have := Int.mul_nonpos_of_nonneg_of_nonpos (show 0 ≤ gI t b by omega) z
    omega
theorem lowM_lt {t b : Int} {n : Nat} (h : b ≠ 0) (ht : t.natAbs < n) (hb : b.natAbs < n) : (lowM t b).1.natAbs < n ∧ (lowM t b).2.natAbs < n := by
  have hg := gI_pos (a := t) h
  exact ⟨Nat.lt_of_le_of_lt (natAbs_div_le t hg) ht, Nat.lt_of_le_of_lt (natAbs_div_le b hg) hb⟩
end Vm

set_option Elab.async false
set_option linter.all false
set_option maxRecDepth 100000
set_option maxHeartbeats 4000000
namespace Vm
open PySem PySem.Spec PyProof.Rows L2
def top (i : Nat) : Stmt := PySem.Challenge.pw_vatmatch_k01_fractions_reckoned.main.body.getD i (.Pass ⟨0, 0, 0, 0⟩)
/-! ### rules of my own -/
section
variable {X : Cx}
/-- // by a divisor of either sign -/
theorem op_fdivG : OpR X (binaryOp .FloorDiv) (rI (fun _ j => j ≠ 0 ∧ j.natAbs.log2 < 9000) fun i j => .int (i.fdiv j)) :=
  opI fun _ _ _ _ _ _ _ hc q => floordiv_int hc.1 q (.inl (PyProof.noPylong_of_log2 hc.2))
end
/-! ### heaps -/
theorem same_new {H : Hp} {p : Addr} (h : H p = none) (o : HO) : Same H (upd H p o) := fun b u q => by
  rw [upd_ne (ne_of_none q h)]; exact q
/-- a purse -/
def Purse (H : Hp) (a : Addr) : Prop := ∃ s d c : Int, H a = some (.lst [.int s, .int d, .int c])
/-- all that was tracked is as it was, the purse at a aside, which still is one -/
def Kept (a : Addr) (H H' : Hp) : Prop := Purse H' a ∧ ∀ b o, b ≠ a → H b = some o → H' b = some o
theorem Kept.trans {a : Addr} {H H1 H2 : Hp} (x : Kept a H H1) (y : Kept a H1 H2) : Kept a H H2 := ⟨y.1, fun b o hb h => y.2 b o hb (x.2 b o hb h)⟩
theorem Kept.same {a : Addr} {H H1 H2 : Hp} (x : Kept a H H1) (y : Same H1 H2) : Kept a H H2 :=
  ⟨let ⟨s, d, c, h⟩ := x.1; ⟨s, d, c, y _ _ h⟩, fun b o hb h => y _ _ (x.2 b o hb h)⟩
theorem Kept.of_same {a : Addr} {H H1 : Hp} (p : Purse H a) (y : Same H H1) : Kept a H H1 :=
  ⟨let ⟨s, d, c, h⟩ := p; ⟨s, d, c, y _ _ h⟩, fun b o _ h => y _ _ h⟩
section
variable {P : Program} {w : World} {K : PySem.W.Frag} {mg : Str → Option Value} {base : Heap} {f : Addr} {fd : FuncData}
/-! ### common_divisor -/
abbrev sGcd : Stmt := top 23
theorem scGcd : FnScope ["a", "b"] ["a", "b"] (defScope sGcd) := ⟨rfl, rfl, rfl, by decide +kernel, rfl, by decide +kernel, by decide +kernel⟩
def spGcd : Sp := fun vs H Q _ => ∃ a b : Int, vs = [.int a, .int b] ∧ 0 ≤ a ∧ 0 ≤ b ∧ Q (.int (gI a b)) H
def mu2 (i : Nat) (σ : L2.St) (_ : Hp) : Nat := match σ[i]? with
  | some (some (.int b)) => b.toNat
  | _ => 0
theorem ok_gcd (F : Fun K "common_divisor" "common_divisor" sGcd f fd) : FnOk P w K mg base CX0 1 f fd ["a", "b"] spGcd := by
  refine F.ok scGcd (fun vs H Q E h => ?_) (fun cdv A outer s H vs Q E hr h => ?_)
  · obtain ⟨a, b, rfl, _⟩ := h
    rfl
  obtain ⟨a, b, rfl, ha, hb, q⟩ := h
  refine ⟨_, pss_cons (ps_while PassesOwn.never (pt_cmpR op_gt (pv 1) pe_int (nomark _))
      (pss_one (ps_par (i := 0) (j := 1) (by rfl) scGcd.nd rfl rfl (by decide) rfl rfl (pa_cons (pv 1) (pa_cons (pe_op op_mod (pv 0) (pv 1)) pa_nil)) (by rfl))))
    (pss_one (ps_ret (pv 0))), ?_⟩
  refine while_by (fun σ H' => ∃ x y : Int, σ = [some (.int x), some (.int y)] ∧ 0 ≤ x ∧ 0 ≤ y ∧ gI x y = gI a b ∧ H' = H) (mu2 1) ⟨a, b, rfl, ha, hb, rfl, rfl⟩ ?_ ?_
  · rintro σ H' ⟨x, y, rfl, hx, hy, e, rfl⟩
    refine ⟨_, rfl, _, _, rfl, rfl, _, rfl, ?_⟩
    refine ite2 (fun c => ?_) (fun c => ?_)
    · have c' : y > 0 := of_decide_eq_true c
      refine ⟨_, rfl, _, rfl, _, rfl, _, _, rfl, rfl, c', ?_⟩
      refine ⟨_, _, rfl, ⟨y, x % y, rfl, hy, Int.emod_nonneg x (by omega), (gI_step hx c').trans e, rfl⟩, ?_⟩
      show (x % y).toNat < y.toNat
      have := Int.emod_lt_of_pos x c'
      omega
    · have c' : ¬ y > 0 := of_decide_eq_false (Bool.eq_false_iff.mpr c)
      have y0 : y = 0 := by omega
      subst y0
      refine ⟨_, rfl, ?_⟩
      have e2 : x = gI a b := by rw [← e, gI_zero]; omega
      show Q (.int x) H'
      rw [e2]; exact q
  · intro σ H Q Q' h t
    obtain ⟨v, e, i, j, e1, e2, k, e3, q⟩ := t
    exact ⟨v, e, i, j, e1, e2, k, e3, h _ _ q⟩
end
end Vm

set_option Elab.async false
set_option linter.all false
set_option maxRecDepth 100000
set_option maxHeartbeats 4000000
namespace Vm
open PySem PySem.Spec PyProof.Rows L2
/-! ### errors that are let out -/
theorem passN {X : Cx} : Passes (L2N.CX X.prog X.w) X E0 := fun _ _ _ _ _ _ _ h => by
  obtain ⟨_, _, _, _, _, _, _, _, _, _, _, _, z⟩ := h
  exact z.elim
theorem takesN {X : Cx} : L2N.Takes X (fun _ _ _ _ => False) := fun _ _ x => by
  obtain ⟨_, _, _, _, _, _, _, _, _, _, _, _, _, _, _, _, z⟩ := x
  exact z.elim
/-- what is known of the error class at C, called x -/
structure ErrT (K : PySem.W.Frag) (mg : Str → Option Value) (x : Str) (C : Addr) : Prop where
  g : mg x = some (.ref C)
  x : PySem.W.excIn K C [.type "ValueError", .type "Exception", .type "BaseException", .type "object"] "ValueError.__new__" = true
  k : PySem.W.keepIn K (.ref C) = true
  b : PySem.W.subIn K (.ref C) (.type "BaseException") = some true
  t : PySem.W.typeIn K (.ref C) = some (.type "type")
section
variable {P : Program} {w : World} {K : PySem.W.Frag} {mg : Str → Option Value} {base : Heap} {f fG CN : Addr} {fd fdG : FuncData}
theorem okN {x qual : Str} {st : Stmt} {N ps : List Str} {k : Nat} {sp : Sp} (F : Fun K x qual st f fd) (S : FnScope N ps (defScope st)) (len : ∀ vs H Q E, sp vs H Q E → vs.length = ps.length)
    (body : ∀ (cdv : Value) (A : Around) (outer : List Env) (s : Shared) (H : Hp) (vs : List V) (Q : VK) (E : XK), Room k (A.deeper (envOfC qual (defScope st) s.heap.objs.size f cdv)) → sp vs H Q E →
      ∃ t, PSs (cxOf (L2N.CX P w) P w K mg base N qual (defScope st) f cdv A outer s H E) (defBody st) t ∧ t { nx := fun _ H' => Q .non H', rt := Q } (start N vs) H) :
    FnOk P w K mg base (L2N.CX P w) (k + 1) f fd ps sp := by
  obtain ⟨_, _, _, _, _, _, cdv, _, _, rfl, lk, hcd⟩ := F.ex
  refine fn_of lk hcd S len ?_
  intro A outer s H vs Q E hr hsp
  exact body cdv A outer s H vs Q E hr hsp
/-- of at most n bits -/
def Bits (n : Nat) (x : Int) : Prop := x.natAbs < 2 ^ n
theorem Bits.mul {a b : Nat} {x y : Int} (h1 : Bits a x) (h2 : Bits b y) : Bits (a + b) (x * y) := wide_lt h1 h2
theorem Bits.mono {a b : Nat} {x : Int} (h : Bits a x) (hl : a ≤ b) : Bits b x := Nat.lt_of_lt_of_le h (Nat.pow_le_pow_right (by decide) hl)
theorem Bits.add {a : Nat} {x y : Int} (h1 : Bits a x) (h2 : Bits a y) : Bits (a + 1) (x + y) := by
  unfold Bits at *
  rw [Nat.pow_succ]
  omega
theorem Bits.neg {a : Nat} {x : Int} (h : Bits a x) : Bits a (-x) := by
  unfold Bits at *
  rw [Int.natAbs_neg]
  exact h
theorem Bits.sub {a : Nat} {x y : Int} (h1 : Bits a x) (h2 : Bits a y) : Bits (a + 1) (x - y) := by
  rw [Int.sub_eq_add_neg]
  exact h1.add h2.neg
theorem Bits.le {a : Nat} {x y : Int} (h : Bits a y) (l : x.natAbs ≤ y.natAbs) : Bits a x := Nat.lt_of_le_of_lt l h
theorem Bits.okMul {a b : Nat} {x y : Int} (h1 : Bits a x) (h2 : Bits b y) (h0 : 0 < a) (h3 : 0 < b) (h : a + b ≤ 1000000) : CMulW x y := wide_mul h1 h2 h0 h3 h
/-! ### fraction -/
abbrev sFrac : Stmt := top 24
theorem scFrac : FnScope ["top", "bottom", "divisor"] ["top", "bottom"] (defScope sFrac) := ⟨rfl, rfl, rfl, by decide +kernel, rfl, by decide +kernel, by decide +kernel⟩
def tupF (z : Int × Int) : HO := .tup [.int z.1, .int z.2]
def spFrac (CN : Addr) : Sp := fun vs H Q E => ∃ x y : Int, vs = [.int x, .int y] ∧ Bits 4000 x ∧ Bits 4000 y ∧ (y = 0 → E (.ref CN) none H) ∧
  (y ≠ 0 → ∀ p H', Same H H' → H p = none → H' p = some (tupF (frM x y)) → Q (.ref p) H')
theorem abs_nn (x : Int) : 0 ≤ (if x < 0 then -x else x) := by split <;> omega
theorem log2_of {g : Int} {n : Nat} (h0 : 0 < n) (h : Bits n g) (h9 : n ≤ 9000) : g.natAbs.log2 < 9000 := Nat.lt_of_lt_of_le (PySem.Flt.log2_lt_of h0 h) h9
theorem ok_frac (F : Fun K "fraction" "fraction" sFrac f fd) (TN : ErrT K mg "NoNumber" CN) (G : FnOk P w K mg base CX0 1 fG fdG ["a", "b"] spGcd) (bG : Binds K fdG ["a", "b"] []) (kG : PySem.W.keepIn K (.ref fG) = true) (mG : mg "common_divisor" = some (.ref fG)) (mA : mg "abs" = none) :
    FnOk P w K mg base (L2N.CX P w) 2 f fd ["top", "bottom"] (spFrac CN) := by
  refine okN F scFrac (fun vs H Q E h => ?_) (fun cdv A outer s H vs Q E hr h => ?_)
  · obtain ⟨x, y, rfl, _⟩ := h
    rfl
  obtain ⟨x, y, rfl, hx, hy, hE, q⟩ := h
  refine ⟨_, pss_cons (ps_if (pt_cmpR op_eq (pv 1) pe_int (nomark _)) (pss_one (L2N.ps_raise rfl (L2N.takes_of rfl rfl rfl rfl) (L2N.pmk_own PySem.F.excBase_ValueError TN.x TN.g TN.k (raises_own TN.b TN.t) rfl))) pss_nil)
    (PSs.nox (pss_cons (ps_set (i := 2) scFrac.nd rfl (.inl rfl) (pe_call G hr rfl mG kG bG .nil pass0 (pa_cons (pe_callB call_abs rfl mA (by decide +kernel) (pa_cons (pv 0) pa_nil)) (pa_cons (pe_callB call_abs rfl mA (by decide +kernel) (pa_cons (pv 1) pa_nil)) pa_nil))))
    (pss_cons (ps_if (pt_cmpR op_lt (pv 1) pe_int (nomark _)) (pss_one (ps_set (i := 2) scFrac.nd rfl (.inl rfl) (pe_un un_neg (pv 2)))) pss_nil)
    (pss_one (ps_ret (pe_tup (pa_cons (pe_op op_fdivG (pv 0) (pv 2)) (pa_cons (pe_op op_fdivG (pv 1) (pv 2)) pa_nil)))))))), ?_⟩
  refine ⟨_, rfl, rfl, _, rfl, ?_⟩
  refine ite2 (fun c => ?_) (fun c => ?_)
  · have c' : V.int y = V.int 0 := of_decide_eq_true c
    cases c'
    exact hE rfl
  have y0 : y ≠ 0 := fun e => c (by subst e; exact decide_eq_true rfl)
  have hg : 0 < gI x y := gI_pos y0
  have hg2 : Bits 4000 (gI x y) := hy.le (gI_le y0)
  refine ⟨_, rfl, _, rfl, _, rfl, _, rfl, _, _, rfl, abs_nn x, abs_nn y, ?_⟩
  rw [gI_abs]
  refine ⟨_, rfl, _, _, rfl, rfl, _, rfl, ?_⟩
  refine ite2 (fun c => ?_) (fun c => ?_)
  · have c' : y < 0 := of_decide_eq_true c
    refine ⟨_, rfl, _, rfl, ?_⟩
    have d0 : (-gI x y) ≠ 0 := by omega
    have d1 : (-gI x y).natAbs.log2 < 9000 := by rw [Int.natAbs_neg]; exact log2_of (by decide) hg2 (by decide)
    refine ⟨_, rfl, _, rfl, _, _, rfl, rfl, ⟨d0, d1⟩, _, rfl, _, rfl, _, _, rfl, rfl, ⟨d0, d1⟩, (by show 2 ≤ sizeLine; decide), fun p hp => ?_⟩
    refine q y0 p _ (same_new hp _) hp ?_
    rw [upd_same]
    show some (HO.tup [.int (x.fdiv (-gI x y)), .int (y.fdiv (-gI x y))]) = _
    rw [fdiv_sign hg, fdiv_sign hg]
    unfold frM lowM tupF
    rw [if_pos c', gI_neg]
  · have c' : ¬ y < 0 := of_decide_eq_false (Bool.eq_false_iff.mpr c)
    have d0 : (gI x y) ≠ 0 := by omega
    have d1 : (gI x y).natAbs.log2 < 9000 := log2_of (by decide) hg2 (by decide)
    refine ⟨_, rfl, _, rfl, _, _, rfl, rfl, ⟨d0, d1⟩, _, rfl, _, rfl, _, _, rfl, rfl, ⟨d0, d1⟩, (by show 2 ≤ sizeLine; decide), fun p hp => ?_⟩
    refine q y0 p _ (same_new hp _) hp ?_
    rw [upd_same]
    show some (HO.tup [.int (x.fdiv (gI x y)), .int (y.fdiv (gI x y))]) = _
    rw [Int.fdiv_eq_ediv_of_nonneg _ (Int.le_of_lt hg), Int.fdiv_eq_ediv_of_nonneg _ (Int.le_of_lt hg)]
    unfold frM lowM tupF
    rw [if_neg c']
end
end Vm

set_option Elab.async false
set_option linter.all false
set_option maxRecDepth 100000
set_option maxHeartbeats 4000000
namespace Vm
open PySem PySem.Spec PyProof.Rows L2
/-- what is no list stays -/
def Nl (H H' : Hp) : Prop := ∀ b o, (∀ xs, o ≠ HO.lst xs) → H b = some o → H' b = some o
theorem Nl.of_same {H H' : Hp} (h : Same H H') : Nl H H' := fun b o _ e => h b o e
theorem Nl.of_kept {a : Addr} {H H' : Hp} (p : Purse H a) (h : Kept a H H') : Nl H H' := fun b o n e => by
  obtain ⟨s, d, c, q⟩ := p
  refine h.2 b o (fun z => ?_) e
  subst z
  rw [q] at e
  exact n _ (Option.some.inj e).symm
theorem Nl.trans {H H1 H2 : Hp} (a : Nl H H1) (b : Nl H1 H2) : Nl H H2 := fun c o n h => b c o n (a c o n h)
theorem Nl.sqT {K : PySem.W.Frag} {H H' : Hp} {a : Addr} {xs : List V} (e : Nl H H') (h : SqT K H a xs) : SqT K H' a xs := by
  rcases h with (h | ⟨o, h⟩) | h
  · exact .inl (.inl (e _ _ (fun _ z => nomatch z) h))
  · exact .inl (.inr ⟨o, e _ _ (fun _ z => nomatch z) h⟩)
  · exact .inr h
/-- a fraction at p -/
def Fr (K : PySem.W.Frag) (H : Hp) (p : Addr) (z : Int × Int) : Prop := SqT K H p [.int z.1, .int z.2]
theorem Fr.of {K : PySem.W.Frag} {H : Hp} {p : Addr} {z : Int × Int} (h : H p = some (tupF z)) : Fr K H p z := .inl (.inl h)
/-- of n bits, bottom above 0 -/
structure Sized (n : Nat) (z : Int × Int) : Prop where
  t : Bits n z.1
  b : Bits n z.2
  p : 0 < z.2
section
variable {P : Program} {w : World} {K : PySem.W.Frag} {mg : Str → Option Value} {base : Heap} {f fF CN : Addr} {fd fdF : FuncData}
def plusM (a b : Int × Int) : Int × Int := frM (a.1 * b.2 + b.1 * a.2) (a.2 * b.2)
def minusM (a b : Int × Int) : Int × Int := frM (a.1 * b.2 - b.1 * a.2) (a.2 * b.2)
def timesM (a b : Int × Int) : Int × Int := frM (a.1 * b.1) (a.2 * b.2)
def overM (a b : Int × Int) : Int × Int := frM (a.1 * b.2) (a.2 * b.1)
def spBin (K : PySem.W.Frag) (m : Int × Int → Int × Int → Int × Int) : Sp := fun vs H Q _ => ∃ (p r : Addr) (a b : Int × Int), vs = [.ref p, .ref r] ∧ Fr K H p a ∧ Fr K H r b ∧ Sized 1900 a ∧ Sized 1900 b ∧
  ∀ t H', Same H H' → H t = none → H' t = some (tupF (m a b)) → Q (.ref t) H'
def spOver (K : PySem.W.Frag) (CN : Addr) : Sp := fun vs H Q E => ∃ (p r : Addr) (a b : Int × Int), vs = [.ref p, .ref r] ∧ Fr K H p a ∧ Fr K H r b ∧ Sized 1900 a ∧ Sized 1900 b ∧ (b.1 = 0 → E (.ref CN) none H) ∧
  (b.1 ≠ 0 → ∀ t H', Same H H' → H t = none → H' t = some (tupF (overM a b)) → Q (.ref t) H')
def spBelow (K : PySem.W.Frag) : Sp := fun vs H Q _ => ∃ (p r : Addr) (a b : Int × Int), vs = [.ref p, .ref r] ∧ Fr K H p a ∧ Fr K H r b ∧ Sized 1900 a ∧ Sized 1900 b ∧
  Q (.bl (decide (a.1 * b.2 < b.1 * a.2))) H
abbrev sPlus : Stmt := top 25
abbrev sMinus : Stmt := top 26
abbrev sTimes : Stmt := top 27
abbrev sOver : Stmt := top 28
abbrev sBelow : Stmt := top 29
theorem scPlus : FnScope ["a", "b"] ["a", "b"] (defScope sPlus) := ⟨rfl, rfl, rfl, by decide +kernel, rfl, by decide +kernel, by decide +kernel⟩
theorem scMinus : FnScope ["a", "b"] ["a", "b"] (defScope sMinus) := ⟨rfl, rfl, rfl, by decide +kernel, rfl, by decide +kernel, by decide +kernel⟩
theorem scTimes : FnScope ["a", "b"] ["a", "b"] (defScope sTimes) := ⟨rfl, rfl, rfl, by decide +kernel, rfl, by decide +kernel, by decide +kernel⟩
theorem scOver : FnScope ["a", "b"] ["a", "b"] (defScope sOver) := ⟨rfl, rfl, rfl, by decide +kernel, rfl, by decide +kernel, by decide +kernel⟩
theorem scBelow : FnScope ["a", "b"] ["a", "b"] (defScope sBelow) := ⟨rfl, rfl, rfl, by decide +kernel, rfl, by decide +kernel, by decide +kernel⟩
theorem mulOk {x y : Int} (h1 : Bits 1900 x) (h2 : Bits 1900 y) : CMulW x y := h1.okMul h2 (by decide) (by decide) (by decide)
theorem bot_ne {a b : Int × Int} (h1 : Sized 1900 a) (h2 : Sized 1900 b) : a.2 * b.2 ≠ 0 := by
  have := Int.mul_pos h1.p h2.p
  omega
variable (G : FnOk P w K mg base (L2N.CX P w) 2 fF fdF ["top", "bottom"] (spFrac CN)) (bG : Binds K fdF ["top", "bottom"] []) (kG : PySem.W.keepIn K (.ref fF) = true) (mG : mg "fraction" = some (.ref fF))
include G bG kG mG
theorem ok_plus (F : Fun K "plus" "plus" sPlus f fd) : FnOk P w K mg base CX0 3 f fd ["a", "b"] (spBin K plusM) := by
  refine F.ok scPlus (fun vs H Q E h => ?_) (fun cdv A outer s H vs Q E hr h => ?_)
  · obtain ⟨p, r, a, b, rfl, _⟩ := h
    rfl
  obtain ⟨p, r, a, b, rfl, hp, hq, sa, sb, q⟩ := h
  refine ⟨_, pss_one (ps_ret (pe_call G hr rfl mG kG bG .nil passN (pa_cons (pe_op op_add
      (pe_op op_mulW (pe_ix ix_tup (pv 0) pe_int (fun _ _ => rfl)) (pe_ix ix_tup (pv 1) pe_int (fun _ _ => rfl)))
      (pe_op op_mulW (pe_ix ix_tup (pv 1) pe_int (fun _ _ => rfl)) (pe_ix ix_tup (pv 0) pe_int (fun _ _ => rfl))))
      (pa_cons (pe_op op_mulW (pe_ix ix_tup (pv 0) pe_int (fun _ _ => rfl)) (pe_ix ix_tup (pv 1) pe_int (fun _ _ => rfl))) pa_nil)))), ?_⟩
  refine ⟨_, rfl, p, _, _, _, rfl, rfl, hp, rfl, _, rfl, r, _, _, _, rfl, rfl, hq, rfl, _, _, rfl, rfl, mulOk sa.t sb.b, ?_⟩
  refine ⟨_, rfl, r, _, _, _, rfl, rfl, hq, rfl, _, rfl, p, _, _, _, rfl, rfl, hp, rfl, _, _, rfl, rfl, mulOk sb.t sa.b, ?_⟩
  refine ⟨_, _, rfl, rfl, ?_⟩
  refine ⟨_, rfl, p, _, _, _, rfl, rfl, hp, rfl, _, rfl, r, _, _, _, rfl, rfl, hq, rfl, _, _, rfl, rfl, mulOk sa.b sb.b, ?_⟩
  refine ⟨_, _, rfl, (((sa.t.mul sb.b).add (sb.t.mul sa.b)).mono (by decide)), (sa.b.mul sb.b).mono (by decide), fun z => (bot_ne sa sb z).elim, fun _ t H' s1 n1 e1 => ?_⟩
  exact q t H' s1 n1 e1
theorem ok_minus (F : Fun K "minus" "minus" sMinus f fd) : FnOk P w K mg base CX0 3 f fd ["a", "b"] (spBin K minusM) := by
  refine F.ok scMinus (fun vs H Q E h => ?_) (fun cdv A outer s H vs Q E hr h => ?_)
  · obtain ⟨p, r, a, b, rfl, _⟩ := h
    rfl
  obtain ⟨p, r, a, b, rfl, hp, hq, sa, sb, q⟩ := h
  refine ⟨_, pss_one (ps_ret (pe_call G hr rfl mG kG bG .nil passN (pa_cons (pe_op op_sub
      (pe_op op_mulW (pe_ix ix_tup (pv 0) pe_int (fun _ _ => rfl)) (pe_ix ix_tup (pv 1) pe_int (fun _ _ => rfl)))
      (pe_op op_mulW (pe_ix ix_tup (pv 1) pe_int (fun _ _ => rfl)) (pe_ix ix_tup (pv 0) pe_int (fun _ _ => rfl))))
      (pa_cons (pe_op op_mulW (pe_ix ix_tup (pv 0) pe_int (fun _ _ => rfl)) (pe_ix ix_tup (pv 1) pe_int (fun _ _ => rfl))) pa_nil)))), ?_⟩
  refine ⟨_, rfl, p, _, _, _, rfl, rfl, hp, rfl, _, rfl, r, _, _, _, rfl, rfl, hq, rfl, _, _, rfl, rfl, mulOk sa.t sb.b, ?_⟩
  refine ⟨_, rfl, r, _, _, _, rfl, rfl, hq, rfl, _, rfl, p, _, _, _, rfl, rfl, hp, rfl, _, _, rfl, rfl, mulOk sb.t sa.b, ?_⟩
  refine ⟨_, _, rfl, rfl, ?_⟩
  refine ⟨_, rfl, p, _, _, _, rfl, rfl, hp, rfl, _, rfl, r, _, _, _, rfl, rfl, hq, rfl, _, _, rfl, rfl, mulOk sa.b sb.b, ?_⟩
  refine ⟨_, _, rfl, (((sa.t.mul sb.b).sub (sb.t.mul sa.b)).mono (by decide)), (sa.b.mul sb.b).mono (by decide), fun z => (bot_ne sa sb z).elim, fun _ t H' s1 n1 e1 => ?_⟩
  exact q t H' s1 n1 e1
theorem ok_times (F : Fun K "times" "times" sTimes f fd) : FnOk P w K mg base CX0 3 f fd ["a", "b"] (spBin K timesM) := by
  refine F.ok scTimes (fun vs H Q E h => ?_) (fun cdv A outer s H vs Q E hr h => ?_)
  · obtain ⟨p, r, a, b, rfl, _⟩ := h
    rfl
  obtain ⟨p, r, a, b, rfl, hp, hq, sa, sb, q⟩ := h
  refine ⟨_, pss_one (ps_ret (pe_call G hr rfl mG kG bG .nil passN (pa_cons
      (pe_op op_mulW (pe_ix ix_tup (pv 0) pe_int (fun _ _ => rfl)) (pe_ix ix_tup (pv 1) pe_int (fun _ _ => rfl)))
      (pa_cons (pe_op op_mulW (pe_ix ix_tup (pv 0) pe_int (fun _ _ => rfl)) (pe_ix ix_tup (pv 1) pe_int (fun _ _ => rfl))) pa_nil)))), ?_⟩
  refine ⟨_, rfl, p, _, _, _, rfl, rfl, hp, rfl, _, rfl, r, _, _, _, rfl, rfl, hq, rfl, _, _, rfl, rfl, mulOk sa.t sb.t, ?_⟩
  refine ⟨_, rfl, p, _, _, _, rfl, rfl, hp, rfl, _, rfl, r, _, _, _, rfl, rfl, hq, rfl, _, _, rfl, rfl, mulOk sa.b sb.b, ?_⟩
  refine ⟨_, _, rfl, (sa.t.mul sb.t).mono (by decide), (sa.b.mul sb.b).mono (by decide), fun z => (bot_ne sa sb z).elim, fun _ t H' s1 n1 e1 => ?_⟩
  exact q t H' s1 n1 e1
theorem ok_over (F : Fun K "over" "over" sOver f fd) : FnOk P w K mg base (L2N.CX P w) 3 f fd ["a", "b"] (spOver K CN) := by
  refine okN F scOver (fun vs H Q E h => ?_) (fun cdv A outer s H vs Q E hr h => ?_)
  · obtain ⟨p, r, a, b, rfl, _⟩ := h
    rfl
  obtain ⟨p, r, a, b, rfl, hp, hq, sa, sb, hE, q⟩ := h
  refine ⟨_, pss_one (ps_ret (pe_call G hr rfl mG kG bG .nil (L2N.passes_call (L2N.takes_of rfl rfl rfl rfl) (fun _ _ _ _ z => z)) (pa_cons
      (pe_op op_mulW (pe_ix ix_tup (pv 0) pe_int (fun _ _ => rfl)) (pe_ix ix_tup (pv 1) pe_int (fun _ _ => rfl)))
      (pa_cons (pe_op op_mulW (pe_ix ix_tup (pv 0) pe_int (fun _ _ => rfl)) (pe_ix ix_tup (pv 1) pe_int (fun _ _ => rfl))) pa_nil)))), ?_⟩
  refine ⟨_, rfl, p, _, _, _, rfl, rfl, hp, rfl, _, rfl, r, _, _, _, rfl, rfl, hq, rfl, _, _, rfl, rfl, mulOk sa.t sb.b, ?_⟩
  refine ⟨_, rfl, p, _, _, _, rfl, rfl, hp, rfl, _, rfl, r, _, _, _, rfl, rfl, hq, rfl, _, _, rfl, rfl, mulOk sa.b sb.t, ?_⟩
  have pa := sa.p
  refine ⟨_, _, rfl, (sa.t.mul sb.b).mono (by decide), (sa.b.mul sb.t).mono (by decide), fun z => hE ?_, fun z t H' s1 n1 e1 => ?_⟩
  · rcases Int.mul_eq_zero.mp z with y | y
    · omega
    · exact y
  · exact q (fun e => z (by show a.2 * b.1 = 0; rw [e, Int.mul_zero])) t H' s1 n1 e1
omit G bG kG mG in
theorem ok_below (F : Fun K "below" "below" sBelow f fd) : FnOk P w K mg base CX0 1 f fd ["a", "b"] (spBelow K) := by
  refine F.ok scBelow (fun vs H Q E h => ?_) (fun cdv A outer s H vs Q E hr h => ?_)
  · obtain ⟨p, r, a, b, rfl, _⟩ := h
    rfl
  obtain ⟨p, r, a, b, rfl, hp, hq, sa, sb, q⟩ := h
  refine ⟨_, pss_one (ps_ret (pe_cmpR op_lt
      (pe_op op_mulW (pe_ix ix_tup (pv 0) pe_int (fun _ _ => rfl)) (pe_ix ix_tup (pv 1) pe_int (fun _ _ => rfl)))
      (pe_op op_mulW (pe_ix ix_tup (pv 1) pe_int (fun _ _ => rfl)) (pe_ix ix_tup (pv 0) pe_int (fun _ _ => rfl))) (nomark _))), ?_⟩
  refine ⟨_, rfl, p, _, _, _, rfl, rfl, hp, rfl, _, rfl, r, _, _, _, rfl, rfl, hq, rfl, _, _, rfl, rfl, mulOk sa.t sb.b, ?_⟩
  refine ⟨_, rfl, r, _, _, _, rfl, rfl, hq, rfl, _, rfl, p, _, _, _, rfl, rfl, hp, rfl, _, _, rfl, rfl, mulOk sb.t sa.b, ?_⟩
  exact ⟨_, _, rfl, rfl, q⟩
end
end Vm

set_option Elab.async false
set_option linter.all false
set_option maxRecDepth 100000
set_option maxHeartbeats 4000000
namespace Vm
open PySem PySem.Spec PyProof.Rows L2
section
variable {P : Program} {w : World} {K : PySem.W.Frag} {mg : Str → Option Value} {base : Heap} {f fT : Addr} {fd fdT : FuncData}
/-! ### a cell of the script -/
abbrev sCell : Stmt := top 31
theorem scCell : FnScope ["_law_script", "_law_k", "_law_state", "_law_cell_here"] ["_law_script", "_law_k"] (defScope sCell) := ⟨rfl, rfl, rfl, by decide +kernel, rfl, by decide +kernel, by decide +kernel⟩
def spCellV (K : PySem.W.Frag) : Sp := fun vs H Q _ => ∃ (a : Addr) (ns : List Int) (k : Int), vs = [.ref a, .int k] ∧ SqL K H a (ns.map V.int) ∧ 0 ≤ k ∧ k < 100 ∧ ∀ n H', Same H H' → Q (.int n) H'
theorem cut_mem {ns : List Int} {lo hi : Option Int} {i : Nat} {x : V} (h : (cutV (ns.map V.int) lo hi)[i]? = some x) : ∃ n : Int, x = .int n := by
  have h1 := List.mem_of_getElem? h
  unfold cutV at h1
  have h2 := List.mem_of_mem_drop (List.mem_of_mem_take h1)
  obtain ⟨n, _, e⟩ := List.mem_map.mp h2
  exact ⟨n, e.symm⟩
theorem ok_cellV (F : Fun K "_law_cell" "_law_cell" sCell f fd) (ml : mg "len" = none) : FnOk P w K mg base CX0 1 f fd ["_law_script", "_law_k"] (spCellV K) := by
  refine F.ok scCell (fun vs H Q E h => ?_) (fun cdv A outer s H vs Q E hr h => ?_)
  · obtain ⟨a, ns, k, rfl, _⟩ := h
    rfl
  obtain ⟨a, ns, k, rfl, hS, h0, h1, q⟩ := h
  refine ⟨_, pss_cons (ps_if (pt_cmpR op_lt (pv 1) (pe_callB call_len_seq rfl ml PySem.boot_len (pa_cons (pv 0) pa_nil)) (nomark _)) (pss_one (ps_ret (pe_ix ix_list (pv 0) (pv 1) (fun _ _ => rfl)))) pss_nil)
    (pss_cons (ps_set (i := 2) scCell.nd rfl (.inl rfl) (pe_op op_mul (pe_op op_mul pe_int (pe_op op_add (pv 1) pe_int)) (pe_op op_add (pv 1) pe_int)))
    (pss_cons (ps_for PassesOwn.never rfl (pi_list (pe_slice sl_list (pv 0) po_none (po_some pe_int))) (pg_name (i := 3) scCell.nd rfl (.inl rfl))
      (pss_one (ps_set (i := 2) scCell.nd rfl (.inl rfl) (pe_op op_mod (pe_op op_add (pe_op op_mul (pv 2) pe_int) (pv 3)) pe_int))))
    (pss_one (ps_ret (pv 2))))), ?_⟩
  have hl : (ns.map V.int).length = ns.length := List.length_map _
  refine ⟨_, rfl, _, rfl, a, _, rfl, .inl hS, _, _, rfl, rfl, _, rfl, ?_⟩
  refine ite2 (fun c => ?_) (fun c => ?_)
  · have c' : k < (((ns.map V.int).length : Nat) : Int) := of_decide_eq_true c
    rw [hl] at c'
    have hk : k.toNat < ns.length := by omega
    have e : atI (ns.map V.int) ((k.toNat : Nat) : Int) = some (.int ns[k.toNat]) := atI_nat (by rw [List.getElem?_map, List.getElem?_eq_getElem hk] <;> rfl)
    rw [show ((k.toNat : Nat) : Int) = k by omega] at e
    exact ⟨_, rfl, _, rfl, a, _, _, _, rfl, rfl, hS, e, q _ H (Same.refl H)⟩
  · refine ⟨_, rfl, _, _, rfl, rfl, _, _, rfl, rfl, .inl ⟨by decide, by decide⟩, _, rfl, _, _, rfl, rfl, _, _, rfl, rfl, .inr ⟨by omega, by omega⟩, ?_⟩
    refine ⟨_, rfl, _, rfl, a, _, rfl, hS, fun p hp => ?_⟩
    refine ⟨p, rfl, ⟨_, SqL.of upd_same⟩, ?_⟩
    refine for_list (xs := cutV (ns.map V.int) none (some 4)) (fun i σ H' => ∃ (st : Int) (kv : Option V), σ = [some (.ref a), some (.int k), some (.int st), kv] ∧ Same (upd H p (.lst (cutV (ns.map V.int) none (some 4)))) H') ⟨_, none, rfl, Same.refl _⟩ ?_ ?_ ?_
    · rintro i σ H' _ ⟨st, kv, rfl, sm⟩
      exact SqL.of (sm _ _ upd_same)
    · rintro i x σ H' hx ⟨st, kv, rfl, sm⟩
      obtain ⟨n, rfl⟩ := cut_mem hx
      refine ⟨_, rfl, _, _, rfl, rfl, .inr ⟨by decide, by decide⟩, _, rfl, _, _, rfl, rfl, _, _, rfl, rfl, (by show (0 : Int) < _; decide), ?_⟩
      exact ⟨_, _, rfl, sm⟩
    · rintro σ H' ⟨st, kv, rfl, sm⟩
      exact ⟨_, rfl, q st H' ((same_new hp _).trans sm)⟩
/-! ### a purse -/
abbrev sPurse : Stmt := top 32
theorem scPurse : FnScope ["_law_cell_here", "_law_digits"] ["_law_cell_here"] (defScope sPurse) := ⟨rfl, rfl, rfl, by decide +kernel, rfl, by decide +kernel, by decide +kernel⟩
def spPurse : Sp := fun vs H Q _ => ∃ n : Int, vs = [.int n] ∧ ∀ p H', Same H H' → H p = none → Purse H' p → Q (.ref p) H'
theorem ok_purse (F : Fun K "_law_purse" "_law_purse" sPurse f fd) (mA : mg "abs" = none) : FnOk P w K mg base CX0 1 f fd ["_law_cell_here"] spPurse := by
  refine F.ok scPurse (fun vs H Q E h => ?_) (fun cdv A outer s H vs Q E hr h => ?_)
  · obtain ⟨n, rfl, _⟩ := h
    rfl
  obtain ⟨n, rfl, q⟩ := h
  refine ⟨_, pss_cons (ps_set (i := 1) scPurse.nd rfl (.inl rfl) pe_int)
    (pss_cons (ps_if (PW.pt (pw_or (pt_cmpR op_lt (pv 0) pe_int (nomark _)) (pw_or1 (pt_cmpR op_ge (pv 0) (pe_op op_pow pe_int pe_int) (nomark _)))))
      (pss_one (ps_set (i := 1) scPurse.nd rfl (.inl rfl) (pe_callB call_abs rfl mA (by decide +kernel) (pa_cons (pv 0) pa_nil)))) pss_nil)
    (pss_one (ps_ret (pe_lst (pa_cons (pe_op op_mod (pv 0) pe_int) (pa_cons (pv 1) (pa_cons pe_int pa_nil))))))), ?_⟩
  have fin : ∀ d : Int, tRet (tLst (tCons (tOp (rI (fun _ j => 0 < j) fun i j => .int (i % j)) (tVar 0) (tC (.int 2147483563))) (tCons (tVar 1) (tCons (tC (.int 0)) tNil)))) { nx := fun _ H' => Q .non H', rt := Q } [some (.int n), some (.int d)] H := fun d => by
    refine ⟨_, rfl, _, _, rfl, rfl, (by show (0 : Int) < _; decide), _, rfl, (by show 3 ≤ sizeLine; decide), fun p hp => ?_⟩
    exact q p _ (same_new hp _) hp ⟨_, _, _, upd_same⟩
  refine ⟨_, rfl, _, _, rfl, rfl, _, rfl, ?_⟩
  refine ite2 (fun c => ?_) (fun c => ?_)
  · exact ⟨_, rfl, _, rfl, fin _⟩
  · refine ⟨_, rfl, _, _, rfl, rfl, ⟨by decide, by decide, by decide⟩, _, _, rfl, rfl, _, rfl, ?_⟩
    refine ite2 (fun c => ?_) (fun c => ?_)
    · exact ⟨_, rfl, _, rfl, fin _⟩
    · exact fin _
/-! ### a draw -/
abbrev sTake : Stmt := top 33
theorem scTake : FnScope ["_law_purse_here", "_law_many", "_law_state", "_law_taken"] ["_law_purse_here", "_law_many"] (defScope sTake) := ⟨rfl, rfl, rfl, by decide +kernel, rfl, by decide +kernel, by decide +kernel⟩
def spTake : Sp := fun vs H Q _ => ∃ (a : Addr) (m : Int), vs = [.ref a, .int m] ∧ Purse H a ∧ 0 < m ∧ m < 1073741824 ∧ ∀ t H', 0 ≤ t → t < m → Kept a H H' → Q (.int t) H'
theorem ok_take (F : Fun K "_law_take" "_law_take" sTake f fd) : FnOk P w K mg base CX0 1 f fd ["_law_purse_here", "_law_many"] spTake := by
  refine F.ok scTake (fun vs H Q E h => ?_) (fun cdv A outer s H vs Q E hr h => ?_)
  · obtain ⟨a, m, rfl, _⟩ := h
    rfl
  obtain ⟨a, m, rfl, ⟨s0, d0, c0, hp⟩, m0, m1, q⟩ := h
  refine ⟨_, pss_cons (ps_asg (pe_op op_add (pe_ix ix_list (pv 0) pe_int (fun _ _ => rfl)) pe_int) (pg_sub (pv 0) pe_int set_list))
    (pss_cons (ps_set (i := 2) scTake.nd rfl (.inl rfl) (pe_ix ix_list (pv 0) pe_int (fun _ _ => rfl)))
    (pss_cons (ps_asg (pe_op op_mod (pe_op op_add (pe_op op_mul (pv 2) (pe_op op_add (pe_op op_mod (pv 2) pe_int) pe_int)) (pe_op op_mul pe_int (pe_ix ix_list (pv 0) pe_int (fun _ _ => rfl)))) pe_int) (pg_sub (pv 0) pe_int set_list))
    (pss_cons (ps_if (pt_cmpR op_gt (pe_ix ix_list (pv 0) pe_int (fun _ _ => rfl)) pe_int (nomark _))
      (pss_cons (ps_set (i := 3) scTake.nd rfl (.inl rfl) (pe_op op_mod (pe_ix ix_list (pv 0) pe_int (fun _ _ => rfl)) (pv 1)))
      (pss_cons (ps_asg (pe_op op_fdiv (pe_ix ix_list (pv 0) pe_int (fun _ _ => rfl)) (pv 1)) (pg_sub (pv 0) pe_int set_list))
      (pss_one (ps_ret (pv 3))))) pss_nil)
    (pss_one (ps_ret (pe_op op_mod (pe_op op_fdiv (pe_ix ix_list (pv 0) pe_int (fun _ _ => rfl)) pe_int) (pv 1))))))), ?_⟩
  refine ⟨_, rfl, a, _, _, _, rfl, rfl, SqL.of hp, rfl, _, _, rfl, rfl, _, rfl, a, _, _, _, rfl, rfl, hp, rfl, ?_⟩
  have k1 : Kept a H (upd H a (.lst [.int s0, .int d0, .int (c0 + 1)])) := ⟨⟨_, _, _, upd_same⟩, fun b o hb e => by rw [upd_ne hb]; exact e⟩
  have e1 : upd H a (.lst [.int s0, .int d0, .int (c0 + 1)]) a = some (.lst [.int s0, .int d0, .int (c0 + 1)]) := upd_same
  revert k1 e1
  show _ → _ → tSeq _ _ _ _ (upd H a (.lst [.int s0, .int d0, .int (c0 + 1)]))
  generalize upd H a (.lst [.int s0, .int d0, .int (c0 + 1)]) = H1
  intro k1 e1
  refine ⟨_, rfl, a, _, _, _, rfl, rfl, SqL.of e1, rfl, ?_⟩
  have b1 := Int.emod_nonneg s0 (show (45989 : Int) ≠ 0 by decide)
  have b2 := Int.emod_lt_of_pos s0 (show (0 : Int) < 45989 by decide)
  refine ⟨_, rfl, _, rfl, _, _, rfl, rfl, (by show (0 : Int) < _; decide), _, _, rfl, rfl, _, _, rfl, rfl, .inr ⟨by omega, by omega⟩, _, rfl, a, _, _, _, rfl, rfl, SqL.of e1, rfl, _, _, rfl, rfl, .inl ⟨by decide, by decide⟩, _, _, rfl, rfl, _, _, rfl, rfl, (by show (0 : Int) < _; decide), _, rfl, a, _, _, _, rfl, rfl, e1, rfl, ?_⟩
  have k2 : Kept a H (upd H1 a (.lst [.int ((s0 * (s0 % 45989 + 28019) + 104723 * (c0 + 1)) % 2147483563), .int d0, .int (c0 + 1)])) := k1.trans ⟨⟨_, _, _, upd_same⟩, fun b o hb e => by rw [upd_ne hb]; exact e⟩
  have e2 : upd H1 a (.lst [.int ((s0 * (s0 % 45989 + 28019) + 104723 * (c0 + 1)) % 2147483563), .int d0, .int (c0 + 1)]) a = some (.lst [.int ((s0 * (s0 % 45989 + 28019) + 104723 * (c0 + 1)) % 2147483563), .int d0, .int (c0 + 1)]) := upd_same
  revert k2 e2
  show _ → _ → tSeq _ _ _ _ (upd H1 a (.lst [.int ((s0 * (s0 % 45989 + 28019) + 104723 * (c0 + 1)) % 2147483563), .int d0, .int (c0 + 1)]))
  generalize upd H1 a (.lst [.int ((s0 * (s0 % 45989 + 28019) + 104723 * (c0 + 1)) % 2147483563), .int d0, .int (c0 + 1)]) = H2
  intro k2 e2
  refine ⟨_, rfl, a, _, _, _, rfl, rfl, SqL.of e2, rfl, _, _, rfl, rfl, _, rfl, ?_⟩
  refine ite2 (fun c => ?_) (fun c => ?_)
  · refine ⟨_, rfl, a, _, _, _, rfl, rfl, SqL.of e2, rfl, _, rfl, _, _, rfl, rfl, m0, ?_⟩
    refine ⟨_, rfl, a, _, _, _, rfl, rfl, SqL.of e2, rfl, _, rfl, _, _, rfl, rfl, ⟨m0, m1⟩, _, rfl, a, _, _, _, rfl, rfl, e2, rfl, ?_⟩
    refine ⟨_, rfl, q _ _ (Int.emod_nonneg _ (by omega)) (Int.emod_lt_of_pos _ m0) (k2.trans ⟨⟨_, _, _, upd_same⟩, fun b o hb e => by rw [upd_ne hb]; exact e⟩)⟩
  · refine ⟨_, rfl, a, _, _, _, rfl, rfl, SqL.of e2, rfl, _, _, rfl, rfl, ⟨by decide, by decide⟩, _, rfl, _, _, rfl, rfl, m0, ?_⟩
    exact q _ _ (Int.emod_nonneg _ (by omega)) (Int.emod_lt_of_pos _ m0) k2
/-! ### lowest terms, by the law -/
abbrev sLow : Stmt := top 34
theorem scLow : FnScope ["_law_top", "_law_bottom", "_law_a", "_law_b"] ["_law_top", "_law_bottom"] (defScope sLow) := ⟨rfl, rfl, rfl, by decide +kernel, rfl, by decide +kernel, by decide +kernel⟩
def spLow : Sp := fun vs H Q _ => ∃ t b : Int, vs = [.int t, .int b] ∧ 0 < b ∧ Bits 8000 b ∧ ∀ p H', Same H H' → H p = none → H' p = some (tupF (lowM t b)) → Q (.ref p) H'
theorem ok_low (F : Fun K "_law_low" "_law_low" sLow f fd) (mA : mg "abs" = none) : FnOk P w K mg base CX0 1 f fd ["_law_top", "_law_bottom"] spLow := by
  refine F.ok scLow (fun vs H Q E h => ?_) (fun cdv A outer s H vs Q E hr h => ?_)
  · obtain ⟨a, b, rfl, _⟩ := h
    rfl
  obtain ⟨t, b, rfl, hb, hB, q⟩ := h
  refine ⟨_, pss_cons (ps_par (i := 2) (j := 3) (by rfl) scLow.nd rfl rfl (by decide) rfl rfl (pa_cons (pe_callB call_abs rfl mA (by decide +kernel) (pa_cons (pv 0) pa_nil)) (pa_cons (pv 1) pa_nil)) (by rfl))
    (pss_cons (ps_while PassesOwn.never (pt_cmpR op_gt (pv 3) pe_int (nomark _))
      (pss_one (ps_par (i := 2) (j := 3) (by rfl) scLow.nd rfl rfl (by decide) rfl rfl (pa_cons (pv 3) (pa_cons (pe_op op_mod (pv 2) (pv 3)) pa_nil)) (by rfl))))
    (pss_one (ps_ret (pe_tup (pa_cons (pe_op op_fdivW (pv 0) (pv 2)) (pa_cons (pe_op op_fdivW (pv 1) (pv 2)) pa_nil)))))), ?_⟩
  refine ⟨_, rfl, _, rfl, _, rfl, _, _, rfl, ?_⟩
  refine while_by (fun σ H' => ∃ x y : Int, σ = [some (.int t), some (.int b), some (.int x), some (.int y)] ∧ 0 ≤ x ∧ 0 ≤ y ∧ gI x y = gI t b ∧ H' = H) (mu2 3) ⟨_, _, rfl, abs_nn t, Int.le_of_lt hb, gI_absL t b, rfl⟩ ?_ ?_
  · rintro σ H' ⟨x, y, rfl, hx, hy, e, rfl⟩
    refine ⟨_, rfl, _, _, rfl, rfl, _, rfl, ?_⟩
    refine ite2 (fun c => ?_) (fun c => ?_)
    · have c' : y > 0 := of_decide_eq_true c
      refine ⟨_, rfl, _, rfl, _, rfl, _, _, rfl, rfl, c', ?_⟩
      refine ⟨_, _, rfl, ⟨y, x % y, rfl, hy, Int.emod_nonneg x (by omega), (gI_step hx c').trans e, rfl⟩, ?_⟩
      show (x % y).toNat < y.toNat
      have := Int.emod_lt_of_pos x c'
      omega
    · have c' : ¬ y > 0 := of_decide_eq_false (Bool.eq_false_iff.mpr c)
      have y0 : y = 0 := by omega
      subst y0
      have e2 : x = gI t b := by rw [← e, gI_zero]; omega
      subst e2
      have hg := gI_pos (a := t) (b := b) (by omega)
      have hd : ∀ z : Int, CDivW z (gI t b) := fun z => ⟨hg, log2_of (n := 8000) (by decide) (hB.le (gI_le (by omega))) (by decide)⟩
      refine ⟨_, rfl, _, rfl, _, _, rfl, rfl, hd _, _, rfl, _, rfl, _, _, rfl, rfl, hd _, (by show 2 ≤ sizeLine; decide), fun p hp => ?_⟩
      exact q p _ (same_new hp _) hp upd_same
  · intro σ H Q Q' h t
    obtain ⟨v, e, i, j, e1, e2, k, e3, q⟩ := t
    exact ⟨v, e, i, j, e1, e2, k, e3, h _ _ q⟩
end
end Vm

set_option Elab.async false
set_option linter.all false
set_option maxRecDepth 100000
set_option maxHeartbeats 4000000
namespace Vm
open PySem PySem.Spec PyProof.Rows L2
theorem Purse.ne {H : Hp} {a l : Addr} (p : Purse H a) (h : H l = none) : l ≠ a := fun e => by
  obtain ⟨_, _, _, q⟩ := p
  subst e
  rw [q] at h
  cases h
theorem Purse.same {H H' : Hp} {a : Addr} (p : Purse H a) (h : Same H H') : Purse H' a := let ⟨s, d, c, q⟩ := p; ⟨s, d, c, h _ _ q⟩
section
variable {P : Program} {w : World} {K : PySem.W.Frag} {mg : Str → Option Value} {base : Heap} {f fT fL fG : Addr} {fd fdT fdL fdG : FuncData}
/-! ### a great number -/
abbrev sGreat : Stmt := top 35
theorem scGreat : FnScope ["_law_purse_here", "_law_number", "_law_k"] ["_law_purse_here"] (defScope sGreat) := ⟨rfl, rfl, rfl, by decide +kernel, rfl, by decide +kernel, by decide +kernel⟩
def spGreat : Sp := fun vs H Q _ => ∃ a : Addr, vs = [.ref a] ∧ Purse H a ∧ ∀ n H', Bits 800 n → Kept a H H' → Q (.int n) H'
theorem turns_at {t : Int} (h0 : 0 ≤ t) (h7 : t < 7) : ∃ n : Nat, n ≤ 40 ∧ atI [V.int 1, .int 1, .int 2, .int 4, .int 9, .int 0, .int 40] t = some (.int (n : Int)) := by
  have h : t = 0 ∨ t = 1 ∨ t = 2 ∨ t = 3 ∨ t = 4 ∨ t = 5 ∨ t = 6 := by omega
  rcases h with rfl | rfl | rfl | rfl | rfl | rfl | rfl
  · exact ⟨1, by decide, rfl⟩
  · exact ⟨1, by decide, rfl⟩
  · exact ⟨2, by decide, rfl⟩
  · exact ⟨4, by decide, rfl⟩
  · exact ⟨9, by decide, rfl⟩
  · exact ⟨0, by decide, rfl⟩
  · exact ⟨40, by decide, rfl⟩
theorem width_at {t : Int} (h0 : 0 ≤ t) (h3 : t < 3) : ∃ n : Int, 0 < n ∧ n ≤ 1000000 ∧ atI [V.int (10 ^ (6 : Int).toNat), .int 10, .int 1000] t = some (.int n) := by
  have h : t = 0 ∨ t = 1 ∨ t = 2 := by omega
  rcases h with rfl | rfl | rfl
  · exact ⟨10 ^ (6 : Int).toNat, by decide, by decide, rfl⟩
  · exact ⟨10, by decide, by decide, rfl⟩
  · exact ⟨1000, by decide, by decide, rfl⟩
theorem grow {i : Nat} {x t : Int} (h : Bits (20 * i) x) (hx : 0 ≤ x) (t0 : 0 ≤ t) (t1 : t < 1000000) : Bits (20 * (i + 1)) (x * 1000000 + t) := by
  unfold Bits at *
  rw [Nat.mul_add, Nat.pow_add]
  generalize 2 ^ (20 * i) = k at h
  have e : 2 ^ (20 * 1) = 1048576 := by decide
  rw [e]
  omega
theorem ok_great (F : Fun K "_law_great" "_law_great" sGreat f fd) (T : FnOk P w K mg base CX0 1 fT fdT ["_law_purse_here", "_law_many"] spTake) (bT : Binds K fdT ["_law_purse_here", "_law_many"] []) (kT : PySem.W.keepIn K (.ref fT) = true) (mT : mg "_law_take" = some (.ref fT)) (mR : mg "range" = none) :
    FnOk P w K mg base CX0 2 f fd ["_law_purse_here"] spGreat := by
  refine F.ok scGreat (fun vs H Q E h => ?_) (fun cdv A outer s H vs Q E hr h => ?_)
  · obtain ⟨a, rfl, _⟩ := h
    rfl
  obtain ⟨a, rfl, hp, q⟩ := h
  refine ⟨_, pss_cons (ps_set (i := 1) scGreat.nd rfl (.inl rfl) pe_int)
    (pss_cons (ps_for PassesOwn.never rfl (pi_range1 rfl mR (pa_cons (pe_ix ix_list (pe_lst (pa_cons pe_int (pa_cons pe_int (pa_cons pe_int (pa_cons pe_int (pa_cons pe_int (pa_cons pe_int (pa_cons pe_int pa_nil))))))))
          (pe_call T hr rfl mT kT bT .nil pass0 (pa_cons (pv 0) (pa_cons pe_int pa_nil))) (fun _ _ => rfl)) pa_nil)) (pg_name (i := 2) scGreat.nd rfl (.inl rfl))
      (pss_one (ps_set (i := 1) scGreat.nd rfl (.inl rfl) (pe_op op_add (pe_op op_mul (pv 1) (pe_op op_pow pe_int pe_int))
        (pe_call T hr rfl mT kT bT .nil pass0 (pa_cons (pv 0) (pa_cons (pe_ix ix_list (pe_lst (pa_cons (pe_op op_pow pe_int pe_int) (pa_cons pe_int (pa_cons pe_int pa_nil)))) (pe_op op_mod (pv 2) pe_int) (fun _ _ => rfl)) pa_nil)))))))
    (pss_one (ps_ret (pe_op op_mulW (pv 1) (pe_op op_sub pe_int (pe_op op_mul pe_int (pe_call T hr rfl mT kT bT .nil pass0 (pa_cons (pv 0) (pa_cons pe_int pa_nil))))))))), ?_⟩
  refine ⟨(by show 7 ≤ sizeLine; decide), fun l hl => ?_⟩
  have pl : Purse (upd H l (.lst [V.int 1, .int 1, .int 2, .int 4, .int 9, .int 0, .int 40])) a := hp.same (same_new hl _)
  have nla := hp.ne hl
  refine ⟨_, rfl, a, 7, rfl, pl, by decide, by decide, fun t H1 t0 t7 k1 => ?_⟩
  obtain ⟨n, hn, et⟩ := turns_at t0 t7
  have k0 : Kept a H H1 := (Kept.of_same hp (same_new hl _)).trans k1
  refine ⟨l, _, _, _, rfl, rfl, SqL.of (k1.2 l _ nla upd_same), et, ?_⟩
  refine ⟨_, rfl, by omega, by omega, ?_⟩
  refine for_range (lo := 0) (n := ((n : Nat) : Int).toNat) (fun i σ H' => ∃ (x : Int) (kv : Option V), σ = [some (.ref a), some (.int x), kv] ∧ 0 ≤ x ∧ Bits (20 * i) x ∧ Kept a H H') ⟨0, none, rfl, by decide, (by show (0 : Int).natAbs < 2 ^ (20 * 0); decide), k0⟩ ?_ ?_
  · rintro i σ H2 hi ⟨x, kv, rfl, hx, bx, k2⟩
    refine ⟨_, rfl, _, _, rfl, rfl, ⟨by decide, by decide, by decide⟩, _, _, rfl, rfl, .inr ⟨by decide, by decide⟩, ?_⟩
    refine ⟨_, rfl, _, _, rfl, rfl, ⟨by decide, by decide, by decide⟩, (by show 3 ≤ sizeLine; decide), fun l2 hl2 => ?_⟩
    have nl2 := k2.1.ne hl2
    obtain ⟨m, m0, m1, em⟩ := width_at (Int.emod_nonneg ((0 : Int) + (i : Int)) (show (3 : Int) ≠ 0 by decide)) (Int.emod_lt_of_pos ((0 : Int) + (i : Int)) (show (0 : Int) < 3 by decide))
    refine ⟨_, rfl, _, _, rfl, rfl, (by show (0 : Int) < _; decide), l2, _, _, _, rfl, rfl, SqL.of upd_same, em, ?_⟩
    refine ⟨a, m, rfl, k2.1.same (same_new hl2 _), m0, by omega, fun t2 H3 t20 t21 k3 => ?_⟩
    refine ⟨_, _, rfl, rfl, ?_⟩
    refine ⟨_, _, rfl, ?_, ?_, (k2.same (same_new hl2 _)).trans k3⟩
    · have h6 : (10 : Int) ^ (6 : Int).toNat = 1000000 := by decide
      show 0 ≤ x * 10 ^ (6 : Int).toNat + t2
      rw [h6]
      omega
    · have h6 : (10 : Int) ^ (6 : Int).toNat = 1000000 := by decide
      show Bits (20 * (i + 1)) (x * 10 ^ (6 : Int).toNat + t2)
      rw [h6]
      exact grow bx hx t20 (by omega)
  · rintro σ H2 ⟨x, kv, rfl, hx, bx, k2⟩
    refine ⟨_, rfl, _, rfl, a, 2, rfl, k2.1, by decide, by decide, fun t H3 t0 t2 k3 => ?_⟩
    have bx2 : Bits 800 x := bx.mono (by omega)
    have ht : t = 0 ∨ t = 1 := by omega
    refine ⟨_, _, rfl, rfl, .inl ⟨by decide, by decide⟩, _, _, rfl, rfl, _, _, rfl, rfl, bx2.okMul (b := 2) (by unfold Bits; rcases ht with rfl | rfl <;> decide) (by decide) (by decide) (by decide), ?_⟩
    refine q _ _ ?_ (k2.trans k3)
    show Bits 800 (x * (1 - 2 * t))
    rcases ht with rfl | rfl
    · rw [show x * (1 - 2 * 0) = x by omega]
      exact bx2
    · rw [show x * (1 - 2 * 1) = -x by omega]
      exact bx2.neg
/-! ### a drawn fraction -/
abbrev sFr : Stmt := top 38
theorem scFr : FnScope ["_law_purse_here", "_law_top"] ["_law_purse_here"] (defScope sFr) := ⟨rfl, rfl, rfl, by decide +kernel, rfl, by decide +kernel, by decide +kernel⟩
def spFr : Sp := fun vs H Q _ => ∃ a : Addr, vs = [.ref a] ∧ Purse H a ∧ ∀ p z H', Sized 801 z → H' p = some (tupF z) → Kept a H H' → Q (.ref p) H'
theorem low_sized {t b : Int} {n : Nat} (h : 0 < b) (ht : Bits n t) (hb : Bits n b) : Sized n (lowM t b) :=
  let q := lowM_lt (by omega) ht hb
  ⟨q.1, q.2, lowM_bot h⟩
theorem ok_fr (F : Fun K "_law_fraction" "_law_fraction" sFr f fd) (G : FnOk P w K mg base CX0 2 fG fdG ["_law_purse_here"] spGreat) (bG : Binds K fdG ["_law_purse_here"] []) (kG : PySem.W.keepIn K (.ref fG) = true) (mG : mg "_law_great" = some (.ref fG))
    (L : FnOk P w K mg base CX0 1 fL fdL ["_law_top", "_law_bottom"] spLow) (bL : Binds K fdL ["_law_top", "_law_bottom"] []) (kL : PySem.W.keepIn K (.ref fL) = true) (mL : mg "_law_low" = some (.ref fL)) (mA : mg "abs" = none) :
    FnOk P w K mg base CX0 3 f fd ["_law_purse_here"] spFr := by
  refine F.ok scFr (fun vs H Q E h => ?_) (fun cdv A outer s H vs Q E hr h => ?_)
  · obtain ⟨a, rfl, _⟩ := h
    rfl
  obtain ⟨a, rfl, hp, q⟩ := h
  refine ⟨_, pss_cons (ps_set (i := 1) scFr.nd rfl (.inl rfl) (pe_call G hr rfl mG kG bG .nil pass0 (pa_cons (pv 0) pa_nil)))
    (pss_one (ps_ret (pe_call L (hr.mono (by decide)) rfl mL kL bL .nil pass0 (pa_cons (pv 1) (pa_cons (pe_op op_add pe_int (pe_callB call_abs rfl mA (by decide +kernel) (pa_cons (pe_call G hr rfl mG kG bG .nil pass0 (pa_cons (pv 0) pa_nil)) pa_nil))) pa_nil))))), ?_⟩
  refine ⟨_, rfl, a, rfl, hp, fun n H1 bn k1 => ?_⟩
  refine ⟨_, rfl, _, rfl, a, rfl, k1.1, fun m H2 bm k2 => ?_⟩
  have ba : Bits 800 (if m < 0 then -m else m) := by split; exact bm.neg; exact bm
  have b1 : Bits 801 (1 + (if m < 0 then -m else m)) := Bits.add (a := 800) (by unfold Bits; decide +kernel) ba
  have b0 := abs_nn m
  refine ⟨_, rfl, _, _, rfl, rfl, _, _, rfl, by omega, b1.mono (by decide), fun p H3 s3 n3 e3 => ?_⟩
  exact q p _ H3 (low_sized (by omega) (bn.mono (by decide)) b1) e3 ((k1.trans k2).same s3)
/-! ### what is due -/
abbrev sDue : Stmt := top 40
theorem scDue : FnScope ["_law_top", "_law_bottom"] ["_law_top", "_law_bottom"] (defScope sDue) := ⟨rfl, rfl, rfl, by decide +kernel, rfl, by decide +kernel, by decide +kernel⟩
def spDue : Sp := fun vs H Q _ => ∃ x y : Int, vs = [.int x, .int y] ∧ Bits 8000 y ∧ (y = 0 → Q (.str "number") H) ∧ (y ≠ 0 → ∀ p H', Same H H' → H p = none → H' p = some (tupF (frM x y)) → Q (.ref p) H')
theorem ok_due (F : Fun K "_law_due" "_law_due" sDue f fd) (L : FnOk P w K mg base CX0 1 fL fdL ["_law_top", "_law_bottom"] spLow) (bL : Binds K fdL ["_law_top", "_law_bottom"] []) (kL : PySem.W.keepIn K (.ref fL) = true) (mL : mg "_law_low" = some (.ref fL)) :
    FnOk P w K mg base CX0 2 f fd ["_law_top", "_law_bottom"] spDue := by
  refine F.ok scDue (fun vs H Q E h => ?_) (fun cdv A outer s H vs Q E hr h => ?_)
  · obtain ⟨x, y, rfl, _⟩ := h
    rfl
  obtain ⟨x, y, rfl, hy, q0, q⟩ := h
  refine ⟨_, pss_cons (ps_if (pt_cmpR op_eq (pv 1) pe_int (nomark _)) (pss_one (ps_ret pe_str)) pss_nil)
    (pss_cons (ps_if (pt_cmpR op_lt (pv 1) pe_int (nomark _)) (pss_one (ps_ret (pe_call L hr rfl mL kL bL .nil pass0 (pa_cons (pe_op op_sub pe_int (pv 0)) (pa_cons (pe_op op_sub pe_int (pv 1)) pa_nil))))) pss_nil)
    (pss_one (ps_ret (pe_call L hr rfl mL kL bL .nil pass0 (pa_cons (pv 0) (pa_cons (pv 1) pa_nil)))))), ?_⟩
  refine ⟨_, rfl, rfl, _, rfl, ?_⟩
  refine ite2 (fun c => ?_) (fun c => ?_)
  · have c' : V.int y = V.int 0 := of_decide_eq_true c
    cases c'
    exact q0 rfl
  have y0 : y ≠ 0 := fun e => c (by subst e; exact decide_eq_true rfl)
  refine ⟨_, rfl, _, _, rfl, rfl, _, rfl, ?_⟩
  refine ite2 (fun c => ?_) (fun c => ?_)
  · have c' : y < 0 := of_decide_eq_true c
    refine ⟨_, rfl, _, _, rfl, rfl, _, rfl, _, _, rfl, rfl, _, _, rfl, by omega, ?_, fun p H' s1 n1 e1 => q y0 p H' s1 n1 ?_⟩
    · rw [Int.zero_sub]
      exact hy.neg
    · rw [e1]
      unfold frM
      rw [if_pos c', Int.zero_sub, Int.zero_sub]
  · have c' : ¬ y < 0 := of_decide_eq_false (Bool.eq_false_iff.mpr c)
    refine ⟨_, rfl, _, rfl, _, _, rfl, by omega, hy, fun p H' s1 n1 e1 => q y0 p H' s1 n1 ?_⟩
    rw [e1]
    unfold frM
    rw [if_neg c']
end
end Vm

set_option Elab.async false
set_option linter.all false
set_option maxRecDepth 100000
set_option maxHeartbeats 4000000
namespace Vm
open PySem PySem.Spec PyProof.Rows L2
theorem yes_then {σ : L2.St} {H : Hp} {Q : Bool → Hp → Prop} (h : Q true H) : tYes σ H Q := h
/-! ### told as due -/
def flat1 : V → Bool
  | .int _ => true
  | .bl _ => true
  | .str _ => true
  | _ => false
/-- x is told as y is due, n deep -/
def Alike (K : PySem.W.Frag) (H : Hp) : Nat → V → V → Prop
  | 0 => fun _ _ => False
  | n + 1 => fun x y => (x = y ∧ flat1 x = true) ∨ ∃ (p r : Addr) (xs ys : List V), x = .ref p ∧ y = .ref r ∧ SqT K H p xs ∧ SqT K H r ys ∧ xs.length = ys.length ∧ ys.length ≤ 1000 ∧
      ∀ (i : Nat) (u v : V), xs[i]? = some u → ys[i]? = some v → Alike K H n u v
theorem Alike.nl {K : PySem.W.Frag} {H H' : Hp} (s : Nl H H') : ∀ {n : Nat} {x y : V}, Alike K H n x y → Alike K H' n x y
  | 0, _, _, h => h
  | n + 1, _, _, .inl h => .inl h
  | n + 1, _, _, .inr ⟨p, r, xs, ys, e1, e2, h1, h2, h3, h4, h5⟩ => .inr ⟨p, r, xs, ys, e1, e2, s.sqT h1, s.sqT h2, h3, h4, fun i u v hu hv => Alike.nl s (h5 i u v hu hv)⟩
theorem ty_tup {K : PySem.W.Frag} {H : Hp} {p : Addr} {xs : List V} (h : SqT K H p xs) : TyX K H (.ref p) (.type "tuple") := by
  rcases h with (h | ⟨o, h⟩) | ⟨o, _, _, h, c, _⟩
  · exact .base (.tup h)
  · exact .fTuple h
  · exact .kTuple h c
theorem alike_frac {K : PySem.W.Frag} {H : Hp} {p r : Addr} {z : Int × Int} (h1 : Fr K H p z) (h2 : Fr K H r z) : Alike K H 2 (.ref p) (.ref r) :=
  .inr ⟨p, r, _, _, rfl, rfl, h1, h2, rfl, (by show 2 ≤ 1000; decide), fun i u v hu hv => by
    rw [hu] at hv
    cases hv
    match i, hu with
    | 0, hu => cases hu; exact .inl ⟨rfl, rfl⟩
    | 1, hu => cases hu; exact .inl ⟨rfl, rfl⟩
    | i + 2, hu => simp at hu⟩
abbrev sSame : Stmt := top 36
theorem scSame : FnScope ["_law_told", "_law_due_here", "_law_k"] ["_law_told", "_law_due_here"] (defScope sSame) := ⟨rfl, rfl, rfl, by decide +kernel, rfl, by decide +kernel, by decide +kernel⟩
def spSame (K : PySem.W.Frag) (n : Nat) : Sp := fun vs H Q _ => ∃ x y : V, vs = [x, y] ∧ Alike K H n x y ∧ ∀ H', Same H H' → Q (.bl true) H'
/-- what the law asks of built-in names -/
structure Blt (mg : Str → Option Value) : Prop where
  isi : mg "isinstance" = none
  tup : mg "tuple" = none
  bol : mg "bool" = none
  str : mg "str" = none
  int : mg "int" = none
  len : mg "len" = none
  all : mg "all" = none
  rng : mg "range" = none
section
variable {P : Program} {w : World} {K : PySem.W.Frag} {mg : Str → Option Value} {base : Heap} {f g : Addr} {fd gd : FuncData}
theorem all_true (n : Nat) : (List.replicate n true).all id = true := by
  induction n with
  | zero => rfl
  | succ n ih => rw [List.replicate_succ]; exact ih
theorem ok_same {n : Nat} (F : Fun K "_law_same" "_law_same" sSame f fd) (B : Blt mg) (G : FnOk P w K mg base CX0 n g gd ["_law_told", "_law_due_here"] (spSame K n)) (bG : Binds K gd ["_law_told", "_law_due_here"] []) (kG : PySem.W.keepIn K (.ref g) = true) (mG : mg "_law_same" = some (.ref g)) :
    FnOk P w K mg base CX0 (n + 1) f fd ["_law_told", "_law_due_here"] (spSame K (n + 1)) := by
  refine F.ok scSame (fun vs H Q E h => ?_) (fun cdv A outer s H vs Q E hr h => ?_)
  · obtain ⟨x, y, rfl, _⟩ := h
    rfl
  obtain ⟨x, y, rfl, al, q⟩ := h
  refine ⟨_, pss_cons (ps_if (pt_val (pe_callB call_isi rfl B.isi (by decide +kernel) (pa_cons (pv 1) (pa_cons (pe_bltn (v := .ty "tuple") rfl B.tup (by decide +kernel) rfl) pa_nil))))
      (pss_cons (ps_if (PW.pt (pw_or (pt_not (pt_val (pe_callB call_isi rfl B.isi (by decide +kernel) (pa_cons (pv 0) (pa_cons (pe_bltn (v := .ty "tuple") rfl B.tup (by decide +kernel) rfl) pa_nil)))))
          (pw_or1 (pt_cmpR op_ne (pe_callB call_len_seq rfl B.len PySem.boot_len (pa_cons (pv 0) pa_nil)) (pe_callB call_len_seq rfl B.len PySem.boot_len (pa_cons (pv 1) pa_nil)) (nomark _))))) (pss_one (ps_ret pe_bl)) pss_nil)
        (pss_one (ps_ret (pe_callB (cr_all rfl) rfl B.all (by decide +kernel) (pa_cons (pe_lc (own := [("_law_k", 2)]) (g := gName 2) (tt := tYes) rfl scSame.nd (pi_range1 rfl B.rng (pa_cons (pe_callB call_len_seq rfl B.len PySem.boot_len (pa_cons (pv 1) pa_nil)) pa_nil))
          (blkOk_by (own := [("_law_k", 2)]) (N := ["_law_told", "_law_due_here", "_law_k"]) (sc := defScope sSame) (by decide +kernel)) (fun _ _ _ _ _ => pg_name (i := 2) scSame.nd rfl (Or.inl rfl)) (fun _ _ _ _ _ => pts_nil)
          (fun _ _ _ _ _ => pe_call G hr rfl mG kG bG .nil pass0 (pa_cons (pe_ix (show IxR _ (rIxT K) from ix_tup) (pv 0) (pv 2) (fun _ _ => rfl)) (pa_cons (pe_ix (show IxR _ (rIxT K) from ix_tup) (pv 1) (pv 2) (fun _ _ => rfl)) pa_nil)))) pa_nil))))) pss_nil)
    (pss_cons (ps_if (PW.pt (pw_or (pt_cmp (pc_isN (pv 1))) (pw_or1 (pt_val (pe_callB call_isi rfl B.isi (by decide +kernel) (pa_cons (pv 1) (pa_cons (pe_bltn (v := .ty "bool") rfl B.bol (by decide +kernel) rfl) pa_nil)))))))
      (pss_one (ps_ret (pe_or (pe_and (pe_cmp (pc_isN (pv 0))) (pe_one (pe_cmp (pc_isN (pv 1)))))
        (pe_one (pe_and (pe_callB call_isi rfl B.isi (by decide +kernel) (pa_cons (pv 0) (pa_cons (pe_bltn (v := .ty "bool") rfl B.bol (by decide +kernel) rfl) pa_nil))) (pe_one (pe_cmpR op_eq (pv 0) (pv 1) (nomark _)))))))) pss_nil)
    (pss_cons (ps_if (pt_val (pe_callB call_isi rfl B.isi (by decide +kernel) (pa_cons (pv 1) (pa_cons (pe_bltn (v := .ty "str") rfl B.str (by decide +kernel) rfl) pa_nil))))
      (pss_one (ps_ret (pe_and (pe_callB call_isi rfl B.isi (by decide +kernel) (pa_cons (pv 0) (pa_cons (pe_bltn (v := .ty "str") rfl B.str (by decide +kernel) rfl) pa_nil))) (pe_one (pe_cmpR op_eq (pv 0) (pv 1) (nomark _)))))) pss_nil)
    (pss_one (ps_ret (pe_and (pe_callB call_isi rfl B.isi (by decide +kernel) (pa_cons (pv 0) (pa_cons (pe_bltn (v := .ty "int") rfl B.int (by decide +kernel) rfl) pa_nil)))
      (pe_and (pe_not (pe_callB call_isi rfl B.isi (by decide +kernel) (pa_cons (pv 0) (pa_cons (pe_bltn (v := .ty "bool") rfl B.bol (by decide +kernel) rfl) pa_nil)))) (pe_one (pe_cmpR op_eq (pv 0) (pv 1) (nomark _))))))))), ?_⟩
  rcases al with ⟨rfl, fl⟩ | ⟨p, r, xs, ys, rfl, rfl, hx, hy, el, hl, al⟩
  · match x, fl with
    | .int i, _ =>
      refine ⟨_, rfl, _, _, _, _, false, rfl, .ty _, .base (.int i), kit_ty (by decide +kernel), _, rfl, iteF ?_⟩
      refine ⟨_, rfl, _, rfl, iteF ⟨_, rfl, _, _, _, _, false, rfl, .ty _, .base (.int i), kit_ty (by decide +kernel), _, rfl, iteF ?_⟩⟩
      refine ⟨_, rfl, _, _, _, _, false, rfl, .ty _, .base (.int i), kit_ty (by decide +kernel), _, rfl, iteF ?_⟩
      refine ⟨_, rfl, _, _, _, _, true, rfl, .ty _, .base (.int i), kit_ty (by decide +kernel), _, rfl, iteT ?_⟩
      refine ⟨_, rfl, _, _, _, _, false, rfl, .ty _, .base (.int i), kit_ty (by decide +kernel), _, rfl, _, rfl, iteT ?_⟩
      refine ⟨_, rfl, _, rfl, rfl, ?_⟩
      rw [decide_eq_true rfl]
      exact q H (Same.refl H)
    | .bl b, _ =>
      refine ⟨_, rfl, _, _, _, _, false, rfl, .ty _, .base (.bl b), kit_ty (by decide +kernel), _, rfl, iteF ?_⟩
      refine ⟨_, rfl, _, rfl, iteF ⟨_, rfl, _, _, _, _, true, rfl, .ty _, .base (.bl b), kit_ty (by decide +kernel), _, rfl, iteT ?_⟩⟩
      refine ⟨_, rfl, _, rfl, iteF ?_⟩
      refine ⟨_, rfl, iteF ?_⟩
      refine ⟨_, rfl, _, _, _, _, true, rfl, .ty _, .base (.bl b), kit_ty (by decide +kernel), _, rfl, iteT ?_⟩
      refine ⟨_, rfl, _, rfl, rfl, ?_⟩
      rw [decide_eq_true rfl]
      exact q H (Same.refl H)
    | .str z, _ =>
      refine ⟨_, rfl, _, _, _, _, false, rfl, .ty _, .base (.str z), kit_ty (by decide +kernel), _, rfl, iteF ?_⟩
      refine ⟨_, rfl, _, rfl, iteF ⟨_, rfl, _, _, _, _, false, rfl, .ty _, .base (.str z), kit_ty (by decide +kernel), _, rfl, iteF ?_⟩⟩
      refine ⟨_, rfl, _, _, _, _, true, rfl, .ty _, .base (.str z), kit_ty (by decide +kernel), _, rfl, iteT ?_⟩
      refine ⟨_, rfl, _, _, _, _, true, rfl, .ty _, .base (.str z), kit_ty (by decide +kernel), _, rfl, iteT ?_⟩
      refine ⟨_, rfl, _, rfl, rfl, ?_⟩
      rw [decide_eq_true rfl]
      exact q H (Same.refl H)
  · refine ⟨_, rfl, _, _, _, _, true, rfl, .ty _, ty_tup hy, kit_ty (by decide +kernel), _, rfl, iteT ?_⟩
    refine ⟨_, rfl, _, _, _, _, true, rfl, .ty _, ty_tup hx, kit_ty (by decide +kernel), _, rfl, iteF ?_⟩
    refine ⟨_, rfl, p, _, rfl, .inr hx, _, rfl, r, _, rfl, .inr hy, rfl, _, rfl, ?_⟩
    refine iteNS (congrArg V.int (congrArg Nat.cast el)) ?_
    refine ⟨_, rfl, r, _, rfl, .inr hy, _, rfl, by omega, by omega, fun D hD => ?_⟩
    refine lc_range (lo := 0) (n := ((ys.length : Nat) : Int).toNat) (fun i H' => Same H H' ∧ H' D = some (.lst ((List.replicate i true).map V.bl))) ⟨same_new hD _, upd_same⟩ ?_ ?_
    · rintro i H1 hi ⟨s1, d1⟩
      have hi' : i < ys.length := by omega
      have hx1 : i < xs.length := by omega
      have nl1 : Nl H H1 := Nl.of_same s1
      have ei : ((0 : Int) + (i : Int)) = ((i : Nat) : Int) := by omega
      have a1 : atI xs ((0 : Int) + (i : Int)) = some xs[i] := by rw [ei]; exact atI_nat (List.getElem?_eq_getElem hx1)
      have a2 : atI ys ((0 : Int) + (i : Int)) = some ys[i] := by rw [ei]; exact atI_nat (List.getElem?_eq_getElem hi')
      refine ⟨rfl, yes_then ?_⟩
      refine iteT ?_
      refine ⟨_, rfl, _, rfl, p, _, _, _, rfl, rfl, nl1.sqT hx, a1, _, rfl, _, rfl, r, _, _, _, rfl, rfl, nl1.sqT hy, a2, ?_⟩
      refine ⟨_, _, rfl, (al i _ _ (List.getElem?_eq_getElem hx1) (List.getElem?_eq_getElem hi')).nl nl1, fun H2 s2 => ?_⟩
      refine ⟨_, s2 _ _ d1, ?_, ?_, ?_⟩
      · rw [List.length_map, List.length_replicate]
        exact Nat.lt_of_lt_of_le (by omega : i < 1000) (by decide)
      · intro b o e
        rw [upd_ne (ne_of_none e hD)]
        exact s2 _ _ (s1 _ _ e)
      · rw [upd_same, List.replicate_succ', List.map_append]
        rfl
    · rintro H1 ⟨s1, d1⟩
      refine ⟨D, _, rfl, SqL.of d1, ?_⟩
      rw [all_true]
      exact q H1 s1
theorem none_same : FnOk P w K mg base CX0 0 f fd ["_law_told", "_law_due_here"] (spSame K 0) := by
  have no : ∀ vs H Q E, ¬ spSame K 0 vs H Q E := fun vs H Q E h => by
    obtain ⟨_, _, _, z, _⟩ := h
    exact z
  exact ⟨fun vs H Q E h => absurd h (no vs H Q E), fun A outer s H args us vs Q E _ _ _ _ h => absurd h (no vs H Q E)⟩
theorem same_all (F : Fun K "_law_same" "_law_same" sSame f fd) (B : Blt mg) (bG : Binds K fd ["_law_told", "_law_due_here"] []) (mG : mg "_law_same" = some (.ref f)) : ∀ n : Nat, FnOk P w K mg base CX0 n f fd ["_law_told", "_law_due_here"] (spSame K n)
  | 0 => none_same
  | n + 1 => ok_same F B (same_all F B bG mG n) bG F.kp mG
end
end Vm

set_option Elab.async false
set_option linter.all false
set_option maxRecDepth 100000
set_option maxHeartbeats 8000000
namespace Vm
open PySem PySem.Spec PyProof.Rows L2
/-! ### isinstance of a pinned error; how often a flat thing stands in a list -/
section
variable {X : Cx}
theorem call_pinned {p : Addr × Obj} {D : Addr} (C : ExcC X.K D) (hp : p ∈ X.pn) (hz : Zc (.ref D) none p.2) (hf : ∃ vs, p.2.data = .fields vs) : CallR X (.builtin "isinstance") (rIsE X.K D p.1) := by
  intro pins s σ H xs us Q I r h
  obtain ⟨c, cv, b, rfl, hcv, e, q⟩ := h
  match us, r with
  | [_, u2], .cons rx (.cons rt .nil) =>
    cases rx
    have ec : u2 = cv := hcv u2 rt
    subst ec
    have there := (I.pin p (List.mem_append_left pins hp)).1
    obtain ⟨a, ⟨oc, od, oda, osl⟩⟩ := p
    obtain ⟨vs, hv⟩ := hf
    obtain ⟨h1, h2⟩ := hz
    dsimp only at h1 h2 hv there
    subst h1 h2 hv
    refine PySem.W.kia_one (PySem.W.handS_kitx_exc C.hg C.hk C.hs C.hd C.ha C.hn C.ht C.hm) I.kIn ⟨there, rfl, rfl, trivial⟩ e (fun z => nomatch z) ?_
    intro tk
    exact ⟨.bl b, H, I.kept (t' := tk) (fun _ _ z => z), rfl, q⟩
def rCntF (K : PySem.W.Frag) : V → List V → Hp → VK → Prop := fun x xs H Q => ∃ (a : Addr) (ys : List V) (y : V), x = .ref a ∧ xs = [y] ∧ SqL K H a ys ∧ flatV y = true ∧ ys.all flatV = true ∧ Q (.int ((ys.countP fun z => eqV z y : Nat) : Int)) H
theorem countP_vals {y : V} : ∀ {ys : List V} {us : List Value}, Vals ys us → ys.all flatV = true → us.countP (eqU y) = ys.countP fun z => eqV z y
  | _, _, .nil, _ => rfl
  | _ :: _, _ :: _, .cons r t, f => by
    rw [List.all_cons, Bool.and_eq_true] at f
    rw [List.countP_cons, List.countP_cons, eqU_of r f.1, countP_vals t f.2]
theorem mt_cntF : MtR X "list.count" (rCntF X.K) := by
  intro pins s σ H x xs v us Q I rx rxs h
  obtain ⟨a, ys, y, rfl, rfl, hs, fy, fys, q⟩ := h
  cases rx
  match us, rxs with
  | [uy], .cons ry .nil =>
    obtain ⟨its, rv, ⟨⟨cls, dd, data, sl⟩, n, ho, hc, hdn, hd⟩, _⟩ := I.list hs
    simp only at hc hd
    subst hc hd
    refine call_meets PySem.F.slot_list_count ⟨_, ho, rfl⟩ PySem.F.entry_list_count (PySem.F.args_list_count_2 _ _)
      (SeqAt.list_countAt a its.toArray n dd sl uy (eqU y)) ⟨ho, fun z hz => mem_eqAt ry fy rv fys z (by simpa using hz), ?_⟩
    have ec : its.toArray.toList.countP (eqU y) = ys.countP fun z => eqV z y := countP_vals rv fys
    refine ⟨.int ((ys.countP fun z => eqV z y : Nat) : Int), H, I.tok _, ⟨s.toks, ?_⟩, q⟩
    show Value.int _ s.toks = Value.int _ s.toks
    rw [ec]
end
/-! ### a def that is handed the error that is being handled -/
open L2H in
/-- called in an except suite with the error there, of the class at D, it hands back z -/
def FnE (P : Program) (w : World) (K : PySem.W.Frag) (mg : Str → Option Value) (base : Heap) (k : Nat) (f : Addr) (fd : FuncData) (x : Str) (D : Addr) (z : Str) : Prop :=
  ∀ (A : Around) (outer : List Env) (s : Shared) (H : Hp) (args : Args) (p : Addr × Obj) (Q : VK), RoomH k A → Hot1 A p → Zc (.ref D) none p.2 → PinOk outer H s p → Env0 P w K mg base A outer s H → BindsTo s fd args ([x].zip [.ref p.1]) →
    (∀ H', Same H H' → Q (.str z) H') → codeAny (model P w) A (.call (.ref f) args) (CR CX0 outer P w H s Q E0) s
open L2H in
theorem fnE_of {P : Program} {w : World} {K : PySem.W.Frag} {mg : Str → Option Value} {base : Heap} {k : Nat} {f D : Addr} {fd : FuncData} {N : List Str} {x z qual name : Str} {st : Stmt} (F : Fun K name qual st f fd) (S : FnScope N [x] (defScope st))
    (body : ∀ (cdv : Value) (A : Around) (outer : List Env) (s : Shared) (H : Hp) (p : Addr × Obj) (Q : VK), Zc (.ref D) none p.2 → (∃ vs, p.2.data = .fields vs) → (∀ H', Same H H' → Q (.str z) H') →
      ∃ t, PSs (cxH CX0 P w K mg base N qual (defScope st) f cdv A outer s H E0 p) (defBody st) t ∧ t { nx := fun _ H' => Q .non H', rt := Q } (L2.start N [.ref p.1]) H) :
    FnE P w K mg base (k + 1) f fd x D z := by
  intro A outer s H args p Q hr hot hz hpin e0 hb hq
  obtain ⟨_, _, _, _, _, _, cdv, _, _, rfl, lk, hcd⟩ := F.ex
  have hsome : ∃ vs, p.2.data = .fields vs := let ⟨vs, h, _⟩ := hot.2; ⟨vs, h⟩
  have keepB : ∀ b o, base.get? b = some o → s.heap.get? b = some o := fun b o e => (e0.bs b o e).1
  have KX := e0.mod.kin.keeps keepB
  have lim := e0.mod.nolimit.keeps keepB
  have hpar := S.par x List.mem_cons_self
  refine codeAny_call_function hr.depth (KX _ _ lk) rfl S.co S.gen rfl (PySem.W.codeRec_of KX hcd) (hb _ _ _ _ ?_)
  refine wpAny_newFunctionEnv_cells S.kind (fun y hy => ?_) fun env he s1 ic => ?_
  · have ey : y = (x, .ref p.1) := by simpa using hy
    subst ey
    rcases hpar with h | h
    · exact .inl h
    · exact .inr ⟨h, PySem.W.cellsFrom_some _ _ _ (.inl h)⟩
  subst he
  refine ⟨lim.keeps ic.toInCall.keep, codeAny_func ?_⟩
  obtain ⟨t, ht, h2⟩ := body cdv A outer s H p Q hz hsome hq
  have I := inv_startH (CX := CX0) (E := E0) (vs := [.ref p.1]) S hpin e0 rfl (.cons rfl .nil) ic
  refine wpAny_mono (ht.run [] s1 _ H _ I h2) (fun fl s' r => ?_) (fun _ _ r => r)
  match fl, r with
  | .ret u, ⟨v, _, H', J, rv, q⟩ => exact ⟨v, H', J.os, J.bare, J.base, J.hok, rv, q⟩
  | .next, ⟨_, H', J, q⟩ => exact ⟨.non, H', J.os, J.bare, J.base, J.hok, rfl, q⟩
  | .brk, ⟨_, _, _, q⟩ => exact q.elim
  | .cont, ⟨_, _, _, q⟩ => exact q.elim
/-- the call: in the suite that holds the error at a, of the class cls -/
def tCallE (D : Addr) (z : Str) (a : Addr) (cls : Value) (d : Option Addr) (t : TA) : TE := fun σ H Q => t σ H fun vs H1 => vs = [.ref a] ∧ cls = .ref D ∧ d = none ∧ ∀ H', Same H1 H' → Q (.str z) H'
open L2H in
theorem pe_callE {X : Cx} {k : Nat} {f D : Addr} {fd : FuncData} {x y z : Str} {q pos : Pos} {e : Expr} {t : TA} {p : Addr × Obj} {cls : Value} {d : Option Addr} (F : FnE X.prog X.w X.K X.mg X.base k f fd y D z) (hr : RoomH k X.A) (hot : Hot1 X.A p) (hp : p ∈ X.pn) (hz : Zc cls d p.2)
    (hg : Gl X x) (hm : X.mg x = some (.ref f)) (hk : PySem.W.keepIn X.K (.ref f) = true) (hb : Binds X.K fd [y] []) (ha : PA X [e] t) (hdb : (x == ("__debug__" : Str)) = false := by decide) (he : starEach [e] X.env = (false, eval e X.env) :: starEach [] X.env := by rfl) (hpl : (backTo pos (starEach [] X.env)).any (·.1) = false := by rfl) :
    PE X (.Call (.Name x q) [e] [] pos) (tCallE D z p.1 cls d t) := by
  refine ⟨fun pins s σ H Q I h => wpAny_Call_Name_kw (ld_glob I hg hm ?_ hdb)⟩
  refine PySem.W.callWith_K (h₀ := X.base) I.ok.mod.kin hk (thn (ha.run pos pins s σ H _ I h) ?_) he hpl
  rintro us s1 ⟨vs, H1, I1, r, rfl, rfl, rfl, q⟩
  refine ⟨I1.kIn, ?_⟩
  match us, r with
  | [u], .cons ru .nil =>
    cases (show u = .ref p.1 from ru)
    have P1 := I1.pin p (List.mem_append_left pins hp)
    have hpin : PinOk X.stack H1 s1 p := ⟨P1.1, P1.2.1, fun m => (List.mem_cons.mp (I1.stkSub p.1 m)).elim P1.2.2.1 P1.2.2.2.1, P1.2.2.2.2⟩
    have bnd := hb s1 [.ref p.1] I1.kIn rfl
    refine wpAny_call (codeAny_mono (F X.A X.stack s1 H1 ⟨[.ref p.1], []⟩ p Q hr hot hz hpin I1.env0 bnd q) fun rs s' hq => ?_)
    match rs, hq with
    | .ok (.ret u), hq => exact I1.after hq
/-! ### which of the kinds -/

structure Kinds (K : PySem.W.Frag) (mg : Str → Option Value) (C : Nat → Addr) (CD : Addr) (j : Nat) : Prop where
  g0 : mg "NoNumber" = some (.ref (C 0))
  k0 : PySem.W.kitOne K (.ref (C j)) (.ref (C 0)) = some (decide (j = 0))
  g1 : mg "NoMany" = some (.ref (C 1))
  k1 : PySem.W.kitOne K (.ref (C j)) (.ref (C 1)) = some (decide (j = 1))
  g2 : mg "NoShade" = some (.ref (C 2))
  k2 : PySem.W.kitOne K (.ref (C j)) (.ref (C 2)) = some (decide (j = 2))
  g3 : mg "NoStuffs" = some (.ref (C 3))
  k3 : PySem.W.kitOne K (.ref (C j)) (.ref (C 3)) = some (decide (j = 3))
  g4 : mg "NoShelf" = some (.ref (C 4))
  k4 : PySem.W.kitOne K (.ref (C j)) (.ref (C 4)) = some (decide (j = 4))
  g5 : mg "NoCloths" = some (.ref (C 5))
  k5 : PySem.W.kitOne K (.ref (C j)) (.ref (C 5)) = some (decide (j = 5))
  g6 : mg "NoBook" = some (.ref (C 6))
  k6 : PySem.W.kitOne K (.ref (C j)) (.ref (C 6)) = some (decide (j = 6))
  g7 : mg "Fails" = some (.ref (C 7))
  k7 : PySem.W.kitOne K (.ref (C j)) (.ref (C 7)) = some (decide (j = 7))
  g8 : mg "NoHour" = some (.ref (C 8))
  k8 : PySem.W.kitOne K (.ref (C j)) (.ref (C 8)) = some (decide (j = 8))
  g9 : mg "NoName" = some (.ref (C 9))
  k9 : PySem.W.kitOne K (.ref (C j)) (.ref (C 9)) = some (decide (j = 9))
  g10 : mg "NoDeed" = some (.ref (C 10))
  k10 : PySem.W.kitOne K (.ref (C j)) (.ref (C 10)) = some (decide (j = 10))
  g11 : mg "NoBack" = some (.ref (C 11))
  k11 : PySem.W.kitOne K (.ref (C j)) (.ref (C 11)) = some (decide (j = 11))
  g12 : mg "NoMeasures" = some (.ref (C 12))
  k12 : PySem.W.kitOne K (.ref (C j)) (.ref (C 12)) = some (decide (j = 12))
  g13 : mg "NoStep" = some (.ref (C 13))
  k13 : PySem.W.kitOne K (.ref (C j)) (.ref (C 13)) = some (decide (j = 13))
  g14 : mg "TooLittle" = some (.ref (C 14))
  k14 : PySem.W.kitOne K (.ref (C j)) (.ref (C 14)) = some (decide (j = 14))
  g15 : mg "NoWeights" = some (.ref (C 15))
  k15 : PySem.W.kitOne K (.ref (C j)) (.ref (C 15)) = some (decide (j = 15))
  g16 : mg "NoPrices" = some (.ref (C 16))
  k16 : PySem.W.kitOne K (.ref (C j)) (.ref (C 16)) = some (decide (j = 16))
  g17 : mg "NoVat" = some (.ref (C 17))
  k17 : PySem.W.kitOne K (.ref (C j)) (.ref (C 17)) = some (decide (j = 17))
  g18 : mg "NoBrim" = some (.ref (C 18))
  k18 : PySem.W.kitOne K (.ref (C j)) (.ref (C 18)) = some (decide (j = 18))
  g19 : mg "NoRow" = some (.ref (C 19))
  k19 : PySem.W.kitOne K (.ref (C j)) (.ref (C 19)) = some (decide (j = 19))
  gD : mg "DyeError" = some (.ref CD)
  kD : PySem.W.kitOne K (.ref (C j)) (.ref CD) = some true
  gV : mg "ValueError" = none
  kV : PySem.W.kitOne K (.ref (C j)) (.type "ValueError") = some true
  ex : ExcC K (C j)
  isi : mg "isinstance" = none
def flagsOf (j : Nat) : List V := [.bl (decide (j = 0)), .bl (decide (j = 1)), .bl (decide (j = 2)), .bl (decide (j = 3)), .bl (decide (j = 4)), .bl (decide (j = 5)), .bl (decide (j = 6)), .bl (decide (j = 7)), .bl (decide (j = 8)), .bl (decide (j = 9)), .bl (decide (j = 10)), .bl (decide (j = 11)), .bl (decide (j = 12)), .bl (decide (j = 13)), .bl (decide (j = 14)), .bl (decide (j = 15)), .bl (decide (j = 16)), .bl (decide (j = 17)), .bl (decide (j = 18)), .bl (decide (j = 19))]
def wordsOf : List V := [.str "number", .str "many", .str "shade", .str "stuffs", .str "shelf", .str "cloths", .str "book", .str "fails", .str "hour", .str "name", .str "deed", .str "back", .str "measures", .str "step", .str "little", .str "weights", .str "prices", .str "vat", .str "brim", .str "row"]
def wordOf (j : Nat) : Str := (["number", "many", "shade", "stuffs", "shelf", "cloths", "book", "fails", "hour", "name", "deed", "back", "measures", "step", "little", "weights", "prices", "vat", "brim", "row"] : List Str).getD j ""
theorem grown {H I : Hp} {b l : Addr} {o u : HO} (s : Same H I) (nb : I b = none) (nl : upd I b o l = none) : Same H (upd (upd I b o) l u) ∧ upd (upd I b o) l u l = some u := ⟨(s.trans (same_new nb _)).trans (same_new nl _), upd_same⟩
theorem flags_one : ∀ j, j < 20 → (flagsOf j).countP (fun z => eqV z (.bl true)) = 1 := by decide +kernel
theorem flags_at : ∀ j, j < 20 → ∀ m, m < 20 → (flagsOf j)[m]? = some (.bl (decide (j = m))) := by decide +kernel
theorem words_at : ∀ j, j < 20 → atI wordsOf ((j : Nat) : Int) = some (.str (wordOf j)) := by decide +kernel

abbrev sKind : Stmt := top 37
theorem scKind : FnScope ["_law_e", "_law_flags", "_law_words"] ["_law_e"] (defScope sKind) := ⟨rfl, rfl, rfl, by decide +kernel, rfl, by decide +kernel, by decide +kernel⟩
section
variable {P : Program} {w : World} {K : PySem.W.Frag} {mg : Str → Option Value} {base : Heap} {f CD : Addr} {fd : FuncData} {C : Nat → Addr} {j : Nat}
theorem ok_kind (F : Fun K "_law_kind" "_law_kind" sKind f fd) (T : Kinds K mg C CD j) (hj : j < 20) : FnE P w K mg base 1 f fd "_law_e" (C j) (wordOf j) := by
  refine fnE_of (k := 0) F scKind ?_
  intro cdv A outer s H p Q hz hf hq
  refine ⟨_, (pss_cons (ps_set (i := 1) scKind.nd rfl (.inl rfl) (pe_lst (pa_cons (pe_callB (call_pinned T.ex List.mem_cons_self hz hf) rfl T.isi (by decide +kernel) (pa_cons (pv 0) (pa_cons (pe_glob (v := .ref (C 0)) rfl T.g0 rfl) pa_nil))) (pa_cons (pe_callB (call_pinned T.ex List.mem_cons_self hz hf) rfl T.isi (by decide +kernel) (pa_cons (pv 0) (pa_cons (pe_glob (v := .ref (C 1)) rfl T.g1 rfl) pa_nil))) (pa_cons (pe_callB (call_pinned T.ex List.mem_cons_self hz hf) rfl T.isi (by decide +kernel) (pa_cons (pv 0) (pa_cons (pe_glob (v := .ref (C 2)) rfl T.g2 rfl) pa_nil))) (pa_cons (pe_callB (call_pinned T.ex List.mem_cons_self hz hf) rfl T.isi (by decide +kernel) (pa_cons (pv 0) (pa_cons (pe_glob (v := .ref (C 3)) rfl T.g3 rfl) pa_nil))) pa_nil))))))
    (pss_cons (ps_set (i := 1) scKind.nd rfl (.inl rfl) (pe_op op_cat (pv 1) (pe_lst (pa_cons (pe_callB (call_pinned T.ex List.mem_cons_self hz hf) rfl T.isi (by decide +kernel) (pa_cons (pv 0) (pa_cons (pe_glob (v := .ref (C 4)) rfl T.g4 rfl) pa_nil))) (pa_cons (pe_callB (call_pinned T.ex List.mem_cons_self hz hf) rfl T.isi (by decide +kernel) (pa_cons (pv 0) (pa_cons (pe_glob (v := .ref (C 5)) rfl T.g5 rfl) pa_nil))) (pa_cons (pe_callB (call_pinned T.ex List.mem_cons_self hz hf) rfl T.isi (by decide +kernel) (pa_cons (pv 0) (pa_cons (pe_glob (v := .ref (C 6)) rfl T.g6 rfl) pa_nil))) (pa_cons (pe_callB (call_pinned T.ex List.mem_cons_self hz hf) rfl T.isi (by decide +kernel) (pa_cons (pv 0) (pa_cons (pe_glob (v := .ref (C 7)) rfl T.g7 rfl) pa_nil))) pa_nil)))))))
    (pss_cons (ps_set (i := 1) scKind.nd rfl (.inl rfl) (pe_op op_cat (pv 1) (pe_lst (pa_cons (pe_callB (call_pinned T.ex List.mem_cons_self hz hf) rfl T.isi (by decide +kernel) (pa_cons (pv 0) (pa_cons (pe_glob (v := .ref (C 8)) rfl T.g8 rfl) pa_nil))) (pa_cons (pe_callB (call_pinned T.ex List.mem_cons_self hz hf) rfl T.isi (by decide +kernel) (pa_cons (pv 0) (pa_cons (pe_glob (v := .ref (C 9)) rfl T.g9 rfl) pa_nil))) (pa_cons (pe_callB (call_pinned T.ex List.mem_cons_self hz hf) rfl T.isi (by decide +kernel) (pa_cons (pv 0) (pa_cons (pe_glob (v := .ref (C 10)) rfl T.g10 rfl) pa_nil))) (pa_cons (pe_callB (call_pinned T.ex List.mem_cons_self hz hf) rfl T.isi (by decide +kernel) (pa_cons (pv 0) (pa_cons (pe_glob (v := .ref (C 11)) rfl T.g11 rfl) pa_nil))) pa_nil)))))))
    (pss_cons (ps_set (i := 1) scKind.nd rfl (.inl rfl) (pe_op op_cat (pv 1) (pe_lst (pa_cons (pe_callB (call_pinned T.ex List.mem_cons_self hz hf) rfl T.isi (by decide +kernel) (pa_cons (pv 0) (pa_cons (pe_glob (v := .ref (C 12)) rfl T.g12 rfl) pa_nil))) (pa_cons (pe_callB (call_pinned T.ex List.mem_cons_self hz hf) rfl T.isi (by decide +kernel) (pa_cons (pv 0) (pa_cons (pe_glob (v := .ref (C 13)) rfl T.g13 rfl) pa_nil))) (pa_cons (pe_callB (call_pinned T.ex List.mem_cons_self hz hf) rfl T.isi (by decide +kernel) (pa_cons (pv 0) (pa_cons (pe_glob (v := .ref (C 14)) rfl T.g14 rfl) pa_nil))) pa_nil))))))
    (pss_cons (ps_set (i := 1) scKind.nd rfl (.inl rfl) (pe_op op_cat (pv 1) (pe_lst (pa_cons (pe_callB (call_pinned T.ex List.mem_cons_self hz hf) rfl T.isi (by decide +kernel) (pa_cons (pv 0) (pa_cons (pe_glob (v := .ref (C 15)) rfl T.g15 rfl) pa_nil))) (pa_cons (pe_callB (call_pinned T.ex List.mem_cons_self hz hf) rfl T.isi (by decide +kernel) (pa_cons (pv 0) (pa_cons (pe_glob (v := .ref (C 16)) rfl T.g16 rfl) pa_nil))) (pa_cons (pe_callB (call_pinned T.ex List.mem_cons_self hz hf) rfl T.isi (by decide +kernel) (pa_cons (pv 0) (pa_cons (pe_glob (v := .ref (C 17)) rfl T.g17 rfl) pa_nil))) (pa_cons (pe_callB (call_pinned T.ex List.mem_cons_self hz hf) rfl T.isi (by decide +kernel) (pa_cons (pv 0) (pa_cons (pe_glob (v := .ref (C 18)) rfl T.g18 rfl) pa_nil))) pa_nil)))))))
    (pss_cons (ps_set (i := 1) scKind.nd rfl (.inl rfl) (pe_op op_cat (pv 1) (pe_lst (pa_cons (pe_callB (call_pinned T.ex List.mem_cons_self hz hf) rfl T.isi (by decide +kernel) (pa_cons (pv 0) (pa_cons (pe_glob (v := .ref (C 19)) rfl T.g19 rfl) pa_nil))) pa_nil))))
    (pss_cons (ps_if (PW.pt (pw_or (pt_not (pt_val (pe_callB (call_pinned T.ex List.mem_cons_self hz hf) rfl T.isi (by decide +kernel) (pa_cons (pv 0) (pa_cons (pe_glob (v := .ref CD) rfl T.gD rfl) pa_nil))))) (pw_or (pt_not (pt_val (pe_callB (call_pinned T.ex List.mem_cons_self hz hf) rfl T.isi (by decide +kernel) (pa_cons (pv 0) (pa_cons (pe_bltn (v := .ty "ValueError") rfl T.gV (by decide +kernel) rfl) pa_nil))))) (pw_or1 (pt_cmpR op_ne (pe_bm PySem.F.plainAttrs_list PySem.F.slot_list_count PySem.F.type_list_count mt_cntF (pv 1) (pa_cons pe_bl pa_nil)) pe_int (nomark _)))))) (pss_one (ps_ret pe_str)) pss_nil)
    (pss_cons (ps_set (i := 2) scKind.nd rfl (.inl rfl) (pe_lst (pa_cons pe_str (pa_cons pe_str (pa_cons pe_str (pa_cons pe_str (pa_cons pe_str (pa_cons pe_str (pa_cons pe_str (pa_cons pe_str (pa_cons pe_str (pa_cons pe_str (pa_cons pe_str (pa_cons pe_str pa_nil))))))))))))))
    (pss_cons (ps_set (i := 2) scKind.nd rfl (.inl rfl) (pe_op op_cat (pv 2) (pe_lst (pa_cons pe_str (pa_cons pe_str (pa_cons pe_str (pa_cons pe_str (pa_cons pe_str (pa_cons pe_str (pa_cons pe_str (pa_cons pe_str pa_nil)))))))))))
    (pss_one (ps_ret (pe_ix ix_list (pv 2) (pe_bm PySem.F.plainAttrs_list PySem.F.slot_list_index PySem.F.type_list_index mt_index (pv 1) (pa_cons pe_bl pa_nil)) (fun _ _ => rfl))))))))))))), ?_⟩
  refine ⟨_, rfl, _, _, _, rfl, (fun _ r => r), T.k0, _, rfl, _, _, _, rfl, (fun _ r => r), T.k1, _, rfl, _, _, _, rfl, (fun _ r => r), T.k2, _, rfl, _, _, _, rfl, (fun _ r => r), T.k3, (by show 4 ≤ sizeLine; decide), fun l0 n0 => ?_⟩
  have s0 := same_new n0 (.lst [.bl (decide (j = 0)), .bl (decide (j = 1)), .bl (decide (j = 2)), .bl (decide (j = 3))])
  have e0 : (upd H l0 (.lst [.bl (decide (j = 0)), .bl (decide (j = 1)), .bl (decide (j = 2)), .bl (decide (j = 3))])) l0 = some _ := upd_same
  refine ⟨_, rfl, _, rfl, _, _, _, rfl, (fun _ r => r), T.k4, _, rfl, _, _, _, rfl, (fun _ r => r), T.k5, _, rfl, _, _, _, rfl, (fun _ r => r), T.k6, _, rfl, _, _, _, rfl, (fun _ r => r), T.k7, (by show 4 ≤ sizeLine; decide), fun b1 nb1 => ?_⟩
  refine ⟨l0, b1, _, _, rfl, rfl, same_new nb1 _ _ _ e0, upd_same, (by show 8 ≤ sizeLine; decide), fun l1 n1 => ?_⟩
  have z1 := grown (u := .lst [.bl (decide (j = 0)), .bl (decide (j = 1)), .bl (decide (j = 2)), .bl (decide (j = 3)), .bl (decide (j = 4)), .bl (decide (j = 5)), .bl (decide (j = 6)), .bl (decide (j = 7))]) s0 nb1 n1
  have s1 := z1.1
  have e1 := z1.2
  refine ⟨_, rfl, _, rfl, _, _, _, rfl, (fun _ r => r), T.k8, _, rfl, _, _, _, rfl, (fun _ r => r), T.k9, _, rfl, _, _, _, rfl, (fun _ r => r), T.k10, _, rfl, _, _, _, rfl, (fun _ r => r), T.k11, (by show 4 ≤ sizeLine; decide), fun b2 nb2 => ?_⟩
  refine ⟨l1, b2, _, _, rfl, rfl, same_new nb2 _ _ _ e1, upd_same, (by show 12 ≤ sizeLine; decide), fun l2 n2 => ?_⟩
  have z2 := grown (u := .lst [.bl (decide (j = 0)), .bl (decide (j = 1)), .bl (decide (j = 2)), .bl (decide (j = 3)), .bl (decide (j = 4)), .bl (decide (j = 5)), .bl (decide (j = 6)), .bl (decide (j = 7)), .bl (decide (j = 8)), .bl (decide (j = 9)), .bl (decide (j = 10)), .bl (decide (j = 11))]) s1 nb2 n2
  have s2 := z2.1
  have e2 := z2.2
  refine ⟨_, rfl, _, rfl, _, _, _, rfl, (fun _ r => r), T.k12, _, rfl, _, _, _, rfl, (fun _ r => r), T.k13, _, rfl, _, _, _, rfl, (fun _ r => r), T.k14, (by show 3 ≤ sizeLine; decide), fun b3 nb3 => ?_⟩
  refine ⟨l2, b3, _, _, rfl, rfl, same_new nb3 _ _ _ e2, upd_same, (by show 15 ≤ sizeLine; decide), fun l3 n3 => ?_⟩
  have z3 := grown (u := .lst [.bl (decide (j = 0)), .bl (decide (j = 1)), .bl (decide (j = 2)), .bl (decide (j = 3)), .bl (decide (j = 4)), .bl (decide (j = 5)), .bl (decide (j = 6)), .bl (decide (j = 7)), .bl (decide (j = 8)), .bl (decide (j = 9)), .bl (decide (j = 10)), .bl (decide (j = 11)), .bl (decide (j = 12)), .bl (decide (j = 13)), .bl (decide (j = 14))]) s2 nb3 n3
  have s3 := z3.1
  have e3 := z3.2
  refine ⟨_, rfl, _, rfl, _, _, _, rfl, (fun _ r => r), T.k15, _, rfl, _, _, _, rfl, (fun _ r => r), T.k16, _, rfl, _, _, _, rfl, (fun _ r => r), T.k17, _, rfl, _, _, _, rfl, (fun _ r => r), T.k18, (by show 4 ≤ sizeLine; decide), fun b4 nb4 => ?_⟩
  refine ⟨l3, b4, _, _, rfl, rfl, same_new nb4 _ _ _ e3, upd_same, (by show 19 ≤ sizeLine; decide), fun l4 n4 => ?_⟩
  have z4 := grown (u := .lst [.bl (decide (j = 0)), .bl (decide (j = 1)), .bl (decide (j = 2)), .bl (decide (j = 3)), .bl (decide (j = 4)), .bl (decide (j = 5)), .bl (decide (j = 6)), .bl (decide (j = 7)), .bl (decide (j = 8)), .bl (decide (j = 9)), .bl (decide (j = 10)), .bl (decide (j = 11)), .bl (decide (j = 12)), .bl (decide (j = 13)), .bl (decide (j = 14)), .bl (decide (j = 15)), .bl (decide (j = 16)), .bl (decide (j = 17)), .bl (decide (j = 18))]) s3 nb4 n4
  have s4 := z4.1
  have e4 := z4.2
  refine ⟨_, rfl, _, rfl, _, _, _, rfl, (fun _ r => r), T.k19, (by show 1 ≤ sizeLine; decide), fun b5 nb5 => ?_⟩
  refine ⟨l4, b5, _, _, rfl, rfl, same_new nb5 _ _ _ e4, upd_same, (by show 20 ≤ sizeLine; decide), fun l5 n5 => ?_⟩
  have z5 := grown (u := .lst [.bl (decide (j = 0)), .bl (decide (j = 1)), .bl (decide (j = 2)), .bl (decide (j = 3)), .bl (decide (j = 4)), .bl (decide (j = 5)), .bl (decide (j = 6)), .bl (decide (j = 7)), .bl (decide (j = 8)), .bl (decide (j = 9)), .bl (decide (j = 10)), .bl (decide (j = 11)), .bl (decide (j = 12)), .bl (decide (j = 13)), .bl (decide (j = 14)), .bl (decide (j = 15)), .bl (decide (j = 16)), .bl (decide (j = 17)), .bl (decide (j = 18)), .bl (decide (j = 19))]) s4 nb5 n5
  have s5 := z5.1
  have e5 := z5.2
  refine ⟨_, rfl, _, _, _, rfl, (fun _ r => r), T.kD, _, rfl, iteF ?_⟩
  refine ⟨_, rfl, _, _, _, rfl, (fun _ r => r), T.kV, _, rfl, iteF ?_⟩
  refine ⟨_, rfl, .inl ⟨rfl, _, SqL.of e5⟩, l5, flagsOf j, .bl true, rfl, rfl, SqL.of e5, rfl, rfl, rfl, _, rfl, ?_⟩
  refine iteNS (congrArg V.int (congrArg Nat.cast (flags_one j hj))) ?_
  refine ⟨(by show 12 ≤ sizeLine; decide), fun w0 m0 => ?_⟩
  refine ⟨_, rfl, (by show 8 ≤ sizeLine; decide), fun w1 m1 => ?_⟩
  refine ⟨w0, w1, _, _, rfl, rfl, same_new m1 _ _ _ upd_same, upd_same, (by show 20 ≤ sizeLine; decide), fun w2 m2 => ?_⟩
  have e6 := same_new m2 (.lst wordsOf) _ _ (same_new m1 _ _ _ (same_new m0 _ _ _ e5))
  refine ⟨_, rfl, _, rfl, .inl ⟨rfl, _, SqL.of e6⟩, l5, flagsOf j, .bl true, j, _, rfl, rfl, SqL.of e6, rfl, rfl, flags_at j hj j hj, (by rw [decide_eq_true rfl]; rfl), (fun m z' hm hz' => ?_), ?_⟩
  · rw [flags_at j hj m (by omega)] at hz'
    cases hz'
    rw [decide_eq_false (show ¬ j = m by omega)]
    rfl
  refine ⟨w2, _, _, _, rfl, rfl, SqL.of (xs := wordsOf) upd_same, words_at j hj, ?_⟩
  exact hq _ (s5.trans ((same_new m0 _).trans ((same_new m1 _).trans (same_new m2 _))))
end
end Vm

set_option Elab.async false
set_option linter.all false
set_option maxRecDepth 100000
set_option maxHeartbeats 8000000
namespace Vm
open PySem PySem.Spec PyProof.Rows L2
theorem room_suite {A : Around} {v : Option Value} {k : Nat} (r : Room (k + 1) A) : L2H.RoomH 1 (A.mark v) :=
  ⟨by have := r.dp; show A.depth + 3 * 1 + 5 < _; omega, by have := r.un; show A.units + 16 * 1 + 200 < _; omega⟩
/-- a def of the text where it stands, with what its callers want -/
structure At (K : PySem.W.Frag) (mg : Str → Option Value) (x : Str) (ps : List Str) (f : Addr) (fd : FuncData) : Prop where
  b : Binds K fd ps []
  k : PySem.W.keepIn K (.ref f) = true
  m : mg x = some (.ref f)
section
variable {P : Program} {w : World} {K : PySem.W.Frag} {mg : Str → Option Value} {base : Heap} {f CD CN fF fO fK fP fM fX fB fA fD fS : Addr} {fd dF dO dK dP dM dX dB dA dD dS : FuncData}
/-! ### asked, refusals told by their word -/
abbrev sAsked : Stmt := top 39
theorem scAsked : FnScope ["_law_word", "_law_a", "_law_b", "_law_told", "_law_e"] ["_law_word", "_law_a", "_law_b"] (defScope sAsked) := ⟨rfl, rfl, rfl, by decide +kernel, rfl, by decide +kernel, by decide +kernel⟩
def spAsked (K : PySem.W.Frag) : Sp := fun vs H Q _ =>
  (∃ x y : Int, vs = [.str "fraction", .int x, .int y] ∧ Bits 4000 x ∧ Bits 4000 y ∧ (y = 0 → ∀ H', Same H H' → Q (.str "number") H') ∧ (y ≠ 0 → ∀ p H', Same H H' → H p = none → H' p = some (tupF (frM x y)) → Q (.ref p) H')) ∨
  (∃ (p r : Addr) (a b : Int × Int), vs = [.str "over", .ref p, .ref r] ∧ Fr K H p a ∧ Fr K H r b ∧ Sized 1900 a ∧ Sized 1900 b ∧ (b.1 = 0 → ∀ H', Same H H' → Q (.str "number") H') ∧ (b.1 ≠ 0 → ∀ t H', Same H H' → H t = none → H' t = some (tupF (overM a b)) → Q (.ref t) H'))
theorem not_word : decide (V.str "over" = V.str "fraction") = false := by decide +kernel
theorem ok_asked (F : Fun K "_law_asked" "_law_asked" sAsked f fd) (gD : mg "DyeError" = some (.ref CD)) (xm : PySem.W.exmOne K (.ref CN) (.ref CD) = some true)
    (GF : FnOk P w K mg base (L2N.CX P w) 2 fF dF ["top", "bottom"] (spFrac CN)) (aF : At K mg "fraction" ["top", "bottom"] fF dF)
    (GO : FnOk P w K mg base (L2N.CX P w) 3 fO dO ["a", "b"] (spOver K CN)) (aO : At K mg "over" ["a", "b"] fO dO)
    (GK : FnE P w K mg base 1 fK dK "_law_e" CN "number") (aK : At K mg "_law_kind" ["_law_e"] fK dK) :
    FnOk P w K mg base CX0 4 f fd ["_law_word", "_law_a", "_law_b"] (spAsked K) := by
  refine F.ok scAsked (fun vs H Q E h => ?_) (fun cdv A outer s H vs Q E hr h => ?_)
  · rcases h with ⟨x, y, rfl, _⟩ | ⟨p, r, a, b, rfl, _⟩
    · rfl
    · rfl
  refine ⟨_, pss_cons (ps_set (i := 3) scAsked.nd rfl (.inl rfl) pe_non)
    (pss_cons (L2N.ps_try_as (i := 4) (Wout := fun _ _ _ _ => False)
        (tb := fun W => tIfS (tTest (tOp rEq (tVar 0) (tC (.str "fraction")))) (tAsg (tCallS (spFrac CN) (WE W) (tCons (tVar 1) (tCons (tVar 2) tNil))) (gName 3)) (tAsg (tCallS (spOver K CN) (WE W) (tCons (tVar 1) (tCons (tVar 2) tNil))) (gName 3)))
        (ts := fun a cls d => tAsg (tCallE CN "number" a cls d (tCons (tVar 4) tNil)) (gName 3))
        rfl rfl scAsked.nd rfl rfl ⟨rfl, by decide, .inl gD⟩ takesN
        (fun W pn xe tk _ => pss_one (ps_if (pt_cmpR op_eq (pv 0) pe_str (nomark _))
          (pss_one (ps_set (i := 3) scAsked.nd rfl (.inl rfl) (by exact (pe_callS GF (hr.mono (by decide)) rfl aF.m aF.k aF.b (fun σ => L2N.passAt tk σ) (by exact (pa_cons (pv 1) (pa_cons (pv 2) pa_nil)))))))
          (pss_one (ps_set (i := 3) scAsked.nd rfl (.inl rfl) (by exact (pe_callS GO hr rfl aO.m aO.k aO.b (fun σ => L2N.passAt tk σ) (by exact (pa_cons (pv 1) (pa_cons (pv 2) pa_nil)))))))))
        (fun a oe cls d pn hz hf => pss_one (ps_set (i := 3) scAsked.nd rfl (.inl rfl) (by exact (pe_callE (p := (a, oe)) GK (room_suite hr) ⟨rfl, let ⟨vs, h⟩ := hf; ⟨vs, h, hz.2.2 vs h⟩⟩ List.mem_cons_self hz.zc rfl aK.m aK.k aK.b (by exact (pa_cons (pv 4) pa_nil)))))))
    (pss_one (ps_ret (pv 3)))), ?_⟩
  rcases h with ⟨x, y, rfl, hx, hy, q0, q⟩ | ⟨p, r, a, b, rfl, hp, hq, sa, sb, q0, q⟩
  · refine ⟨_, rfl, rfl, _, rfl, ?_⟩
    refine ite2 (fun _ => ?_) (fun c => (c (decide_eq_true rfl)).elim)
    refine ⟨_, rfl, _, rfl, x, y, rfl, hx, hy, fun e => ?_, fun e t H1 s1 n1 e1 => ?_⟩
    · refine ⟨true, xm, fun _ a ha => ?_, fun z => nomatch z⟩
      exact ⟨_, rfl, rfl, rfl, rfl, fun H1 s1 => ⟨_, rfl, q0 e H1 s1⟩⟩
    · exact ⟨_, rfl, q e t H1 s1 n1 e1⟩
  · refine ⟨_, rfl, rfl, _, rfl, ?_⟩
    refine ite2 (fun c => ?_) (fun _ => ?_)
    · exact (Bool.false_ne_true (not_word.symm.trans c)).elim
    refine ⟨_, rfl, _, rfl, p, r, a, b, rfl, hp, hq, sa, sb, fun e => ?_, fun e t H1 s1 n1 e1 => ?_⟩
    · refine ⟨true, xm, fun _ a ha => ?_, fun z => nomatch z⟩
      exact ⟨_, rfl, rfl, rfl, rfl, fun H1 s1 => ⟨_, rfl, q0 e H1 s1⟩⟩
    · exact ⟨_, rfl, q e t H1 s1 n1 e1⟩
/-! ### both, one way about -/
abbrev sBoth : Stmt := top 41
theorem scBoth : FnScope ["_law_a", "_law_b", "_law_bottom", "_law_one", "_law_other"] ["_law_a", "_law_b"] (defScope sBoth) := ⟨rfl, rfl, rfl, by decide +kernel, rfl, by decide +kernel, by decide +kernel⟩
def spBoth (K : PySem.W.Frag) : Sp := fun vs H Q _ => ∃ (p r : Addr) (a b : Int × Int), vs = [.ref p, .ref r] ∧ Fr K H p a ∧ Fr K H r b ∧ Sized 1900 a ∧ Sized 1900 b ∧ ∀ H', Same H H' → Q (.bl true) H'
theorem Fr.same {H H' : Hp} {p : Addr} {z : Int × Int} (h : Fr K H p z) (s : Same H H') : Fr K H' p z := (Nl.of_same s).sqT h
theorem ok_both (F : Fun K "_law_both" "_law_both" sBoth f fd)
    (GP : FnOk P w K mg base CX0 3 fP dP ["a", "b"] (spBin K plusM)) (aP : At K mg "plus" ["a", "b"] fP dP)
    (GM : FnOk P w K mg base CX0 3 fM dM ["a", "b"] (spBin K minusM)) (aM : At K mg "minus" ["a", "b"] fM dM)
    (GX : FnOk P w K mg base CX0 3 fX dX ["a", "b"] (spBin K timesM)) (aX : At K mg "times" ["a", "b"] fX dX)
    (GB : FnOk P w K mg base CX0 1 fB dB ["a", "b"] (spBelow K)) (aB : At K mg "below" ["a", "b"] fB dB)
    (GA : FnOk P w K mg base CX0 4 fA dA ["_law_word", "_law_a", "_law_b"] (spAsked K)) (aA : At K mg "_law_asked" ["_law_word", "_law_a", "_law_b"] fA dA)
    (GD : FnOk P w K mg base CX0 2 fD dD ["_law_top", "_law_bottom"] spDue) (aD : At K mg "_law_due" ["_law_top", "_law_bottom"] fD dD)
    (GS : FnOk P w K mg base CX0 2 fS dS ["_law_told", "_law_due_here"] (spSame K 2)) (aS : At K mg "_law_same" ["_law_told", "_law_due_here"] fS dS) :
    FnOk P w K mg base CX0 5 f fd ["_law_a", "_law_b"] (spBoth K) := by
  refine F.ok scBoth (fun vs H Q E h => ?_) (fun cdv A outer s H vs Q E hr h => ?_)
  · obtain ⟨p, r, a, b, rfl, _⟩ := h
    rfl
  obtain ⟨p, r, a, b, rfl, hp, hq, sa, sb, q⟩ := h
  have h2 := hr.mono (show 2 ≤ 4 by decide)
  have h3 := hr.mono (show 3 ≤ 4 by decide)
  have h1 := hr.mono (show 1 ≤ 4 by decide)
  refine ⟨_, pss_cons (ps_set (i := 2) scBoth.nd rfl (.inl rfl) (pe_op op_mulW (pe_ix ix_tup (pv 0) pe_int (fun _ _ => rfl)) (pe_ix ix_tup (pv 1) pe_int (fun _ _ => rfl))))
    (pss_cons (ps_par (i := 3) (j := 4) (by rfl) scBoth.nd rfl rfl (by decide) rfl rfl (pa_cons (pe_op op_mulW (pe_ix ix_tup (pv 0) pe_int (fun _ _ => rfl)) (pe_ix ix_tup (pv 1) pe_int (fun _ _ => rfl))) (pa_cons (pe_op op_mulW (pe_ix ix_tup (pv 1) pe_int (fun _ _ => rfl)) (pe_ix ix_tup (pv 0) pe_int (fun _ _ => rfl))) pa_nil)) (by rfl))
    (pss_cons (ps_if (pt_not (pt_val (pe_call GS h2 rfl aS.m aS.k aS.b .nil pass0 (pa_cons (pe_call GP h3 rfl aP.m aP.k aP.b .nil pass0 (pa_cons (pv 0) (pa_cons (pv 1) pa_nil))) (pa_cons (pe_call GD h2 rfl aD.m aD.k aD.b .nil pass0 (pa_cons (pe_op op_add (pv 3) (pv 4)) (pa_cons (pv 2) pa_nil))) pa_nil))))) (pss_one (ps_ret pe_bl)) pss_nil)
    (pss_cons (ps_if (pt_not (pt_val (pe_call GS h2 rfl aS.m aS.k aS.b .nil pass0 (pa_cons (pe_call GM h3 rfl aM.m aM.k aM.b .nil pass0 (pa_cons (pv 0) (pa_cons (pv 1) pa_nil))) (pa_cons (pe_call GD h2 rfl aD.m aD.k aD.b .nil pass0 (pa_cons (pe_op op_sub (pv 3) (pv 4)) (pa_cons (pv 2) pa_nil))) pa_nil))))) (pss_one (ps_ret pe_bl)) pss_nil)
    (pss_cons (ps_if (pt_not (pt_val (pe_call GS h2 rfl aS.m aS.k aS.b .nil pass0 (pa_cons (pe_call GX h3 rfl aX.m aX.k aX.b .nil pass0 (pa_cons (pv 0) (pa_cons (pv 1) pa_nil))) (pa_cons (pe_call GD h2 rfl aD.m aD.k aD.b .nil pass0 (pa_cons (pe_op op_mulW (pe_ix ix_tup (pv 0) pe_int (fun _ _ => rfl)) (pe_ix ix_tup (pv 1) pe_int (fun _ _ => rfl))) (pa_cons (pv 2) pa_nil))) pa_nil))))) (pss_one (ps_ret pe_bl)) pss_nil)
    (pss_cons (ps_if (pt_not (pt_val (pe_call GS h2 rfl aS.m aS.k aS.b .nil pass0 (pa_cons (pe_call GA hr rfl aA.m aA.k aA.b .nil pass0 (pa_cons pe_str (pa_cons (pv 0) (pa_cons (pv 1) pa_nil)))) (pa_cons (pe_call GD h2 rfl aD.m aD.k aD.b .nil pass0 (pa_cons (pv 3) (pa_cons (pe_op op_mulW (pe_ix ix_tup (pv 0) pe_int (fun _ _ => rfl)) (pe_ix ix_tup (pv 1) pe_int (fun _ _ => rfl))) pa_nil))) pa_nil))))) (pss_one (ps_ret pe_bl)) pss_nil)
    (pss_one (ps_ret (pe_call GS h2 rfl aS.m aS.k aS.b .nil pass0 (pa_cons (pe_call GB h1 rfl aB.m aB.k aB.b .nil pass0 (pa_cons (pv 0) (pa_cons (pv 1) pa_nil))) (pa_cons (pe_cmpR op_lt (pv 3) (pv 4) (nomark _)) pa_nil)))))))))), ?_⟩
  have yb : Bits 8000 (a.2 * b.2) := (sa.b.mul sb.b).mono (by decide)
  have yn := bot_ne sa sb
  refine ⟨_, rfl, p, _, _, _, rfl, rfl, hp, rfl, _, rfl, r, _, _, _, rfl, rfl, hq, rfl, _, _, rfl, rfl, mulOk sa.b sb.b, ?_⟩
  refine ⟨_, rfl, p, _, _, _, rfl, rfl, hp, rfl, _, rfl, r, _, _, _, rfl, rfl, hq, rfl, _, _, rfl, rfl, mulOk sa.t sb.b, ?_⟩
  refine ⟨_, rfl, r, _, _, _, rfl, rfl, hq, rfl, _, rfl, p, _, _, _, rfl, rfl, hp, rfl, _, _, rfl, rfl, mulOk sb.t sa.b, _, _, rfl, ?_⟩
  -- plus
  refine ⟨_, rfl, _, rfl, p, r, a, b, rfl, hp, hq, sa, sb, fun t1 H1 s1 n1 e1 => ?_⟩
  refine ⟨_, rfl, _, rfl, _, _, rfl, rfl, _, rfl, _, _, rfl, yb, fun z => (yn z).elim, fun _ t2 H2 s2 n2 e2 => ?_⟩
  refine ⟨_, _, rfl, alike_frac (Fr.of (s2 _ _ e1)) (Fr.of e2), fun H3 s3 => ⟨_, rfl, iteF ?_⟩⟩
  have k3 := s1.trans (s2.trans s3)
  clear e1 e2 n1 n2
  -- minus
  refine ⟨_, rfl, _, rfl, p, r, a, b, rfl, hp.same k3, hq.same k3, sa, sb, fun t1 H4 s4 n1 e1 => ?_⟩
  refine ⟨_, rfl, _, rfl, _, _, rfl, rfl, _, rfl, _, _, rfl, yb, fun z => (yn z).elim, fun _ t2 H5 s5 n2 e2 => ?_⟩
  refine ⟨_, _, rfl, alike_frac (Fr.of (s5 _ _ e1)) (Fr.of e2), fun H6 s6 => ⟨_, rfl, iteF ?_⟩⟩
  have k6 := k3.trans (s4.trans (s5.trans s6))
  clear e1 e2 n1 n2
  -- times
  refine ⟨_, rfl, _, rfl, p, r, a, b, rfl, hp.same k6, hq.same k6, sa, sb, fun t1 H7 s7 n1 e1 => ?_⟩
  have k7 := k6.trans s7
  refine ⟨_, rfl, p, _, _, _, rfl, rfl, hp.same k7, rfl, _, rfl, r, _, _, _, rfl, rfl, hq.same k7, rfl, _, _, rfl, rfl, mulOk sa.t sb.t, _, rfl, _, _, rfl, yb, fun z => (yn z).elim, fun _ t2 H8 s8 n2 e2 => ?_⟩
  refine ⟨_, _, rfl, alike_frac (Fr.of (s8 _ _ e1)) (Fr.of e2), fun H9 s9 => ⟨_, rfl, iteF ?_⟩⟩
  have k9 := k7.trans (s8.trans s9)
  clear e1 e2 n1 n2
  -- below, the end
  have last : ∀ Ha : Hp, Same H Ha → tRet (tCall (spSame K 2) [] E0 (tCons (tCall (spBelow K) [] E0 (tCons (tVar 0) (tCons (tVar 1) tNil))) (tCons (tOp (rI0 fun i j => .bl (decide (i < j))) (tVar 3) (tVar 4)) tNil))) { nx := fun _ H' => Q .non H', rt := Q }
      [some (.ref p), some (.ref r), some (.int (a.2 * b.2)), some (.int (a.1 * b.2)), some (.int (b.1 * a.2))] Ha := fun Ha ka => by
    refine ⟨_, rfl, _, rfl, p, r, a, b, rfl, hp.same ka, hq.same ka, sa, sb, ?_⟩
    refine ⟨_, rfl, _, rfl, _, _, rfl, rfl, ?_⟩
    exact ⟨_, _, rfl, .inl ⟨rfl, rfl⟩, fun H' s' => q H' (ka.trans s')⟩
  -- over
  have ob : Bits 8000 (a.2 * b.1) := (sa.b.mul sb.t).mono (by decide)
  have pa := sa.p
  refine ⟨_, rfl, _, rfl, .inr ⟨p, r, a, b, rfl, hp.same k9, hq.same k9, sa, sb, fun e Ha sA => ?_, fun e t1 Ha sA n1 e1 => ?_⟩⟩
  · have kA := k9.trans sA
    refine ⟨_, rfl, _, rfl, p, _, _, _, rfl, rfl, hp.same kA, rfl, _, rfl, r, _, _, _, rfl, rfl, hq.same kA, rfl, _, _, rfl, rfl, mulOk sa.b sb.t, _, _, rfl, ob, fun _ => ?_, fun z => (z (by show a.2 * b.1 = 0; rw [e, Int.mul_zero])).elim⟩
    exact ⟨_, _, rfl, .inl ⟨rfl, rfl⟩, fun H' s' => ⟨_, rfl, iteF (last H' (kA.trans s'))⟩⟩
  · have kA := k9.trans sA
    refine ⟨_, rfl, _, rfl, p, _, _, _, rfl, rfl, hp.same kA, rfl, _, rfl, r, _, _, _, rfl, rfl, hq.same kA, rfl, _, _, rfl, rfl, mulOk sa.b sb.t, _, _, rfl, ob, fun z => ?_, fun _ t2 H8 s8 n2 e2 => ?_⟩
    · rcases Int.mul_eq_zero.mp z with y | y
      · omega
      · exact (e y).elim
    · exact ⟨_, _, rfl, alike_frac (Fr.of (s8 _ _ e1)) (Fr.of e2), fun H' s' => ⟨_, rfl, iteF (last H' (kA.trans (s8.trans s')))⟩⟩
end
end Vm

set_option Elab.async false
set_option linter.all false
set_option maxRecDepth 100000
set_option maxHeartbeats 8000000
namespace Vm
open PySem PySem.Spec PyProof.Rows L2
theorem Sized.mono {m n : Nat} {z : Int × Int} (h : Sized m z) (l : m ≤ n) : Sized n z := ⟨h.t.mono l, h.b.mono l, h.p⟩
section
variable {P : Program} {w : World} {K : PySem.W.Frag} {mg : Str → Option Value} {base : Heap} {f fT fG fF fD fA fS fB fR fP fC : Addr} {fd dT dG dF dD dA dS dB dR dP dC : FuncData}
abbrev nRight : List Str := ["_law_purse_here", "_law_alike", "_law_top", "_law_bottom", "_law_much", "_law_k", "_law_a", "_law_b", "_law_x", "_law_y", "_law_due_here"]
abbrev sRight : Stmt := top 42
theorem scRight : FnScope nRight ["_law_purse_here"] (defScope sRight) := ⟨rfl, rfl, rfl, by decide +kernel, rfl, by decide +kernel, by decide +kernel⟩
def spRight : Sp := fun vs H Q _ => ∃ a : Addr, vs = [.ref a] ∧ Purse H a ∧ ∀ H', Kept a H H' → Q (.bl true) H'
theorem Fr.kept {a p : Addr} {H H' : Hp} {z : Int × Int} (h : Fr K H p z) (hp : Purse H a) (k : Kept a H H') : Fr K H' p z := (Nl.of_kept hp k).sqT h
theorem ok_right (F : Fun K "_law_right" "_law_right" sRight f fd) (mR : mg "range" = none)
    (GT : FnOk P w K mg base CX0 1 fT dT ["_law_purse_here", "_law_many"] spTake) (aT : At K mg "_law_take" ["_law_purse_here", "_law_many"] fT dT)
    (GG : FnOk P w K mg base CX0 2 fG dG ["_law_purse_here"] spGreat) (aG : At K mg "_law_great" ["_law_purse_here"] fG dG)
    (GF : FnOk P w K mg base CX0 3 fF dF ["_law_purse_here"] spFr) (aF : At K mg "_law_fraction" ["_law_purse_here"] fF dF)
    (GD : FnOk P w K mg base CX0 2 fD dD ["_law_top", "_law_bottom"] spDue) (aD : At K mg "_law_due" ["_law_top", "_law_bottom"] fD dD)
    (GA : FnOk P w K mg base CX0 4 fA dA ["_law_word", "_law_a", "_law_b"] (spAsked K)) (aA : At K mg "_law_asked" ["_law_word", "_law_a", "_law_b"] fA dA)
    (GS : FnOk P w K mg base CX0 2 fS dS ["_law_told", "_law_due_here"] (spSame K 2)) (aS : At K mg "_law_same" ["_law_told", "_law_due_here"] fS dS)
    (GB : FnOk P w K mg base CX0 5 fB dB ["_law_a", "_law_b"] (spBoth K)) (aB : At K mg "_law_both" ["_law_a", "_law_b"] fB dB) :
    FnOk P w K mg base CX0 6 f fd ["_law_purse_here"] spRight := by
  refine F.ok scRight (fun vs H Q E h => ?_) (fun cdv A outer s H vs Q E hr h => ?_)
  · obtain ⟨a, rfl, _⟩ := h
    rfl
  obtain ⟨a, rfl, hp, q⟩ := h
  have h1 := hr.mono (show 1 ≤ 5 by decide)
  have h2 := hr.mono (show 2 ≤ 5 by decide)
  have h3 := hr.mono (show 3 ≤ 5 by decide)
  have h4 := hr.mono (show 4 ≤ 5 by decide)
  refine ⟨_, pss_cons (ps_set (i := 1) scRight.nd rfl (.inl rfl) (pe_call GT h1 rfl aT.m aT.k aT.b .nil pass0 (pa_cons (pv 0) (pa_cons pe_int pa_nil))))
    (pss_cons (ps_asg (pe_lc (own := [("_law_k", 5)]) (g := gName 5) (tt := tYes) rfl scRight.nd (pi_range1 rfl mR (pa_cons pe_int pa_nil)) (blkOk_by (own := [("_law_k", 5)]) (N := nRight) (sc := defScope sRight) (by decide +kernel)) (fun _ _ _ _ _ => pg_name (i := 5) scRight.nd rfl (Or.inl rfl)) (fun _ _ _ _ _ => pts_nil)
        (fun _ _ _ _ _ => pe_call GG h2 rfl aG.m aG.k aG.b .nil pass0 (pa_cons (pv 0) pa_nil)))
      (pg_lst rfl (pgs_cons (pg_name (i := 2) scRight.nd rfl (.inl rfl)) (pgs_cons (pg_name (i := 3) scRight.nd rfl (.inl rfl)) (pgs_cons (pg_name (i := 4) scRight.nd rfl (.inl rfl)) pgs_nil)))))
    (pss_cons (ps_par (i := 6) (j := 7) (by rfl) scRight.nd rfl rfl (by decide) rfl rfl (pa_cons (pe_call GF h3 rfl aF.m aF.k aF.b .nil pass0 (pa_cons (pv 0) pa_nil)) (pa_cons (pe_call GF h3 rfl aF.m aF.k aF.b .nil pass0 (pa_cons (pv 0) pa_nil)) pa_nil)) (by rfl))
    (pss_cons (ps_if (pt_cmpR op_eq (pv 1) pe_int (nomark _)) (pss_one (ps_set (i := 7) scRight.nd rfl (.inl rfl) (pv 6))) pss_nil)
    (pss_cons (ps_if (pt_cmpR op_eq (pv 1) pe_int (nomark _)) (pss_one (ps_set (i := 7) scRight.nd rfl (.inl rfl) (pe_tup (pa_cons (pe_op op_sub pe_int (pe_ix ix_tup (pv 6) pe_int (fun _ _ => rfl))) (pa_cons (pe_ix ix_tup (pv 6) pe_int (fun _ _ => rfl)) pa_nil))))) pss_nil)
    (pss_cons (ps_for PassesOwn.never rfl (pi_list (pe_lst (pa_cons (pe_tup (pa_cons (pv 2) (pa_cons (pv 3) pa_nil))) (pa_cons (pe_tup (pa_cons (pe_op op_mulW (pv 2) (pv 4)) (pa_cons (pe_op op_mulW (pv 3) (pv 4)) pa_nil))) pa_nil)))) (pg_tup rfl (pgs_cons (pg_name (i := 8) scRight.nd rfl (.inl rfl)) (pgs_cons (pg_name (i := 9) scRight.nd rfl (.inl rfl)) pgs_nil)))
      (pss_cons (ps_set (i := 10) scRight.nd rfl (.inl rfl) (pe_call GD h2 rfl aD.m aD.k aD.b .nil pass0 (pa_cons (pv 8) (pa_cons (pv 9) pa_nil))))
      (pss_one (ps_if (pt_not (pt_val (pe_call GS h2 rfl aS.m aS.k aS.b .nil pass0 (pa_cons (pe_call GA h4 rfl aA.m aA.k aA.b .nil pass0 (pa_cons pe_str (pa_cons (pv 8) (pa_cons (pv 9) pa_nil)))) (pa_cons (pv 10) pa_nil))))) (pss_one (ps_ret pe_bl)) pss_nil))))
    (pss_one (ps_ret (pe_and (pe_call GB hr rfl aB.m aB.k aB.b .nil pass0 (pa_cons (pv 6) (pa_cons (pv 7) pa_nil))) (pe_and (pe_call GB hr rfl aB.m aB.k aB.b .nil pass0 (pa_cons (pv 7) (pa_cons (pv 6) pa_nil)))
      (pe_and (pe_call GB hr rfl aB.m aB.k aB.b .nil pass0 (pa_cons (pv 6) (pa_cons (pe_tup (pa_cons pe_int (pa_cons pe_int pa_nil))) pa_nil))) (pe_one (pe_call GB hr rfl aB.m aB.k aB.b .nil pass0 (pa_cons (pe_tup (pa_cons pe_int (pa_cons pe_int pa_nil))) (pa_cons (pv 6) pa_nil)))))))))))))), ?_⟩
  -- alike
  refine ⟨_, rfl, a, 6, rfl, hp, by decide, by decide, fun al H1 _ _ k1 => ?_⟩
  -- top, bottom, much
  refine ⟨_, rfl, by decide, by decide, fun D hD => ?_⟩
  have nD := k1.1.ne hD
  refine lc_range (lo := 0) (n := (3 : Int).toNat) (fun i H' => Kept a H1 H' ∧ ∃ ns : List Int, ns.length = i ∧ H' D = some (.lst (ns.map V.int)) ∧ ∀ n ∈ ns, Bits 800 n) ⟨Kept.of_same k1.1 (same_new hD _), [], rfl, upd_same, fun _ z => nomatch z⟩ ?_ ?_
  · rintro i H2 hi ⟨k2, ns, ln, d2, b2⟩
    refine ⟨rfl, yes_then ?_⟩
    refine iteT ?_
    refine ⟨_, rfl, a, rfl, k2.1, fun n H3 bn k3 => ?_⟩
    have d3 := k3.2 _ _ nD d2
    refine ⟨_, d3, ?_, ?_, ns ++ [n], ?_, ?_, ?_⟩
    · rw [List.length_map]
      exact Nat.lt_of_lt_of_le (show ns.length < 3 from ln ▸ hi) (by decide)
    · obtain ⟨s3, d3', c3, p3⟩ := k3.1
      refine ⟨⟨s3, d3', c3, by rw [upd_ne nD.symm]; exact p3⟩, fun b o hb e => ?_⟩
      rw [upd_ne (fun z => by subst z; rw [hD] at e; cases e)]
      exact k3.2 _ _ hb (k2.2 _ _ hb e)
    · rw [List.length_append, ln]
      rfl
    · rw [upd_same, List.map_append]
      rfl
    · intro m hm
      rcases List.mem_append.mp hm with z | z
      · exact b2 m z
      · rw [List.mem_singleton.mp z]
        exact bn
  rintro H2 ⟨k2, ns, ln, d2, b2⟩
  match ns, ln with
  | [x1, x2, x3], _ =>
  have bx1 := b2 x1 (by simp)
  have bx2 := b2 x2 (by simp)
  have bx3 := b2 x3 (by simp)
  refine ⟨D, _, rfl, SqL.of d2, rfl, _, _, rfl, _, _, rfl, _, _, rfl, rfl, ?_⟩
  -- a, b
  refine ⟨_, rfl, a, rfl, k2.1, fun pA zA H3 sA eA k3 => ?_⟩
  refine ⟨_, rfl, a, rfl, k3.1, fun pB zB H4 sB eB k4 => ?_⟩
  refine ⟨_, _, rfl, ?_⟩
  have fA : Fr K H4 pA zA := (Fr.of eA).kept k3.1 k4
  have fB : Fr K H4 pB zB := Fr.of eB
  have kk : Kept a H H4 := k1.trans (k2.trans (k3.trans k4))
  -- behind them
  have done : ∀ (Hx : Hp) (r : Addr) (zb : Int × Int) (v8 v9 v10 : Option V), Kept a H Hx → Fr K Hx pA zA → Fr K Hx r zb → Sized 1900 zb →
      tRet (tAndV (tCall (spBoth K) [] E0 (tCons (tVar 6) (tCons (tVar 7) tNil))) (tAndV (tCall (spBoth K) [] E0 (tCons (tVar 7) (tCons (tVar 6) tNil))) (tAndV (tCall (spBoth K) [] E0 (tCons (tVar 6) (tCons (tTup (tCons (tC (.int 0)) (tCons (tC (.int 1)) tNil))) tNil))) (tCall (spBoth K) [] E0 (tCons (tTup (tCons (tC (.int 0)) (tCons (tC (.int 1)) tNil))) (tCons (tVar 6) tNil))))))
        { nx := fun _ H' => Q .non H', rt := Q } [some (.ref a), some (.int al), some (.int x1), some (.int x2), some (.int x3), none, some (.ref pA), some (.ref r), v8, v9, v10] Hx := by
    intro Hx r zb v8 v9 v10 kx fa fb sb
    have sa := sA.mono (show 801 ≤ 1900 by decide)
    have s0 : Sized 1900 ((0 : Int), (1 : Int)) := ⟨by unfold Bits; decide +kernel, by unfold Bits; decide +kernel, by decide⟩
    refine ⟨_, rfl, _, rfl, pA, r, zA, zb, rfl, fa, fb, sa, sb, fun H5 s5 => ⟨_, rfl, iteT ?_⟩⟩
    refine ⟨_, rfl, _, rfl, r, pA, zb, zA, rfl, fb.same s5, fa.same s5, sb, sa, fun H6 s6 => ⟨_, rfl, iteT ?_⟩⟩
    refine ⟨_, rfl, (by show 2 ≤ sizeLine; decide), fun p0 n0 => ?_⟩
    have s7 := s5.trans (s6.trans (same_new n0 (tupF (0, 1))))
    refine ⟨pA, p0, zA, (0, 1), rfl, fa.same s7, Fr.of upd_same, sa, s0, fun H8 s8 => ⟨_, rfl, iteT ?_⟩⟩
    refine ⟨(by show 2 ≤ sizeLine; decide), fun p1 n1 => ⟨_, rfl, ?_⟩⟩
    have s9 := s7.trans (s8.trans (same_new n1 (tupF (0, 1))))
    exact ⟨p1, pA, (0, 1), zA, rfl, Fr.of upd_same, fa.same s9, s0, sa, fun H' s' => q H' (kx.same (s9.trans s'))⟩
  -- the questions
  have asks : ∀ (Hx : Hp) (r : Addr) (zb : Int × Int), Kept a H Hx → Fr K Hx pA zA → Fr K Hx r zb → Sized 1900 zb →
      tSeq (tFor (iList K (tLst (tCons (tTup (tCons (tVar 2) (tCons (tVar 3) tNil))) (tCons (tTup (tCons (tOp (rI CMulW fun i j => .int (i * j)) (tVar 2) (tVar 4)) (tCons (tOp (rI CMulW fun i j => .int (i * j)) (tVar 3) (tVar 4)) tNil))) tNil)))) (gTup K 2 (gCons (gName 8) (gCons (gName 9) gNil)))
          (tSeq (tAsg (tCall spDue [] E0 (tCons (tVar 8) (tCons (tVar 9) tNil))) (gName 10)) (tIfS (tNot (tTest (tCall (spSame K 2) [] E0 (tCons (tCall (spAsked K) [] E0 (tCons (tC (.str "fraction")) (tCons (tVar 8) (tCons (tVar 9) tNil)))) (tCons (tVar 10) tNil))))) (tRet (tC (.bl false))) tNext)))
        (tRet (tAndV (tCall (spBoth K) [] E0 (tCons (tVar 6) (tCons (tVar 7) tNil))) (tAndV (tCall (spBoth K) [] E0 (tCons (tVar 7) (tCons (tVar 6) tNil))) (tAndV (tCall (spBoth K) [] E0 (tCons (tVar 6) (tCons (tTup (tCons (tC (.int 0)) (tCons (tC (.int 1)) tNil))) tNil))) (tCall (spBoth K) [] E0 (tCons (tTup (tCons (tC (.int 0)) (tCons (tC (.int 1)) tNil))) (tCons (tVar 6) tNil)))))))
        { nx := fun _ H' => Q .non H', rt := Q } [some (.ref a), some (.int al), some (.int x1), some (.int x2), some (.int x3), none, some (.ref pA), some (.ref r), none, none, none] Hx := by
    intro Hx r zb kx fa fb sb
    have m1 := bx1.okMul bx3 (by decide) (by decide) (by decide)
    have m2 := bx2.okMul bx3 (by decide) (by decide) (by decide)
    refine ⟨_, rfl, _, rfl, (by show 2 ≤ sizeLine; decide), fun t1 n1 => ?_⟩
    refine ⟨_, rfl, _, rfl, _, _, rfl, rfl, m1, _, rfl, _, rfl, _, _, rfl, rfl, m2, (by show 2 ≤ sizeLine; decide), fun t2 n2 => ?_⟩
    refine ⟨(by show 2 ≤ sizeLine; decide), fun l n3 => ?_⟩
    refine ⟨l, rfl, ⟨_, SqL.of upd_same⟩, ?_⟩
    have y1 : upd (upd (upd Hx t1 (tupF (x1, x2))) t2 (tupF (x1 * x3, x2 * x3))) l (.lst [.ref t1, .ref t2]) t1 = some (tupF (x1, x2)) := same_new n3 _ _ _ (same_new n2 _ _ _ upd_same)
    have y2 : upd (upd (upd Hx t1 (tupF (x1, x2))) t2 (tupF (x1 * x3, x2 * x3))) l (.lst [.ref t1, .ref t2]) t2 = some (tupF (x1 * x3, x2 * x3)) := same_new n3 _ _ _ upd_same
    have sz : Same Hx (upd (upd (upd Hx t1 (tupF (x1, x2))) t2 (tupF (x1 * x3, x2 * x3))) l (.lst [.ref t1, .ref t2])) := (same_new n1 _).trans ((same_new n2 _).trans (same_new n3 _))
    have yl : upd (upd (upd Hx t1 (tupF (x1, x2))) t2 (tupF (x1 * x3, x2 * x3))) l (.lst [.ref t1, .ref t2]) l = some (.lst [.ref t1, .ref t2]) := upd_same
    refine for_list (xs := [.ref t1, .ref t2]) (fun i σ H' => ∃ v8 v9 v10 : Option V, σ = [some (.ref a), some (.int al), some (.int x1), some (.int x2), some (.int x3), none, some (.ref pA), some (.ref r), v8, v9, v10] ∧
      Same (upd (upd (upd Hx t1 (tupF (x1, x2))) t2 (tupF (x1 * x3, x2 * x3))) l (.lst [.ref t1, .ref t2])) H') ⟨none, none, none, rfl, Same.refl _⟩ ?_ ?_ ?_
    · rintro i σ H' _ ⟨v8, v9, v10, rfl, sm⟩
      exact SqL.of (sm _ _ yl)
    · rintro i x σ H' hx ⟨v8, v9, v10, rfl, sm⟩
      obtain ⟨t, u, v, rfl, et, bu, bv⟩ : ∃ (t : Addr) (u v : Int), x = .ref t ∧ H' t = some (tupF (u, v)) ∧ Bits 4000 u ∧ Bits 4000 v := by
        match i, hx with
        | 0, hx => cases hx; exact ⟨t1, x1, x2, rfl, sm _ _ y1, bx1.mono (by decide), bx2.mono (by decide)⟩
        | 1, hx => cases hx; exact ⟨t2, _, _, rfl, sm _ _ y2, (bx1.mul bx3).mono (by decide), (bx2.mul bx3).mono (by decide)⟩
        | i + 2, hx => simp at hx
      refine ⟨t, _, rfl, SqT.of et, rfl, _, _, rfl, _, _, rfl, rfl, ?_⟩
      refine ⟨_, rfl, _, rfl, u, v, rfl, bv.mono (by decide), fun e0 => ?_, fun e0 p1 Ha sA1 nA eA1 => ?_⟩
      · refine ⟨_, rfl, _, rfl, .inl ⟨u, v, rfl, bu, bv, fun _ Hb sB1 => ?_, fun e1 => (e1 e0).elim⟩⟩
        refine ⟨_, rfl, _, _, rfl, .inl ⟨rfl, rfl⟩, fun Hc sC => ⟨_, rfl, iteF ?_⟩⟩
        exact ⟨_, _, _, rfl, sm.trans (sB1.trans sC)⟩
      · refine ⟨_, rfl, _, rfl, .inl ⟨u, v, rfl, bu, bv, fun e1 => (e0 e1).elim, fun _ p2 Hb sB1 nB eB1 => ?_⟩⟩
        refine ⟨_, rfl, _, _, rfl, alike_frac (Fr.of eB1) (Fr.of (sB1 _ _ eA1)), fun Hc sC => ⟨_, rfl, iteF ?_⟩⟩
        exact ⟨_, _, _, rfl, sm.trans (sA1.trans (sB1.trans sC))⟩
    · rintro σ H' ⟨v8, v9, v10, rfl, sm⟩
      have s9 := sz.trans sm
      exact done H' r zb v8 v9 v10 (kx.same s9) (fa.same s9) (fb.same s9) sb
  have sA9 := sA.mono (show 801 ≤ 1900 by decide)
  have sB9 := sB.mono (show 801 ≤ 1900 by decide)
  have sN : Sized 1900 (0 - zA.1, zA.2) := ⟨by show Bits 1900 (0 - zA.1); rw [Int.zero_sub]; exact sA9.t.neg, sA9.b, sA9.p⟩
  refine ⟨_, rfl, rfl, _, rfl, ?_⟩
  refine ite2 (fun _ => ⟨_, rfl, ?_⟩) (fun _ => ?_)
  · refine ⟨_, rfl, rfl, _, rfl, ?_⟩
    refine ite2 (fun _ => ?_) (fun _ => ?_)
    · refine ⟨_, rfl, pA, _, _, _, rfl, rfl, fA, rfl, _, _, rfl, rfl, _, rfl, pA, _, _, _, rfl, rfl, fA, rfl, (by show 2 ≤ sizeLine; decide), fun p1 n1 => ?_⟩
      have s1 := same_new n1 (tupF (0 - zA.1, zA.2))
      exact asks _ p1 (0 - zA.1, zA.2) (kk.same s1) (fA.same s1) (Fr.of upd_same) sN
    · exact asks H4 pA zA kk fA fA sA9
  · refine ⟨_, rfl, rfl, _, rfl, ?_⟩
    refine ite2 (fun _ => ?_) (fun _ => ?_)
    · refine ⟨_, rfl, pA, _, _, _, rfl, rfl, fA, rfl, _, _, rfl, rfl, _, rfl, pA, _, _, _, rfl, rfl, fA, rfl, (by show 2 ≤ sizeLine; decide), fun p1 n1 => ?_⟩
      have s1 := same_new n1 (tupF (0 - zA.1, zA.2))
      exact asks _ p1 (0 - zA.1, zA.2) (kk.same s1) (fA.same s1) (Fr.of upd_same) sN
    · exact asks H4 pB zB kk fA fB sB9
end
end Vm

set_option Elab.async false
set_option linter.all false
set_option maxRecDepth 100000
set_option maxHeartbeats 8000000
namespace Vm
open PySem PySem.Spec PyProof.Rows L2
section
variable {P : Program} {w : World} {K : PySem.W.Frag} {mg : Str → Option Value} {base : Heap} {f fR fP fC : Addr} {fd dR dP dC : FuncData}
abbrev sLaw : Stmt := top 43
theorem scLaw : FnScope ["_law_script", "_law_k"] ["_law_script"] (defScope sLaw) := ⟨rfl, rfl, rfl, by decide +kernel, rfl, by decide +kernel, by decide +kernel⟩
/-- what law(script) promises: for a list of at most 63 ints the answer is True -/
def spLaw (K : PySem.W.Frag) : Sp := fun vs H Q _ => ∃ (a : Addr) (ns : List Int), vs = [.ref a] ∧ SqL K H a (ns.map V.int) ∧ ns.length ≤ 63 ∧ ∀ H', Q (.bl true) H'
theorem ok_law (F : Fun K "law" "law" sLaw f fd) (B : Blt mg) (mMax : mg "max" = none) (mMin : mg "min" = none)
    (GR : FnOk P w K mg base CX0 6 fR dR ["_law_purse_here"] spRight) (aR : At K mg "_law_right" ["_law_purse_here"] fR dR)
    (GP : FnOk P w K mg base CX0 1 fP dP ["_law_cell_here"] spPurse) (aP : At K mg "_law_purse" ["_law_cell_here"] fP dP)
    (GC : FnOk P w K mg base CX0 1 fC dC ["_law_script", "_law_k"] (spCellV K)) (aC : At K mg "_law_cell" ["_law_script", "_law_k"] fC dC) :
    FnOk P w K mg base CX0 7 f fd ["_law_script"] (spLaw K) := by
  refine F.ok scLaw (fun vs H Q E h => ?_) (fun cdv A outer s H vs Q E hr h => ?_)
  · obtain ⟨a, ns, rfl, _⟩ := h
    rfl
  obtain ⟨a, ns, rfl, hS, h63, q⟩ := h
  have h1 := hr.mono (show 1 ≤ 6 by decide)
  refine ⟨_, pss_one (ps_ret (pe_callB (cr_all rfl) rfl B.all (by decide +kernel) (pa_cons (pe_lc (own := [("_law_k", 1)]) (g := gName 1) (tt := tYes) rfl scLaw.nd
      (pi_range1 rfl B.rng (pa_cons (pe_callB (call_max2 rfl) rfl mMax (by decide +kernel) (pa_cons pe_int (pa_cons (pe_callB (call_min2 rfl) rfl mMin (by decide +kernel) (pa_cons (pe_callB call_len_seq rfl B.len PySem.boot_len (pa_cons (pv 0) pa_nil)) (pa_cons pe_int pa_nil))) pa_nil))) pa_nil))
      (blkOk_by (own := [("_law_k", 1)]) (N := ["_law_script", "_law_k"]) (sc := defScope sLaw) (by decide +kernel)) (fun _ _ _ _ _ => pg_name (i := 1) scLaw.nd rfl (Or.inl rfl)) (fun _ _ _ _ _ => pts_nil)
      (fun _ _ _ _ _ => pe_call GR hr rfl aR.m aR.k aR.b .nil pass0 (pa_cons (pe_call GP h1 rfl aP.m aP.k aP.b .nil pass0 (pa_cons (pe_call GC h1 rfl aC.m aC.k aC.b .nil pass0 (pa_cons (pv 0) (pa_cons (pv 1) pa_nil))) pa_nil)) pa_nil))) pa_nil))), ?_⟩
  refine ⟨_, rfl, a, _, rfl, .inl hS, _, _, rfl, _, _, rfl, ?_⟩
  obtain ⟨n, hn, hn8⟩ : ∃ n : Nat, (if (if (8 : Int) < (((ns.map V.int).length : Nat) : Int) then 8 else (((ns.map V.int).length : Nat) : Int)) > (1 : Int) then (if (8 : Int) < (((ns.map V.int).length : Nat) : Int) then 8 else (((ns.map V.int).length : Nat) : Int)) else 1) = (n : Int) ∧ n ≤ 8 := by
    generalize (((ns.map V.int).length : Nat) : Int) = m
    refine ⟨(if (if (8 : Int) < m then 8 else m) > 1 then (if (8 : Int) < m then 8 else m) else 1).toNat, ?_, ?_⟩
    · split <;> split at * <;> omega
    · split <;> split at * <;> omega
  rw [hn]
  refine ⟨_, rfl, by omega, by omega, fun D hD => ?_⟩
  refine lc_range (lo := 0) (n := ((n : Nat) : Int).toNat) (fun i H' => Same H H' ∧ H' D = some (.lst ((List.replicate i true).map V.bl))) ⟨same_new hD _, upd_same⟩ ?_ ?_
  · rintro i H1 hi ⟨s1, d1⟩
    refine ⟨rfl, yes_then ?_⟩
    refine iteT ?_
    refine ⟨_, rfl, _, rfl, a, ns, _, rfl, s1.seq hS, by omega, by omega, fun c H2 s2 => ?_⟩
    refine ⟨c, rfl, fun p H3 s3 n3 p3 => ?_⟩
    refine ⟨p, rfl, p3, fun H4 k4 => ?_⟩
    have old : ∀ b o, H2 b = some o → H4 b = some o := fun b o e => k4.2 b o (ne_of_none e n3) (s3 _ _ e)
    refine ⟨_, old _ _ (s2 _ _ d1), ?_, ?_, ?_⟩
    · rw [List.length_map, List.length_replicate]
      exact Nat.lt_of_lt_of_le (by omega : i < 1000) (by decide)
    · intro b o e
      rw [upd_ne (ne_of_none e hD)]
      exact old _ _ (s2 _ _ (s1 _ _ e))
    · rw [upd_same, List.replicate_succ', List.map_append]
      rfl
  · rintro H1 ⟨s1, d1⟩
    refine ⟨D, _, rfl, SqL.of d1, ?_⟩
    rw [all_true]
    exact q H1
end
/-! ### what the top leaves -/
theorem kit_self {K : PySem.W.Frag} {t : Value} : PySem.W.kitOne K t t = some true := by
  unfold PySem.W.kitOne
  rw [if_pos (by simp)]
theorem kit_own {K : PySem.W.Frag} {D C : Addr} {b : Bool} (i : PySem.W.isClsIn K C = true) (t : PySem.W.typeIn K (.ref C) = some (.type "type")) (s : PySem.W.subIn K (.ref D) (.ref C) = some b) (n : (Value.ref D == Value.ref C) = false) : PySem.W.kitOne K (.ref D) (.ref C) = some b := by
  unfold PySem.W.kitOne PySem.W.kitCls
  rw [if_neg (by rw [n]; decide)]
  have i' : (PySem.W.clsIn K C).isSome = true := i
  dsimp only
  rw [if_pos (by rw [i', t]; rfl)]
  exact s
theorem kit_val {K : PySem.W.Frag} {D : Addr} {b : Bool} (s : PySem.W.subIn K (.ref D) (.type "ValueError") = some b) : PySem.W.kitOne K (.ref D) (.type "ValueError") = some b := by
  unfold PySem.W.kitOne PySem.W.kitCls
  rw [if_neg (by simp)]
  dsimp only
  rw [if_pos (by decide +kernel)]
  exact s

theorem all_mk {l : PySem.W.OpenLaw} {w : World} {K : PySem.W.Frag} {h : Heap} {mg : Str → Option Value} {fa : Addr} (X : K.In h) (G : h.Ns mainGlobals mg) (hfa : mg "law" = some (.ref fa))
    {od0 an0 : Option Addr} {sl0 : Array (Option Value)} {oc0 kV0 dc0 pm0 cd0 ct0 : Value} {f0 : Addr}
    {od1 an1 : Option Addr} {sl1 : Array (Option Value)} {oc1 kV1 dc1 pm1 cd1 ct1 : Value} {f1 : Addr}
    {od2 an2 : Option Addr} {sl2 : Array (Option Value)} {oc2 kV2 dc2 pm2 cd2 ct2 : Value} {f2 : Addr}
    {od3 an3 : Option Addr} {sl3 : Array (Option Value)} {oc3 kV3 dc3 pm3 cd3 ct3 : Value} {f3 : Addr}
    {od4 an4 : Option Addr} {sl4 : Array (Option Value)} {oc4 kV4 dc4 pm4 cd4 ct4 : Value} {f4 : Addr}
    {od5 an5 : Option Addr} {sl5 : Array (Option Value)} {oc5 kV5 dc5 pm5 cd5 ct5 : Value} {f5 : Addr}
    {od6 an6 : Option Addr} {sl6 : Array (Option Value)} {oc6 kV6 dc6 pm6 cd6 ct6 : Value} {f6 : Addr}
    {od7 an7 : Option Addr} {sl7 : Array (Option Value)} {oc7 kV7 dc7 pm7 cd7 ct7 : Value} {f7 : Addr}
    {od8 an8 : Option Addr} {sl8 : Array (Option Value)} {oc8 kV8 dc8 pm8 cd8 ct8 : Value} {f8 : Addr}
    {od9 an9 : Option Addr} {sl9 : Array (Option Value)} {oc9 kV9 dc9 pm9 cd9 ct9 : Value} {f9 : Addr}
    {od10 an10 : Option Addr} {sl10 : Array (Option Value)} {oc10 kV10 dc10 pm10 cd10 ct10 : Value} {f10 : Addr}
    {od11 an11 : Option Addr} {sl11 : Array (Option Value)} {oc11 kV11 dc11 pm11 cd11 ct11 : Value} {f11 : Addr}
    {od12 an12 : Option Addr} {sl12 : Array (Option Value)} {oc12 kV12 dc12 pm12 cd12 ct12 : Value} {f12 : Addr}
    {od13 an13 : Option Addr} {sl13 : Array (Option Value)} {oc13 kV13 dc13 pm13 cd13 ct13 : Value} {f13 : Addr}
    {od14 an14 : Option Addr} {sl14 : Array (Option Value)} {oc14 kV14 dc14 pm14 cd14 ct14 : Value} {f14 : Addr}
    {od15 an15 : Option Addr} {sl15 : Array (Option Value)} {oc15 kV15 dc15 pm15 cd15 ct15 : Value} {f15 : Addr}
    {od16 an16 : Option Addr} {sl16 : Array (Option Value)} {oc16 kV16 dc16 pm16 cd16 ct16 : Value} {f16 : Addr}
    {od17 an17 : Option Addr} {sl17 : Array (Option Value)} {oc17 kV17 dc17 pm17 cd17 ct17 : Value} {f17 : Addr}
    {od18 an18 : Option Addr} {sl18 : Array (Option Value)} {oc18 kV18 dc18 pm18 cd18 ct18 : Value} {f18 : Addr}
    {od19 an19 : Option Addr} {sl19 : Array (Option Value)} {oc19 kV19 dc19 pm19 cd19 ct19 : Value} {f19 : Addr}
    {e0 e1 e2 e3 e4 e5 e6 e7 e8 e9 e10 e11 e12 e13 e14 e15 e16 e17 e18 e19 eD : Addr}
    (a0 : PySem.W.nsIn K mainGlobals "common_divisor" = some (some (.ref f0)))
    (l0 : K.lookup f0 = some ⟨oc0, od0, .func (PySem.W.fnOf "common_divisor" "common_divisor" (defArgs sGcd) (defBody sGcd) (defScope sGcd) .none kV0 dc0 pm0 an0 cd0 ct0), sl0⟩)
    (c0 : PySem.W.codeIn K cd0 "common_divisor" = true)
    (k0 : PySem.W.keepIn K (.ref f0) = true)
    (a1 : PySem.W.nsIn K mainGlobals "fraction" = some (some (.ref f1)))
    (l1 : K.lookup f1 = some ⟨oc1, od1, .func (PySem.W.fnOf "fraction" "fraction" (defArgs sFrac) (defBody sFrac) (defScope sFrac) .none kV1 dc1 pm1 an1 cd1 ct1), sl1⟩)
    (c1 : PySem.W.codeIn K cd1 "fraction" = true)
    (k1 : PySem.W.keepIn K (.ref f1) = true)
    (a2 : PySem.W.nsIn K mainGlobals "plus" = some (some (.ref f2)))
    (l2 : K.lookup f2 = some ⟨oc2, od2, .func (PySem.W.fnOf "plus" "plus" (defArgs sPlus) (defBody sPlus) (defScope sPlus) .none kV2 dc2 pm2 an2 cd2 ct2), sl2⟩)
    (c2 : PySem.W.codeIn K cd2 "plus" = true)
    (k2 : PySem.W.keepIn K (.ref f2) = true)
    (a3 : PySem.W.nsIn K mainGlobals "minus" = some (some (.ref f3)))
    (l3 : K.lookup f3 = some ⟨oc3, od3, .func (PySem.W.fnOf "minus" "minus" (defArgs sMinus) (defBody sMinus) (defScope sMinus) .none kV3 dc3 pm3 an3 cd3 ct3), sl3⟩)
    (c3 : PySem.W.codeIn K cd3 "minus" = true)
    (k3 : PySem.W.keepIn K (.ref f3) = true)
    (a4 : PySem.W.nsIn K mainGlobals "times" = some (some (.ref f4)))
    (l4 : K.lookup f4 = some ⟨oc4, od4, .func (PySem.W.fnOf "times" "times" (defArgs sTimes) (defBody sTimes) (defScope sTimes) .none kV4 dc4 pm4 an4 cd4 ct4), sl4⟩)
    (c4 : PySem.W.codeIn K cd4 "times" = true)
    (k4 : PySem.W.keepIn K (.ref f4) = true)
    (a5 : PySem.W.nsIn K mainGlobals "over" = some (some (.ref f5)))
    (l5 : K.lookup f5 = some ⟨oc5, od5, .func (PySem.W.fnOf "over" "over" (defArgs sOver) (defBody sOver) (defScope sOver) .none kV5 dc5 pm5 an5 cd5 ct5), sl5⟩)
    (c5 : PySem.W.codeIn K cd5 "over" = true)
    (k5 : PySem.W.keepIn K (.ref f5) = true)
    (a6 : PySem.W.nsIn K mainGlobals "below" = some (some (.ref f6)))
    (l6 : K.lookup f6 = some ⟨oc6, od6, .func (PySem.W.fnOf "below" "below" (defArgs sBelow) (defBody sBelow) (defScope sBelow) .none kV6 dc6 pm6 an6 cd6 ct6), sl6⟩)
    (c6 : PySem.W.codeIn K cd6 "below" = true)
    (k6 : PySem.W.keepIn K (.ref f6) = true)
    (a7 : PySem.W.nsIn K mainGlobals "_law_cell" = some (some (.ref f7)))
    (l7 : K.lookup f7 = some ⟨oc7, od7, .func (PySem.W.fnOf "_law_cell" "_law_cell" (defArgs sCell) (defBody sCell) (defScope sCell) .none kV7 dc7 pm7 an7 cd7 ct7), sl7⟩)
    (c7 : PySem.W.codeIn K cd7 "_law_cell" = true)
    (k7 : PySem.W.keepIn K (.ref f7) = true)
    (a8 : PySem.W.nsIn K mainGlobals "_law_purse" = some (some (.ref f8)))
    (l8 : K.lookup f8 = some ⟨oc8, od8, .func (PySem.W.fnOf "_law_purse" "_law_purse" (defArgs sPurse) (defBody sPurse) (defScope sPurse) .none kV8 dc8 pm8 an8 cd8 ct8), sl8⟩)
    (c8 : PySem.W.codeIn K cd8 "_law_purse" = true)
    (k8 : PySem.W.keepIn K (.ref f8) = true)
    (a9 : PySem.W.nsIn K mainGlobals "_law_take" = some (some (.ref f9)))
    (l9 : K.lookup f9 = some ⟨oc9, od9, .func (PySem.W.fnOf "_law_take" "_law_take" (defArgs sTake) (defBody sTake) (defScope sTake) .none kV9 dc9 pm9 an9 cd9 ct9), sl9⟩)
    (c9 : PySem.W.codeIn K cd9 "_law_take" = true)
    (k9 : PySem.W.keepIn K (.ref f9) = true)
    (a10 : PySem.W.nsIn K mainGlobals "_law_low" = some (some (.ref f10)))
    (l10 : K.lookup f10 = some ⟨oc10, od10, .func (PySem.W.fnOf "_law_low" "_law_low" (defArgs sLow) (defBody sLow) (defScope sLow) .none kV10 dc10 pm10 an10 cd10 ct10), sl10⟩)
    (c10 : PySem.W.codeIn K cd10 "_law_low" = true)
    (k10 : PySem.W.keepIn K (.ref f10) = true)
    (a11 : PySem.W.nsIn K mainGlobals "_law_great" = some (some (.ref f11)))
    (l11 : K.lookup f11 = some ⟨oc11, od11, .func (PySem.W.fnOf "_law_great" "_law_great" (defArgs sGreat) (defBody sGreat) (defScope sGreat) .none kV11 dc11 pm11 an11 cd11 ct11), sl11⟩)
    (c11 : PySem.W.codeIn K cd11 "_law_great" = true)
    (k11 : PySem.W.keepIn K (.ref f11) = true)
    (a12 : PySem.W.nsIn K mainGlobals "_law_same" = some (some (.ref f12)))
    (l12 : K.lookup f12 = some ⟨oc12, od12, .func (PySem.W.fnOf "_law_same" "_law_same" (defArgs sSame) (defBody sSame) (defScope sSame) .none kV12 dc12 pm12 an12 cd12 ct12), sl12⟩)
    (c12 : PySem.W.codeIn K cd12 "_law_same" = true)
    (k12 : PySem.W.keepIn K (.ref f12) = true)
    (a13 : PySem.W.nsIn K mainGlobals "_law_kind" = some (some (.ref f13)))
    (l13 : K.lookup f13 = some ⟨oc13, od13, .func (PySem.W.fnOf "_law_kind" "_law_kind" (defArgs sKind) (defBody sKind) (defScope sKind) .none kV13 dc13 pm13 an13 cd13 ct13), sl13⟩)
    (c13 : PySem.W.codeIn K cd13 "_law_kind" = true)
    (k13 : PySem.W.keepIn K (.ref f13) = true)
    (a14 : PySem.W.nsIn K mainGlobals "_law_fraction" = some (some (.ref f14)))
    (l14 : K.lookup f14 = some ⟨oc14, od14, .func (PySem.W.fnOf "_law_fraction" "_law_fraction" (defArgs sFr) (defBody sFr) (defScope sFr) .none kV14 dc14 pm14 an14 cd14 ct14), sl14⟩)
    (c14 : PySem.W.codeIn K cd14 "_law_fraction" = true)
    (k14 : PySem.W.keepIn K (.ref f14) = true)
    (a15 : PySem.W.nsIn K mainGlobals "_law_asked" = some (some (.ref f15)))
    (l15 : K.lookup f15 = some ⟨oc15, od15, .func (PySem.W.fnOf "_law_asked" "_law_asked" (defArgs sAsked) (defBody sAsked) (defScope sAsked) .none kV15 dc15 pm15 an15 cd15 ct15), sl15⟩)
    (c15 : PySem.W.codeIn K cd15 "_law_asked" = true)
    (k15 : PySem.W.keepIn K (.ref f15) = true)
    (a16 : PySem.W.nsIn K mainGlobals "_law_due" = some (some (.ref f16)))
    (l16 : K.lookup f16 = some ⟨oc16, od16, .func (PySem.W.fnOf "_law_due" "_law_due" (defArgs sDue) (defBody sDue) (defScope sDue) .none kV16 dc16 pm16 an16 cd16 ct16), sl16⟩)
    (c16 : PySem.W.codeIn K cd16 "_law_due" = true)
    (k16 : PySem.W.keepIn K (.ref f16) = true)
    (a17 : PySem.W.nsIn K mainGlobals "_law_both" = some (some (.ref f17)))
    (l17 : K.lookup f17 = some ⟨oc17, od17, .func (PySem.W.fnOf "_law_both" "_law_both" (defArgs sBoth) (defBody sBoth) (defScope sBoth) .none kV17 dc17 pm17 an17 cd17 ct17), sl17⟩)
    (c17 : PySem.W.codeIn K cd17 "_law_both" = true)
    (k17 : PySem.W.keepIn K (.ref f17) = true)
    (a18 : PySem.W.nsIn K mainGlobals "_law_right" = some (some (.ref f18)))
    (l18 : K.lookup f18 = some ⟨oc18, od18, .func (PySem.W.fnOf "_law_right" "_law_right" (defArgs sRight) (defBody sRight) (defScope sRight) .none kV18 dc18 pm18 an18 cd18 ct18), sl18⟩)
    (c18 : PySem.W.codeIn K cd18 "_law_right" = true)
    (k18 : PySem.W.keepIn K (.ref f18) = true)
    (a19 : PySem.W.nsIn K mainGlobals "law" = some (some (.ref f19)))
    (l19 : K.lookup f19 = some ⟨oc19, od19, .func (PySem.W.fnOf "law" "law" (defArgs sLaw) (defBody sLaw) (defScope sLaw) .none kV19 dc19 pm19 an19 cd19 ct19), sl19⟩)
    (c19 : PySem.W.codeIn K cd19 "law" = true)
    (k19 : PySem.W.keepIn K (.ref f19) = true)
    (g0 : PySem.W.nsIn K mainGlobals "NoNumber" = some (some (.ref e0)))
    (g1 : PySem.W.nsIn K mainGlobals "NoMany" = some (some (.ref e1)))
    (g2 : PySem.W.nsIn K mainGlobals "NoShade" = some (some (.ref e2)))
    (g3 : PySem.W.nsIn K mainGlobals "NoStuffs" = some (some (.ref e3)))
    (g4 : PySem.W.nsIn K mainGlobals "NoShelf" = some (some (.ref e4)))
    (g5 : PySem.W.nsIn K mainGlobals "NoCloths" = some (some (.ref e5)))
    (g6 : PySem.W.nsIn K mainGlobals "NoBook" = some (some (.ref e6)))
    (g7 : PySem.W.nsIn K mainGlobals "Fails" = some (some (.ref e7)))
    (g8 : PySem.W.nsIn K mainGlobals "NoHour" = some (some (.ref e8)))
    (g9 : PySem.W.nsIn K mainGlobals "NoName" = some (some (.ref e9)))
    (g10 : PySem.W.nsIn K mainGlobals "NoDeed" = some (some (.ref e10)))
    (g11 : PySem.W.nsIn K mainGlobals "NoBack" = some (some (.ref e11)))
    (g12 : PySem.W.nsIn K mainGlobals "NoMeasures" = some (some (.ref e12)))
    (g13 : PySem.W.nsIn K mainGlobals "NoStep" = some (some (.ref e13)))
    (g14 : PySem.W.nsIn K mainGlobals "TooLittle" = some (some (.ref e14)))
    (g15 : PySem.W.nsIn K mainGlobals "NoWeights" = some (some (.ref e15)))
    (g16 : PySem.W.nsIn K mainGlobals "NoPrices" = some (some (.ref e16)))
    (g17 : PySem.W.nsIn K mainGlobals "NoVat" = some (some (.ref e17)))
    (g18 : PySem.W.nsIn K mainGlobals "NoBrim" = some (some (.ref e18)))
    (g19 : PySem.W.nsIn K mainGlobals "NoRow" = some (some (.ref e19)))
    (gD : PySem.W.nsIn K mainGlobals "DyeError" = some (some (.ref eD)))
    (i1 : PySem.W.isClsIn K e1 = true)
    (t1 : PySem.W.typeIn K (.ref e1) = some (.type "type"))
    (s1 : PySem.W.subIn K (.ref e0) (.ref e1) = some false)
    (n1 : (Value.ref e0 == Value.ref e1) = false)
    (i2 : PySem.W.isClsIn K e2 = true)
    (t2 : PySem.W.typeIn K (.ref e2) = some (.type "type"))
    (s2 : PySem.W.subIn K (.ref e0) (.ref e2) = some false)
    (n2 : (Value.ref e0 == Value.ref e2) = false)
    (i3 : PySem.W.isClsIn K e3 = true)
    (t3 : PySem.W.typeIn K (.ref e3) = some (.type "type"))
    (s3 : PySem.W.subIn K (.ref e0) (.ref e3) = some false)
    (n3 : (Value.ref e0 == Value.ref e3) = false)
    (i4 : PySem.W.isClsIn K e4 = true)
    (t4 : PySem.W.typeIn K (.ref e4) = some (.type "type"))
    (s4 : PySem.W.subIn K (.ref e0) (.ref e4) = some false)
    (n4 : (Value.ref e0 == Value.ref e4) = false)
    (i5 : PySem.W.isClsIn K e5 = true)
    (t5 : PySem.W.typeIn K (.ref e5) = some (.type "type"))
    (s5 : PySem.W.subIn K (.ref e0) (.ref e5) = some false)
    (n5 : (Value.ref e0 == Value.ref e5) = false)
    (i6 : PySem.W.isClsIn K e6 = true)
    (t6 : PySem.W.typeIn K (.ref e6) = some (.type "type"))
    (s6 : PySem.W.subIn K (.ref e0) (.ref e6) = some false)
    (n6 : (Value.ref e0 == Value.ref e6) = false)
    (i7 : PySem.W.isClsIn K e7 = true)
    (t7 : PySem.W.typeIn K (.ref e7) = some (.type "type"))
    (s7 : PySem.W.subIn K (.ref e0) (.ref e7) = some false)
    (n7 : (Value.ref e0 == Value.ref e7) = false)
    (i8 : PySem.W.isClsIn K e8 = true)
    (t8 : PySem.W.typeIn K (.ref e8) = some (.type "type"))
    (s8 : PySem.W.subIn K (.ref e0) (.ref e8) = some false)
    (n8 : (Value.ref e0 == Value.ref e8) = false)
    (i9 : PySem.W.isClsIn K e9 = true)
    (t9 : PySem.W.typeIn K (.ref e9) = some (.type "type"))
    (s9 : PySem.W.subIn K (.ref e0) (.ref e9) = some false)
    (n9 : (Value.ref e0 == Value.ref e9) = false)
    (i10 : PySem.W.isClsIn K e10 = true)
    (t10 : PySem.W.typeIn K (.ref e10) = some (.type "type"))
    (s10 : PySem.W.subIn K (.ref e0) (.ref e10) = some false)
    (n10 : (Value.ref e0 == Value.ref e10) = false)
    (i11 : PySem.W.isClsIn K e11 = true)
    (t11 : PySem.W.typeIn K (.ref e11) = some (.type "type"))
    (s11 : PySem.W.subIn K (.ref e0) (.ref e11) = some false)
    (n11 : (Value.ref e0 == Value.ref e11) = false)
    (i12 : PySem.W.isClsIn K e12 = true)
    (t12 : PySem.W.typeIn K (.ref e12) = some (.type "type"))
    (s12 : PySem.W.subIn K (.ref e0) (.ref e12) = some false)
    (n12 : (Value.ref e0 == Value.ref e12) = false)
    (i13 : PySem.W.isClsIn K e13 = true)
    (t13 : PySem.W.typeIn K (.ref e13) = some (.type "type"))
    (s13 : PySem.W.subIn K (.ref e0) (.ref e13) = some false)
    (n13 : (Value.ref e0 == Value.ref e13) = false)
    (i14 : PySem.W.isClsIn K e14 = true)
    (t14 : PySem.W.typeIn K (.ref e14) = some (.type "type"))
    (s14 : PySem.W.subIn K (.ref e0) (.ref e14) = some false)
    (n14 : (Value.ref e0 == Value.ref e14) = false)
    (i15 : PySem.W.isClsIn K e15 = true)
    (t15 : PySem.W.typeIn K (.ref e15) = some (.type "type"))
    (s15 : PySem.W.subIn K (.ref e0) (.ref e15) = some false)
    (n15 : (Value.ref e0 == Value.ref e15) = false)
    (i16 : PySem.W.isClsIn K e16 = true)
    (t16 : PySem.W.typeIn K (.ref e16) = some (.type "type"))
    (s16 : PySem.W.subIn K (.ref e0) (.ref e16) = some false)
    (n16 : (Value.ref e0 == Value.ref e16) = false)
    (i17 : PySem.W.isClsIn K e17 = true)
    (t17 : PySem.W.typeIn K (.ref e17) = some (.type "type"))
    (s17 : PySem.W.subIn K (.ref e0) (.ref e17) = some false)
    (n17 : (Value.ref e0 == Value.ref e17) = false)
    (i18 : PySem.W.isClsIn K e18 = true)
    (t18 : PySem.W.typeIn K (.ref e18) = some (.type "type"))
    (s18 : PySem.W.subIn K (.ref e0) (.ref e18) = some false)
    (n18 : (Value.ref e0 == Value.ref e18) = false)
    (i19 : PySem.W.isClsIn K e19 = true)
    (t19 : PySem.W.typeIn K (.ref e19) = some (.type "type"))
    (s19 : PySem.W.subIn K (.ref e0) (.ref e19) = some false)
    (n19 : (Value.ref e0 == Value.ref e19) = false)
    (iD : PySem.W.isClsIn K eD = true)
    (tD : PySem.W.typeIn K (.ref eD) = some (.type "type"))
    (sD : PySem.W.subIn K (.ref e0) (.ref eD) = some true)
    (nD : (Value.ref e0 == Value.ref eD) = false)
    (bD : PySem.W.subIn K (.ref eD) (.type "BaseException") = some true)
    (hD : PySem.W.hasDictIn K eD = true)
    (sV : PySem.W.subIn K (.ref e0) (.type "ValueError") = some true)
    (xN : PySem.W.excIn K e0 [.type "ValueError", .type "Exception", .type "BaseException", .type "object"] "ValueError.__new__" = true)
    (kN : PySem.W.keepIn K (.ref e0) = true)
    (bN : PySem.W.subIn K (.ref e0) (.type "BaseException") = some true)
    (tN : PySem.W.typeIn K (.ref e0) = some (.type "type"))
    (x1 : PySem.W.findIn K (.ref e0) "__getattribute__" = some (some (.builtin "BaseException.__getattribute__")))
    (x2 : PySem.W.findIn K (.ref e0) "__getattr__" = some none)
    (x3 : PySem.W.hasDictIn K e0 = true)
    (x4 : PySem.W.findIn K (.ref e0) "__class__" = some (some (.builtin "object.__class__")))
    (x5 : PySem.W.specialIn K (.builtin "object.__class__") "__get__" = some (some (.builtin "getset_descriptor.__get__")))
    (x6 : PySem.W.takesIn K (.builtin "object.__class__") = some true)
    (x7 : PySem.W.mroIn K e0 (.type "object") = some true)
    (z_isinstance : PySem.W.nsIn K mainGlobals "isinstance" = some none)
    (z_tuple : PySem.W.nsIn K mainGlobals "tuple" = some none)
    (z_bool : PySem.W.nsIn K mainGlobals "bool" = some none)
    (z_str : PySem.W.nsIn K mainGlobals "str" = some none)
    (z_int : PySem.W.nsIn K mainGlobals "int" = some none)
    (z_len : PySem.W.nsIn K mainGlobals "len" = some none)
    (z_all : PySem.W.nsIn K mainGlobals "all" = some none)
    (z_range : PySem.W.nsIn K mainGlobals "range" = some none)
    (z_abs : PySem.W.nsIn K mainGlobals "abs" = some none)
    (z_max : PySem.W.nsIn K mainGlobals "max" = some none)
    (z_min : PySem.W.nsIn K mainGlobals "min" = some none)
    (z_ValueError : PySem.W.nsIn K mainGlobals "ValueError" = some none)
    : ∃ fd : FuncData, (∀ (s : Shared) (v : Value), BindsTo s fd ⟨[v], []⟩ [("_law_script", v)]) ∧ ∀ base : Heap, K.In base → base.Ns mainGlobals mg → FnOk l.prog w K mg base CX0 7 fa fd ["_law_script"] (spLaw K) := by
  have e := hfa.symm.trans (PySem.W.mg_of X G a19)
  cases e
  have F0 := fun_mk (st := sGcd) l0 c0 k0
  have A0 : At K mg "common_divisor" ["a", "b"] f0 _ := ⟨F0.binds (ps := ["a", "b"]) fun _ _ _ _ _ _ us hl => match us, hl with | [_, _], _ => rfl, k0, PySem.W.mg_of X G a0⟩
  have F1 := fun_mk (st := sFrac) l1 c1 k1
  have A1 : At K mg "fraction" ["top", "bottom"] f1 _ := ⟨F1.binds (ps := ["top", "bottom"]) fun _ _ _ _ _ _ us hl => match us, hl with | [_, _], _ => rfl, k1, PySem.W.mg_of X G a1⟩
  have F2 := fun_mk (st := sPlus) l2 c2 k2
  have A2 : At K mg "plus" ["a", "b"] f2 _ := ⟨F2.binds (ps := ["a", "b"]) fun _ _ _ _ _ _ us hl => match us, hl with | [_, _], _ => rfl, k2, PySem.W.mg_of X G a2⟩
  have F3 := fun_mk (st := sMinus) l3 c3 k3
  have A3 : At K mg "minus" ["a", "b"] f3 _ := ⟨F3.binds (ps := ["a", "b"]) fun _ _ _ _ _ _ us hl => match us, hl with | [_, _], _ => rfl, k3, PySem.W.mg_of X G a3⟩
  have F4 := fun_mk (st := sTimes) l4 c4 k4
  have A4 : At K mg "times" ["a", "b"] f4 _ := ⟨F4.binds (ps := ["a", "b"]) fun _ _ _ _ _ _ us hl => match us, hl with | [_, _], _ => rfl, k4, PySem.W.mg_of X G a4⟩
  have F5 := fun_mk (st := sOver) l5 c5 k5
  have A5 : At K mg "over" ["a", "b"] f5 _ := ⟨F5.binds (ps := ["a", "b"]) fun _ _ _ _ _ _ us hl => match us, hl with | [_, _], _ => rfl, k5, PySem.W.mg_of X G a5⟩
  have F6 := fun_mk (st := sBelow) l6 c6 k6
  have A6 : At K mg "below" ["a", "b"] f6 _ := ⟨F6.binds (ps := ["a", "b"]) fun _ _ _ _ _ _ us hl => match us, hl with | [_, _], _ => rfl, k6, PySem.W.mg_of X G a6⟩
  have F7 := fun_mk (st := sCell) l7 c7 k7
  have A7 : At K mg "_law_cell" ["_law_script", "_law_k"] f7 _ := ⟨F7.binds (ps := ["_law_script", "_law_k"]) fun _ _ _ _ _ _ us hl => match us, hl with | [_, _], _ => rfl, k7, PySem.W.mg_of X G a7⟩
  have F8 := fun_mk (st := sPurse) l8 c8 k8
  have A8 : At K mg "_law_purse" ["_law_cell_here"] f8 _ := ⟨F8.binds (ps := ["_law_cell_here"]) fun _ _ _ _ _ _ us hl => match us, hl with | [_], _ => rfl, k8, PySem.W.mg_of X G a8⟩
  have F9 := fun_mk (st := sTake) l9 c9 k9
  have A9 : At K mg "_law_take" ["_law_purse_here", "_law_many"] f9 _ := ⟨F9.binds (ps := ["_law_purse_here", "_law_many"]) fun _ _ _ _ _ _ us hl => match us, hl with | [_, _], _ => rfl, k9, PySem.W.mg_of X G a9⟩
  have F10 := fun_mk (st := sLow) l10 c10 k10
  have A10 : At K mg "_law_low" ["_law_top", "_law_bottom"] f10 _ := ⟨F10.binds (ps := ["_law_top", "_law_bottom"]) fun _ _ _ _ _ _ us hl => match us, hl with | [_, _], _ => rfl, k10, PySem.W.mg_of X G a10⟩
  have F11 := fun_mk (st := sGreat) l11 c11 k11
  have A11 : At K mg "_law_great" ["_law_purse_here"] f11 _ := ⟨F11.binds (ps := ["_law_purse_here"]) fun _ _ _ _ _ _ us hl => match us, hl with | [_], _ => rfl, k11, PySem.W.mg_of X G a11⟩
  have F12 := fun_mk (st := sSame) l12 c12 k12
  have A12 : At K mg "_law_same" ["_law_told", "_law_due_here"] f12 _ := ⟨F12.binds (ps := ["_law_told", "_law_due_here"]) fun _ _ _ _ _ _ us hl => match us, hl with | [_, _], _ => rfl, k12, PySem.W.mg_of X G a12⟩
  have F13 := fun_mk (st := sKind) l13 c13 k13
  have A13 : At K mg "_law_kind" ["_law_e"] f13 _ := ⟨F13.binds (ps := ["_law_e"]) fun _ _ _ _ _ _ us hl => match us, hl with | [_], _ => rfl, k13, PySem.W.mg_of X G a13⟩
  have F14 := fun_mk (st := sFr) l14 c14 k14
  have A14 : At K mg "_law_fraction" ["_law_purse_here"] f14 _ := ⟨F14.binds (ps := ["_law_purse_here"]) fun _ _ _ _ _ _ us hl => match us, hl with | [_], _ => rfl, k14, PySem.W.mg_of X G a14⟩
  have F15 := fun_mk (st := sAsked) l15 c15 k15
  have A15 : At K mg "_law_asked" ["_law_word", "_law_a", "_law_b"] f15 _ := ⟨F15.binds (ps := ["_law_word", "_law_a", "_law_b"]) fun _ _ _ _ _ _ us hl => match us, hl with | [_, _, _], _ => rfl, k15, PySem.W.mg_of X G a15⟩
  have F16 := fun_mk (st := sDue) l16 c16 k16
  have A16 : At K mg "_law_due" ["_law_top", "_law_bottom"] f16 _ := ⟨F16.binds (ps := ["_law_top", "_law_bottom"]) fun _ _ _ _ _ _ us hl => match us, hl with | [_, _], _ => rfl, k16, PySem.W.mg_of X G a16⟩
  have F17 := fun_mk (st := sBoth) l17 c17 k17
  have A17 : At K mg "_law_both" ["_law_a", "_law_b"] f17 _ := ⟨F17.binds (ps := ["_law_a", "_law_b"]) fun _ _ _ _ _ _ us hl => match us, hl with | [_, _], _ => rfl, k17, PySem.W.mg_of X G a17⟩
  have F18 := fun_mk (st := sRight) l18 c18 k18
  have A18 : At K mg "_law_right" ["_law_purse_here"] f18 _ := ⟨F18.binds (ps := ["_law_purse_here"]) fun _ _ _ _ _ _ us hl => match us, hl with | [_], _ => rfl, k18, PySem.W.mg_of X G a18⟩
  have F19 := fun_mk (st := sLaw) l19 c19 k19
  have m_isinstance := PySem.W.mg_none_of X G z_isinstance
  have m_tuple := PySem.W.mg_none_of X G z_tuple
  have m_bool := PySem.W.mg_none_of X G z_bool
  have m_str := PySem.W.mg_none_of X G z_str
  have m_int := PySem.W.mg_none_of X G z_int
  have m_len := PySem.W.mg_none_of X G z_len
  have m_all := PySem.W.mg_none_of X G z_all
  have m_range := PySem.W.mg_none_of X G z_range
  have m_abs := PySem.W.mg_none_of X G z_abs
  have m_max := PySem.W.mg_none_of X G z_max
  have m_min := PySem.W.mg_none_of X G z_min
  have m_ValueError := PySem.W.mg_none_of X G z_ValueError
  have B : Blt mg := ⟨m_isinstance, m_tuple, m_bool, m_str, m_int, m_len, m_all, m_range⟩
  have TN : ErrT K mg "NoNumber" e0 := ⟨PySem.W.mg_of X G g0, xN, kN, bN, tN⟩
  have EX : ExcC K e0 := ⟨x1, x2, bN, x3, x4, x5, x6, x7⟩
  have KT : Kinds K mg (fun i => [e0, e1, e2, e3, e4, e5, e6, e7, e8, e9, e10, e11, e12, e13, e14, e15, e16, e17, e18, e19].getD i 0) eD 0 := ⟨PySem.W.mg_of X G g0, kit_self, PySem.W.mg_of X G g1, kit_own i1 t1 s1 n1, PySem.W.mg_of X G g2, kit_own i2 t2 s2 n2, PySem.W.mg_of X G g3, kit_own i3 t3 s3 n3, PySem.W.mg_of X G g4, kit_own i4 t4 s4 n4, PySem.W.mg_of X G g5, kit_own i5 t5 s5 n5, PySem.W.mg_of X G g6, kit_own i6 t6 s6 n6, PySem.W.mg_of X G g7, kit_own i7 t7 s7 n7, PySem.W.mg_of X G g8, kit_own i8 t8 s8 n8, PySem.W.mg_of X G g9, kit_own i9 t9 s9 n9, PySem.W.mg_of X G g10, kit_own i10 t10 s10 n10, PySem.W.mg_of X G g11, kit_own i11 t11 s11 n11, PySem.W.mg_of X G g12, kit_own i12 t12 s12 n12, PySem.W.mg_of X G g13, kit_own i13 t13 s13 n13, PySem.W.mg_of X G g14, kit_own i14 t14 s14 n14, PySem.W.mg_of X G g15, kit_own i15 t15 s15 n15, PySem.W.mg_of X G g16, kit_own i16 t16 s16 n16, PySem.W.mg_of X G g17, kit_own i17 t17 s17 n17, PySem.W.mg_of X G g18, kit_own i18 t18 s18 n18, PySem.W.mg_of X G g19, kit_own i19 t19 s19 n19, PySem.W.mg_of X G gD, kit_own iD tD sD nD, m_ValueError, kit_val sV, EX, m_isinstance⟩
  have xm := PySem.W.exm_ref bD hD tD sD
  refine ⟨PySem.W.fnOf "law" "law" (defArgs sLaw) (defBody sLaw) (defScope sLaw) .none kV19 dc19 pm19 an19 cd19 ct19, fun s v => .of_eq rfl, fun base _ _ => ?_⟩
  have G0 := ok_gcd (P := l.prog) (w := w) (mg := mg) (base := base) F0
  have G1 := ok_frac (P := l.prog) (w := w) (base := base) F1 TN G0 A0.b A0.k A0.m m_abs
  have G2 := ok_plus G1 A1.b A1.k A1.m F2
  have G3 := ok_minus G1 A1.b A1.k A1.m F3
  have G4 := ok_times G1 A1.b A1.k A1.m F4
  have G5 := ok_over G1 A1.b A1.k A1.m F5
  have G6 := ok_below (P := l.prog) (w := w) (mg := mg) (base := base) F6
  have G7 := ok_cellV (P := l.prog) (w := w) (base := base) F7 m_len
  have G8 := ok_purse (P := l.prog) (w := w) (base := base) F8 m_abs
  have G9 := ok_take (P := l.prog) (w := w) (mg := mg) (base := base) F9
  have G10 := ok_low (P := l.prog) (w := w) (base := base) F10 m_abs
  have G11 := ok_great F11 G9 A9.b A9.k A9.m m_range
  have G12 := same_all (P := l.prog) (w := w) (base := base) F12 B A12.b A12.m 2
  have G13 := ok_kind (P := l.prog) (w := w) (base := base) F13 KT (by decide)
  have G14 := ok_fr F14 G11 A11.b A11.k A11.m G10 A10.b A10.k A10.m m_abs
  have G15 := ok_asked F15 (PySem.W.mg_of X G gD) xm G1 A1 G5 A5 G13 A13
  have G16 := ok_due F16 G10 A10.b A10.k A10.m
  have G17 := ok_both F17 G2 A2 G3 A3 G4 A4 G6 A6 G15 A15 G16 A16 G12 A12
  have G18 := ok_right F18 m_range G9 A9 G11 A11 G14 A14 G16 A16 G15 A15 G12 A12 G17 A17
  exact ok_law F19 B m_max m_min G18 A18 G8 A8 G7 A7
theorem walk {l : PySem.W.OpenLaw} {q : Program} {loose : List Str} {XP : (Str → Option Value) → Heap → Prop} {YP : World → Heap → Prop} {d : DefRec} {K : Params → PySem.W.Frag} (hn : l.most = some 63) (hdf : d.params.defaults = [])
    (hY : ∀ (w : World) (h : Heap), YP w h → (K w.params).In h)
    (F : ∀ (w : World) (mg : Str → Option Value) (fa : Addr) (h : Heap), (K w.params).In h → h.Ns mainGlobals mg → mg d.name = some (.ref fa) →
      ∃ fd : FuncData, (∀ (s : Shared) (u : Value), BindsTo s fd ⟨[u], []⟩ [("_law_script", u)]) ∧ ∀ base : Heap, (K w.params).In base → base.Ns mainGlobals mg → FnOk l.prog w (K w.params) mg base CX0 7 fa fd ["_law_script"] (spLaw (K w.params))) :
    PySem.W.WalkO q loose XP YP l.row.toRowW d [] (fun f vs => PySem.call f vs) :=
  L2.walk_of (n := 63) (k := 7) (x := "_law_script") (CX := fun _ => CX0) (sp := fun w => spLaw (K w.params)) hn (by decide) hdf ⟨rfl, by decide, by decide⟩ hY F (fun _ _ a ns hl _ hS => ⟨a, ns, rfl, hS, hl, fun _ => rfl⟩) fun _ _ _ _ _ z => z
end Vm


set_option Elab.async false
set_option linter.all false
set_option maxRecDepth 100000
open PySem PySem.W PyProof.Rows
set_option maxRecDepth 100000 in
set_option maxHeartbeats 0 in
theorem PySem.Challenge.cw_vatmatch_k01_fractions_reckoned_holds : PySem.Challenge.rw_vatmatch_k01_fractions_reckoned.Holds := by
  w_on; o_law; k_head; (case hw => w_witness2)
  k_fill
  refine Vm.walk (l := PySem.Challenge.rw_vatmatch_k01_fractions_reckoned) rfl rfl (fun w h Y => PySem.W.kIn_of Y) ?F
  case F =>
    intro w mg fa h KX G hmg
    refine' Vm.all_mk KX G hmg ?vm_a0 ?vm_l0 ?vm_c0 ?vm_k0 ?vm_a1 ?vm_l1 ?vm_c1 ?vm_k1 ?vm_a2 ?vm_l2 ?vm_c2 ?vm_k2 ?vm_a3 ?vm_l3 ?vm_c3 ?vm_k3 ?vm_a4 ?vm_l4 ?vm_c4 ?vm_k4 ?vm_a5 ?vm_l5 ?vm_c5 ?vm_k5 ?vm_a6 ?vm_l6 ?vm_c6 ?vm_k6 ?vm_a7 ?vm_l7 ?vm_c7 ?vm_k7 ?vm_a8 ?vm_l8 ?vm_c8 ?vm_k8 ?vm_a9 ?vm_l9 ?vm_c9 ?vm_k9 ?vm_a10 ?vm_l10 ?vm_c10 ?vm_k10 ?vm_a11 ?vm_l11 ?vm_c11 ?vm_k11 ?vm_a12 ?vm_l12 ?vm_c12 ?vm_k12 ?vm_a13 ?vm_l13 ?vm_c13 ?vm_k13 ?vm_a14 ?vm_l14 ?vm_c14 ?vm_k14 ?vm_a15 ?vm_l15 ?vm_c15 ?vm_k15 ?vm_a16 ?vm_l16 ?vm_c16 ?vm_k16 ?vm_a17 ?vm_l17 ?vm_c17 ?vm_k17 ?vm_a18 ?vm_l18 ?vm_c18 ?vm_k18 ?vm_a19 ?vm_l19 ?vm_c19 ?vm_k19 ?vm_g0 ?vm_g1 ?vm_g2 ?vm_g3 ?vm_g4 ?vm_g5 ?vm_g6 ?vm_g7 ?vm_g8 ?vm_g9 ?vm_g10 ?vm_g11 ?vm_g12 ?vm_g13 ?vm_g14 ?vm_g15 ?vm_g16 ?vm_g17 ?vm_g18 ?vm_g19 ?vm_gD ?vm_i1 ?vm_t1 ?vm_s1 ?vm_n1 ?vm_i2 ?vm_t2 ?vm_s2 ?vm_n2 ?vm_i3 ?vm_t3 ?vm_s3 ?vm_n3 ?vm_i4 ?vm_t4 ?vm_s4 ?vm_n4 ?vm_i5 ?vm_t5 ?vm_s5 ?vm_n5 ?vm_i6 ?vm_t6 ?vm_s6 ?vm_n6 ?vm_i7 ?vm_t7 ?vm_s7 ?vm_n7 ?vm_i8 ?vm_t8 ?vm_s8 ?vm_n8 ?vm_i9 ?vm_t9 ?vm_s9 ?vm_n9 ?vm_i10 ?vm_t10 ?vm_s10 ?vm_n10 ?vm_i11 ?vm_t11 ?vm_s11 ?vm_n11 ?vm_i12 ?vm_t12 ?vm_s12 ?vm_n12 ?vm_i13 ?vm_t13 ?vm_s13 ?vm_n13 ?vm_i14 ?vm_t14 ?vm_s14 ?vm_n14 ?vm_i15 ?vm_t15 ?vm_s15 ?vm_n15 ?vm_i16 ?vm_t16 ?vm_s16 ?vm_n16 ?vm_i17 ?vm_t17 ?vm_s17 ?vm_n17 ?vm_i18 ?vm_t18 ?vm_s18 ?vm_n18 ?vm_i19 ?vm_t19 ?vm_s19 ?vm_n19 ?vm_iD ?vm_tD ?vm_sD ?vm_nD ?vm_bD ?vm_hD ?vm_sV ?vm_xN ?vm_kN ?vm_bN ?vm_tN ?vm_x1 ?vm_x2 ?vm_x3 ?vm_x4 ?vm_x5 ?vm_x6 ?vm_x7 ?vm_z_isinstance ?vm_z_tuple ?vm_z_bool ?vm_z_str ?vm_z_int ?vm_z_len ?vm_z_all ?vm_z_range ?vm_z_abs ?vm_z_max ?vm_z_min ?vm_z_ValueError
    (case vm_a0 => k_is)
    (case vm_l0 => k_is)
    (case vm_c0 => k_is)
    (case vm_k0 => k_is)
    (case vm_a1 => k_is)
    (case vm_l1 => k_is)
    (case vm_c1 => k_is)
    (case vm_k1 => k_is)
    (case vm_a2 => k_is)
    (case vm_l2 => k_is)
    (case vm_c2 => k_is)
    (case vm_k2 => k_is)
    (case vm_a3 => k_is)
    (case vm_l3 => k_is)
    (case vm_c3 => k_is)
    (case vm_k3 => k_is)
    (case vm_a4 => k_is)
    (case vm_l4 => k_is)
    (case vm_c4 => k_is)
    (case vm_k4 => k_is)
    (case vm_a5 => k_is)
    (case vm_l5 => k_is)
    (case vm_c5 => k_is)
    (case vm_k5 => k_is)
    (case vm_a6 => k_is)
    (case vm_l6 => k_is)
    (case vm_c6 => k_is)
    (case vm_k6 => k_is)
    (case vm_a7 => k_is)
    (case vm_l7 => k_is)
    (case vm_c7 => k_is)
    (case vm_k7 => k_is)
    (case vm_a8 => k_is)
    (case vm_l8 => k_is)
    (case vm_c8 => k_is)
    (case vm_k8 => k_is)
    (case vm_a9 => k_is)
    (case vm_l9 => k_is)
    (case vm_c9 => k_is)
    (case vm_k9 => k_is)
    (case vm_a10 => k_is)
    (case vm_l10 => k_is)
    (case vm_c10 => k_is)
    (case vm_k10 => k_is)
    (case vm_a11 => k_is)
    (case vm_l11 => k_is)
    (case vm_c11 => k_is)
    (case vm_k11 => k_is)
    (case vm_a12 => k_is)
    (case vm_l12 => k_is)
    (case vm_c12 => k_is)
    (case vm_k12 => k_is)
    (case vm_a13 => k_is)
    (case vm_l13 => k_is)
    (case vm_c13 => k_is)
    (case vm_k13 => k_is)
    (case vm_a14 => k_is)
    (case vm_l14 => k_is)
    (case vm_c14 => k_is)
    (case vm_k14 => k_is)
    (case vm_a15 => k_is)
    (case vm_l15 => k_is)
    (case vm_c15 => k_is)
    (case vm_k15 => k_is)
    (case vm_a16 => k_is)
    (case vm_l16 => k_is)
    (case vm_c16 => k_is)
    (case vm_k16 => k_is)
    (case vm_a17 => k_is)
    (case vm_l17 => k_is)
    (case vm_c17 => k_is)
    (case vm_k17 => k_is)
    (case vm_a18 => k_is)
    (case vm_l18 => k_is)
    (case vm_c18 => k_is)
    (case vm_k18 => k_is)
    (case vm_a19 => k_is)
    (case vm_l19 => k_is)
    (case vm_c19 => k_is)
    (case vm_k19 => k_is)
    (case vm_g0 => k_is)
    (case vm_g1 => k_is)
    (case vm_g2 => k_is)
    (case vm_g3 => k_is)
    (case vm_g4 => k_is)
    (case vm_g5 => k_is)
    (case vm_g6 => k_is)
    (case vm_g7 => k_is)
    (case vm_g8 => k_is)
    (case vm_g9 => k_is)
    (case vm_g10 => k_is)
    (case vm_g11 => k_is)
    (case vm_g12 => k_is)
    (case vm_g13 => k_is)
    (case vm_g14 => k_is)
    (case vm_g15 => k_is)
    (case vm_g16 => k_is)
    (case vm_g17 => k_is)
    (case vm_g18 => k_is)
    (case vm_g19 => k_is)
    (case vm_gD => k_is)
    (case vm_i1 => k_is)
    (case vm_t1 => k_is)
    (case vm_s1 => k_is)
    (case vm_n1 => first | rfl | decide)
    (case vm_i2 => k_is)
    (case vm_t2 => k_is)
    (case vm_s2 => k_is)
    (case vm_n2 => first | rfl | decide)
    (case vm_i3 => k_is)
    (case vm_t3 => k_is)
    (case vm_s3 => k_is)
    (case vm_n3 => first | rfl | decide)
    (case vm_i4 => k_is)
    (case vm_t4 => k_is)
    (case vm_s4 => k_is)
    (case vm_n4 => first | rfl | decide)
    (case vm_i5 => k_is)
    (case vm_t5 => k_is)
    (case vm_s5 => k_is)
    (case vm_n5 => first | rfl | decide)
    (case vm_i6 => k_is)
    (case vm_t6 => k_is)
    (case vm_s6 => k_is)
    (case vm_n6 => first | rfl | decide)
    (case vm_i7 => k_is)
    (case vm_t7 => k_is)
    (case vm_s7 => k_is)
    (case vm_n7 => first | rfl | decide)
    (case vm_i8 => k_is)
    (case vm_t8 => k_is)
    (case vm_s8 => k_is)
    (case vm_n8 => first | rfl | decide)
    (case vm_i9 => k_is)
    (case vm_t9 => k_is)
    (case vm_s9 => k_is)
    (case vm_n9 => first | rfl | decide)
    (case vm_i10 => k_is)
    (case vm_t10 => k_is)
    (case vm_s10 => k_is)
    (case vm_n10 => first | rfl | decide)
    (case vm_i11 => k_is)
    (case vm_t11 => k_is)
    (case vm_s11 => k_is)
    (case vm_n11 => first | rfl | decide)
    (case vm_i12 => k_is)
    (case vm_t12 => k_is)
    (case vm_s12 => k_is)
    (case vm_n12 => first | rfl | decide)
    (case vm_i13 => k_is)
    (case vm_t13 => k_is)
    (case vm_s13 => k_is)
    (case vm_n13 => first | rfl | decide)
    (case vm_i14 => k_is)
    (case vm_t14 => k_is)
    (case vm_s14 => k_is)
    (case vm_n14 => first | rfl | decide)
    (case vm_i15 => k_is)
    (case vm_t15 => k_is)
    (case vm_s15 => k_is)
    (case vm_n15 => first | rfl | decide)
    (case vm_i16 => k_is)
    (case vm_t16 => k_is)
    (case vm_s16 => k_is)
    (case vm_n16 => first | rfl | decide)
    (case vm_i17 => k_is)
    (case vm_t17 => k_is)
    (case vm_s17 => k_is)
    (case vm_n17 => first | rfl | decide)
    (case vm_i18 => k_is)
    (case vm_t18 => k_is)
    (case vm_s18 => k_is)
    (case vm_n18 => first | rfl | decide)
    (case vm_i19 => k_is)
    (case vm_t19 => k_is)
    (case vm_s19 => k_is)
    (case vm_n19 => first | rfl | decide)
    (case vm_iD => k_is)
    (case vm_tD => k_is)
    (case vm_sD => k_is)
    (case vm_nD => first | rfl | decide)
    (case vm_bD => k_is)
    (case vm_hD => k_is)
    (case vm_sV => k_is)
    (case vm_xN => first | k_exc | k_is)
    (case vm_kN => k_is)
    (case vm_bN => k_is)
    (case vm_tN => k_is)
    (case vm_x1 => k_is)
    (case vm_x2 => k_is)
    (case vm_x3 => k_is)
    (case vm_x4 => k_is)
    (case vm_x5 => k_is)
    (case vm_x6 => k_is)
    (case vm_x7 => k_is)
    (case vm_z_isinstance => k_is)
    (case vm_z_tuple => k_is)
    (case vm_z_bool => k_is)
    (case vm_z_str => k_is)
    (case vm_z_int => k_is)
    (case vm_z_len => k_is)
    (case vm_z_all => k_is)
    (case vm_z_range => k_is)
    (case vm_z_abs => k_is)
    (case vm_z_max => k_is)
    (case vm_z_min => k_is)
    (case vm_z_ValueError => k_is)
