import PyProof.Rows.All
import Wide.All
import OpenK.AllK
import Wide.FinOn
import HandS.ForMost
import HandS.Gcd
import HandS.Wide
import HandS.IsInst
import HandS.Defaults
import HandS.Style
import KE.KMathGC
import HandS.Evl
import PySem.Challenge.RW_sheetproofs_k74_divisors_multiples_and_p
set_option Elab.async false
set_option linter.all false
set_option maxRecDepth 100000
set_option maxHeartbeats 4000000
set_option exponentiation.threshold 5000
namespace K74
open PySem PySem.Spec PyProof.Rows L2
/-! the text -/
def topS (i : Nat) : Stmt := PySem.Challenge.pw_sheetproofs_k74_divisors_multiples_and_p.main.body.getD i (.Pass ⟨0, 0, 0, 0⟩)
abbrev s_is_whole : Stmt := topS 2
theorem sc_is_whole : FnScope ["thing", "low", "high"] ["thing", "low", "high"] (defScope s_is_whole) := ⟨rfl, rfl, rfl, by decide +kernel, rfl, by decide +kernel, by decide +kernel⟩
abbrev s_common_divisor : Stmt := topS 3
theorem sc_common_divisor : FnScope ["one", "other"] ["one", "other"] (defScope s_common_divisor) := ⟨rfl, rfl, rfl, by decide +kernel, rfl, by decide +kernel, by decide +kernel⟩
abbrev s_common_multiple : Stmt := topS 4
theorem sc_common_multiple : FnScope ["one", "other"] ["one", "other"] (defScope s_common_multiple) := ⟨rfl, rfl, rfl, by decide +kernel, rfl, by decide +kernel, by decide +kernel⟩
abbrev s_power_of : Stmt := topS 5
theorem sc_power_of : FnScope ["base", "exponent", "result"] ["base", "exponent"] (defScope s_power_of) := ⟨rfl, rfl, rfl, by decide +kernel, rfl, by decide +kernel, by decide +kernel⟩
abbrev s_law_hand : Stmt := topS 7
theorem sc_law_hand : FnScope ["_law_script", "_law_total", "_law_cells", "_law_cell"] ["_law_script"] (defScope s_law_hand) := ⟨rfl, rfl, rfl, by decide +kernel, rfl, by decide +kernel, by decide +kernel⟩
abbrev s_law_mixed : Stmt := topS 8
theorem sc_law_mixed : FnScope ["_law_number_here", "_law_turn", "_law_once", "_law_twice"] ["_law_number_here", "_law_turn"] (defScope s_law_mixed) := ⟨rfl, rfl, rfl, by decide +kernel, rfl, by decide +kernel, by decide +kernel⟩
abbrev s_law_take : Stmt := topS 9
theorem sc_law_take : FnScope ["_law_hand_here", "_law_many", "_law_cell", "_law_rest"] ["_law_hand_here", "_law_many"] (defScope s_law_take) := ⟨rfl, rfl, rfl, by decide +kernel, rfl, by decide +kernel, by decide +kernel⟩
abbrev s_law_whole : Stmt := topS 10
theorem sc_law_whole : FnScope ["_law_thing"] ["_law_thing"] (defScope s_law_whole) := ⟨rfl, rfl, rfl, by decide +kernel, rfl, by decide +kernel, by decide +kernel⟩
abbrev s_law_gcd : Stmt := topS 11
theorem sc_law_gcd : FnScope ["_law_one", "_law_other", "_law_first", "_law_second"] ["_law_one", "_law_other"] (defScope s_law_gcd) := ⟨rfl, rfl, rfl, by decide +kernel, rfl, by decide +kernel, by decide +kernel⟩
abbrev s_law_power : Stmt := topS 12
theorem sc_law_power : FnScope ["_law_base", "_law_exponent", "_law_total", "_law_k"] ["_law_base", "_law_exponent"] (defScope s_law_power) := ⟨rfl, rfl, rfl, by decide +kernel, rfl, by decide +kernel, by decide +kernel⟩
abbrev s_law_number : Stmt := topS 13
theorem sc_law_number : FnScope ["_law_hand_here", "_law_size", "_law_number_here"] ["_law_hand_here"] (defScope s_law_number) := ⟨rfl, rfl, rfl, by decide +kernel, rfl, by decide +kernel, by decide +kernel⟩
abbrev s_law_is : Stmt := topS 14
theorem sc_law_is : FnScope ["_law_thing", "_law_least", "_law_most"] ["_law_thing", "_law_least", "_law_most"] (defScope s_law_is) := ⟨rfl, rfl, rfl, by decide +kernel, rfl, by decide +kernel, by decide +kernel⟩
abbrev s_law : Stmt := topS 15
theorem sc_law : FnScope ["_law_script", "_law_hand_here", "_law_factor", "_law_one", "_law_other", "_law_a", "_law_b", "_law_divisor", "_law_multiple", "_law_due", "_law_base", "_law_exponent", "_law_top", "_law_told", "_law_least", "_law_most", "_law_thing"] ["_law_script"] (defScope s_law) := ⟨rfl, rfl, rfl, by decide +kernel, rfl, by decide +kernel, by decide +kernel⟩
/-! things of any kind -/
inductive Knd (H : Hp) : V → Prop where
  | non : Knd H .non
  | bl (b : Bool) : Knd H (.bl b)
  | int (i : Int) : Knd H (.int i)
  | str (x : Str) : Knd H (.str x)
  | tup {p : Addr} {xs : List V} (h : H p = some (.tup xs)) : Knd H (.ref p)
def isBl : V → Bool
  | .bl _ => true
  | _ => false
def isIt : V → Bool
  | .bl _ => true
  | .int _ => true
  | _ => false
def isInt : V → Bool
  | .int _ => true
  | _ => false
theorem knd_ty {K : PySem.W.Frag} {H : Hp} {x : V} (k : Knd H x) : ∃ t, TyX K H x t ∧ PySem.W.kitOne K t (.type "bool") = some (isBl x) ∧ PySem.W.kitOne K t (.type "int") = some (isIt x) := by
  cases k with
  | non => exact ⟨_, .base .non, kit_ty (show kitB "NoneType" "bool" = some false by decide +kernel), kit_ty (show kitB "NoneType" "int" = some false by decide +kernel)⟩
  | bl b => exact ⟨_, .base (.bl b), kit_ty (show kitB "bool" "bool" = some true by decide +kernel), kit_ty (show kitB "bool" "int" = some true by decide +kernel)⟩
  | int i => exact ⟨_, .base (.int i), kit_ty (show kitB "int" "bool" = some false by decide +kernel), kit_ty (show kitB "int" "int" = some true by decide +kernel)⟩
  | str x => exact ⟨_, .base (.str x), kit_ty (show kitB "str" "bool" = some false by decide +kernel), kit_ty (show kitB "str" "int" = some false by decide +kernel)⟩
  | tup h => exact ⟨_, .base (.tup h), kit_ty (show kitB "tuple" "bool" = some false by decide +kernel), kit_ty (show kitB "tuple" "int" = some false by decide +kernel)⟩
/-- a bound: None or an int -/
def Lim (v : V) : Prop := v = .non ∨ ∃ l : Int, v = .int l
def wholeIn : V → V → V → Bool
  | .int i, lo, hi => (match lo with | .int l => decide (l ≤ i) | _ => true) && (match hi with | .int h => decide (i ≤ h) | _ => true)
  | _, _, _ => false
theorem wi_low {i l : Int} {hi : V} : wholeIn (.int i) (.int l) hi = (decide (l ≤ i) && wholeIn (.int i) .non hi) := by
  simp [wholeIn]
theorem wi_high {i m : Int} : wholeIn (.int i) .non (.int m) = decide (i ≤ m) := by
  simp [wholeIn]
/-! the hand -/
structure Hand (H : Hp) (h : Addr) : Prop where
  ex : ∃ (c : Addr) (cells : List Int) (p r t : Int), H h = some (.lst [.ref c, .int p, .int r, .int t]) ∧ H c = some (.lst (cells.map V.int)) ∧ c ≠ h ∧ 0 ≤ p ∧ 0 ≤ r ∧ ∀ z ∈ cells, (0 : Int) ≤ z
def Keep (h : Addr) (H H' : Hp) : Prop := ∀ b o, b ≠ h → H b = some o → H' b = some o
theorem Keep.trans {h : Addr} {H H1 H2 : Hp} (a : Keep h H H1) (b : Keep h H1 H2) : Keep h H H2 := fun c o n e => b c o n (a c o n e)
theorem Keep.refl {h : Addr} {H : Hp} : Keep h H H := fun _ _ _ e => e
theorem keep_upd {h : Addr} {H : Hp} {o : HO} : Keep h H (upd H h o) := fun b u n e => by rw [upd_ne n]; exact e
theorem Hand.same {H H' : Hp} {h : Addr} (e : Same H H') (x : Hand H h) : Hand H' h := by
  obtain ⟨c, cells, p, r, t, h1, h2, q⟩ := x.ex
  exact ⟨c, cells, p, r, t, e _ _ h1, e _ _ h2, q⟩
/-! the promises -/
def sp_is_whole (K : PySem.W.Frag) : Sp := fun vs H Q _ => ∃ x lo hi, vs = [x, lo, hi] ∧ Knd H x ∧ Lim lo ∧ Lim hi ∧ Q (.bl (wholeIn x lo hi)) H
def sp_common_divisor (K : PySem.W.Frag) : Sp := fun vs H Q _ => ∃ a b : Int, vs = [.int a, .int b] ∧ Q (.int ((Nat.gcd a.natAbs b.natAbs : Nat) : Int)) H
def sp_common_multiple (K : PySem.W.Frag) : Sp := fun vs H Q _ => ∃ a b : Int, vs = [.int a, .int b] ∧ a.natAbs < 2 ^ 200 ∧ b.natAbs < 2 ^ 200 ∧ Q (.int ((Nat.lcm a.natAbs b.natAbs : Nat) : Int)) H
def sp_power_of (K : PySem.W.Frag) : Sp := fun vs H Q _ => ∃ (b : Int) (e : Nat), vs = [.int b, .int (e : Int)] ∧ b.natAbs ≤ 2 ^ 67 ∧ e ≤ 40 ∧ Q (.int (b ^ e)) H
def sp_law_hand (K : PySem.W.Frag) : Sp := fun vs H Q _ => ∃ (a : Addr) (ns : List Int), vs = [.ref a] ∧ SqL K H a (ns.map V.int) ∧ ns.length ≤ 63 ∧ ∀ H' h, Same H H' → H h = none → Hand H' h → Q (.ref h) H'
def sp_law_mixed (K : PySem.W.Frag) : Sp := fun vs H Q _ => ∃ a b : Int, vs = [.int a, .int b] ∧ ∀ r : Int, 0 ≤ r → Q (.int r) H
def sp_law_take (K : PySem.W.Frag) : Sp := fun vs H Q _ => ∃ (h : Addr) (m : Int), vs = [.ref h, .int m] ∧ Hand H h ∧ 0 < m ∧ m.natAbs < 2 ^ 100 ∧ ∀ H' r, Keep h H H' → Hand H' h → 0 ≤ r → r < m → Q (.int r) H'
def sp_law_whole (K : PySem.W.Frag) : Sp := fun vs H Q _ => ∃ x, vs = [x] ∧ Knd H x ∧ Q (.bl (isInt x)) H
def sp_law_gcd (K : PySem.W.Frag) : Sp := fun vs H Q _ => ∃ a b : Int, vs = [.int a, .int b] ∧ Q (.int ((Nat.gcd a.natAbs b.natAbs : Nat) : Int)) H
def sp_law_power (K : PySem.W.Frag) : Sp := fun vs H Q _ => ∃ (b : Int) (e : Nat), vs = [.int b, .int (e : Int)] ∧ b.natAbs ≤ 2 ^ 67 ∧ e ≤ 40 ∧ Q (.int (b ^ e)) H
def sp_law_number (K : PySem.W.Frag) : Sp := fun vs H Q _ => ∃ h : Addr, vs = [.ref h] ∧ Hand H h ∧ ∀ H' n, Keep h H H' → Hand H' h → n.natAbs < 2 ^ 67 → Q (.int n) H'
def sp_law_is (K : PySem.W.Frag) : Sp := fun vs H Q _ => ∃ x lo hi, vs = [x, lo, hi] ∧ Knd H x ∧ Lim lo ∧ Lim hi ∧ Q (.bl (wholeIn x lo hi)) H
def sp_law (K : PySem.W.Frag) : Sp := fun vs H Q _ => ∃ (a : Addr) (ns : List Int), vs = [.ref a] ∧ SqL K H a (ns.map V.int) ∧ ns.length ≤ 63 ∧ ∀ H', Q (.bl true) H'
/-! what the top leaves -/
structure Txt (K : PySem.W.Frag) (mg : Str → Option Value) where
  f_is_whole : Addr
  d_is_whole : FuncData
  F_is_whole : FunD K "is_whole" "is_whole" (defArgs s_is_whole) (defBody s_is_whole) (defScope s_is_whole) [.non, .non] [] f_is_whole d_is_whole
  g_is_whole : mg "is_whole" = some (.ref f_is_whole)
  b_is_whole : Binds K d_is_whole ["thing", "low", "high"] []
  b1_is_whole : Binds K d_is_whole ["thing", "low", "high"] [.none, .none]
  kb_is_whole : KBn K d_is_whole ["thing", "low", "high"] 1 ["high"] (fun us ws => us ++ (Value.none :: ws)) (fun vs zs => vs ++ (V.non :: zs))
  f_common_divisor : Addr
  d_common_divisor : FuncData
  F_common_divisor : Fun K "common_divisor" "common_divisor" s_common_divisor f_common_divisor d_common_divisor
  g_common_divisor : mg "common_divisor" = some (.ref f_common_divisor)
  b_common_divisor : Binds K d_common_divisor ["one", "other"] []
  f_common_multiple : Addr
  d_common_multiple : FuncData
  F_common_multiple : Fun K "common_multiple" "common_multiple" s_common_multiple f_common_multiple d_common_multiple
  g_common_multiple : mg "common_multiple" = some (.ref f_common_multiple)
  b_common_multiple : Binds K d_common_multiple ["one", "other"] []
  f_power_of : Addr
  d_power_of : FuncData
  F_power_of : Fun K "power_of" "power_of" s_power_of f_power_of d_power_of
  g_power_of : mg "power_of" = some (.ref f_power_of)
  b_power_of : Binds K d_power_of ["base", "exponent"] []
  f_law_hand : Addr
  d_law_hand : FuncData
  F_law_hand : Fun K "_law_hand" "_law_hand" s_law_hand f_law_hand d_law_hand
  g_law_hand : mg "_law_hand" = some (.ref f_law_hand)
  b_law_hand : Binds K d_law_hand ["_law_script"] []
  f_law_mixed : Addr
  d_law_mixed : FuncData
  F_law_mixed : Fun K "_law_mixed" "_law_mixed" s_law_mixed f_law_mixed d_law_mixed
  g_law_mixed : mg "_law_mixed" = some (.ref f_law_mixed)
  b_law_mixed : Binds K d_law_mixed ["_law_number_here", "_law_turn"] []
  f_law_take : Addr
  d_law_take : FuncData
  F_law_take : Fun K "_law_take" "_law_take" s_law_take f_law_take d_law_take
  g_law_take : mg "_law_take" = some (.ref f_law_take)
  b_law_take : Binds K d_law_take ["_law_hand_here", "_law_many"] []
  f_law_whole : Addr
  d_law_whole : FuncData
  F_law_whole : Fun K "_law_whole" "_law_whole" s_law_whole f_law_whole d_law_whole
  g_law_whole : mg "_law_whole" = some (.ref f_law_whole)
  b_law_whole : Binds K d_law_whole ["_law_thing"] []
  f_law_gcd : Addr
  d_law_gcd : FuncData
  F_law_gcd : Fun K "_law_gcd" "_law_gcd" s_law_gcd f_law_gcd d_law_gcd
  g_law_gcd : mg "_law_gcd" = some (.ref f_law_gcd)
  b_law_gcd : Binds K d_law_gcd ["_law_one", "_law_other"] []
  f_law_power : Addr
  d_law_power : FuncData
  F_law_power : Fun K "_law_power" "_law_power" s_law_power f_law_power d_law_power
  g_law_power : mg "_law_power" = some (.ref f_law_power)
  b_law_power : Binds K d_law_power ["_law_base", "_law_exponent"] []
  f_law_number : Addr
  d_law_number : FuncData
  F_law_number : Fun K "_law_number" "_law_number" s_law_number f_law_number d_law_number
  g_law_number : mg "_law_number" = some (.ref f_law_number)
  b_law_number : Binds K d_law_number ["_law_hand_here"] []
  f_law_is : Addr
  d_law_is : FuncData
  F_law_is : Fun K "_law_is" "_law_is" s_law_is f_law_is d_law_is
  g_law_is : mg "_law_is" = some (.ref f_law_is)
  b_law_is : Binds K d_law_is ["_law_thing", "_law_least", "_law_most"] []
  f_law : Addr
  d_law : FuncData
  F_law : Fun K "law" "law" s_law f_law d_law
  x_gcd : mg "gcd" = some (.builtin "math.gcd")
  x_lcm : mg "lcm" = some (.builtin "math.lcm")
  m_abs : mg "abs" = none
  m_bool : mg "bool" = none
  m_int : mg "int" = none
  m_isinstance : mg "isinstance" = none
  m_len : mg "len" = none
  m_range : mg "range" = none
section
variable {X : Cx}
def rLcm : List V → Hp → VK → Prop := fun vs H Q => ∃ a b : Int, vs = [.int a, .int b] ∧ a.natAbs < 2 ^ 200 ∧ b.natAbs < 2 ^ 200 ∧ Q (.int ((Nat.lcm a.natAbs b.natAbs : Nat) : Int)) H
theorem log200 {n : Nat} (h : n < 2 ^ 200) : n.log2 < 200 := by
  by_cases h0 : n = 0
  · subst h0
    rw [Nat.log2_zero]
    decide
  · exact (Nat.log2_lt h0).mpr h
theorem cr_lcm : CallR X (.builtin "math.lcm") rLcm := by
  intro pins s σ H vs us Q I r h
  obtain ⟨a, b, rfl, ha, hb, q⟩ := h
  obtain ⟨t, u, rfl⟩ := Vals.int2 r
  have e1 : Nat.lcm 1 a.natAbs = a.natAbs := Nat.lcm_one_left _
  have h1 : (max 1 a.natAbs) < 2 ^ 200 := by
    rcases Nat.le_total 1 a.natAbs with z | z
    · rw [Nat.max_eq_right z]; exact ha
    · rw [Nat.max_eq_left z]; decide
  have h2 : (max a.natAbs b.natAbs) < 2 ^ 200 := by
    rcases Nat.le_total a.natAbs b.natAbs with z | z
    · rw [Nat.max_eq_right z]; exact hb
    · rw [Nat.max_eq_left z]; exact ha
  have l1 := log200 h1
  have l2 := log200 h2
  have hle : a.natAbs.lcm b.natAbs ≤ a.natAbs * b.natAbs := by
    unfold Nat.lcm
    exact Nat.div_le_self _ _
  have hlt : a.natAbs.lcm b.natAbs < 2 ^ 400 := by
    refine Nat.lt_of_le_of_lt hle ?_
    have e : (2 : Nat) ^ 400 = 2 ^ 200 * 2 ^ 200 := by rw [← Nat.pow_add]
    rw [e]
    exact Nat.mul_lt_mul'' ha hb
  have hsz : ((((Nat.lcm 1 a.natAbs).lcm b.natAbs : Nat) : Int)).natAbs.log2 < bitsLine := by
    rw [e1, Int.natAbs_natCast]
    by_cases h0 : a.natAbs.lcm b.natAbs = 0
    · rw [h0, Nat.log2_zero]
      decide
    · exact Nat.lt_of_lt_of_le ((Nat.log2_lt h0).mpr hlt) (by decide)
  refine call_function_meets PySem.W.MGF.kind_lcm PySem.W.MGF.plain_lcm PySem.W.MGF.entry_lcm (PySem.W.MGF.args_lcm _ _) (PySem.W.mg_run_lcm a t b u (by omega) (by omega) hsz).meets ?_
  rw [e1]
  exact ⟨.int _, H, I.tok _, ⟨_, rfl⟩, q⟩
end
section
variable {P : Program} {w : World} {K : PySem.W.Frag} {mg : Str → Option Value} {base : Heap}
theorem ok_common_divisor (T : Txt K mg) : FnOk P w K mg base CX0 1 T.f_common_divisor T.d_common_divisor ["one", "other"] (sp_common_divisor K) := by
  refine T.F_common_divisor.ok sc_common_divisor (fun vs H Q E h => ?_) (fun cdv A outer s H vs Q E hr h => ?_)
  · obtain ⟨a, b, rfl, _⟩ := h
    rfl
  · obtain ⟨a, b, rfl, q⟩ := h
    refine ⟨_, (pss_one (ps_ret (pe_callBfun cr_gcd rfl T.x_gcd (pa_cons (pv 0) (pa_cons (pv 1) pa_nil))))), ?_⟩
    exact ⟨_, rfl, _, rfl, a, b, rfl, q⟩
theorem ok_common_multiple (T : Txt K mg) : FnOk P w K mg base CX0 1 T.f_common_multiple T.d_common_multiple ["one", "other"] (sp_common_multiple K) := by
  refine T.F_common_multiple.ok sc_common_multiple (fun vs H Q E h => ?_) (fun cdv A outer s H vs Q E hr h => ?_)
  · obtain ⟨a, b, rfl, _⟩ := h
    rfl
  · obtain ⟨a, b, rfl, q⟩ := h
    refine ⟨_, (pss_one (ps_ret (pe_callBfun cr_lcm rfl T.x_lcm (pa_cons (pv 0) (pa_cons (pv 1) pa_nil))))), ?_⟩
    exact ⟨_, rfl, _, rfl, a, b, rfl, q⟩

theorem ok_is_whole (T : Txt K mg) : FnOk P w K mg base CX0 1 T.f_is_whole T.d_is_whole ["thing", "low", "high"] (sp_is_whole K) := by
  refine T.F_is_whole.ok sc_is_whole (fun vs H Q E h => ?_) (fun cdv A outer s H vs Q E hr h => ?_)
  · obtain ⟨x, lo, hi, rfl, _⟩ := h
    rfl
  · obtain ⟨x, lo, hi, rfl, hk, hl, hh, q⟩ := h
    obtain ⟨t, ty, k1, k2⟩ := knd_ty (K := K) hk
    refine ⟨_, (pss_cons (ps_if (PW.pt (pw_or (pt_val (pe_callB call_isi (by rfl) T.m_isinstance (by decide +kernel) (pa_cons (pv 0) (pa_cons (pe_bltn (v := .ty "bool") (u := .type "bool") (by rfl) T.m_bool (by decide +kernel) rfl) pa_nil)))) (pw_or1 (pt_not (pt_val (pe_callB call_isi (by rfl) T.m_isinstance (by decide +kernel) (pa_cons (pv 0) (pa_cons (pe_bltn (v := .ty "int") (u := .type "int") (by rfl) T.m_int (by decide +kernel) rfl) pa_nil))))))))
        (pss_one (ps_ret pe_bl))
        pss_nil)
      (pss_cons (ps_if (PW.pt (pw_and (pt_cmpR op_notN (pv 1) pe_non (nomark _)) (pw_and1 (pt_cmpR op_lt (pv 0) (pv 1) (nomark _)))))
        (pss_one (ps_ret pe_bl))
        pss_nil)
      (pss_one (ps_ret (pe_or (pe_cmpR op_isN (pv 2) pe_non (nomark _)) (pe_one (pe_cmpR op_le (pv 0) (pv 2) (nomark _)))))))), ?_⟩
    refine ⟨x, rfl, x, .ty "bool", t, _, isBl x, rfl, .ty _, ty, k1, isBl x, rfl, ?_⟩
    have tail : ∀ i : Int, Q (.bl (wholeIn (.int i) .non hi)) H → tRet (tOrV (tOp (fun x y H Q => y = V.non ∧ Q (V.bl (decide (x = V.non))) H) (tVar 2) (tC V.non)) (tOp (rI0 fun i j => V.bl (decide (i ≤ j))) (tVar 0) (tVar 2))) { nx := fun x H' => Q V.non H', rt := Q } (L2.start ["thing", "low", "high"] [V.int i, lo, hi]) H := by
      intro i q
      rcases hh with rfl | ⟨m, rfl⟩
      · exact ⟨.non, rfl, rfl, _, rfl, iteT q⟩
      · refine ⟨.int m, rfl, rfl, _, rfl, iteF ?_⟩
        rw [wi_high] at q
        exact ⟨_, rfl, _, rfl, i, m, rfl, rfl, q⟩
    cases hk with
    | bl b => exact iteT (iteT q)
    | int i =>
      refine iteF ⟨_, rfl, _, .ty "int", t, _, true, rfl, .ty _, ty, k2, true, rfl, iteF ?_⟩
      rcases hl with rfl | ⟨l, rfl⟩
      · exact ⟨.non, rfl, rfl, _, rfl, iteF (iteF (tail i q))⟩
      · rw [wi_low] at q
        refine ⟨.int l, rfl, rfl, _, rfl, iteT ⟨.int i, rfl, .int l, rfl, i, l, rfl, rfl, _, rfl, ite2 (fun e => ?_) (fun e => ?_)⟩⟩
        · have e2 := of_decide_eq_true e
          rw [decide_eq_false (by omega : ¬ l ≤ i)] at q
          exact q
        · have e2 : l ≤ i := Int.not_lt.mp fun z => e (decide_eq_true z)
          rw [decide_eq_true e2] at q
          exact tail i q
    | non => exact iteF ⟨_, rfl, _, .ty "int", t, _, false, rfl, .ty _, ty, k2, false, rfl, iteT q⟩
    | str z => exact iteF ⟨_, rfl, _, .ty "int", t, _, false, rfl, .ty _, ty, k2, false, rfl, iteT q⟩
    | tup z => exact iteF ⟨_, rfl, _, .ty "int", t, _, false, rfl, .ty _, ty, k2, false, rfl, iteT q⟩
theorem ok_law_whole (T : Txt K mg) : FnOk P w K mg base CX0 1 T.f_law_whole T.d_law_whole ["_law_thing"] (sp_law_whole K) := by
  refine T.F_law_whole.ok sc_law_whole (fun vs H Q E h => ?_) (fun cdv A outer s H vs Q E hr h => ?_)
  · obtain ⟨x, rfl, _⟩ := h
    rfl
  · obtain ⟨x, rfl, hk, q⟩ := h
    obtain ⟨t, ty, k1, k2⟩ := knd_ty (K := K) hk
    refine ⟨_, (pss_one (ps_ret (pe_and (pe_callB call_isi (by rfl) T.m_isinstance (by decide +kernel) (pa_cons (pv 0) (pa_cons (pe_bltn (v := .ty "int") (u := .type "int") (by rfl) T.m_int (by decide +kernel) rfl) pa_nil))) (pe_one (pe_not (pe_callB call_isi (by rfl) T.m_isinstance (by decide +kernel) (pa_cons (pv 0) (pa_cons (pe_bltn (v := .ty "bool") (u := .type "bool") (by rfl) T.m_bool (by decide +kernel) rfl) pa_nil)))))))), ?_⟩
    refine ⟨x, rfl, x, .ty "int", t, _, isIt x, rfl, .ty _, ty, k2, isIt x, rfl, ?_⟩
    cases hk with
    | bl b => exact iteT ⟨_, rfl, _, .ty "bool", t, _, true, rfl, .ty _, ty, k1, true, rfl, q⟩
    | int i => exact iteT ⟨_, rfl, _, .ty "bool", t, _, false, rfl, .ty _, ty, k1, false, rfl, q⟩
    | non => exact iteF q
    | str z => exact iteF q
    | tup z => exact iteF q
theorem ok_law_is (T : Txt K mg) : FnOk P w K mg base CX0 2 T.f_law_is T.d_law_is ["_law_thing", "_law_least", "_law_most"] (sp_law_is K) := by
  refine T.F_law_is.ok sc_law_is (fun vs H Q E h => ?_) (fun cdv A outer s H vs Q E hr h => ?_)
  · obtain ⟨x, lo, hi, rfl, _⟩ := h
    rfl
  · obtain ⟨x, lo, hi, rfl, hk, hl, hh, q⟩ := h
    refine ⟨_, (pss_cons (ps_if (pt_not (pt_val (pe_call (ok_law_whole T) (hr.mono (by decide)) (by rfl) T.g_law_whole T.F_law_whole.kp T.b_law_whole .nil pass0 (pa_cons (pv 0) pa_nil))))
        (pss_one (ps_ret pe_bl))
        pss_nil)
      (pss_one (ps_ret (pe_and (pe_or (pe_cmpR op_isN (pv 1) pe_non (nomark _)) (pe_one (pe_cmpR op_ge (pv 0) (pv 1) (nomark _)))) (pe_one (pe_or (pe_cmpR op_isN (pv 2) pe_non (nomark _)) (pe_one (pe_cmpR op_le (pv 0) (pv 2) (nomark _))))))))), ?_⟩
    refine ⟨x, rfl, x, rfl, hk, isInt x, rfl, ?_⟩
    cases hk with
    | bl b => exact iteT q
    | non => exact iteT q
    | str z => exact iteT q
    | tup z => exact iteT q
    | int i =>
      refine iteF ?_
      have tail : Q (.bl (wholeIn (.int i) .non hi)) H → tOrV (tOp (fun x y H Q => y = V.non ∧ Q (V.bl (decide (x = V.non))) H) (tVar 2) (tC V.non)) (tOp (rI0 fun i j => V.bl (decide (i ≤ j))) (tVar 0) (tVar 2)) (L2.start ["_law_thing", "_law_least", "_law_most"] [V.int i, lo, hi]) H Q := by
        intro q
        rcases hh with rfl | ⟨m, rfl⟩
        · exact ⟨.non, rfl, rfl, _, rfl, iteT q⟩
        · refine ⟨.int m, rfl, rfl, _, rfl, iteF ?_⟩
          rw [wi_high] at q
          exact ⟨_, rfl, _, rfl, i, m, rfl, rfl, q⟩
      rcases hl with rfl | ⟨l, rfl⟩
      · exact ⟨.non, rfl, rfl, _, rfl, iteT ⟨_, rfl, iteT (tail q)⟩⟩
      · rw [wi_low] at q
        refine ⟨.int l, rfl, rfl, _, rfl, iteF ⟨.int i, rfl, .int l, rfl, i, l, rfl, rfl, _, rfl, ite2 (fun e => ?_) (fun e => ?_)⟩⟩
        · rw [e] at q
          exact tail q
        · rw [Bool.eq_false_iff.mpr e] at q
          exact q
/-! powers -/
theorem pow_bits {b : Int} (h : b.natAbs ≤ 2 ^ 67) (m : Nat) : (b ^ m).natAbs ≤ 2 ^ (67 * m) := by
  rw [Int.natAbs_pow, Nat.pow_mul]
  exact Nat.pow_le_pow_left h m
theorem pow_mulW {b : Int} (h : b.natAbs ≤ 2 ^ 67) {m n : Nat} (hm : m ≤ 5000) (hn : n ≤ 5000) : CMulW (b ^ m) (b ^ n) := by
  have x : ∀ k : Nat, k ≤ 5000 → (b ^ k).natAbs < 2 ^ (67 * k + 1) := fun k _ => Nat.lt_of_le_of_lt (pow_bits h k) (Nat.pow_lt_pow_right (by decide) (by omega))
  exact wide_mul (x m hm) (x n hn) (by omega) (by omega) (by omega)
theorem ok_power_of (T : Txt K mg) : FnOk P w K mg base CX0 1 T.f_power_of T.d_power_of ["base", "exponent"] (sp_power_of K) := by
  refine T.F_power_of.ok sc_power_of (fun vs H Q E h => ?_) (fun cdv A outer s H vs Q E hr h => ?_)
  · obtain ⟨a, b, rfl, _⟩ := h
    rfl
  · obtain ⟨b, e, rfl, hb, he, q⟩ := h
    refine ⟨_, (pss_cons (ps_set (i := 2) sc_power_of.nd rfl (.inl rfl) pe_int)
      (pss_cons (ps_while PassesOwn.never (pt_cmpR op_gt (pv 1) pe_int (nomark _))
        (pss_cons (ps_if (pt_cmpR op_eq (pe_op op_mod (pv 1) pe_int) pe_int (nomark _))
          (pss_one (ps_set (i := 2) sc_power_of.nd rfl (.inl rfl) (pe_op op_mulW (pv 2) (pv 0))))
          pss_nil)
        (pss_cons (ps_set (i := 1) sc_power_of.nd rfl (.inl rfl) (pe_op op_fdiv (pv 1) pe_int))
        (pss_one (ps_if (pt_cmpR op_gt (pv 1) pe_int (nomark _))
          (pss_one (ps_set (i := 0) sc_power_of.nd rfl (.inl rfl) (pe_op op_mulW (pv 0) (pv 0))))
          pss_nil)))))
      (pss_one (ps_ret (pv 2))))), ?_⟩
    refine ⟨fun m σ H' => ∃ k n l : Nat, σ = [some (.int (b ^ k)), some (.int (l : Int)), some (.int (b ^ n))] ∧ H = H' ∧ n + k * l = e ∧ m = l ∧ k ≤ 40, ⟨e, 1, 0, e, by simp only [Int.pow_one, Int.pow_zero]; rfl, rfl, by omega, rfl, by decide⟩, fun m σ H' hW => ?_⟩
    obtain ⟨k, n, l, rfl, rfl, hs, rfl, hk⟩ := hW
    refine ⟨_, rfl, m, 0, rfl, rfl, _, rfl, ite2 (fun c => ?_) (fun c => ?_)⟩
    · have hpos : (0 : Int) < (m : Int) := of_decide_eq_true c
      have hl1 : 1 ≤ m := by omega
      have hke : k ≤ k * m := Nat.le_mul_of_pos_right k hl1
      refine ⟨fun σ' H' => ∃ m', m' < m ∧ ∃ k n l : Nat, σ' = [some (.int (b ^ k)), some (.int (l : Int)), some (.int (b ^ n))] ∧ H = H' ∧ n + k * l = e ∧ m' = l ∧ k ≤ 40, fun σ' H' hN => hN, ?_⟩
      have dm : m = 2 * (m / 2) + m % 2 := by omega
      have ed : ((m : Int) / 2) = ((m / 2 : Nat) : Int) := rfl
      -- what follows the first if, by the power that the result holds
      have rest : ∀ n' : Nat, n' + k * (2 * (m / 2)) = e → (tSeq (tAsg (tOp (rI CDiv fun i j => V.int (i / j)) (tVar 1) (tC (V.int 2))) (gName 1)) (tIfS (tTest (tOp (rI0 fun i j => V.bl (decide (j < i))) (tVar 1) (tC (V.int 0)))) (tAsg (tOp (rI CMulW fun i j => V.int (i * j)) (tVar 0) (tVar 0)) (gName 0)) tNext))
          { nx := fun σ' H' => ∃ m', m' < m ∧ ∃ k n l : Nat, σ' = [some (.int (b ^ k)), some (.int (l : Int)), some (.int (b ^ n))] ∧ H = H' ∧ n + k * l = e ∧ m' = l ∧ k ≤ 40, ct := fun σ' H' => ∃ m', m' < m ∧ ∃ k n l : Nat, σ' = [some (.int (b ^ k)), some (.int (l : Int)), some (.int (b ^ n))] ∧ H = H' ∧ n + k * l = e ∧ m' = l ∧ k ≤ 40, rt := Q }
          [some (.int (b ^ k)), some (.int (m : Int)), some (.int (b ^ n'))] H := by
        intro n' hn'
        refine ⟨_, rfl, m, 2, rfl, rfl, ⟨by decide, by decide⟩, _, rfl, (m : Int) / 2, 0, rfl, rfl, _, rfl, ite2 (fun c2 => ?_) (fun c2 => ?_)⟩
        · have h2 : (0 : Int) < (m : Int) / 2 := of_decide_eq_true c2
          have hl2 : 1 ≤ m / 2 := by omega
          have hk2 : k * 2 ≤ k * (2 * (m / 2)) := Nat.mul_le_mul_left k (by omega)
          refine ⟨_, rfl, _, rfl, _, _, rfl, rfl, pow_mulW hb (by omega) (by omega), m / 2, by omega, k * 2, n', m / 2, ?_, rfl, ?_, rfl, by omega⟩
          · rw [show k * 2 = k + k by omega, Int.pow_add]
            rfl
          · rw [Nat.mul_assoc]
            exact hn'
        · have h2 : ¬ (0 : Int) < (m : Int) / 2 := fun z => c2 (decide_eq_true z)
          have h0 : m / 2 = 0 := by omega
          refine ⟨m / 2, by omega, k, n', m / 2, rfl, rfl, ?_, rfl, hk⟩
          rw [h0] at hn' ⊢
          exact hn'
      refine ⟨_, rfl, m, 2, rfl, rfl, (show (0 : Int) < 2 by decide), rfl, _, rfl, ite2 (fun c2 => ?_) (fun c2 => ?_)⟩
      · have h1 : (m : Int) % 2 = 1 := V.int.inj (of_decide_eq_true c2)
        have hm1 : m % 2 = 1 := by omega
        have hn1 : n + k + k * (2 * (m / 2)) = e := by
          rw [← hs]
          have e1 : k * m = k * (2 * (m / 2)) + k := by
            conv => lhs; rw [dm, hm1]
            rw [Nat.mul_add, Nat.mul_one]
          omega
        refine ⟨_, rfl, _, rfl, _, _, rfl, rfl, pow_mulW hb (by omega) (by omega), ?_⟩
        have r := rest (n + k) hn1
        rw [Int.pow_add] at r
        exact r
      · have h1 : ¬ (m : Int) % 2 = 1 := fun z => c2 (decide_eq_true (congrArg V.int z))
        have hm0 : m % 2 = 0 := by omega
        refine rest n ?_
        rw [show 2 * (m / 2) = m by omega]
        exact hs
    · have h0 : ¬ (0 : Int) < (m : Int) := fun z => c (decide_eq_true z)
      have hm : m = 0 := by omega
      subst hm
      rw [Nat.mul_zero, Nat.add_zero] at hs
      subst hs
      exact ⟨_, rfl, q⟩
theorem ok_law_power (T : Txt K mg) : FnOk P w K mg base CX0 1 T.f_law_power T.d_law_power ["_law_base", "_law_exponent"] (sp_law_power K) := by
  refine T.F_law_power.ok sc_law_power (fun vs H Q E h => ?_) (fun cdv A outer s H vs Q E hr h => ?_)
  · obtain ⟨a, b, rfl, _⟩ := h
    rfl
  · obtain ⟨b, e, rfl, hb, he, q⟩ := h
    refine ⟨_, (pss_cons (ps_set (i := 2) sc_law_power.nd rfl (.inl rfl) pe_int)
      (pss_cons (ps_for PassesOwn.never rfl (pi_range1 (by rfl) T.m_range (pa_cons (pv 1) pa_nil)) (pg_name (i := 3) sc_law_power.nd rfl (.inl rfl))
        (pss_one (ps_set (i := 2) sc_law_power.nd rfl (.inl rfl) (pe_op op_mulW (pv 2) (pv 0)))))
      (pss_one (ps_ret (pv 2))))), ?_⟩
    refine ⟨_, rfl, e, rfl, by omega, by omega, for_range (n := (e : Int).toNat) (fun i σ H' => ∃ y, σ = [some (.int b), some (.int (e : Int)), some (.int (b ^ i)), y] ∧ H = H') ⟨none, by simp only [Int.pow_zero]; rfl, rfl⟩ (fun i σ H' hi hP => ?_) (fun σ H' hP => ?_)⟩
    · obtain ⟨y, rfl, rfl⟩ := hP
      refine ⟨_, rfl, _, rfl, _, _, rfl, rfl, ?_, some (.int (0 + (i : Int))), ?_, rfl⟩
      · have := pow_mulW hb (m := i) (n := 1) (by omega) (by decide)
        rw [Int.pow_one] at this
        exact this
      · rw [Int.pow_succ]
        rfl
    · obtain ⟨y, rfl, rfl⟩ := hP
      exact ⟨_, rfl, q⟩
/-! divisors -/
theorem ok_law_gcd (T : Txt K mg) : FnOk P w K mg base CX0 1 T.f_law_gcd T.d_law_gcd ["_law_one", "_law_other"] (sp_law_gcd K) := by
  refine T.F_law_gcd.ok sc_law_gcd (fun vs H Q E h => ?_) (fun cdv A outer s H vs Q E hr h => ?_)
  · obtain ⟨a, b, rfl, _⟩ := h
    rfl
  · obtain ⟨a, b, rfl, q⟩ := h
    refine ⟨_, (pss_cons (ps_set (i := 2) sc_law_gcd.nd rfl (.inl rfl) (pe_callB call_abs (by rfl) T.m_abs (by decide +kernel) (pa_cons (pv 0) pa_nil)))
      (pss_cons (ps_set (i := 3) sc_law_gcd.nd rfl (.inl rfl) (pe_callB call_abs (by rfl) T.m_abs (by decide +kernel) (pa_cons (pv 1) pa_nil)))
      (pss_cons (ps_while PassesOwn.never (pt_cmpR op_ne (pv 3) pe_int (nomark _))
        (pss_one (ps_par (i := 2) (j := 3) (by rfl) sc_law_gcd.nd rfl rfl (by decide) rfl rfl (pa_cons (pv 3) (pa_cons (pe_op op_mod (pe_callTy call_int1 (by rfl) T.m_int (by decide +kernel) (pa_cons (pv 2) pa_nil)) (pv 3)) pa_nil)) (by rfl))))
      (pss_one (ps_ret (pv 2)))))), ?_⟩
    have ab : ∀ z : Int, (if z < 0 then -z else z) = (z.natAbs : Int) := fun z => by split <;> omega
    refine ⟨_, rfl, a, rfl, _, rfl, b, rfl, fun m σ H' => ∃ x y : Nat, σ = [some (.int a), some (.int b), some (.int (x : Int)), some (.int (y : Int))] ∧ H = H' ∧ Nat.gcd x y = Nat.gcd a.natAbs b.natAbs ∧ m = y, ⟨b.natAbs, a.natAbs, b.natAbs, by rw [ab, ab]; rfl, rfl, rfl, rfl⟩, fun m σ H' hW => ?_⟩
    obtain ⟨x, y, rfl, rfl, hg, rfl⟩ := hW
    refine ⟨_, rfl, rfl, _, rfl, ite2 (fun c => ?_) (fun c => ?_)⟩
    · have hy : m ≠ 0 := by
        rintro rfl
        revert c
        simp
      refine ⟨fun σ' H' => ∃ m', m' < m ∧ ∃ x y : Nat, σ' = [some (.int a), some (.int b), some (.int (x : Int)), some (.int (y : Int))] ∧ H = H' ∧ Nat.gcd x y = Nat.gcd a.natAbs b.natAbs ∧ m' = y, fun _ _ z => z, ?_⟩
      refine ⟨_, rfl, _, rfl, .inl ⟨_, rfl, _, rfl, x, m, rfl, rfl, by omega, _, _, rfl, x % m, Nat.mod_lt _ (by omega), m, x % m, rfl, rfl, ?_, rfl⟩⟩
      rw [← hg, Nat.gcd_comm x m, Nat.gcd_rec m x, Nat.gcd_comm]
    · have hy : m = 0 := by
        by_cases z : m = 0
        · exact z
        · refine absurd ?_ c
          have : ¬ (V.int (m : Int) = V.int 0) := fun e => by
            have := V.int.inj e
            omega
          rw [decide_eq_false this]
          rfl
      subst hy
      rw [Nat.gcd_zero_right] at hg
      subst hg
      exact ⟨_, rfl, q⟩
theorem ok_law_mixed (T : Txt K mg) : FnOk P w K mg base CX0 1 T.f_law_mixed T.d_law_mixed ["_law_number_here", "_law_turn"] (sp_law_mixed K) := by
  refine T.F_law_mixed.ok sc_law_mixed (fun vs H Q E h => ?_) (fun cdv A outer s H vs Q E hr h => ?_)
  · obtain ⟨a, b, rfl, _⟩ := h
    rfl
  · obtain ⟨a, b, rfl, q⟩ := h
    refine ⟨_, (pss_cons (ps_set (i := 2) sc_law_mixed.nd rfl (.inl rfl) (pe_op op_mod (pe_callTy call_int1 (by rfl) T.m_int (by decide +kernel) (pa_cons (pe_op op_add (pe_op op_add (pe_op op_mul (pv 0) pe_int) (pe_op op_mul (pv 1) pe_int)) pe_int) pa_nil)) pe_int))
      (pss_cons (ps_set (i := 3) sc_law_mixed.nd rfl (.inl rfl) (pe_op op_mod (pe_callTy call_int1 (by rfl) T.m_int (by decide +kernel) (pa_cons (pe_op op_add (pe_op op_add (pe_op op_mul (pv 2) (pv 2)) (pe_op op_mul (pv 1) pe_int)) (pe_op op_fdiv (pv 2) pe_int)) pa_nil)) pe_int))
      (pss_one (ps_ret (pe_op op_fdiv (pe_callTy call_int1 (by rfl) T.m_int (by decide +kernel) (pa_cons (pe_op op_mod (pe_callTy call_int1 (by rfl) T.m_int (by decide +kernel) (pa_cons (pe_op op_add (pe_op op_mul (pv 3) pe_int) (pe_op op_fdiv (pv 2) pe_int)) pa_nil)) pe_int) pa_nil)) pe_int))))), ?_⟩
    refine ⟨_, rfl, a, 40692, rfl, rfl, .inr (by decide), _, rfl, b, 7177, rfl, rfl, .inr (by decide), _, _, rfl, rfl, _, _, rfl, rfl, .inl ⟨_, rfl, _, _, rfl, rfl, (by show (0 : Int) < _; decide), ?_⟩⟩
    generalize (a * 40692 + b * 7177 + 60013 : Int) = z
    have z0 : (0 : Int) ≤ z % 2147483399 := Int.emod_nonneg _ (by decide)
    have z1 : z % 2147483399 < 2147483399 := Int.emod_lt_of_pos _ (by decide)
    refine ⟨_, rfl, _, rfl, z % 2147483399, z % 2147483399, rfl, rfl, .inl ⟨by omega, by omega⟩, _, rfl, b, 90523, rfl, rfl, .inr (by decide), _, _, rfl, rfl, _, rfl, z % 2147483399, 149, rfl, rfl, ⟨by decide, by decide⟩, _, _, rfl, rfl, .inl ⟨_, rfl, _, _, rfl, rfl, (by show (0 : Int) < _; decide), ?_⟩⟩
    generalize (z % 2147483399 * (z % 2147483399) + b * 90523 + z % 2147483399 / 149 : Int) = y
    have y0 : (0 : Int) ≤ y % 2147483629 := Int.emod_nonneg _ (by decide)
    have y1 : y % 2147483629 < 2147483629 := Int.emod_lt_of_pos _ (by decide)
    refine ⟨_, rfl, y % 2147483629, 52774, rfl, rfl, .inl ⟨by omega, by omega⟩, _, rfl, z % 2147483399, 13, rfl, rfl, ⟨by decide, by decide⟩, _, _, rfl, rfl, .inl ⟨_, rfl, _, _, rfl, rfl, (by show (0 : Int) < _; decide), .inl ⟨_, rfl, _, _, rfl, rfl, ⟨by decide, by decide⟩, q _ ?_⟩⟩⟩
    have x0 : (0 : Int) ≤ (y % 2147483629 * 52774 + z % 2147483399 / 13) % 2147483587 := Int.emod_nonneg _ (by decide)
    exact Int.ediv_nonneg x0 (by decide)
theorem all_push {cells : List Int} {z : Int} (h : ∀ x ∈ cells, (0 : Int) ≤ x) (hz : 0 ≤ z) : ∀ x ∈ cells ++ [z], (0 : Int) ≤ x := by
  intro x hx
  rcases List.mem_append.mp hx with e | e
  · exact h x e
  · rw [List.mem_singleton.mp e]
    exact hz
theorem ok_law_hand (T : Txt K mg) : FnOk P w K mg base CX0 1 T.f_law_hand T.d_law_hand ["_law_script"] (sp_law_hand K) := by
  refine T.F_law_hand.ok sc_law_hand (fun vs H Q E h => ?_) (fun cdv A outer s H vs Q E hr h => ?_)
  · obtain ⟨a, b, rfl, _⟩ := h
    rfl
  · obtain ⟨a, ns, rfl, hS, hlen, q⟩ := h
    refine ⟨_, (pss_cons (ps_set (i := 1) sc_law_hand.nd rfl (.inl rfl) (pe_op op_add (pe_callB call_len_seq (by rfl) T.m_len (by decide +kernel) (pa_cons (pv 0) pa_nil)) pe_int))
      (pss_cons (ps_set (i := 2) sc_law_hand.nd rfl (.inl rfl) (pe_lst pa_nil))
      (pss_cons (ps_for PassesOwn.never rfl (pi_list (pv 0)) (pg_name (i := 3) sc_law_hand.nd rfl (.inl rfl))
        (pss_cons (ps_set (i := 1) sc_law_hand.nd rfl (.inl rfl) (pe_op op_mod (pe_callTy call_int1 (by rfl) T.m_int (by decide +kernel) (pa_cons (pe_op op_add (pe_op op_mul (pv 1) pe_int) (pe_callTy call_int1 (by rfl) T.m_int (by decide +kernel) (pa_cons (pv 3) pa_nil))) pa_nil)) pe_int))
        (pss_one (ps_expr (pe_bm PySem.F.plainAttrs_list PySem.F.slot_list_append PySem.F.type_list_append mt_append (pv 2) (pa_cons (pe_callB call_abs (by rfl) T.m_abs (by decide +kernel) (pa_cons (pe_callTy call_int1 (by rfl) T.m_int (by decide +kernel) (pa_cons (pv 3) pa_nil)) pa_nil)) pa_nil))))))
      (pss_one (ps_ret (pe_lst (pa_cons (pv 2) (pa_cons pe_int (pa_cons pe_int (pa_cons (pv 1) pa_nil)))))))))), ?_⟩
    refine ⟨_, rfl, a, _, rfl, .inl hS, _, _, rfl, rfl, Nat.zero_le _, fun c nc => ?_⟩
    have s1 : Same H (upd H c (.lst [])) := fun b x e => by
      rw [upd_ne (ne_of_none e nc)]
      exact e
    refine ⟨_, rfl, a, rfl, ⟨_, s1.seq hS⟩, for_list (xs := ns.map V.int) (fun i σ H' => ∃ (t : Int) (y : Option V) (cells : List Int), σ = [some (.ref a), some (.int t), some (.ref c), y] ∧ Same H H' ∧ H' c = some (.lst (cells.map V.int)) ∧ cells.length = i ∧ ∀ z ∈ cells, (0 : Int) ≤ z)
      ⟨_, none, [], rfl, s1, upd_same, rfl, fun z hz => by cases hz⟩ (fun i σ H' _ hP => by obtain ⟨_, _, _, _, sm, _⟩ := hP; exact sm.seq hS) (fun i x σ H' hx hP => ?_) (fun σ H' hP => ?_)⟩
    · obtain ⟨t, y, cells, rfl, sm, ec, el, hz⟩ := hP
      obtain ⟨n, hn, rfl⟩ : ∃ n, ns[i]? = some n ∧ V.int n = x := by
        rw [List.getElem?_map] at hx
        exact Option.map_eq_some_iff.mp hx
      have hi : i < ns.length := (List.getElem?_eq_some_iff.mp hn).1
      have nca : c ≠ a → True := fun _ => trivial
      refine ⟨_, rfl, t, 2011, rfl, rfl, .inr (by decide), _, rfl, .inl ⟨_, rfl, _, _, rfl, rfl, .inl ⟨_, rfl, _, _, rfl, rfl, (by show (0 : Int) < _; decide), ?_⟩⟩⟩
      refine ⟨_, rfl, .inl ⟨rfl, _, .inl (.inl ec)⟩, _, rfl, .inl ⟨_, rfl, _, rfl, c, _, _, rfl, rfl, ec, ?_, ?_⟩⟩
      · rw [List.length_map, el]
        exact small1000 (by omega)
      · refine ⟨_, _, cells ++ [(if n < 0 then -n else n)], rfl, fun b u e => ?_, ?_, ?_, all_push hz (by split <;> omega)⟩
        · rw [upd_ne (ne_of_none e nc)]
          exact sm _ _ e
        · rw [upd_same, List.map_append]
          rfl
        · rw [List.length_append, el]
          rfl
    · obtain ⟨t, y, cells, rfl, sm, ec, el, hz⟩ := hP
      refine ⟨_, rfl, _, rfl, (by show 4 ≤ sizeLine; decide), fun h nh => ?_⟩
      have nch : c ≠ h := ne_of_none ec nh
      refine q _ h (fun b u e => ?_) (sm.free nh) ⟨c, cells, 0, 0, t, upd_same, ?_, nch, Int.le_refl _, Int.le_refl _, hz⟩
      · rw [upd_ne (ne_of_none (sm _ _ e) nh)]
        exact sm _ _ e
      · rw [upd_ne nch]
        exact ec
end
end K74
set_option Elab.async false
set_option linter.all false
set_option maxRecDepth 100000
set_option maxHeartbeats 4000000
set_option exponentiation.threshold 5000
namespace K74
open PySem PySem.Spec PyProof.Rows L2
section
variable {P : Program} {w : World} {K : PySem.W.Frag} {mg : Str → Option Value} {base : Heap}
theorem cells_at {cells : List Int} {p : Int} (h0 : 0 ≤ p) (h : p < ((cells.map V.int).length : Int)) : ∃ z, z ∈ cells ∧ atI (cells.map V.int) p = some (.int z) := by
  rw [List.length_map] at h
  have hp : p.toNat < cells.length := by omega
  refine ⟨cells[p.toNat], List.getElem_mem hp, at_of (j := p.toNat) (by omega) ?_⟩
  rw [List.getElem?_map, List.getElem?_eq_getElem hp]
  rfl
theorem ok_law_take (T : Txt K mg) : FnOk P w K mg base CX0 2 T.f_law_take T.d_law_take ["_law_hand_here", "_law_many"] (sp_law_take K) := by
  refine T.F_law_take.ok sc_law_take (fun vs H Q E h => ?_) (fun cdv A outer s H vs Q E hr h => ?_)
  · obtain ⟨a, b, rfl, _⟩ := h
    rfl
  · obtain ⟨h, m, rfl, ⟨c, cells, p, r, t, hh, hc, nch, hp, hr0, hz⟩, hm, hmb, q⟩ := h
    refine ⟨_, (Evl.pss_cut (ps_if (PW.pt (pw_and (pt_cmpR op_eq (pe_ix ix_list (pv 0) pe_int (fun _ _ => rfl)) pe_int (nomark _)) (pw_and1 (pt_cmpR op_lt (pe_ix ix_list (pv 0) pe_int (fun _ _ => rfl)) (pe_callB call_len_seq (by rfl) T.m_len (by decide +kernel) (pa_cons (pe_ix ix_list (pv 0) pe_int (fun _ _ => rfl)) pa_nil)) (nomark _)))))
        (pss_cons (ps_set (i := 2) sc_law_take.nd rfl (.inl rfl) (pe_ix ix_list (pe_ix ix_list (pv 0) pe_int (fun _ _ => rfl)) (pe_ix ix_list (pv 0) pe_int (fun _ _ => rfl)) (fun _ _ => rfl)))
        (pss_cons (ps_asg (pe_op op_add (pe_ix ix_list (pv 0) pe_int (fun _ _ => rfl)) pe_int) (pg_sub (pv 0) pe_int set_list))
        (pss_cons (ps_if (pt_cmpR op_lt (pv 2) (pe_op op_pow pe_int pe_int) (nomark _))
          (pss_one (ps_ret (pe_op op_mod (pe_callTy call_int1 (by rfl) T.m_int (by decide +kernel) (pa_cons (pe_call (ok_law_mixed T) (hr.mono (by decide)) (by rfl) T.g_law_mixed T.F_law_mixed.kp T.b_law_mixed .nil pass0 (pa_cons (pe_op op_mod (pe_callTy call_int1 (by rfl) T.m_int (by decide +kernel) (pa_cons (pv 2) pa_nil)) pe_int) (pa_cons (pe_ix ix_list (pv 0) pe_int (fun _ _ => rfl)) pa_nil))) pa_nil)) (pv 1))))
          pss_nil)
        (pss_one (ps_asg (pv 2) (pg_sub (pv 0) pe_int set_list))))))
        pss_nil)
      (pss_cons (ps_if (pt_cmpR op_gt (pe_ix ix_list (pv 0) pe_int (fun _ _ => rfl)) pe_int (nomark _))
        (pss_cons (ps_set (i := 3) sc_law_take.nd rfl (.inl rfl) (pe_ix ix_list (pv 0) pe_int (fun _ _ => rfl)))
        (pss_cons (ps_asg (pe_op op_fdivW (pe_callTy call_int1 (by rfl) T.m_int (by decide +kernel) (pa_cons (pv 3) pa_nil)) (pv 1)) (pg_sub (pv 0) pe_int set_list))
        (pss_one (ps_ret (pe_op op_mod (pe_callTy call_int1 (by rfl) T.m_int (by decide +kernel) (pa_cons (pv 3) pa_nil)) (pv 1))))))
        pss_nil)
      (pss_cons (ps_asg (pe_op op_mod (pe_callTy call_int1 (by rfl) T.m_int (by decide +kernel) (pa_cons (pe_op op_add (pe_ix ix_list (pv 0) pe_int (fun _ _ => rfl)) pe_int) pa_nil)) pe_int) (pg_sub (pv 0) pe_int set_list))
      (pss_one (ps_ret (pe_op op_mod (pe_callTy call_int1 (by rfl) T.m_int (by decide +kernel) (pa_cons (pe_call (ok_law_mixed T) (hr.mono (by decide)) (by rfl) T.g_law_mixed T.F_law_mixed.kp T.b_law_mixed .nil pass0 (pa_cons (pe_ix ix_list (pv 0) pe_int (fun _ _ => rfl)) (pa_cons (pe_ix ix_list (pv 0) pe_int (fun _ _ => rfl)) pa_nil))) pa_nil)) (pv 1))))))), ?_⟩
    refine ⟨fun σ' H' => ∃ (y : Option V) (p r t : Int), σ' = [some (.ref h), some (.int m), y, none] ∧ Keep h H H' ∧ H' h = some (.lst [.ref c, .int p, .int r, .int t]) ∧ 0 ≤ p ∧ 0 ≤ r, ?_, fun σ' H' hM => ?_⟩
    · -- the first if
      refine ⟨_, rfl, h, _, 2, .int r, rfl, rfl, SqL.of hh, rfl, rfl, _, rfl, ite2 (fun c1 => ?_) (fun c1 => ?_)⟩
      · refine ⟨_, rfl, h, _, 1, .int p, rfl, rfl, SqL.of hh, rfl, _, rfl, h, _, 0, .ref c, rfl, rfl, SqL.of hh, rfl, c, _, rfl, .inl (SqL.of hc), p, _, rfl, rfl, _, rfl, ite2 (fun c2 => ?_) (fun c2 => ?_)⟩
        · obtain ⟨z, hzm, hza⟩ := cells_at hp (of_decide_eq_true c2)
          refine ⟨_, rfl, h, _, 0, .ref c, rfl, rfl, SqL.of hh, rfl, _, rfl, h, _, 1, .int p, rfl, rfl, SqL.of hh, rfl, c, _, p, .int z, rfl, rfl, SqL.of hc, hza, ?_⟩
          refine ⟨_, rfl, h, _, 1, .int p, rfl, rfl, SqL.of hh, rfl, p, 1, rfl, rfl, _, rfl, h, _, 1, 1, rfl, rfl, hh, rfl, ?_⟩
          have e1 : (upd H h (.lst ([V.ref c, .int p, .int r, .int t].set 1 (.int (p + 1))))) h = some (.lst [.ref c, .int (p + 1), .int r, .int t]) := upd_same
          refine ⟨_, rfl, 10, 18, rfl, rfl, ⟨by decide, by decide, by decide⟩, _, _, rfl, rfl, _, rfl, ite2 (fun c3 => ?_) (fun c3 => ?_)⟩
          · refine ⟨_, rfl, .inl ⟨_, rfl, z, 2147483399, rfl, rfl, (by show (0 : Int) < _; decide), _, rfl, h, _, 1, .int (p + 1), rfl, rfl, SqL.of e1, rfl, _, _, rfl, fun x hx => .inl ⟨x, rfl, _, rfl, x, m, rfl, rfl, hm, ?_⟩⟩⟩
            refine q _ _ keep_upd ⟨c, cells, p + 1, r, t, e1, ?_, nch, by omega, hr0, hz⟩ (Int.emod_nonneg _ (by omega)) (Int.emod_lt_of_pos _ hm)
            rw [upd_ne nch]
            exact hc
          · refine ⟨_, rfl, _, rfl, h, _, 2, 2, rfl, rfl, e1, rfl, some (.int z), p + 1, z, t, rfl, ?_, upd_same, by omega, hz z hzm⟩
            rw [upd_upd]
            exact keep_upd
        · exact ⟨none, p, r, t, rfl, Keep.refl, hh, hp, hr0⟩
      · exact ⟨none, p, r, t, rfl, Keep.refl, hh, hp, hr0⟩
    · -- what follows it
      obtain ⟨y, p, r, t, rfl, kp, hh, hp, hr0⟩ := hM
      have hc' : H' c = some (.lst (cells.map V.int)) := kp _ _ nch hc
      have hcu : ∀ o, (upd H' h o) c = some (.lst (cells.map V.int)) := fun o => by
        rw [upd_ne nch]
        exact hc'
      refine ⟨_, rfl, h, _, 2, .int r, rfl, rfl, SqL.of hh, rfl, r, 0, rfl, rfl, _, rfl, ite2 (fun c1 => ?_) (fun c1 => ?_)⟩
      · have hrp : 0 < r := of_decide_eq_true c1
        refine ⟨_, rfl, h, _, 2, .int r, rfl, rfl, SqL.of hh, rfl, ?_⟩
        refine ⟨_, rfl, .inl ⟨_, rfl, _, rfl, r, m, rfl, rfl, wide_div hm hmb (by decide) (by decide), _, rfl, h, _, 2, 2, rfl, rfl, hh, rfl, ?_⟩⟩
        refine ⟨_, rfl, .inl ⟨_, rfl, _, rfl, r, m, rfl, rfl, hm, ?_⟩⟩
        exact q _ _ (kp.trans keep_upd) ⟨c, cells, p, r / m, t, upd_same, hcu _, nch, hp, Int.ediv_nonneg hr0 (by omega), hz⟩ (Int.emod_nonneg _ (by omega)) (Int.emod_lt_of_pos _ hm)
      · refine ⟨_, rfl, h, _, 3, .int t, rfl, rfl, SqL.of hh, rfl, t, 1, rfl, rfl, .inl ⟨_, rfl, _, _, rfl, rfl, (by show (0 : Int) < _; decide), _, rfl, h, _, 3, 3, rfl, rfl, hh, rfl, ?_⟩⟩
        have e1 : (upd H' h (.lst ([V.ref c, .int p, .int r, .int t].set 3 (.int ((t + 1) % 2147483549))))) h = some (.lst [.ref c, .int p, .int r, .int ((t + 1) % 2147483549)]) := upd_same
        refine ⟨_, rfl, h, _, 3, _, rfl, rfl, SqL.of e1, rfl, _, rfl, h, _, 1, _, rfl, rfl, SqL.of e1, rfl, _, _, rfl, fun x hx => .inl ⟨x, rfl, _, rfl, x, m, rfl, rfl, hm, ?_⟩⟩
        exact q _ _ (kp.trans keep_upd) ⟨c, cells, p, r, _, e1, hcu _, nch, hp, hr0, hz⟩ (Int.emod_nonneg _ (by omega)) (Int.emod_lt_of_pos _ hm)
theorem ok_law_number (T : Txt K mg) : FnOk P w K mg base CX0 3 T.f_law_number T.d_law_number ["_law_hand_here"] (sp_law_number K) := by
  refine T.F_law_number.ok sc_law_number (fun vs H Q E h => ?_) (fun cdv A outer s H vs Q E hr h => ?_)
  · obtain ⟨a, rfl, _⟩ := h
    rfl
  · obtain ⟨h, rfl, hd, q⟩ := h
    refine ⟨_, (pss_cons (ps_set (i := 1) sc_law_number.nd rfl (.inl rfl) (pe_ix ix_tup (pe_tup (pa_cons pe_int (pa_cons pe_int (pa_cons pe_int (pa_cons (pe_op op_pow pe_int pe_int) (pa_cons (pe_op op_pow pe_int pe_int) pa_nil)))))) (pe_call (ok_law_take T) (hr.mono (by decide)) (by rfl) T.g_law_take T.F_law_take.kp T.b_law_take .nil pass0 (pa_cons (pv 0) (pa_cons pe_int pa_nil))) (fun _ _ => rfl)))
      (pss_cons (ps_set (i := 2) sc_law_number.nd rfl (.inl rfl) (pe_op op_add (pe_call (ok_law_take T) (hr.mono (by decide)) (by rfl) T.g_law_take T.F_law_take.kp T.b_law_take .nil pass0 (pa_cons (pv 0) (pa_cons (pv 1) pa_nil))) (pe_call (ok_law_take T) (hr.mono (by decide)) (by rfl) T.g_law_take T.F_law_take.kp T.b_law_take .nil pass0 (pa_cons (pv 0) (pa_cons pe_int pa_nil)))))
      (pss_one (ps_ret (pe_ifExp (pt_cmpR op_eq (pe_call (ok_law_take T) (hr.mono (by decide)) (by rfl) T.g_law_take T.F_law_take.kp T.b_law_take .nil pass0 (pa_cons (pv 0) (pa_cons pe_int pa_nil))) pe_int (nomark _)) (pe_op op_sub pe_int (pv 2)) (pv 2)))))), ?_⟩
    refine ⟨10, 9, rfl, rfl, ⟨by decide, by decide, by decide⟩, 10, 20, rfl, rfl, ⟨by decide, by decide, by decide⟩, (by show 5 ≤ sizeLine; decide), fun u nu => ?_⟩
    have s1 : Same H (upd H u (.tup [.int 1, .int 10, .int 100, .int (10 ^ 9), .int (10 ^ 20)])) := fun b x e => by
      rw [upd_ne (ne_of_none e nu)]
      exact e
    have huh : u ≠ h := by
      obtain ⟨c, _, _, _, _, hh, _⟩ := hd.ex
      exact (ne_of_none hh nu).symm
    refine ⟨_, rfl, h, 5, rfl, hd.same s1, by decide, by decide, fun H1 i k1 hd1 i0 i5 => ?_⟩
    have hu : H1 u = some (.tup [.int 1, .int 10, .int 100, .int (10 ^ 9), .int (10 ^ 20)]) := k1 _ _ huh upd_same
    -- the size
    obtain ⟨z, hz, z0, z1⟩ : ∃ z : Int, atI ([.int 1, .int 10, .int 100, .int (10 ^ 9), .int (10 ^ 20)] : List V) i = some (.int z) ∧ 0 < z ∧ z ≤ 10 ^ 20 := by
      have : i = 0 ∨ i = 1 ∨ i = 2 ∨ i = 3 ∨ i = 4 := by omega
      rcases this with rfl | rfl | rfl | rfl | rfl
      · exact ⟨1, rfl, by decide, by decide⟩
      · exact ⟨10, rfl, by decide, by decide⟩
      · exact ⟨100, rfl, by decide, by decide⟩
      · exact ⟨10 ^ 9, rfl, by decide, by decide⟩
      · exact ⟨10 ^ 20, rfl, by decide, by decide⟩
    refine ⟨u, _, i, .int z, rfl, rfl, SqT.of hu, hz, ?_⟩
    have kH1 : Keep h H H1 := fun b o n e => k1 b o n (s1 b o e)
    refine ⟨_, rfl, _, rfl, h, z, rfl, hd1, z0, ?_, fun H2 a k2 hd2 a0 a1 => ?_⟩
    · have : z.natAbs ≤ 10 ^ 20 := by omega
      exact Nat.lt_of_le_of_lt this (by decide)
    refine ⟨_, rfl, h, 3, rfl, hd2, by decide, by decide, fun H3 b k3 hd3 b0 b1 => ?_⟩
    refine ⟨a, b, rfl, rfl, _, rfl, h, 2, rfl, hd3, by decide, by decide, fun H4 d k4 hd4 d0 d1 => ?_⟩
    have kk : Keep h H H4 := ((kH1.trans k2).trans k3).trans k4
    have bits : (a + b).natAbs < 2 ^ 67 := by
      have : (a + b).natAbs ≤ 10 ^ 20 + 3 := by omega
      exact Nat.lt_of_le_of_lt this (by decide)
    refine ⟨rfl, _, rfl, ite2 (fun c1 => ?_) (fun c1 => ?_)⟩
    · refine ⟨_, rfl, 0, a + b, rfl, rfl, q _ _ kk hd4 ?_⟩
      rw [Int.zero_sub, Int.natAbs_neg]
      exact bits
    · exact ⟨_, rfl, q _ _ kk hd4 bits⟩
end
end K74
set_option Elab.async false
set_option linter.all false
set_option maxRecDepth 100000
set_option maxHeartbeats 4000000
set_option exponentiation.threshold 5000
namespace K74
open PySem PySem.Spec PyProof.Rows L2
section
variable {P : Program} {w : World} {K : PySem.W.Frag} {mg : Str → Option Value} {base : Heap}
theorem same_upd {H : Hp} {p : Addr} {o : HO} (h : H p = none) : Same H (upd H p o) := fun b x e => by
  rw [upd_ne (ne_of_none e h)]
  exact e
theorem abs_eq (z : Int) : (if z < 0 then -z else z) = (z.natAbs : Int) := by split <;> omega
theorem lcm_due {a b : Int} (h : ¬ V.int ((Nat.gcd a.natAbs b.natAbs : Nat) : Int) = V.int 0) :
    V.int ((Nat.lcm a.natAbs b.natAbs : Nat) : Int) = V.int ((if a * b < 0 then -(a * b) else a * b) / ((Nat.gcd a.natAbs b.natAbs : Nat) : Int)) := by
  rw [abs_eq, Int.natAbs_mul, ← Int.natCast_ediv]
  rfl
/-- a couple of ints of the loop over couples -/
def Cpl (H : Hp) (x : V) : Prop := ∃ (p : Addr) (a b : Int), x = .ref p ∧ H p = some (.tup [.int a, .int b]) ∧ a.natAbs < 2 ^ 136 ∧ b.natAbs < 2 ^ 136
theorem Cpl.same {H H' : Hp} {x : V} (e : Same H H') (c : Cpl H x) : Cpl H' x := by
  obtain ⟨p, a, b, ex, h, q⟩ := c
  exact ⟨p, a, b, ex, e _ _ h, q⟩
theorem cpl_new {H : Hp} {p : Addr} {a b : Int} (ha : a.natAbs < 2 ^ 136) (hb : b.natAbs < 2 ^ 136) : Cpl (upd H p (.tup [.int a, .int b])) (.ref p) := ⟨p, a, b, rfl, upd_same, ha, hb⟩
theorem lim_at {xs : List V} (h : ∀ x ∈ xs, Lim x) {i : Int} (h0 : 0 ≤ i) (h1 : i < xs.length) : ∃ v, atI xs i = some v ∧ Lim v := by
  have hp : i.toNat < xs.length := by omega
  exact ⟨xs[i.toNat], at_of (j := i.toNat) (by omega) (List.getElem?_eq_getElem hp), h _ (List.getElem_mem hp)⟩
theorem ok_law (T : Txt K mg) : FnOk P w K mg base CX0 4 T.f_law T.d_law ["_law_script"] (sp_law K) := by
  refine T.F_law.ok sc_law (fun vs H Q E h => ?_) (fun cdv A outer s H vs Q E hr h => ?_)
  · obtain ⟨a, ns, rfl, _⟩ := h
    rfl
  · obtain ⟨sa, ns, rfl, hS, hlen, q⟩ := h
    refine ⟨_, (pss_cons (ps_set (i := 1) sc_law.nd rfl (.inl rfl) (pe_call (ok_law_hand T) (hr.mono (by decide)) (by rfl) T.g_law_hand T.F_law_hand.kp T.b_law_hand .nil pass0 (pa_cons (pv 0) pa_nil)))
      (pss_cons (ps_set (i := 2) sc_law.nd rfl (.inl rfl) (pe_call (ok_law_number T) (hr.mono (by decide)) (by rfl) T.g_law_number T.F_law_number.kp T.b_law_number .nil pass0 (pa_cons (pv 1) pa_nil)))
      (pss_cons (ps_set (i := 3) sc_law.nd rfl (.inl rfl) (pe_op op_mulW (pv 2) (pe_call (ok_law_number T) (hr.mono (by decide)) (by rfl) T.g_law_number T.F_law_number.kp T.b_law_number .nil pass0 (pa_cons (pv 1) pa_nil))))
      (Evl.pss_cut (ps_set (i := 4) sc_law.nd rfl (.inl rfl) (pe_op op_mulW (pv 2) (pe_call (ok_law_number T) (hr.mono (by decide)) (by rfl) T.g_law_number T.F_law_number.kp T.b_law_number .nil pass0 (pa_cons (pv 1) pa_nil))))
      (pss_cons (ps_for PassesOwn.never rfl (pi_tup (pe_tup (pa_cons (pe_tup (pa_cons (pv 3) (pa_cons (pv 4) pa_nil))) (pa_cons (pe_tup (pa_cons (pv 4) (pa_cons (pv 3) pa_nil))) (pa_cons (pe_tup (pa_cons (pv 3) (pa_cons pe_int pa_nil))) (pa_cons (pe_tup (pa_cons pe_int (pa_cons (pv 4) pa_nil))) (pa_cons (pe_tup (pa_cons (pv 3) (pa_cons (pv 3) pa_nil))) (pa_cons (pe_tup (pa_cons (pv 3) (pa_cons pe_int pa_nil))) (pa_cons (pe_tup (pa_cons pe_int (pa_cons pe_int pa_nil))) (pa_cons (pe_tup (pa_cons (pv 3) (pa_cons (pe_op op_sub pe_int (pv 4)) pa_nil))) pa_nil)))))))))) (pg_tup rfl (pgs_cons (pg_name (i := 5) sc_law.nd rfl (.inl rfl)) (pgs_cons (pg_name (i := 6) sc_law.nd rfl (.inl rfl)) pgs_nil)))
        (pss_cons (ps_set (i := 7) sc_law.nd rfl (.inl rfl) (pe_call (ok_common_divisor T) (hr.mono (by decide)) (by rfl) T.g_common_divisor T.F_common_divisor.kp T.b_common_divisor .nil pass0 (pa_cons (pv 5) (pa_cons (pv 6) pa_nil))))
        (pss_cons (ps_set (i := 8) sc_law.nd rfl (.inl rfl) (pe_call (ok_common_multiple T) (hr.mono (by decide)) (by rfl) T.g_common_multiple T.F_common_multiple.kp T.b_common_multiple .nil pass0 (pa_cons (pv 5) (pa_cons (pv 6) pa_nil))))
        (pss_cons (ps_set (i := 9) sc_law.nd rfl (.inl rfl) (pe_call (ok_law_gcd T) (hr.mono (by decide)) (by rfl) T.g_law_gcd T.F_law_gcd.kp T.b_law_gcd .nil pass0 (pa_cons (pv 5) (pa_cons (pv 6) pa_nil))))
        (pss_cons (ps_if (PW.pt (pw_or (pt_not (pt_val (pe_call (ok_law_whole T) (hr.mono (by decide)) (by rfl) T.g_law_whole T.F_law_whole.kp T.b_law_whole .nil pass0 (pa_cons (pv 7) pa_nil)))) (pw_or (pt_cmpR op_ne (pv 7) (pv 9) (nomark _)) (pw_or1 (pt_not (pt_val (pe_call (ok_law_whole T) (hr.mono (by decide)) (by rfl) T.g_law_whole T.F_law_whole.kp T.b_law_whole .nil pass0 (pa_cons (pv 8) pa_nil))))))))
          (pss_one (ps_ret pe_bl))
          pss_nil)
        (pss_one (ps_if (pt_cmpR op_ne (pv 8) (pe_ifExp (pt_cmpR op_eq (pv 9) pe_int (nomark _)) pe_int (pe_op op_fdivW (pe_callB call_abs (by rfl) T.m_abs (by decide +kernel) (pa_cons (pe_op op_mulW (pv 5) (pv 6)) pa_nil)) (pv 9))) (nomark _))
          (pss_one (ps_ret pe_bl))
          pss_nil)))))))
      (pss_cons (ps_set (i := 10) sc_law.nd rfl (.inl rfl) (pe_call (ok_law_number T) (hr.mono (by decide)) (by rfl) T.g_law_number T.F_law_number.kp T.b_law_number .nil pass0 (pa_cons (pv 1) pa_nil)))
      (pss_cons (ps_set (i := 11) sc_law.nd rfl (.inl rfl) (pe_call (ok_law_take T) (hr.mono (by decide)) (by rfl) T.g_law_take T.F_law_take.kp T.b_law_take .nil pass0 (pa_cons (pv 1) (pa_cons pe_int pa_nil))))
      (pss_cons (ps_for PassesOwn.never rfl (pi_tup (pe_tup (pa_cons pe_int (pa_cons pe_int (pa_cons pe_int (pa_cons (pv 11) pa_nil)))))) (pg_name (i := 12) sc_law.nd rfl (.inl rfl))
        (pss_cons (ps_set (i := 13) sc_law.nd rfl (.inl rfl) (pe_call (ok_power_of T) (hr.mono (by decide)) (by rfl) T.g_power_of T.F_power_of.kp T.b_power_of .nil pass0 (pa_cons (pv 10) (pa_cons (pv 12) pa_nil))))
        (pss_one (ps_if (PW.pt (pw_or (pt_not (pt_val (pe_call (ok_law_whole T) (hr.mono (by decide)) (by rfl) T.g_law_whole T.F_law_whole.kp T.b_law_whole .nil pass0 (pa_cons (pv 13) pa_nil)))) (pw_or1 (pt_cmpR op_ne (pv 13) (pe_call (ok_law_power T) (hr.mono (by decide)) (by rfl) T.g_law_power T.F_law_power.kp T.b_law_power .nil pass0 (pa_cons (pv 10) (pa_cons (pv 12) pa_nil))) (nomark _)))))
          (pss_one (ps_ret pe_bl))
          pss_nil))))
      (pss_cons (ps_set (i := 14) sc_law.nd rfl (.inl rfl) (pe_ix ix_tup (pe_tup (pa_cons pe_non (pa_cons (pv 3) (pa_cons (pe_op op_sub (pv 3) pe_int) (pa_cons (pe_op op_add (pv 3) pe_int) pa_nil))))) (pe_call (ok_law_take T) (hr.mono (by decide)) (by rfl) T.g_law_take T.F_law_take.kp T.b_law_take .nil pass0 (pa_cons (pv 1) (pa_cons pe_int pa_nil))) (fun _ _ => rfl)))
      (pss_cons (ps_set (i := 15) sc_law.nd rfl (.inl rfl) (pe_ix ix_tup (pe_tup (pa_cons pe_non (pa_cons (pv 3) (pa_cons (pe_op op_sub (pv 3) pe_int) (pa_cons (pe_op op_add (pv 3) pe_int) (pa_cons (pv 4) pa_nil)))))) (pe_call (ok_law_take T) (hr.mono (by decide)) (by rfl) T.g_law_take T.F_law_take.kp T.b_law_take .nil pass0 (pa_cons (pv 1) (pa_cons pe_int pa_nil))) (fun _ _ => rfl)))
      (pss_cons (ps_for PassesOwn.never rfl (pi_tup (pe_tup (pa_cons (pv 3) (pa_cons (pv 4) (pa_cons pe_bl (pa_cons pe_bl (pa_cons pe_non (pa_cons pe_str (pa_cons (pe_tup (pa_cons pe_int pa_nil)) (pa_cons pe_int pa_nil)))))))))) (pg_name (i := 16) sc_law.nd rfl (.inl rfl))
        (Evl.pss_cut (ps_if (PW.pt (pw_and (pt_cmpR op_notBl (pe_call (ok_is_whole T) (hr.mono (by decide)) (by rfl) T.g_is_whole T.F_is_whole.kp T.b_is_whole .nil pass0 (pa_cons (pv 16) (pa_cons (pv 14) (pa_cons (pv 15) pa_nil)))) pe_bl (nomark _)) (pw_and1 (pt_val (pe_call (ok_law_is T) (hr.mono (by decide)) (by rfl) T.g_law_is T.F_law_is.kp T.b_law_is .nil pass0 (pa_cons (pv 16) (pa_cons (pv 14) (pa_cons (pv 15) pa_nil))))))))
          (pss_one (ps_ret pe_bl))
          pss_nil)
        (Evl.pss_cut (ps_if (PW.pt (pw_and (pt_cmpR op_notBl (pe_call (ok_is_whole T) (hr.mono (by decide)) (by rfl) T.g_is_whole T.F_is_whole.kp T.b_is_whole .nil pass0 (pa_cons (pv 16) (pa_cons (pv 14) (pa_cons (pv 15) pa_nil)))) pe_bl (nomark _)) (pw_and1 (pt_not (pt_val (pe_call (ok_law_is T) (hr.mono (by decide)) (by rfl) T.g_law_is T.F_law_is.kp T.b_law_is .nil pass0 (pa_cons (pv 16) (pa_cons (pv 14) (pa_cons (pv 15) pa_nil)))))))))
          (pss_one (ps_ret pe_bl))
          pss_nil)
        (Evl.pss_cut (ps_if (PW.pt (pw_and (pt_cmpR op_notBl (pe_call (ok_is_whole T) (hr.mono (by decide)) (by rfl) T.g_is_whole T.F_is_whole.kp T.b1_is_whole (.cons (show RelV .non .none from rfl) (.cons (show RelV .non .none from rfl) .nil)) pass0 (pa_cons (pv 16) pa_nil)) pe_bl (nomark _)) (pw_and1 (pt_val (pe_call (ok_law_whole T) (hr.mono (by decide)) (by rfl) T.g_law_whole T.F_law_whole.kp T.b_law_whole .nil pass0 (pa_cons (pv 16) pa_nil))))))
          (pss_one (ps_ret pe_bl))
          pss_nil)
        (pss_one (ps_if (pt_cmpR op_ne (pe_callN (ok_is_whole T) (hr.mono (by decide)) (by rfl) T.g_is_whole T.F_is_whole.kp T.kb_is_whole pass0 (pa_cons (pv 16) pa_nil) (pk_cons (pv 15) pk_nil)) (pe_call (ok_law_is T) (hr.mono (by decide)) (by rfl) T.g_law_is T.F_law_is.kp T.b_law_is .nil pass0 (pa_cons (pv 16) (pa_cons pe_non (pa_cons (pv 15) pa_nil)))) (nomark _))
          (pss_one (ps_ret pe_bl))
          pss_nil))))))
      (pss_one (ps_ret pe_bl))))))))))))), ?_⟩
    -- the draws
    refine ⟨_, rfl, sa, ns, rfl, hS, hlen, fun H1 h sm1 nh hd1 => ?_⟩
    refine ⟨_, rfl, h, rfl, hd1, fun H2 f k2 hd2 bf => ?_⟩
    refine ⟨_, rfl, _, rfl, h, rfl, hd2, fun H3 x1 k3 hd3 b1 => ⟨f, x1, rfl, rfl, wide_mul bf b1 (by decide) (by decide) (by decide), ?_⟩⟩
    refine ⟨fun σ' H' => ∃ (f one other : Int), σ' = [some (.ref sa), some (.ref h), some (.int f), some (.int one), some (.int other), none, none, none, none, none, none, none, none, none, none, none, none] ∧ Hand H' h ∧ one.natAbs < 2 ^ 134 ∧ other.natAbs < 2 ^ 134,
      ⟨_, rfl, _, rfl, h, rfl, hd3, fun H4 x2 k4 hd4 b2 => ⟨f, x2, rfl, rfl, wide_mul bf b2 (by decide) (by decide) (by decide), f, f * x1, f * x2, rfl, hd4, wide_lt bf b1, wide_lt bf b2⟩⟩, fun σ' H' hM => ?_⟩
    clear hd1 hd2 hd3 k2 k3 bf b1
    obtain ⟨f, one, other, rfl, hd, bone, both⟩ := hM
    have w134 : ∀ {z : Int}, z.natAbs < 2 ^ 134 → z.natAbs < 2 ^ 136 := fun z => Nat.lt_trans z (by decide)
    have b0 : (0 : Int).natAbs < 2 ^ 136 := by decide
    have b1 : (1 : Int).natAbs < 2 ^ 136 := by decide
    have bm : (0 - other).natAbs < 2 ^ 136 := by
      rw [Int.zero_sub, Int.natAbs_neg]
      exact w134 both
    have le2 : 2 ≤ sizeLine := by decide
    -- the couples
    refine ⟨_, rfl, _, rfl, le2, fun p1 n1 => ⟨_, rfl, _, rfl, le2, fun p2 n2 => ⟨_, rfl, le2, fun p3 n3 => ⟨_, rfl, le2, fun p4 n4 => ⟨_, rfl, _, rfl, le2, fun p5 n5 => ⟨_, rfl, le2, fun p6 n6 => ⟨le2, fun p7 n7 => ⟨_, rfl, _, rfl, 0, other, rfl, rfl, le2, fun p8 n8 => ⟨(by show 8 ≤ sizeLine; decide), fun u nu => ?_⟩⟩⟩⟩⟩⟩⟩⟩⟩
    have s9 := same_upd (o := .tup [V.ref p1, .ref p2, .ref p3, .ref p4, .ref p5, .ref p6, .ref p7, .ref p8]) nu
    have s8 := (same_upd (o := .tup [V.int one, .int (0 - other)]) n8).trans s9
    have s7 := (same_upd (o := .tup [V.int 0, .int 0]) n7).trans s8
    have s6 := (same_upd (o := .tup [V.int one, .int 1]) n6).trans s7
    have s5 := (same_upd (o := .tup [V.int one, .int one]) n5).trans s6
    have s4 := (same_upd (o := .tup [V.int 0, .int other]) n4).trans s5
    have s3 := (same_upd (o := .tup [V.int one, .int 0]) n3).trans s4
    have s2 := (same_upd (o := .tup [V.int other, .int one]) n2).trans s3
    have s1 := (same_upd (o := .tup [V.int one, .int other]) n1).trans s2
    have all : ∀ x ∈ [V.ref p1, .ref p2, .ref p3, .ref p4, .ref p5, .ref p6, .ref p7, .ref p8], Cpl _ x := fun x hx => by
      rcases List.mem_cons.mp hx with rfl | hx
      · exact (cpl_new (w134 bone) (w134 both)).same s2
      rcases List.mem_cons.mp hx with rfl | hx
      · exact (cpl_new (w134 both) (w134 bone)).same s3
      rcases List.mem_cons.mp hx with rfl | hx
      · exact (cpl_new (w134 bone) b0).same s4
      rcases List.mem_cons.mp hx with rfl | hx
      · exact (cpl_new b0 (w134 both)).same s5
      rcases List.mem_cons.mp hx with rfl | hx
      · exact (cpl_new (w134 bone) (w134 bone)).same s6
      rcases List.mem_cons.mp hx with rfl | hx
      · exact (cpl_new (w134 bone) b1).same s7
      rcases List.mem_cons.mp hx with rfl | hx
      · exact (cpl_new b0 b0).same s8
      rcases List.mem_cons.mp hx with rfl | hx
      · exact (cpl_new (w134 bone) bm).same s9
      · cases hx
    have hdA := hd.same s1
    have hT := upd_same (H := (upd (upd (upd (upd (upd (upd (upd (upd H' p1 (.tup [V.int one, .int other])) p2 (.tup [V.int other, .int one])) p3 (.tup [V.int one, .int 0])) p4 (.tup [V.int 0, .int other])) p5 (.tup [V.int one, .int one])) p6 (.tup [V.int one, .int 1])) p7 (.tup [V.int 0, .int 0])) p8 (.tup [V.int one, .int (0 - other)]))) (a := u) (o := .tup [V.ref p1, .ref p2, .ref p3, .ref p4, .ref p5, .ref p6, .ref p7, .ref p8])
    clear s1 s2 s3 s4 s5 s6 s7 s8 s9
    refine ⟨u, rfl, ⟨_, SqT.of upd_same⟩, for_tup (xs := [V.ref p1, .ref p2, .ref p3, .ref p4, .ref p5, .ref p6, .ref p7, .ref p8])
      (fun i σ H2 => ∃ y5 y6 y7 y8 y9 : Option V, σ = [some (.ref sa), some (.ref h), some (.int f), some (.int one), some (.int other), y5, y6, y7, y8, y9, none, none, none, none, none, none, none] ∧ Hand H2 h ∧ H2 u = some (.tup [V.ref p1, .ref p2, .ref p3, .ref p4, .ref p5, .ref p6, .ref p7, .ref p8]) ∧ ∀ x ∈ [V.ref p1, .ref p2, .ref p3, .ref p4, .ref p5, .ref p6, .ref p7, .ref p8], Cpl H2 x)
      ⟨none, none, none, none, none, rfl, hdA, hT, all⟩ (fun i σ H2 _ hP => ?_) (fun i x σ H2 hx hP => ?_) (fun σ H2 hP => ?_)⟩
    · obtain ⟨_, _, _, _, _, _, _, hu, _⟩ := hP
      exact SqT.of hu
    · obtain ⟨y5, y6, y7, y8, y9, rfl, hdB, hu, hall⟩ := hP
      obtain ⟨pp, a, b, rfl, hp, ba, bb⟩ := hall x (List.mem_of_getElem? hx)
      refine ⟨pp, _, rfl, SqT.of hp, rfl, _, _, rfl, _, _, rfl, rfl, ?_⟩
      have ba2 : a.natAbs < 2 ^ 200 := Nat.lt_trans ba (by decide)
      have bb2 : b.natAbs < 2 ^ 200 := Nat.lt_trans bb (by decide)
      refine ⟨_, rfl, _, rfl, a, b, rfl, _, rfl, _, rfl, a, b, rfl, ba2, bb2, _, rfl, _, rfl, a, b, rfl, ?_⟩
      refine ⟨_, rfl, _, rfl, .int _, _, rfl, iteF ⟨_, rfl, _, rfl, rfl, _, rfl, iteNS rfl ⟨_, rfl, _, rfl, .int _, _, rfl, iteF ?_⟩⟩⟩
      refine ⟨_, rfl, _, rfl, rfl, _, rfl, ite2 (fun c => ?_) (fun c => ?_)⟩
      · have g0 : V.int ((Nat.gcd a.natAbs b.natAbs : Nat) : Int) = V.int 0 := of_decide_eq_true c
        have l0 : V.int ((Nat.lcm a.natAbs b.natAbs : Nat) : Int) = V.int 0 := by
          have e : Nat.gcd a.natAbs b.natAbs = 0 := Int.ofNat.inj (V.int.inj g0)
          unfold Nat.lcm
          rw [e, Nat.div_zero]
          rfl
        exact ⟨rfl, _, rfl, iteNS l0 ⟨_, _, _, _, _, rfl, hdB, hu, hall⟩⟩
      · have g0 : ¬ V.int ((Nat.gcd a.natAbs b.natAbs : Nat) : Int) = V.int 0 := fun z => c (decide_eq_true z)
        have gp : (0 : Int) < ((Nat.gcd a.natAbs b.natAbs : Nat) : Int) := by
          have : ((Nat.gcd a.natAbs b.natAbs : Nat) : Int) ≠ 0 := fun z => g0 (congrArg V.int z)
          omega
        have gb : ((Nat.gcd a.natAbs b.natAbs : Nat) : Int).natAbs < 2 ^ 137 := by
          rw [Int.natAbs_natCast]
          by_cases ha0 : a.natAbs = 0
          · rw [ha0, Nat.gcd_zero_left]
            exact Nat.lt_trans bb (by decide)
          · exact Nat.lt_of_le_of_lt (Nat.gcd_le_left _ (Nat.pos_of_ne_zero ha0)) (Nat.lt_trans ba (by decide))
        refine ⟨_, rfl, _, rfl, a, b, rfl, rfl, wide_mul ba bb (by decide) (by decide) (by decide), _, rfl, _, rfl, _, _, rfl, rfl, wide_div gp gb (by decide) (by decide), rfl, _, rfl, iteNS (lcm_due g0) ⟨_, _, _, _, _, rfl, hdB, hu, hall⟩⟩
    · obtain ⟨y5, y6, y7, y8, y9, rfl, hdB, _, _⟩ := hP
      clear hdA hT all hd
      -- the powers
      refine ⟨_, rfl, h, rfl, hdB, fun H5 b k5 hd5 bb => ⟨_, rfl, h, 41, rfl, hd5, by decide, by decide, fun H6 e k6 hd6 e0 e1 => ⟨_, rfl, (by show 4 ≤ sizeLine; decide), fun u2 nu2 => ⟨u2, rfl, ⟨_, SqT.of upd_same⟩, ?_⟩⟩⟩⟩
      have bb' : b.natAbs ≤ 2 ^ 67 := Nat.le_of_lt bb
      refine for_tup (xs := [V.int 0, .int 1, .int 2, .int e])
        (fun i σ H2 => ∃ y12 y13 : Option V, σ = [some (.ref sa), some (.ref h), some (.int f), some (.int one), some (.int other), y5, y6, y7, y8, y9, some (.int b), some (.int e), y12, y13, none, none, none] ∧ Hand H2 h ∧ H2 u2 = some (.tup [V.int 0, .int 1, .int 2, .int e]))
        ⟨none, none, rfl, hd6.same (same_upd nu2), upd_same⟩ (fun i σ H2 _ hP => ?_) (fun i x σ H2 hx hP => ?_) (fun σ H2 hP => ?_)
      · obtain ⟨_, _, _, _, hu⟩ := hP
        exact SqT.of hu
      · obtain ⟨y12, y13, rfl, hdC, hu⟩ := hP
        obtain ⟨n, rfl, hn⟩ : ∃ n : Nat, x = .int (n : Int) ∧ n ≤ 40 := by
          have hm := List.mem_of_getElem? hx
          rcases List.mem_cons.mp hm with rfl | hm
          · exact ⟨0, rfl, by decide⟩
          rcases List.mem_cons.mp hm with rfl | hm
          · exact ⟨1, rfl, by decide⟩
          rcases List.mem_cons.mp hm with rfl | hm
          · exact ⟨2, rfl, by decide⟩
          rcases List.mem_cons.mp hm with rfl | hm
          · exact ⟨e.toNat, congrArg V.int (by omega), by omega⟩
          · cases hm
        refine ⟨_, rfl, _, rfl, b, n, rfl, bb', hn, ?_⟩
        exact ⟨_, rfl, _, rfl, .int _, _, rfl, iteF ⟨_, rfl, _, rfl, _, rfl, b, n, rfl, bb', hn, rfl, _, rfl, iteNS rfl ⟨_, _, rfl, hdC, hu⟩⟩⟩
      · obtain ⟨y12, y13, rfl, hdC, _⟩ := hP
        -- the bounds
        refine ⟨_, rfl, _, rfl, one, 1, rfl, rfl, _, rfl, one, 1, rfl, rfl, (by show 4 ≤ sizeLine; decide), fun u3 nu3 => ?_⟩
        have nh3 : u3 ≠ h := by
          obtain ⟨c, _, _, _, _, hh, _⟩ := hdC.ex
          exact (ne_of_none hh nu3).symm
        refine ⟨_, rfl, h, 4, rfl, hdC.same (same_upd nu3), by decide, by decide, fun H7 i k7 hd7 i0 i1 => ?_⟩
        obtain ⟨lo, hlo, llo⟩ := lim_at (xs := [V.non, .int one, .int (one - 1), .int (one + 1)]) (fun x hm => by
          rcases List.mem_cons.mp hm with rfl | hm
          · exact .inl rfl
          rcases List.mem_cons.mp hm with rfl | hm
          · exact .inr ⟨_, rfl⟩
          rcases List.mem_cons.mp hm with rfl | hm
          · exact .inr ⟨_, rfl⟩
          rcases List.mem_cons.mp hm with rfl | hm
          · exact .inr ⟨_, rfl⟩
          · cases hm) i0 (by show i < 4; exact i1)
        refine ⟨u3, _, i, lo, rfl, rfl, SqT.of (k7 _ _ nh3 upd_same), hlo, ?_⟩
        refine ⟨_, rfl, _, rfl, one, 1, rfl, rfl, _, rfl, one, 1, rfl, rfl, _, rfl, (by show 5 ≤ sizeLine; decide), fun u4 nu4 => ?_⟩
        have nh4 : u4 ≠ h := by
          obtain ⟨c, _, _, _, _, hh, _⟩ := hd7.ex
          exact (ne_of_none hh nu4).symm
        refine ⟨_, rfl, h, 5, rfl, hd7.same (same_upd nu4), by decide, by decide, fun H8 j k8 hd8 j0 j1 => ?_⟩
        obtain ⟨hi, hhi, lhi⟩ := lim_at (xs := [V.non, .int one, .int (one - 1), .int (one + 1), .int other]) (fun x hm => by
          rcases List.mem_cons.mp hm with rfl | hm
          · exact .inl rfl
          rcases List.mem_cons.mp hm with rfl | hm
          · exact .inr ⟨_, rfl⟩
          rcases List.mem_cons.mp hm with rfl | hm
          · exact .inr ⟨_, rfl⟩
          rcases List.mem_cons.mp hm with rfl | hm
          · exact .inr ⟨_, rfl⟩
          rcases List.mem_cons.mp hm with rfl | hm
          · exact .inr ⟨_, rfl⟩
          · cases hm) j0 (by show j < 5; exact j1)
        refine ⟨u4, _, j, hi, rfl, rfl, SqT.of (k8 _ _ nh4 upd_same), hhi, ?_⟩
        clear hdC hd7 hd8 k7 k8 k5 k6 hd5 hd6
        -- the things
        refine ⟨_, rfl, _, rfl, (by show 1 ≤ sizeLine; decide), fun p np => ⟨(by show 8 ≤ sizeLine; decide), fun u5 nu5 => ⟨u5, rfl, ⟨_, SqT.of upd_same⟩, ?_⟩⟩⟩
        have npu : p ≠ u5 := ne_of_none upd_same nu5
        refine for_tup (xs := [V.int one, .int other, .bl true, .bl false, .non, .str "1", .ref p, .int 0])
          (fun i σ H2 => ∃ y16 : Option V, σ = [some (.ref sa), some (.ref h), some (.int f), some (.int one), some (.int other), y5, y6, y7, y8, y9, some (.int b), some (.int e), y12, y13, some lo, some hi, y16] ∧ H2 u5 = some (.tup [V.int one, .int other, .bl true, .bl false, .non, .str "1", .ref p, .int 0]) ∧ H2 p = some (.tup [.int 1]))
          ⟨none, rfl, upd_same, ?_⟩ (fun i σ H2 _ hP => ?_) (fun i x σ H2 hx hP => ?_) (fun σ H2 hP => ?_)
        · rw [upd_ne npu]
          exact upd_same
        · obtain ⟨_, _, hu, _⟩ := hP
          exact SqT.of hu
        · obtain ⟨y16, rfl, hu, hp⟩ := hP
          have kx : Knd H2 x := by
            have hm := List.mem_of_getElem? hx
            rcases List.mem_cons.mp hm with rfl | hm
            · exact .int _
            rcases List.mem_cons.mp hm with rfl | hm
            · exact .int _
            rcases List.mem_cons.mp hm with rfl | hm
            · exact .bl _
            rcases List.mem_cons.mp hm with rfl | hm
            · exact .bl _
            rcases List.mem_cons.mp hm with rfl | hm
            · exact .non
            rcases List.mem_cons.mp hm with rfl | hm
            · exact .str _
            rcases List.mem_cons.mp hm with rfl | hm
            · exact .tup hp
            rcases List.mem_cons.mp hm with rfl | hm
            · exact .int _
            · cases hm
          have stay : ∀ {b c : Bool}, (!decide (b = c)) = true → b ≠ c := fun z => by
            intro y
            rw [decide_eq_true y] at z
            cases z
          refine ⟨fun σ' H' => σ' = [some (.ref sa), some (.ref h), some (.int f), some (.int one), some (.int other), y5, y6, y7, y8, y9, some (.int b), some (.int e), y12, y13, some lo, some hi, some x] ∧ H2 = H', ?_, fun σ' H' hM => ?_⟩
          · refine ⟨_, rfl, _, rfl, _, rfl, x, lo, hi, rfl, kx, llo, lhi, _, true, rfl, rfl, _, rfl, ite2 (fun c => ?_) (fun c => ?_)⟩
            · refine ⟨_, rfl, _, rfl, _, rfl, x, lo, hi, rfl, kx, llo, lhi, _, rfl, ite2 (fun c2 => absurd c2 (stay c)) (fun _ => ⟨rfl, rfl⟩)⟩
            · exact iteF ⟨rfl, rfl⟩
          obtain ⟨rfl, rfl⟩ := hM
          refine ⟨fun σ' H' => σ' = [some (.ref sa), some (.ref h), some (.int f), some (.int one), some (.int other), y5, y6, y7, y8, y9, some (.int b), some (.int e), y12, y13, some lo, some hi, some x] ∧ H2 = H', ?_, fun σ' H' hM => ?_⟩
          · refine ⟨_, rfl, _, rfl, _, rfl, x, lo, hi, rfl, kx, llo, lhi, _, false, rfl, rfl, _, rfl, ite2 (fun c => ?_) (fun c => ?_)⟩
            · refine ⟨_, rfl, _, rfl, _, rfl, x, lo, hi, rfl, kx, llo, lhi, _, rfl, ite2 (fun c2 => ?_) (fun _ => ⟨rfl, rfl⟩)⟩
              have c3 := stay c
              cases hw : wholeIn x lo hi with
              | true =>
                rw [hw] at c2
                cases c2
              | false => exact absurd hw c3
            · exact iteF ⟨rfl, rfl⟩
          obtain ⟨rfl, rfl⟩ := hM
          refine ⟨fun σ' H' => σ' = [some (.ref sa), some (.ref h), some (.int f), some (.int one), some (.int other), y5, y6, y7, y8, y9, some (.int b), some (.int e), y12, y13, some lo, some hi, some x] ∧ H2 = H', ?_, fun σ' H' hM => ?_⟩
          · refine ⟨_, rfl, x, .non, .non, rfl, kx, .inl rfl, .inl rfl, _, true, rfl, rfl, _, rfl, ite2 (fun c => ?_) (fun c => ?_)⟩
            · refine ⟨_, rfl, x, rfl, kx, _, rfl, ite2 (fun c2 => ?_) (fun _ => ⟨rfl, rfl⟩)⟩
              refine absurd ?_ (stay c)
              cases kx with
              | int i => rfl
              | non => cases c2
              | bl b => cases c2
              | str z => cases c2
              | tup z => cases c2
            · exact iteF ⟨rfl, rfl⟩
          obtain ⟨rfl, rfl⟩ := hM
          refine ⟨_, rfl, _, rfl, rfl, rfl, x, .non, hi, rfl, kx, .inl rfl, lhi, _, rfl, _, rfl, x, .non, hi, rfl, kx, .inl rfl, lhi, rfl, _, rfl, iteNS rfl ⟨_, rfl, hu, hp⟩⟩
        · exact q _
end
end K74
set_option Elab.async false
set_option linter.all false
set_option maxRecDepth 100000
set_option maxHeartbeats 4000000
set_option exponentiation.threshold 5000
namespace K74
open PySem PySem.Spec PyProof.Rows L2
theorem all_mk {l : PySem.W.OpenLaw} {w : World} {K : PySem.W.Frag} {h : Heap} {mg : Str → Option Value} {fa f0 f1 f2 f3 f4 f5 f6 f7 f8 f9 f10 f11 f12 : Addr} (X : K.In h) (G : h.Ns mainGlobals mg) (hfa : mg "law" = some (.ref fa))
    {od0 an0 : Option Addr} {sl0 : Array (Option Value)} {oc0 kV0 dc0 pm0 cd0 ct0 : Value} {D0 : Addr} {ocD0 : Value} {odD0 : Option Addr} {nD0 : Nat} {slD0 : Array (Option Value)}
    (a0 : PySem.W.nsIn K mainGlobals "is_whole" = some (some (.ref f0))) (l0 : K.lookup f0 = some ⟨oc0, od0, .func (PySem.W.fnOf "is_whole" "is_whole" (defArgs s_is_whole) (defBody s_is_whole) (defScope s_is_whole) (.ref D0) kV0 dc0 pm0 an0 cd0 ct0), sl0⟩) (c0 : PySem.W.codeIn K cd0 "is_whole" = true) (k0 : PySem.W.keepIn K (.ref f0) = true)
    (e0 : K.lookup D0 = some ⟨ocD0, odD0, .seq #[.none, .none] nD0, slD0⟩)
    {od1 an1 : Option Addr} {sl1 : Array (Option Value)} {oc1 kV1 dc1 pm1 cd1 ct1 : Value}
    (a1 : PySem.W.nsIn K mainGlobals "common_divisor" = some (some (.ref f1))) (l1 : K.lookup f1 = some ⟨oc1, od1, .func (PySem.W.fnOf "common_divisor" "common_divisor" (defArgs s_common_divisor) (defBody s_common_divisor) (defScope s_common_divisor) .none kV1 dc1 pm1 an1 cd1 ct1), sl1⟩) (c1 : PySem.W.codeIn K cd1 "common_divisor" = true) (k1 : PySem.W.keepIn K (.ref f1) = true)
    {od2 an2 : Option Addr} {sl2 : Array (Option Value)} {oc2 kV2 dc2 pm2 cd2 ct2 : Value}
    (a2 : PySem.W.nsIn K mainGlobals "common_multiple" = some (some (.ref f2))) (l2 : K.lookup f2 = some ⟨oc2, od2, .func (PySem.W.fnOf "common_multiple" "common_multiple" (defArgs s_common_multiple) (defBody s_common_multiple) (defScope s_common_multiple) .none kV2 dc2 pm2 an2 cd2 ct2), sl2⟩) (c2 : PySem.W.codeIn K cd2 "common_multiple" = true) (k2 : PySem.W.keepIn K (.ref f2) = true)
    {od3 an3 : Option Addr} {sl3 : Array (Option Value)} {oc3 kV3 dc3 pm3 cd3 ct3 : Value}
    (a3 : PySem.W.nsIn K mainGlobals "power_of" = some (some (.ref f3))) (l3 : K.lookup f3 = some ⟨oc3, od3, .func (PySem.W.fnOf "power_of" "power_of" (defArgs s_power_of) (defBody s_power_of) (defScope s_power_of) .none kV3 dc3 pm3 an3 cd3 ct3), sl3⟩) (c3 : PySem.W.codeIn K cd3 "power_of" = true) (k3 : PySem.W.keepIn K (.ref f3) = true)
    {od4 an4 : Option Addr} {sl4 : Array (Option Value)} {oc4 kV4 dc4 pm4 cd4 ct4 : Value}
    (a4 : PySem.W.nsIn K mainGlobals "_law_hand" = some (some (.ref f4))) (l4 : K.lookup f4 = some ⟨oc4, od4, .func (PySem.W.fnOf "_law_hand" "_law_hand" (defArgs s_law_hand) (defBody s_law_hand) (defScope s_law_hand) .none kV4 dc4 pm4 an4 cd4 ct4), sl4⟩) (c4 : PySem.W.codeIn K cd4 "_law_hand" = true) (k4 : PySem.W.keepIn K (.ref f4) = true)
    {od5 an5 : Option Addr} {sl5 : Array (Option Value)} {oc5 kV5 dc5 pm5 cd5 ct5 : Value}
    (a5 : PySem.W.nsIn K mainGlobals "_law_mixed" = some (some (.ref f5))) (l5 : K.lookup f5 = some ⟨oc5, od5, .func (PySem.W.fnOf "_law_mixed" "_law_mixed" (defArgs s_law_mixed) (defBody s_law_mixed) (defScope s_law_mixed) .none kV5 dc5 pm5 an5 cd5 ct5), sl5⟩) (c5 : PySem.W.codeIn K cd5 "_law_mixed" = true) (k5 : PySem.W.keepIn K (.ref f5) = true)
    {od6 an6 : Option Addr} {sl6 : Array (Option Value)} {oc6 kV6 dc6 pm6 cd6 ct6 : Value}
    (a6 : PySem.W.nsIn K mainGlobals "_law_take" = some (some (.ref f6))) (l6 : K.lookup f6 = some ⟨oc6, od6, .func (PySem.W.fnOf "_law_take" "_law_take" (defArgs s_law_take) (defBody s_law_take) (defScope s_law_take) .none kV6 dc6 pm6 an6 cd6 ct6), sl6⟩) (c6 : PySem.W.codeIn K cd6 "_law_take" = true) (k6 : PySem.W.keepIn K (.ref f6) = true)
    {od7 an7 : Option Addr} {sl7 : Array (Option Value)} {oc7 kV7 dc7 pm7 cd7 ct7 : Value}
    (a7 : PySem.W.nsIn K mainGlobals "_law_whole" = some (some (.ref f7))) (l7 : K.lookup f7 = some ⟨oc7, od7, .func (PySem.W.fnOf "_law_whole" "_law_whole" (defArgs s_law_whole) (defBody s_law_whole) (defScope s_law_whole) .none kV7 dc7 pm7 an7 cd7 ct7), sl7⟩) (c7 : PySem.W.codeIn K cd7 "_law_whole" = true) (k7 : PySem.W.keepIn K (.ref f7) = true)
    {od8 an8 : Option Addr} {sl8 : Array (Option Value)} {oc8 kV8 dc8 pm8 cd8 ct8 : Value}
    (a8 : PySem.W.nsIn K mainGlobals "_law_gcd" = some (some (.ref f8))) (l8 : K.lookup f8 = some ⟨oc8, od8, .func (PySem.W.fnOf "_law_gcd" "_law_gcd" (defArgs s_law_gcd) (defBody s_law_gcd) (defScope s_law_gcd) .none kV8 dc8 pm8 an8 cd8 ct8), sl8⟩) (c8 : PySem.W.codeIn K cd8 "_law_gcd" = true) (k8 : PySem.W.keepIn K (.ref f8) = true)
    {od9 an9 : Option Addr} {sl9 : Array (Option Value)} {oc9 kV9 dc9 pm9 cd9 ct9 : Value}
    (a9 : PySem.W.nsIn K mainGlobals "_law_power" = some (some (.ref f9))) (l9 : K.lookup f9 = some ⟨oc9, od9, .func (PySem.W.fnOf "_law_power" "_law_power" (defArgs s_law_power) (defBody s_law_power) (defScope s_law_power) .none kV9 dc9 pm9 an9 cd9 ct9), sl9⟩) (c9 : PySem.W.codeIn K cd9 "_law_power" = true) (k9 : PySem.W.keepIn K (.ref f9) = true)
    {od10 an10 : Option Addr} {sl10 : Array (Option Value)} {oc10 kV10 dc10 pm10 cd10 ct10 : Value}
    (a10 : PySem.W.nsIn K mainGlobals "_law_number" = some (some (.ref f10))) (l10 : K.lookup f10 = some ⟨oc10, od10, .func (PySem.W.fnOf "_law_number" "_law_number" (defArgs s_law_number) (defBody s_law_number) (defScope s_law_number) .none kV10 dc10 pm10 an10 cd10 ct10), sl10⟩) (c10 : PySem.W.codeIn K cd10 "_law_number" = true) (k10 : PySem.W.keepIn K (.ref f10) = true)
    {od11 an11 : Option Addr} {sl11 : Array (Option Value)} {oc11 kV11 dc11 pm11 cd11 ct11 : Value}
    (a11 : PySem.W.nsIn K mainGlobals "_law_is" = some (some (.ref f11))) (l11 : K.lookup f11 = some ⟨oc11, od11, .func (PySem.W.fnOf "_law_is" "_law_is" (defArgs s_law_is) (defBody s_law_is) (defScope s_law_is) .none kV11 dc11 pm11 an11 cd11 ct11), sl11⟩) (c11 : PySem.W.codeIn K cd11 "_law_is" = true) (k11 : PySem.W.keepIn K (.ref f11) = true)
    {od12 an12 : Option Addr} {sl12 : Array (Option Value)} {oc12 kV12 dc12 pm12 cd12 ct12 : Value}
    (a12 : PySem.W.nsIn K mainGlobals "law" = some (some (.ref f12))) (l12 : K.lookup f12 = some ⟨oc12, od12, .func (PySem.W.fnOf "law" "law" (defArgs s_law) (defBody s_law) (defScope s_law) .none kV12 dc12 pm12 an12 cd12 ct12), sl12⟩) (c12 : PySem.W.codeIn K cd12 "law" = true) (k12 : PySem.W.keepIn K (.ref f12) = true)
    (z0 : PySem.W.nsIn K mainGlobals "abs" = some none)
    (z1 : PySem.W.nsIn K mainGlobals "bool" = some none)
    (z2 : PySem.W.nsIn K mainGlobals "int" = some none)
    (z3 : PySem.W.nsIn K mainGlobals "isinstance" = some none)
    (z4 : PySem.W.nsIn K mainGlobals "len" = some none)
    (z5 : PySem.W.nsIn K mainGlobals "range" = some none)
    (y0 : PySem.W.nsIn K mainGlobals "gcd" = some (some (.builtin "math.gcd")))
    (y1 : PySem.W.nsIn K mainGlobals "lcm" = some (some (.builtin "math.lcm")))
    : ∃ fd : FuncData, (∀ (s : Shared) (v : Value), BindsTo s fd ⟨[v], []⟩ [("_law_script", v)]) ∧ ∀ base : Heap, K.In base → base.Ns mainGlobals mg → FnOk l.prog w K mg base CX0 4 fa fd ["_law_script"] (sp_law K) := by
  have e := hfa.symm.trans (PySem.W.mg_of X G a12)
  cases e
  have F0 : FunD K "is_whole" "is_whole" (defArgs s_is_whole) (defBody s_is_whole) (defScope s_is_whole) [.non, .non] [] f0 (PySem.W.fnOf "is_whole" "is_whole" (defArgs s_is_whole) (defBody s_is_whole) (defScope s_is_whole) (.ref D0) kV0 dc0 pm0 an0 cd0 ct0) :=
    ⟨⟨oc0, od0, .ref D0, kV0, dc0, pm0, an0, cd0, ct0, sl0, rfl, l0, c0, .inr ⟨by simp, D0, _, [.none, .none], _, rfl, e0, rfl, .cons rfl (.cons rfl .nil)⟩, .inl rfl⟩, k0⟩
  have b0 : Binds K (PySem.W.fnOf "is_whole" "is_whole" (defArgs s_is_whole) (defBody s_is_whole) (defScope s_is_whole) (.ref D0) kV0 dc0 pm0 an0 cd0 ct0) ["thing", "low", "high"] [] := fun s us X hl => by
    match us, hl with
    | [u1, u2, u3], _ => exact BindsTo.of_looks fun M => looks_items (its := #[.none, .none]) X e0 rfl (.of_pure rfl)
  have b01 : Binds K (PySem.W.fnOf "is_whole" "is_whole" (defArgs s_is_whole) (defBody s_is_whole) (defScope s_is_whole) (.ref D0) kV0 dc0 pm0 an0 cd0 ct0) ["thing", "low", "high"] [.none, .none] := fun s us X hl => by
    have hl : us.length = 1 := by
      rw [List.length_append] at hl
      exact Nat.add_right_cancel (m := 2) hl
    match us, hl with
    | [u1], _ => exact BindsTo.of_looks fun M => looks_items (its := #[.none, .none]) X e0 rfl (.of_pure rfl)
  have kb0 : KBn K (PySem.W.fnOf "is_whole" "is_whole" (defArgs s_is_whole) (defBody s_is_whole) (defScope s_is_whole) (.ref D0) kV0 dc0 pm0 an0 cd0 ct0) ["thing", "low", "high"] 1 ["high"] (fun us ws => us ++ (Value.none :: ws)) (fun vs zs => vs ++ (V.non :: zs)) :=
    ⟨fun s us ws X h1 h2 => by
      match us, ws, h1, h2 with
      | [u1], [w1], _, _ => exact BindsTo.of_looks fun M => looks_items (its := #[.none, .none]) X e0 rfl (.of_pure rfl),
    fun r z => r.append (.cons rfl z)⟩
  have F1 := fun_mk (st := s_common_divisor) l1 c1 k1
  have b1 := F1.binds (ps := ["one", "other"]) fun _ _ _ _ _ _ us hl => match us, hl with | [_, _], _ => rfl
  have F2 := fun_mk (st := s_common_multiple) l2 c2 k2
  have b2 := F2.binds (ps := ["one", "other"]) fun _ _ _ _ _ _ us hl => match us, hl with | [_, _], _ => rfl
  have F3 := fun_mk (st := s_power_of) l3 c3 k3
  have b3 := F3.binds (ps := ["base", "exponent"]) fun _ _ _ _ _ _ us hl => match us, hl with | [_, _], _ => rfl
  have F4 := fun_mk (st := s_law_hand) l4 c4 k4
  have b4 := F4.binds (ps := ["_law_script"]) fun _ _ _ _ _ _ us hl => match us, hl with | [_], _ => rfl
  have F5 := fun_mk (st := s_law_mixed) l5 c5 k5
  have b5 := F5.binds (ps := ["_law_number_here", "_law_turn"]) fun _ _ _ _ _ _ us hl => match us, hl with | [_, _], _ => rfl
  have F6 := fun_mk (st := s_law_take) l6 c6 k6
  have b6 := F6.binds (ps := ["_law_hand_here", "_law_many"]) fun _ _ _ _ _ _ us hl => match us, hl with | [_, _], _ => rfl
  have F7 := fun_mk (st := s_law_whole) l7 c7 k7
  have b7 := F7.binds (ps := ["_law_thing"]) fun _ _ _ _ _ _ us hl => match us, hl with | [_], _ => rfl
  have F8 := fun_mk (st := s_law_gcd) l8 c8 k8
  have b8 := F8.binds (ps := ["_law_one", "_law_other"]) fun _ _ _ _ _ _ us hl => match us, hl with | [_, _], _ => rfl
  have F9 := fun_mk (st := s_law_power) l9 c9 k9
  have b9 := F9.binds (ps := ["_law_base", "_law_exponent"]) fun _ _ _ _ _ _ us hl => match us, hl with | [_, _], _ => rfl
  have F10 := fun_mk (st := s_law_number) l10 c10 k10
  have b10 := F10.binds (ps := ["_law_hand_here"]) fun _ _ _ _ _ _ us hl => match us, hl with | [_], _ => rfl
  have F11 := fun_mk (st := s_law_is) l11 c11 k11
  have b11 := F11.binds (ps := ["_law_thing", "_law_least", "_law_most"]) fun _ _ _ _ _ _ us hl => match us, hl with | [_, _, _], _ => rfl
  have F12 := fun_mk (st := s_law) l12 c12 k12
  let T : Txt K mg := { f_is_whole := f0, d_is_whole := _, F_is_whole := F0, g_is_whole := PySem.W.mg_of X G a0, b_is_whole := b0, b1_is_whole := b01, kb_is_whole := kb0, f_common_divisor := f1, d_common_divisor := _, F_common_divisor := F1, g_common_divisor := PySem.W.mg_of X G a1, b_common_divisor := b1, f_common_multiple := f2, d_common_multiple := _, F_common_multiple := F2, g_common_multiple := PySem.W.mg_of X G a2, b_common_multiple := b2, f_power_of := f3, d_power_of := _, F_power_of := F3, g_power_of := PySem.W.mg_of X G a3, b_power_of := b3, f_law_hand := f4, d_law_hand := _, F_law_hand := F4, g_law_hand := PySem.W.mg_of X G a4, b_law_hand := b4, f_law_mixed := f5, d_law_mixed := _, F_law_mixed := F5, g_law_mixed := PySem.W.mg_of X G a5, b_law_mixed := b5, f_law_take := f6, d_law_take := _, F_law_take := F6, g_law_take := PySem.W.mg_of X G a6, b_law_take := b6, f_law_whole := f7, d_law_whole := _, F_law_whole := F7, g_law_whole := PySem.W.mg_of X G a7, b_law_whole := b7, f_law_gcd := f8, d_law_gcd := _, F_law_gcd := F8, g_law_gcd := PySem.W.mg_of X G a8, b_law_gcd := b8, f_law_power := f9, d_law_power := _, F_law_power := F9, g_law_power := PySem.W.mg_of X G a9, b_law_power := b9, f_law_number := f10, d_law_number := _, F_law_number := F10, g_law_number := PySem.W.mg_of X G a10, b_law_number := b10, f_law_is := f11, d_law_is := _, F_law_is := F11, g_law_is := PySem.W.mg_of X G a11, b_law_is := b11, f_law := _, d_law := _, F_law := F12, m_abs := PySem.W.mg_none_of X G z0, m_bool := PySem.W.mg_none_of X G z1, m_int := PySem.W.mg_none_of X G z2, m_isinstance := PySem.W.mg_none_of X G z3, m_len := PySem.W.mg_none_of X G z4, m_range := PySem.W.mg_none_of X G z5, x_gcd := PySem.W.mg_of X G y0, x_lcm := PySem.W.mg_of X G y1 }
  exact ⟨_, fun s v => .of_eq rfl, fun base _ _ => ok_law T⟩
end K74
open PySem PySem.W PyProof.Rows
set_option maxHeartbeats 0 in
theorem PySem.Challenge.cw_sheetproofs_k74_divisors_multiples_and_p_holds : PySem.Challenge.rw_sheetproofs_k74_divisors_multiples_and_p.Holds := by
  w_on; o_law; k_head; (case hw => w_witness2)
  k_fill
  refine L2.walk_of (l := PySem.Challenge.rw_sheetproofs_k74_divisors_multiples_and_p) (n := 63) (k := 4) (x := "_law_script") (CX := fun _ => L2.CX0) (sp := fun w => K74.sp_law _) rfl (by decide) rfl ⟨rfl, by decide, by decide⟩ (fun w h Y => PySem.W.kIn_of Y) ?F (fun _ _ a ns hl _ hS => ⟨a, ns, rfl, hS, hl, fun _ => rfl⟩) (fun _ _ _ _ _ h => h)
  case F =>
    intro w mg fa h KX G hmg
    refine' K74.all_mk KX G hmg ?a0 ?l0 ?c0 ?k0 ?e0 ?a1 ?l1 ?c1 ?k1 ?a2 ?l2 ?c2 ?k2 ?a3 ?l3 ?c3 ?k3 ?a4 ?l4 ?c4 ?k4 ?a5 ?l5 ?c5 ?k5 ?a6 ?l6 ?c6 ?k6 ?a7 ?l7 ?c7 ?k7 ?a8 ?l8 ?c8 ?k8 ?a9 ?l9 ?c9 ?k9 ?a10 ?l10 ?c10 ?k10 ?a11 ?l11 ?c11 ?k11 ?a12 ?l12 ?c12 ?k12 ?z0 ?z1 ?z2 ?z3 ?z4 ?z5 ?y0 ?y1
    (case a0 => k_is); (case l0 => k_is); (case c0 => k_is); (case k0 => k_is); (case e0 => k_is); (case a1 => k_is); (case l1 => k_is); (case c1 => k_is); (case k1 => k_is); (case a2 => k_is); (case l2 => k_is); (case c2 => k_is); (case k2 => k_is); (case a3 => k_is); (case l3 => k_is); (case c3 => k_is); (case k3 => k_is); (case a4 => k_is); (case l4 => k_is); (case c4 => k_is); (case k4 => k_is); (case a5 => k_is); (case l5 => k_is); (case c5 => k_is); (case k5 => k_is); (case a6 => k_is); (case l6 => k_is); (case c6 => k_is); (case k6 => k_is); (case a7 => k_is); (case l7 => k_is); (case c7 => k_is); (case k7 => k_is); (case a8 => k_is); (case l8 => k_is); (case c8 => k_is); (case k8 => k_is); (case a9 => k_is); (case l9 => k_is); (case c9 => k_is); (case k9 => k_is); (case a10 => k_is); (case l10 => k_is); (case c10 => k_is); (case k10 => k_is); (case a11 => k_is); (case l11 => k_is); (case c11 => k_is); (case k11 => k_is); (case a12 => k_is); (case l12 => k_is); (case c12 => k_is); (case k12 => k_is); (case z0 => k_is); (case z1 => k_is); (case z2 => k_is); (case z3 => k_is); (case z4 => k_is); (case z5 => k_is); (case y0 => k_is); (case y1 => k_is)
