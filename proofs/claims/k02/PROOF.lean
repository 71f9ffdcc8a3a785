import PyProof.Rows.All
import Wide.All
import OpenK.AllK
import Wide.FinOn
import HandS.Base
import HandS.Call
import HandS.List
import HandS.Words
import HandS.WordsList
import HandS.Codes
import HandS.Ends
import HandS.Exc
import HandS.ExcInit
import HandS.ExcField
import HandS.TryMany
import KE.KTryMore
import HandS.Lambda
import HandS.Defaults
import PyProof.DefMake
import PyProof.DefCall
import HandS.IsInst
import HandS.StrMore
import HandS.WordsExc
import HandS.Comp
import HandS.Iter
import HandS.Text
import HandS.EndTab
import HandS.HeadWalk
import PyProof.P3Eq
import HandS.Head0
import HandS.Head1
import HandS.Head2
import HandS.HeadEnd
import HandS.HeadHook1
import HandS.HeadHook2
import HandS.HeadHook3
import HandS.HeadHook4
import PySem.Challenge.RW_voidquilt_k02_worths_under_beginnings
set_option Elab.async false
set_option linter.all false
set_option maxRecDepth 100000
set_option maxHeartbeats 3000000
namespace VQ
open PySem L2
def top (i : Nat) : Stmt := PySem.Challenge.pw_voidquilt_k02_worths_under_beginnings.main.body.getD i (.Pass ⟨0, 0, 0, 0⟩)
abbrev sBag : Stmt := top 20
abbrev sPull : Stmt := top 21
abbrev sOf : Stmt := top 22
/-- a drawing bag stands at b -/
def Bag (H : Hp) (b : Addr) : Prop := ∃ (l : Addr) (ns : List Int) (i r x n : Int), l ≠ b ∧ H b = some (.lst [.ref l, .int i, .int r, .int x, .int n]) ∧ H l = some (.lst (ns.map V.int)) ∧ 0 ≤ i ∧ 0 ≤ x ∧ x < 2147483629
/-- all but b is as it was, and the list in b's first place is the same one -/
def Keep (b : Addr) (H H' : Hp) : Prop := (∀ a o, a ≠ b → H a = some o → H' a = some o) ∧ ∀ l r, H b = some (.lst (.ref l :: r)) → ∃ r', H' b = some (.lst (.ref l :: r'))
theorem Keep.refl (b : Addr) (H : Hp) : Keep b H H := ⟨fun _ _ _ h => h, fun _ r h => ⟨r, h⟩⟩
theorem Keep.trans {b : Addr} {H H1 H2 : Hp} (h1 : Keep b H H1) (h2 : Keep b H1 H2) : Keep b H H2 := ⟨fun a o n h => h2.1 a o n (h1.1 a o n h), fun l r h => let ⟨r1, e⟩ := h1.2 l r h; h2.2 l r1 e⟩
theorem Keep.upd {b l : Addr} {H : Hp} {r r' : List V} (h : H b = some (.lst (.ref l :: r))) : Keep b H (upd H b (.lst (.ref l :: r'))) := ⟨fun a u n h => by rw [upd_ne n]; exact h, fun l' r1 e => by
  rw [h] at e
  cases e
  exact ⟨r', upd_same⟩⟩
theorem Same.keep {b : Addr} {H H' : Hp} (h : Same H H') : Keep b H H' := ⟨fun a o _ e => h a o e, fun l r e => ⟨r, h _ _ e⟩⟩
theorem same_new {H : Hp} {p : Addr} {o : HO} (h : H p = none) : Same H (upd H p o) := fun a u e => by rw [upd_ne (ne_of_none e h)]; exact e
theorem Bag.here {H : Hp} {b : Addr} (h : Bag H b) : ∃ o, H b = some o := by
  obtain ⟨l, ns, i, r, x, n, _, h1, _⟩ := h
  exact ⟨_, h1⟩
theorem Bag.same {H H' : Hp} {b : Addr} (h : Bag H b) (s : Same H H') : Bag H' b := by
  obtain ⟨l, ns, i, r, x, n, nl, h1, h2, h3⟩ := h
  exact ⟨l, ns, i, r, x, n, nl, s _ _ h1, s _ _ h2, h3⟩
theorem Keep.free {b p : Addr} {H H' : Hp} (k : Keep b H H') (h : Bag H b) (h' : Bag H' b) (hp : H' p = none) : H p = none := by
  cases q : H p with
  | none => rfl
  | some o =>
    by_cases e : p = b
    · obtain ⟨o', z⟩ := h'.here
      rw [e, z] at hp
      cases hp
    · rw [k.1 p o e q] at hp
      cases hp
/-- something new is written while the bag is kept -/
theorem Bag.put {b D : Addr} {H0 H : Hp} {o : HO} (B0 : Bag H0 b) (hD : H0 D = none) (k : Keep b H0 H) (B : Bag H b) : Bag (upd H D o) b ∧ Keep b H0 (upd H D o) := by
  obtain ⟨l, ns, i, r, x, n, nl, h1, h2, h3⟩ := B0
  obtain ⟨l', ns', i', r', x', n', nl', g1, g2, g3⟩ := B
  obtain ⟨rr, e⟩ := k.2 l _ h1
  rw [g1] at e
  cases e
  have bD : b ≠ D := ne_of_none h1 hD
  have lD : l ≠ D := ne_of_none h2 hD
  refine ⟨⟨l, ns', i', r', x', n', nl', (upd_ne bD).trans g1, (upd_ne lD).trans g2, g3⟩, fun a u ne e => ?_, fun l2 r2 e => ?_⟩
  · rw [upd_ne (ne_of_none e hD)]
    exact k.1 a u ne e
  · rw [upd_ne bD]
    exact k.2 l2 r2 e
theorem Keep.tup {b a : Addr} {H H' : Hp} {xs : List V} (k : Keep b H H') (B : Bag H b) (h : H a = some (.tup xs)) : H' a = some (.tup xs) := by
  refine k.1 a _ (fun e => ?_) h
  obtain ⟨l, ns, i, r, x, n, nl, h1, _⟩ := B
  rw [e, h1] at h
  cases h
def spPull : Sp := fun vs H Q _ => ∃ (b : Addr) (s : Int), vs = [.ref b, .int s] ∧ Bag H b ∧ 1 ≤ s ∧ s < 1073741824 ∧
  ∀ (d : Int) (H' : Hp), 0 ≤ d → d < s → Bag H' b → Keep b H H' → Q (.int d) H'
section
variable {P : Program} {w : World} {K : PySem.W.Frag} {mg : Str → Option Value} {base : Heap}
theorem scPull : FnScope ["_law_bag_here", "_law_size", "_law_cell", "_law_digit"] ["_law_bag_here", "_law_size"] (defScope sPull) := ⟨rfl, rfl, rfl, by decide +kernel, rfl, by decide +kernel, by decide +kernel⟩
theorem ok_pull {f : Addr} {fd : FuncData} (F : Fun K "_law_pull" "_law_pull" sPull f fd) (len : mg "len" = none) : FnOk P w K mg base CX0 1 f fd ["_law_bag_here", "_law_size"] spPull := by
  refine F.ok scPull (fun vs H Q E h => ?_) (fun cdv A outer s H vs Q E hr h => ?_)
  · obtain ⟨b, s, rfl, _⟩ := h
    rfl
  · obtain ⟨b, z, rfl, B, z1, z2, k⟩ := h
    refine ⟨_, C8.pss_cut (ps_if (PW.pt (pw_and (pt_cmpR op_lt (pe_ix ix_list (pv 0) pe_int fun _ _ => rfl) (pv 1) (nomark _)) (pw_and1 (pt_cmpR op_lt (pe_ix ix_list (pv 0) pe_int fun _ _ => rfl)
          (pe_callB call_len_seq (by rfl) len PySem.boot_len (pa_cons (pe_ix ix_list (pv 0) pe_int fun _ _ => rfl) pa_nil)) (nomark _)))))
        (pss_cons (ps_set (i := 2) scPull.nd rfl (.inl rfl) (pe_ix ix_list (pe_ix ix_list (pv 0) pe_int fun _ _ => rfl) (pe_ix ix_list (pv 0) pe_int fun _ _ => rfl) fun _ _ => rfl))
        (pss_cons (ps_asg (pe_op op_add (pe_ix ix_list (pv 0) pe_int fun _ _ => rfl) pe_int) (pg_sub (pv 0) pe_int set_list))
        (pss_cons (ps_asg (pe_ifExp (pt_cmpR op_ge (pv 2) (pe_op op_pow pe_int pe_int) (nomark _)) (pe_op op_sub (pv 2) (pe_op op_pow pe_int pe_int)) pe_int) (pg_sub (pv 0) pe_int set_list))
        (pss_one (ps_asg (pe_op op_mod (pe_op op_add (pe_op op_add (pe_op op_mul (pe_ix ix_list (pv 0) pe_int fun _ _ => rfl) pe_int) (pe_op op_mul (pv 2) pe_int)) (pe_ix ix_list (pv 0) pe_int fun _ _ => rfl)) pe_int) (pg_sub (pv 0) pe_int set_list))))))
        pss_nil)
      (pss_cons (ps_if (pt_cmpR op_ge (pe_ix ix_list (pv 0) pe_int fun _ _ => rfl) (pv 1) (nomark _))
        (pss_cons (ps_set (i := 3) scPull.nd rfl (.inl rfl) (pe_op op_mod (pe_ix ix_list (pv 0) pe_int fun _ _ => rfl) (pv 1)))
        (pss_cons (ps_asg (pe_op op_fdiv (pe_ix ix_list (pv 0) pe_int fun _ _ => rfl) (pv 1)) (pg_sub (pv 0) pe_int set_list))
        (pss_one (ps_ret (pv 3)))))
        pss_nil)
      (pss_cons (ps_asg (pe_op op_add (pe_ix ix_list (pv 0) pe_int fun _ _ => rfl) pe_int) (pg_sub (pv 0) pe_int set_list))
      (pss_cons (ps_asg (pe_op op_mod (pe_op op_add (pe_op op_add (pe_op op_add (pe_op op_pow (pe_ix ix_list (pv 0) pe_int fun _ _ => rfl) pe_int) (pe_op op_mul pe_int (pe_ix ix_list (pv 0) pe_int fun _ _ => rfl))) (pe_op op_fdiv (pe_ix ix_list (pv 0) pe_int fun _ _ => rfl) pe_int)) pe_int) pe_int) (pg_sub (pv 0) pe_int set_list))
      (pss_one (ps_ret (pe_op op_mod (pe_op op_fdiv (pe_ix ix_list (pv 0) pe_int fun _ _ => rfl) pe_int) (pv 1)))))))
      , ?_⟩
    refine ⟨fun σ' H' => ∃ (c e : Option V), σ' = [some (.ref b), some (.int z), c, e] ∧ Bag H' b ∧ Keep b H H', ?_, ?_⟩
    · obtain ⟨l, ns, i, r, x, n, nl, h1, h2, i0, x0, x1⟩ := id B
      have m53 : ∀ y : Int, 0 ≤ y % 2147483629 ∧ y % 2147483629 < 2147483629 := fun y => ⟨Int.emod_nonneg _ (by decide), Int.emod_lt_of_pos _ (by decide)⟩
      refine ⟨_, rfl, _, _, _, _, rfl, rfl, SqL.of h1, (show atI [V.ref l, .int i, .int r, .int x, .int n] 2 = some (.int r) from rfl), _, rfl, _, _, rfl, rfl, _, rfl, ?_⟩
      refine ite2 (fun _ => ?_) (fun _ => ?_)
      · refine ⟨_, rfl, _, _, _, _, rfl, rfl, SqL.of h1, (show atI [V.ref l, .int i, .int r, .int x, .int n] 1 = some (.int i) from rfl), _, rfl, _, _, _, _, rfl, rfl, SqL.of h1, (show atI [V.ref l, .int i, .int r, .int x, .int n] 0 = some (.ref l) from rfl), l, _, rfl, .inl (SqL.of h2), _, _, rfl, rfl, _, rfl, ?_⟩
        refine ite2 (fun hlt => ?_) (fun _ => ?_)
        · have hi : i < (ns.length : Int) := by
            have q := of_decide_eq_true hlt
            rw [List.length_map] at q
            exact q
          obtain ⟨j, rfl⟩ := Int.eq_ofNat_of_zero_le i0
          have hj : j < ns.length := Int.ofNat_lt.mp hi
          have at1 : atI (ns.map V.int) (j : Int) = some (V.int (ns[j]'hj)) := atI_nat (by rw [List.getElem?_map, List.getElem?_eq_getElem hj]; rfl)
          generalize ns[j]'hj = cell at at1
          refine ⟨_, rfl, _, _, _, _, rfl, rfl, SqL.of h1, (show atI [V.ref l, .int j, .int r, .int x, .int n] 0 = some (.ref l) from rfl), _, rfl, _, _, _, _, rfl, rfl, SqL.of h1, (show atI [V.ref l, .int j, .int r, .int x, .int n] 1 = some (.int j) from rfl), l, _, _, _, rfl, rfl, SqL.of h2, at1, ?_⟩
          -- bag[1] = bag[1] + 1
          refine ⟨_, rfl, _, _, _, _, rfl, rfl, SqL.of h1, (show atI [V.ref l, .int j, .int r, .int x, .int n] 1 = some (.int j) from rfl), _, _, rfl, rfl, _, rfl, b, _, 1, 1, rfl, rfl, h1, rfl, ?_⟩
          -- bag[2] = ..
          refine ⟨_, rfl, 10, 18, rfl, rfl, ⟨by decide, by decide, by decide⟩, _, _, rfl, rfl, _, rfl, ?_⟩
          refine ite2 (fun _ => ?_) (fun _ => ?_)
          · refine ⟨_, rfl, 10, 18, rfl, rfl, ⟨by decide, by decide, by decide⟩, _, _, rfl, rfl, _, rfl, b, _, 2, 2, rfl, rfl, upd_same, rfl, ?_⟩
            refine ⟨_, rfl, b, _, _, _, rfl, rfl, SqL.of upd_same, rfl, _, 69069, rfl, rfl, .inr ⟨by decide, by decide⟩, _, rfl, _, 5, rfl, rfl, .inr ⟨by decide, by decide⟩, _, _, rfl, rfl, _, rfl, b, _, _, _, rfl, rfl, SqL.of upd_same, rfl, _, _, rfl, rfl, _, 2147483629, rfl, rfl, (show (0 : Int) < 2147483629 by decide), _, rfl, b, _, 3, 3, rfl, rfl, upd_same, rfl, ?_⟩
            refine ⟨_, _, rfl, ⟨l, ns, _, _, _, _, nl, upd_same, ?_, ?_, (m53 _).1, (m53 _).2⟩, ?_⟩
            · rw [upd_ne nl, upd_ne nl, upd_ne nl]
              exact h2
            · omega
            · exact Keep.trans (Keep.trans (Keep.upd h1) (Keep.upd upd_same)) (Keep.upd upd_same)
          · refine ⟨_, rfl, b, _, 2, 2, rfl, rfl, upd_same, rfl, ?_⟩
            refine ⟨_, rfl, b, _, _, _, rfl, rfl, SqL.of upd_same, rfl, _, 69069, rfl, rfl, .inr ⟨by decide, by decide⟩, _, rfl, _, 5, rfl, rfl, .inr ⟨by decide, by decide⟩, _, _, rfl, rfl, _, rfl, b, _, _, _, rfl, rfl, SqL.of upd_same, rfl, _, _, rfl, rfl, _, 2147483629, rfl, rfl, (show (0 : Int) < 2147483629 by decide), _, rfl, b, _, 3, 3, rfl, rfl, upd_same, rfl, ?_⟩
            refine ⟨_, _, rfl, ⟨l, ns, _, _, _, _, nl, upd_same, ?_, ?_, (m53 _).1, (m53 _).2⟩, ?_⟩
            · rw [upd_ne nl, upd_ne nl, upd_ne nl]
              exact h2
            · omega
            · exact Keep.trans (Keep.trans (Keep.upd h1) (Keep.upd upd_same)) (Keep.upd upd_same)
        · exact ⟨none, none, rfl, B, Keep.refl b H⟩
      · exact ⟨none, none, rfl, B, Keep.refl b H⟩
    · rintro σ' H' ⟨c, e, rfl, B', kp⟩
      obtain ⟨l, ns, i, r, x, n, nl, h1, h2, i0, x0, x1⟩ := id B'
      refine ⟨_, rfl, _, _, _, _, rfl, rfl, SqL.of h1, (show atI [V.ref l, .int i, .int r, .int x, .int n] 2 = some (.int r) from rfl), _, rfl, _, _, rfl, rfl, _, rfl, ?_⟩
      have m53 : ∀ y : Int, 0 ≤ y % 2147483629 ∧ y % 2147483629 < 2147483629 := fun y => ⟨Int.emod_nonneg _ (by decide), Int.emod_lt_of_pos _ (by decide)⟩
      have mz : ∀ y : Int, 0 ≤ y % z ∧ y % z < z := fun y => ⟨Int.emod_nonneg _ (by omega), Int.emod_lt_of_pos _ (by omega)⟩
      refine ite2 (fun _ => ?_) (fun _ => ?_)
      · refine ⟨_, rfl, b, _, _, _, rfl, rfl, SqL.of h1, rfl, _, rfl, _, _, rfl, rfl, (show (0 : Int) < z by omega), ?_⟩
        refine ⟨_, rfl, b, _, _, _, rfl, rfl, SqL.of h1, rfl, _, rfl, _, _, rfl, rfl, ⟨(show (0 : Int) < z by omega), z2⟩, _, rfl, b, _, 2, 2, rfl, rfl, h1, rfl, ?_⟩
        refine ⟨_, rfl, ?_⟩
        exact k _ _ (mz _).1 (mz _).2 ⟨l, ns, _, _, _, _, nl, upd_same, by rw [upd_ne nl]; exact h2, i0, x0, x1⟩ (kp.trans (Keep.upd h1))
      · refine ⟨_, rfl, b, _, _, _, rfl, rfl, SqL.of h1, rfl, _, _, rfl, rfl, _, rfl, b, _, 4, 4, rfl, rfl, h1, rfl, ?_⟩
        refine ⟨_, rfl, b, _, _, _, rfl, rfl, SqL.of upd_same, rfl, _, 3, rfl, rfl, ⟨by decide, by decide, by omega⟩, _, rfl, b, _, _, _, rfl, rfl, SqL.of upd_same, rfl, 40507, _, rfl, rfl, .inl ⟨by decide, by decide⟩, _, _, rfl, rfl, _, rfl, b, _, _, _, rfl, rfl, SqL.of upd_same, rfl, _, 101, rfl, rfl, ⟨by decide, by decide⟩, _, _, rfl, rfl, _, _, rfl, rfl, _, 2147483629, rfl, rfl, (show (0 : Int) < 2147483629 by decide), _, rfl, b, _, 3, 3, rfl, rfl, upd_same, rfl, ?_⟩
        refine ⟨_, rfl, b, _, _, _, rfl, rfl, SqL.of upd_same, rfl, _, 19, rfl, rfl, ⟨by decide, by decide⟩, _, rfl, _, _, rfl, rfl, (show (0 : Int) < z by omega), ?_⟩
        exact k _ _ (mz _).1 (mz _).2 ⟨l, ns, _, _, _, _, nl, upd_same, by rw [upd_ne nl, upd_ne nl]; exact h2, i0, (m53 _).1, (m53 _).2⟩ (kp.trans (Keep.trans (Keep.upd h1) (Keep.upd upd_same)))
/-- an item of a list that is read, drawn by the bag -/
def spOf (K : PySem.W.Frag) : Sp := fun vs H Q _ => ∃ (b p : Addr) (xs : List V), vs = [.ref b, .ref p] ∧ Bag H b ∧ p ≠ b ∧ SqL K H p xs ∧ 1 ≤ xs.length ∧ xs.length < 1000 ∧
  ∀ (v : V) (H' : Hp), v ∈ xs → Bag H' b → Keep b H H' → Q v H'
theorem Keep.seq {b a : Addr} {H H' : Hp} {xs : List V} (k : Keep b H H') (n : a ≠ b) (h : SqL K H a xs) : SqL K H' a xs := by
  rcases h with (z | ⟨o, z⟩) | z
  · exact .inl (.inl (k.1 _ _ n z))
  · exact .inl (.inr ⟨o, k.1 _ _ n z⟩)
  · exact .inr z
/-- where a def stands -/
structure At (K : PySem.W.Frag) (mg : Str → Option Value) (x : Str) (st : Stmt) (ps : List Str) (f : Addr) (fd : FuncData) : Prop where
  fn : Fun K x x st f fd
  gl : mg x = some (.ref f)
  bd : Binds K fd ps []
theorem scOf : FnScope ["_law_bag_here", "_law_some"] ["_law_bag_here", "_law_some"] (defScope sOf) := ⟨rfl, rfl, rfl, by decide +kernel, rfl, by decide +kernel, by decide +kernel⟩
theorem ok_of {f fP : Addr} {fd fdP : FuncData} (F : Fun K "_law_of" "_law_of" sOf f fd) (len : mg "len" = none) (P1 : At K mg "_law_pull" sPull ["_law_bag_here", "_law_size"] fP fdP) : FnOk P w K mg base CX0 2 f fd ["_law_bag_here", "_law_some"] (spOf K) := by
  have G : FnOk P w K mg base CX0 1 fP fdP ["_law_bag_here", "_law_size"] spPull := ok_pull P1.fn len
  refine F.ok scOf (fun vs H Q E h => ?_) (fun cdv A outer s H vs Q E hr h => ?_)
  · obtain ⟨b, p, xs, rfl, _⟩ := h
    rfl
  · obtain ⟨b, p, xs, rfl, B, np, hx, l1, l2, k⟩ := h
    refine ⟨_, pss_one (ps_ret (pe_ix ix_list (pv 1) (pe_call G hr rfl P1.gl P1.fn.kp P1.bd .nil pass0 (pa_cons (pv 0) (pa_cons (pe_callB call_len_seq (by rfl) len PySem.boot_len (pa_cons (pv 1) pa_nil)) pa_nil))) fun _ _ => rfl)), ?_⟩
    refine ⟨_, rfl, _, rfl, _, rfl, p, xs, rfl, .inl hx, b, _, rfl, B, by omega, by omega, fun d H' d0 d1 B' kp => ?_⟩
    obtain ⟨j, rfl⟩ := Int.eq_ofNat_of_zero_le d0
    have hj : j < xs.length := Int.ofNat_lt.mp d1
    exact ⟨p, xs, _, _, rfl, rfl, kp.seq np hx, atI_nat (List.getElem?_eq_getElem hj), k _ H' (List.getElem_mem hj) B' kp⟩
def spBag (K : PySem.W.Frag) : Sp := fun vs H Q _ => ∃ (a : Addr) (ns : List Int), vs = [.ref a] ∧ SqL K H a (ns.map V.int) ∧ ns.length ≤ 63 ∧ ∀ (b : Addr) (H' : Hp), H b = none → Bag H' b → Same H H' → Q (.ref b) H'
theorem scBag : FnScope ["_law_script"] ["_law_script"] (defScope sBag) := ⟨rfl, rfl, rfl, by decide +kernel, rfl, by decide +kernel, by decide +kernel⟩
theorem ok_bag {f : Addr} {fd : FuncData} (F : Fun K "_law_bag" "_law_bag" sBag f fd) (lst : mg "list" = none) : FnOk P w K mg base CX0 1 f fd ["_law_script"] (spBag K) := by
  refine F.ok scBag (fun vs H Q E h => ?_) (fun cdv A outer s H vs Q E hr h => ?_)
  · obtain ⟨a, ns, rfl, _⟩ := h
    rfl
  · obtain ⟨a, ns, rfl, hx, hl, k⟩ := h
    refine ⟨_, pss_one (ps_ret (pe_lst (pa_cons (pe_callTy call_list_of (by rfl) lst (by decide +kernel) (pa_cons (pe_slice sl_list (pv 0) po_none (po_some pe_int)) pa_nil)) (pa_cons pe_int (pa_cons pe_int (pa_cons pe_int (pa_cons pe_int pa_nil))))))), ?_⟩
    refine ⟨_, rfl, _, rfl, a, _, rfl, hx, fun p hp => ?_⟩
    refine ⟨p, _, rfl, .inl (SqL.of upd_same), fun l hl' => ?_⟩
    refine ⟨by show 5 ≤ sizeLine; decide, fun b hb => ?_⟩
    have e : cutV (ns.map V.int) none (some 63) = ns.map V.int := by
      unfold cutV
      rw [HT.sIx_none]
      show ((ns.map V.int).drop 0).take (HT.sIx _ _ (some ((63 : Nat) : Int)) - 0) = _
      rw [HT.sIx_nat, List.drop_zero, Nat.sub_zero]
      exact List.take_of_length_le (by rw [List.length_map]; omega)
    have nl : l ≠ b := fun z => by
      rw [z, upd_same] at hb
      cases hb
    have s1 : Same H (upd H p (.lst (cutV (ns.map V.int) none (some 63)))) := same_new hp
    have s2 : Same H (upd (upd H p (.lst (cutV (ns.map V.int) none (some 63)))) l (.lst (cutV (ns.map V.int) none (some 63)))) := s1.trans (same_new hl')
    refine k b _ (s2.free hb) ⟨l, ns, 0, 0, 1, 0, nl, upd_same, ?_, by decide, by decide, by decide⟩ (s2.trans (same_new hb))
    rw [upd_ne nl, upd_same, e]
end
end VQ
namespace VQ
open PySem PyProof.Rows L2
/-! ### an error made without things: C() -/
/-- the end of C(): a is the new error, d its dict -/
def MadeEnd (H : Hp) (C a : Addr) (Q : XK) : VK := fun v H2 => v = .non ∧ ∃ (d : Addr) (fs : List (Str × V)), H2 a = some (exo a C (some d)) ∧ H2 d = some (exd d fs) ∧ H d = none ∧ Q (.ref C) (some d) (upd (del H2 a) d (.xd fs))
def tMkO0 (C : Addr) (sp : Sp) : L2.St → Hp → XK → Prop := fun _ H Q => ∀ a, H a = none → sp [.ref a] (upd H a (exo a C none)) (MadeEnd H C a Q) E00
  where E00 : XK := fun _ _ _ => False
theorem pmk_oex0 {X : Cx} {CX : CXT} {x : Str} {C g : Addr} {k : Nat} {fd : FuncData} {ps : List Str} {sp : Sp} {p pos : Pos} (cl : OexC X.K C) (ini : PySem.W.findIn X.K (.ref C) "__init__" = some (some (.ref g))) (ity : PySem.W.typeIn X.K (.ref g) = some (.type "function"))
    (ok : FnOk X.prog X.w X.K X.mg X.base CX k g fd ps sp) (room : Room (k + 1) X.A) (bnd : Binds X.K fd ps []) (out : Passes CX X (fun _ _ _ => False)) (isG : Gl X x) (atG : X.mg x = some (.ref C)) (nodb : (x == ("__debug__" : Str)) = false := by decide) :
    PMk X (.Call (.Name x p) [] [] pos) (tMkO0 C sp) := by
  intro pn st sl H Q inv want
  refine wpAny_Call_Name_kw (ld_glob inv isG atG (PySem.W.callWith_K0 inv.kIn cl.kC ?_) nodb)
  obtain ⟨_, _, _, _, mro, _, _, _, _, _, _, _, _, _, _, here, tail⟩ := cl.cls
  obtain ⟨h0, gn, dw, tk, osx⟩ := st
  -- the new error stands behind its empty tuple of things
  generalize eA : h0.objs.size + 1 = a
  have above : h0.objs.size ≤ a := by omega
  have promise := want a (inv.hok.fresh above)
  generalize eN : (h0.push (PySem.W.kdv_tup [])).push (PySem.HandSPX.excO C h0.objs.size) = h1
  have stays : ∀ b o, h0.get? b = some o → h1.get? b = some o := fun b o z => by
    rw [← eN]
    exact Heap.get?_push_of_some _ (Heap.get?_push_of_some _ z)
  have stands : h1.get? a = some (PySem.HandSPX.excO C h0.objs.size) := by
    rw [← eN, ← eA]
    heap_get
  have inv1 : Inv X pn sl (upd H a (exo a C none)) ⟨h1, gn, dw, tk, osx⟩ := inv.laid (t' := tk) stays above (exo_ok stands)
  have self1 : Vals [V.ref a] [Value.ref a] := .cons rfl .nil
  have cnt : ([Value.ref a] ++ ([] : List Value)).length = ps.length := (ok.len _ _ _ _ promise).symm ▸ rfl
  have binds1 := bnd ⟨h1, gn, dw, tk, osx⟩ [Value.ref a] inv1.kIn cnt
  have runs := ok.run _ X.stack ⟨h1, gn, dw, tk, osx⟩ _ ⟨[Value.ref a], []⟩ [Value.ref a] [V.ref a] _ _ (room.make C [] []) (inv1.env0.make C [] []) binds1 self1 promise
  subst eN eA
  refine wpAny_call (PySem.HandSPX.call_own F.excBase_ValueError (fun Y => PySem.HandSPX.refsVE_contains Y mro tail) (inv.kIn _ _ here) (PySem.W.looks_findIn inv.kIn ini) (fun self => PySem.W.bind_fn inv.kIn self ity) (Nat.zero_le _) (codeAny_mono runs ?_))
  rintro (er | (_ | _ | _ | u)) st2 z
  · exact out pn sl _ _ er st2 inv1 z
  · exact z.elim
  · exact z.elim
  · exact z.elim
  · obtain ⟨v, H2, z1, z2, z3, z4, z5, rfl, d, fs, y1, y2, y3, y4⟩ := z
    obtain ⟨_, _, _, _, _⟩ := st2
    exact ⟨z5, mk_end (raises_own cl.exC cl.tyC) inv above stays z3 z4 z1 z2 y1 y2 y3 y4⟩
/-! ### a try with several clauses, each «as n» -/
/-- what a clause names: one class, or a tuple of two or three -/
inductive Cte (X : Cx) : Expr → List Value → Prop
  | one {x : Str} {c : Value} {np : Pos} (h : Names X x c) : Cte X (.Name x np) [c]
  | two {x y : Str} {c e : Value} {p q r : Pos} {k : Nat} (h : Names X x c) (h' : Names X y e) : Cte X (.Tuple [.Name x p, .Name y q] k r) [c, e]
  | three {x y z : Str} {c e f : Value} {p q r t : Pos} {k : Nat} (h : Names X x c) (h' : Names X y e) (h'' : Names X z f) : Cte X (.Tuple [.Name x p, .Name y q, .Name z r] k t) [c, e, f]
section
variable {X : Cx} {a : Addr} {around : List (Addr × Obj)}
theorem names_read {pn : List (Addr × Obj)} {sl : L2.St} {H : Hp} {st : Shared} {x : Str} {c : Value} {np : Pos} {Q E : Value → Shared → Prop} (nm : Names X x c) (inv : Inv (X.suite a around) pn sl H st) (q : Q c st) :
    wpAny (model X.prog X.w) (X.A.mark (some (.ref a))) (eval (.Name x np) X.env) Q E st := by
  rcases nm with ⟨n1, n2, n3 | ⟨n3, n4, n5⟩⟩
  · exact ld_glob (X := X.suite a around) inv n1 n3 q n2
  · exact ld_blt (X := X.suite a around) inv n1 n3 n4 q n5 n2
theorem cte_run {pn : List (Addr × Obj)} {sl : L2.St} {H : Hp} {st : Shared} {te : Expr} {cs : List Value} {cls : Value} {oe : Obj} {b : Bool} {Q : Bool → Shared → Prop} {E1 E2 : Value → Shared → Prop} (ct : Cte X te cs) (inv : Inv (X.suite a around) pn sl H st)
    (at_ : st.heap.get? a = some oe) (hc : oe.cls = cls) (ans : PySem.W.exmAny X.K cls cs = some b) (q : ∀ h', (∀ b o, st.heap.get? b = some o → h'.get? b = some o) → Q b { st with heap := h' }) :
    wpAny (model X.prog X.w) (X.A.mark (some (.ref a))) (eval te X.env) (fun c s1 => wpAny (model X.prog X.w) (X.A.mark (some (.ref a))) (excMatches (.ref a) c) Q E1 s1) E2 st := by
  have ty : PySem.W.Looks (model X.prog X.w) st.heap (typeOf (.ref a)) cls := fun _ _ _ _ kp z => wpAny_typeOf_ref (kp _ _ at_) (hc ▸ z)
  have grown : ∀ (us : List Value) (b : Addr) (o : Obj), st.heap.get? b = some o → (st.heap.push { cls := .type "tuple", data := .seq us.toArray }).get? b = some o := fun us b o z => Heap.get?_push_of_some _ z
  have kin : ∀ us : List Value, X.K.In (st.heap.push { cls := .type "tuple", data := .seq us.toArray }) := fun us => (show X.K.In st.heap from inv.kIn).keeps (grown us)
  cases ct with
  | one n1 =>
    obtain ⟨b1, d1, x1, y1, z1⟩ := PySem.W.exmAny_cons ans
    cases (show some false = some d1 from y1)
    rw [Bool.or_false] at z1
    subst z1
    exact names_read n1 inv ((PySem.W.exm_one (M := model X.prog X.w) inv.kIn ty x1).here (q st.heap fun _ _ z => z))
  | @two x y c e p' q' r' k n1 n2 =>
    refine wpAny_Tuple_spliced ?_
    show wpAny _ _ (spliced [(false, eval (.Name x p') X.env), (false, eval (.Name y q') X.env)]) _ _ _
    refine Calls.spliced_cons (names_read n1 inv (Calls.spliced_cons (names_read n2 inv (Calls.spliced_nil ⟨by show 2 ≤ sizeLine; decide, ?_⟩))))
    exact (PySem.W.exm_tup2 (M := model X.prog X.w) (kin [c, e]) (ty.keeps (grown [c, e])) (Heap.get?_push_size _ rfl) ans).here (q _ (grown [c, e]))
  | @three x y z c e f p' q' r' t' k n1 n2 n3 =>
    refine wpAny_Tuple_spliced ?_
    show wpAny _ _ (spliced [(false, eval (.Name x p') X.env), (false, eval (.Name y q') X.env), (false, eval (.Name z r') X.env)]) _ _ _
    refine Calls.spliced_cons (names_read n1 inv (Calls.spliced_cons (names_read n2 inv (Calls.spliced_cons (names_read n3 inv (Calls.spliced_nil ⟨by show 3 ≤ sizeLine; decide, ?_⟩))))))
    exact (PySem.W.exm_tup3 (M := model X.prog X.w) (kin [c, e, f]) (ty.keeps (grown [c, e, f])) (Heap.get?_push_size _ rfl) ans).here (q _ (grown [c, e, f]))
end
theorem fly_keeps {B h h' : Heap} {l : List Env} {a : Addr} {Z : Obj → Prop} (f : HandSPX.FlyingZ B l a Z h) (k : ∀ b o, h.get? b = some o → h'.get? b = some o) : HandSPX.FlyingZ B l a Z h' := by
  rcases f with ⟨f1, f2, f3, oe, vs, T, oT, ts, e1, e2, e3, e4, e5, e6, e7, e8, e9⟩
  exact ⟨fun b o z => k b o (f1 b o z), f2, f3.of_keeps fun b o z _ => ⟨o, k b o z, rfl⟩, oe, vs, T, oT, ts, k _ _ e1, e2, e3, e4, e5, e6, k _ _ e7, e8, e9⟩
/-- the ends of a suite whose name (slot i) goes behind it -/
def offName (i : Nat) (D : Ends) : Ends := { nx := fun σ' H' => D.nx (σ'.set i none) H', rt := D.rt, bk := fun σ' H' => D.bk (σ'.set i none) H', ct := fun σ' H' => D.ct (σ'.set i none) H' }
abbrev Suite := Addr → Value → Option Addr → TS
/-- what the clauses wish of an error of the body -/
def wManyA (K : PySem.W.Frag) (i : Nat) (Wout : WX) (D : Ends) : List (List Value × Suite) → WX
  | [] => Wout
  | (cs, ts) :: r => fun cls d σ H => ∃ b, PySem.W.exmAny K cls cs = some b ∧ (b = true → ∀ a, H a = none → ts a cls d (offName i D) (σ.set i (some (.ref a))) H) ∧ (b = false → wManyA K i Wout D r cls d σ H)
/-- a suite walked, whatever error it has caught -/
def Suited (X : Cx) (body : List Stmt) (ts : Suite) : Prop := ∀ (a : Addr) (oe : Obj) (cls : Value) (d : Option Addr) (pn : List (Addr × Obj)), Zc cls d oe → (∃ vs, oe.data = .fields vs) → PSs (X.suite a ((a, oe) :: pn)) body (ts a cls d)
inductive HdsA (X : Cx) (n : Str) : List ExceptHandler → List (List Value × Suite) → Prop
  | nil : HdsA X n [] []
  | cons {te : Expr} {cs : List Value} {ts : Suite} {b₀ : Stmt} {more : List Stmt} {pos' : Pos} {hds : List ExceptHandler} {l : List (List Value × Suite)} (hc : Cte X te cs) (hsu : Suited X (b₀ :: more) ts) (r : HdsA X n hds l) :
      HdsA X n (.ExceptHandler (some te) (some n) (b₀ :: more) pos' :: hds) ((cs, ts) :: l)
section
variable {X : Cx} {n : Str} {i : Nat} {Wout : WX} {pins : List (Addr × Obj)} {D : Ends}
/-- one after the other, from where the error at a has landed -/
theorem hds_run (two : X.stack = X.env :: X.outer) (fr : X.env.frame = some X.env.locals) (nd : X.N.Nodup) (slot : X.N[i]? = some n) (loc : X.env.kindOf n = some .local) (tk : Takes X Wout) {a : Addr} {B : Heap} {sI s' : Shared} {σ' : L2.St} {H' : Hp} {cls : Value} {d : Option Addr}
    (inv : Inv X pins σ' H' sI) (ground : ∀ b o, sI.heap.get? b = some o → b ∉ frs X.stack → B.get? b = some o) (free : H' a = none) (notL : a ≠ X.env.locals) (notF : a ∉ X.fs) (sameOs : s'.os = sI.os) (bare : AllBare s'.gens)
    {hds : List ExceptHandler} {l : List (List Value × Suite)} (H : HdsA X n hds l) : wManyA X.K i Wout D l cls d σ' H' → ∀ h : Heap, HandSPX.FlyingZ B (X.env :: X.outer) a (Zc cls d) h → sI.heap.UpToSlots h →
    wpAny (model X.prog X.w) X.A (handleBy (.ref a) X.env hds) (SP X pins D) X.xe { s' with heap := h } := by
  induction H with
  | nil =>
    intro wish h fl up
    refine wpAny_handleBy_nil ?_
    have goOn : wpAny (model X.prog X.w) X.A (setFlight (.ref a) X.env.frame) (fun _ s4 => wpAny (model X.prog X.w) X.A (throw (.ref a) : Sem Flow) (SP X pins D) X.xe s4) X.xe { s' with heap := h } := by
      rw [fr]
      exact HandSPX.setFlight_upZ fl fun h4 held up4 => wpAny_throw (tk _ _ ⟨a, B, sI, pins, σ', H', cls, d, rfl, inv, ground, up.trans up4, .inr (.inr (two ▸ held)), free, sameOs, bare, wish⟩)
    obtain ⟨_, _, _, oe, vs, T, _, _, t1, _, t3, t4, _⟩ := id fl
    unfold PySem.passOn
    refine wpAny_bind (wpAny_field t1 t3 t4 ?_)
    have isRef : ¬ ((Value.ref T == Value.none) = true) := by simp
    rw [if_neg isRef]
    first
      | exact wpAny_bind goOn
      | exact wpAny_bind (wpAny_pure (by exact wpAny_bind goOn))
  | @cons te cs ts b₀ more pos' hds2 l2 named suited _ ih =>
    rintro ⟨b, ans, yes, no⟩ h fl up
    have onGround : ∀ {g : Heap}, HandSPX.FlyingZ B (X.env :: X.outer) a (Zc cls d) g → sI.heap.UpToSlots g → Inv X pins σ' H' { s' with heap := g } := fun f u => inv.landed ground f.1 u sameOs bare
    obtain ⟨oe, vs, t1, t2, t3⟩ := fl.there
    refine wpAny_handleBy_cons (codeAny_handlers_test (cte_run named ((onGround fl up).suite t1 t3 free notL notF) t1 t2.1 ans fun g kp => ?_)) (fun z => by cases z)
    have fl2 := fly_keeps fl kp
    have up2 := up.trans (Heap.UpToSlots.of_keeps kp)
    cases b with
    | false =>
      show wpAny _ X.A (handleBy _ X.env hds2) _ _ _
      exact ih (no rfl) g fl2 up2
    | true =>
      refine codeAny_handlers_suite_as (HandSPX.lands_againZ fl2 fun g4 fl4 up4 => ?_)
      obtain ⟨o4, _, u1, u2, u3⟩ := fl4.there
      have inv4 := (onGround fl4 (up2.trans up4)).suite u1 u3 free notL notF
      refine store_ok (X := X.suite a ((a, o4) :: (X.pn ++ pins))) (v := .ref a) inv4 nd slot (.inl loc) rfl (fun s5 inv5 => ?_) (.inr loc)
      refine wpAny_mono ((suited a o4 cls d (X.pn ++ pins) u2 ⟨_, u3⟩).run [] s5 _ H' (offName i D) inv5 (yes rfl a free)) ?_ (fun _ _ z => False.elim z)
      have nameGoes : ∀ {s6 : Shared} {σ6 : L2.St} {H6 : Hp} {Q : Shared → Prop}, Inv (X.suite a ((a, o4) :: (X.pn ++ pins))) [] σ6 H6 s6 → (∀ s7, Inv X pins (σ6.set i none) H6 s7 → Q s7) →
          wpAny (model X.prog X.w) X.A (do bindName X.env n .none; unbindBehindTheSuite X.env n pos') (fun _ s7 => Q s7) X.xe s6 := fun j z => gone_ok (j.unsuite inv.ok) nd slot loc z
      rintro (_ | _ | _ | v) s6 z
      · obtain ⟨_, _, j, z⟩ := z
        exact nameGoes j fun _ j7 => ⟨_, _, j7, z⟩
      · obtain ⟨_, _, j, z⟩ := z
        exact nameGoes j fun _ j7 => ⟨_, _, j7, z⟩
      · obtain ⟨_, _, j, z⟩ := z
        exact nameGoes j fun _ j7 => ⟨_, _, j7, z⟩
      · obtain ⟨_, _, _, j, r, z⟩ := z
        exact nameGoes j fun _ j7 => ⟨_, _, _, j7, r, z⟩
/-- try: body / except .. as n: ..  (several clauses) -/
theorem ps_try_manyA {body : List Stmt} {h₀ : ExceptHandler} {hds : List ExceptHandler} {l : List (List Value × Suite)} {pos : Pos} {tb : WX → TS} (two : X.stack = X.env :: X.outer) (fr : X.env.frame = some X.env.locals) (nd : X.N.Nodup) (slot : X.N[i]? = some n) (loc : X.env.kindOf n = some .local) (tk : Takes X Wout)
    (inside : ∀ (W : WX) (pn : List (Addr × Obj)) (xe : Value → Shared → Prop), Takes (X.tr pn xe) W → PassesOwn (model X.prog X.w) X.A X.env xe → PSs (X.tr pn xe) body (tb W))
    (clauses : HdsA X n (h₀ :: hds) l) : PS X (.Try body (h₀ :: hds) [] [] pos) (fun D σ H => tb (wManyA X.K i Wout D l) D σ H) := by
  refine ⟨fun pins st sl H D inv want => wpAny_Try_except (wpAny_mono ((inside (wManyA X.K i Wout D l) (X.pn ++ pins) _ (fun u s' air => ?_) PassesOwn.looking).run [] st sl H D (inv.toTry _) want) ?_ fun e s1 z => z)⟩
  · obtain ⟨a, B, sI, _, σ', H', cls, d, rfl, j0, ground, up, sky, free, sameOs, bare, wish⟩ := air
    have frames : X.A.frames = some (X.env :: X.outer) := two ▸ inv.ok.frames
    refine Sky.land Zc.steady frames fr (show Sky B (X.env :: X.outer) a (Zc cls d) X.env.locals s'.heap from two ▸ sky) fun h3 fl up3 => ?_
    obtain ⟨oe, vs, t1, _, t3⟩ := fl.there
    have noFrame : a ∉ frs (X.env :: X.outer) := fun m => by
      obtain ⟨_, o2, e2, nf⟩ := fl.2.2.1.mem m
      rw [t1] at e2
      cases e2
      exact nf _ t3
    refine hds_run two fr nd slot loc tk (j0.ofTry inv.ok) ground free (fun z => noFrame (List.mem_filterMap.mpr ⟨X.env, List.mem_cons_self, z ▸ fr⟩)) (fun m => ?_) sameOs bare clauses wish h3 fl (up.trans up3)
    obtain ⟨ev, m1, m2⟩ := List.mem_filterMap.mp m
    exact noFrame (List.mem_filterMap.mpr ⟨ev, List.mem_cons_of_mem _ m1, m2⟩)
  · rintro (_ | _ | _ | v) s1 z
    · obtain ⟨_, _, j, z⟩ := z
      exact wpAny_execs_nil ⟨_, _, j.ofTry inv.ok, z⟩
    · obtain ⟨_, _, j, z⟩ := z
      exact ⟨_, _, j.ofTry inv.ok, z⟩
    · obtain ⟨_, _, j, z⟩ := z
      exact ⟨_, _, j.ofTry inv.ok, z⟩
    · obtain ⟨_, _, _, j, r, z⟩ := z
      exact ⟨_, _, _, j.ofTry inv.ok, r, z⟩
end
end VQ
namespace VQ
open PySem PyProof.Rows L2 LamX
/-- kept by one part of the run, then by another one over more frames, all of which are new to the first -/
theorem un_comp {fs1 fs2 : List Addr} {H H1 H2 : Hp} {h h1 h2 : Heap} (u1 : Un fs1 [] H H1 h h1) (u2 : Un fs2 [] H1 H2 h1 h2) (sub : ∀ b ∈ fs2, b ∈ fs1 ∨ h.get? b = none) : Un fs1 [] H H2 h h2 where
  keep := fun b o e n hb hx => u2.keep b o (u1.keep b o e n hb hx) (u1.free b o e n hx) (fun m => (sub b m).elim hb fun z => nomatch z.symm.trans e) hx
  slot := fun b o e n hb hx => by
    obtain ⟨sl1, e1⟩ := u1.slot b o e n hb hx
    obtain ⟨sl2, e2⟩ := u2.any e1 (u1.free b o e n hx) hx
    exact ⟨sl2, e2⟩
  free := fun b o e n hx => let ⟨o', e1⟩ := u1.there b o e hx; u2.free b o' e1 (u1.free b o e n hx) hx
  there := fun b o e hx => let ⟨o', e1⟩ := u1.there b o e hx; u2.there b o' e1 hx
  tups := fun b xs e => u2.tups b xs (u1.tups b xs e)
  frzs := fun b o u e => u2.frzs b o u (u1.frzs b o u e)
  tbls := fun b ps e => by
    obtain ⟨m1, e1⟩ := u1.tbls b ps e
    obtain ⟨m2, e2⟩ := u2.tbls b _ e1
    rw [Array.append_assoc] at e2
    exact ⟨_, e2⟩
/-- a lambda's names: captured ones, globals, and names of its own that the maker does not have -/
structure LamS2 (X : Cx) (scope : Scope) : Prop where
  kind : scope.kind = .function
  co : scope.isCoroutine = false
  gen : scope.isGenerator = false
  noCell : ∀ y ∈ scope.names, y.2 ≠ .cell
  own : ∀ y ∈ scope.names, y.2 = .local → y.1 ∉ X.N
  free : ∀ y ∈ scope.names, y.2 = .free → X.env.scope.names.lookup y.1 = some .cell ∨ X.env.scope.names.lookup y.1 = some .free
def lamS2B (N : List Str) (sc scope : Scope) : Bool := decide (scope.kind = .function) && !scope.isCoroutine && !scope.isGenerator &&
  scope.names.all fun y => !decide (y.2 = .cell) && (!decide (y.2 = .local) || !N.contains y.1) && (!decide (y.2 = .free) || decide (sc.names.lookup y.1 = some .cell) || decide (sc.names.lookup y.1 = some .free))
theorem lamS2_by {X : Cx} {N : List Str} {sc scope : Scope} (h : lamS2B N sc scope = true) (eN : X.N = N) (es : X.env.scope = sc) : LamS2 X scope := by
  subst eN es
  simp only [lamS2B, Bool.and_eq_true, Bool.or_eq_true, Bool.not_eq_true', decide_eq_true_eq, decide_eq_false_iff_not, List.all_eq_true] at h
  obtain ⟨⟨⟨h1, h2⟩, h3⟩, h4⟩ := h
  refine ⟨h1, h2, h3, fun y m => (h4 y m).1.1, fun y m e z => ?_, fun y m e => ?_⟩
  · rcases (h4 y m).1.2 with q | q
    · exact q e
    · rw [List.contains_iff_mem.mpr z] at q
      cases q
  · rcases (h4 y m).2 with (q | q) | q
    · exact absurd e q
    · exact .inl q
    · exact .inr q
/-- the lambda of X's frame at the state st: its object at f, its code object at c -/
structure LamAt (X : Cx) (sl : L2.St) (H : Hp) (st : Shared) (body : Expr) (scope : Scope) (f c : Addr) : Prop where
  inv : ∃ pins, Inv X pins sl H st
  lam : LamS2 X scope
  new : H f = none
  nofr : f ∉ frs X.stack
  fn : ∃ (fd : FuncData) (binds : List (Str × Value)), st.heap.get? f = some { cls := .type "function", data := .func fd } ∧ fd.scope = scope ∧ fd.body = .expr body ∧ fd.code = .ref c ∧ fd.qualname = X.env.qual ++ "<lambda>" ∧ fd.globals = mainGlobals ∧ fd.builtins = builtinsNs ∧
    fd.closure = cloFrom X.env.cells scope.names [] ∧ (∀ y ∈ binds, scope.names.lookup y.1 = some .local) ∧ ∀ s1 : Shared, (∀ b o, st.heap.get? b = some o → H b = none → b ∉ frs X.stack → s1.heap.get? b = some o) → BindsTo s1 fd ⟨[], []⟩ binds
/-- its body as a reading, wherever it is entered -/
abbrev LamBody (X : Cx) (scope : Scope) (body : Expr) (k : Nat) (f c : Addr) (E : XK) (tb : TE) : Prop :=
  ∀ (A : Around) (outer : List Env) (s : Shared) (H : Hp), Room k (A.deeper (lamEnv X scope s.heap.objs.size f c)) → PE (lamCx X A outer s H E scope f c) body tb
section
variable {X : Cx} {sl : L2.St} {H : Hp} {st : Shared} {body : Expr} {scope : Scope} {f c : Addr} {k : Nat} {E : XK} {tb : TE}
/-- the closure's cells are the maker's -/
theorem clo_cell {y : Str} {d : Addr} (has : ∀ z ∈ scope.names, z.2 = .free → ∃ c, X.env.cells.lookup z.1 = some c) (e : (cloFrom X.env.cells scope.names []).lookup y = some d) : X.env.cells.lookup y = some d := by
  rcases cloFrom_mem (PySem.mem_of_lookup e) with m | ⟨m1, m2⟩
  · cases m
  · obtain ⟨c1, e1⟩ := has _ m1 rfl
    have e1 : X.env.cells.lookup y = some c1 := e1
    rw [m2, e1]
    rfl
theorem lam_enter {pins : List (Addr × Obj)} {A : Around} {outer : List Env} {s1 : Shared} {H1 : Hp} {h2 : Heap} {tk : Nat} {m : Str → Option Value} (inv : Inv X pins sl H st) (L : LamS2 X scope) (e0 : Env0 X.prog X.w X.K X.mg X.base A outer s1 H1) (cool : A.handled = none)
    (un : Un (frs X.stack) [] H H1 st.heap s1.heap) (ns : h2.Ns s1.heap.objs.size m) (grown : ∀ b o, s1.heap.get? b = some o → h2.get? b = some o) : Inv (lamCx X A outer s1 H1 E scope f c) [] sl H1 { s1 with heap := h2, toks := tk } := by
  have has : ∀ z ∈ scope.names, z.2 = .free → ∃ c, X.env.cells.lookup z.1 = some c := fun z m e => (L.free z m e).elim (fun q => inv.ok.has _ (.inl q)) (fun q => inv.ok.has _ (.inr q))
  have own : ∀ {y : Str}, scope.names.lookup y = some .free → ∃ d, (cloFrom X.env.cells scope.names []).lookup y = some d := fun {y} q => mem_lookup (cloFrom_has (cells := X.env.cells) (acc := []) (PySem.mem_of_lookup q))
  have cellOn : ∀ {d : Addr} {v : Option Value}, H d = none → st.heap.IsCell d v → h2.IsCell d v := fun {d v} z ⟨o, q1, q2⟩ => by
    obtain ⟨sl', q⟩ := un.any q1 z (by simp)
    exact ⟨_, grown _ _ q, q2⟩
  have noCell : ∀ {y : Str}, scope.names.lookup y ≠ some .cell := fun {y} q => L.noCell _ (PySem.mem_of_lookup q) rfl
  have none_ : ∀ b : Addr, b ∉ (lamCx X A outer s1 H1 E scope f c).ex := fun b z => by cases (show b ∈ ([] : List Addr) from z)
  exact {
    ok := {
      mod := e0.mod
      kind := L.kind
      glob := rfl
      blt := rfl
      above := Nat.le_refl _
      inj := fun y z d q1 q2 => inv.ok.inj y z d (clo_cell has q1) (clo_cell has q2)
      has := fun y q => q.elim (fun z => absurd (show scope.names.lookup y = some .cell from z) noCell) (fun z => own z)
      cab := fun y d z _ => by cases (show false = true from z)
      hd := fun _ => cool
      frames := Around.frames_deeper e0.frames
      stk := .inr ⟨rfl, rfl⟩
      exf := fun b z => absurd z (none_ b)
      bs := e0.bs
      bsz := e0.bsz
      noex := fun b _ _ => none_ b
      exfs := fun b z => absurd z (none_ b)
      funs := e0.funs
      frf := e0.frf }
    os := rfl
    bare := e0.bare
    base := Un.kept grown
    loc := ⟨m, ns, fun i y v q1 q2 q3 => by
      rcases (show Vis scope y from q3) with q | q | q
      · exact absurd (List.mem_of_getElem? q1) (L.own _ (PySem.mem_of_lookup q) rfl)
      · exact absurd q noCell
      · obtain ⟨m0, _, look⟩ := inv.loc
        have there := L.free _ (PySem.mem_of_lookup q) rfl
        obtain ⟨u, rel, at_⟩ := look i y v q1 q2 (.inr there)
        obtain ⟨d, hd⟩ := own q
        refine ⟨u, rel, .inr ⟨.inr q, d, hd, ?_⟩⟩
        have hd' := clo_cell has hd
        rcases at_ with ⟨z, _⟩ | ⟨_, d2, z1, z2⟩
        · have z : X.env.scope.names.lookup y = some .local := z
          rcases there with t | t <;> rw [t] at z <;> cases z
        · cases z1.symm.trans hd'
          exact cellOn (inv.freeC y _ hd') z2⟩
    cell := fun y d q => by
      obtain ⟨v, z⟩ := inv.cell y d (clo_cell has q)
      exact ⟨v, cellOn (inv.freeC y d (clo_cell has q)) z⟩
    free := e0.hok.fresh (Nat.le_refl _)
    freeC := fun y d q => by
      obtain ⟨v, o, z, _⟩ := inv.cell y d (clo_cell has q)
      exact un.free d o z (inv.freeC y d (clo_cell has q)) (by simp)
    pin := fun q m => by cases (show q ∈ ([] : List (Addr × Obj)) from m)
    hok := e0.hok.kept grown
    len := inv.len }
/-- called from the frames outer, at a state that has kept what st had -/
theorem lam_runs (L : LamAt X sl H st body scope f c) (bd : LamBody X scope body k f c E tb) {A : Around} {outer : List Env} {s1 : Shared} {H1 : Hp} {Q : VK} (room : Room (k + 1) A) (e0 : Env0 X.prog X.w X.K X.mg X.base A outer s1 H1)
    (un : Un (frs X.stack) [] H H1 st.heap s1.heap) (code : H1 c = some (CodeO c (X.env.qual ++ "<lambda>"))) (want : tb sl H1 Q) :
    codeAny (model X.prog X.w) A (.call (.ref f) ⟨[], []⟩) (CR (L2.CX X.prog X.w) outer X.prog X.w H1 s1 Q E) s1 := by
  obtain ⟨pins, inv⟩ := L.inv
  obtain ⟨⟨oc, vs, t, c1, c2, c3⟩, _⟩ := e0.hok c _ code
  obtain ⟨fd, binds, o1, o2, o3, o4, o5, o6, o7, o8, o9, o10⟩ := L.fn
  have stands := un.keep f _ o1 L.new L.nofr (by simp)
  have lim : s1.heap.NoLimit := e0.mod.nolimit.keeps fun b o z => (e0.bs b o z).1
  refine PySem.W.kla_callFunE room.depth stands rfl (by rw [o2]; exact L.lam.co) (by rw [o2]; exact L.lam.gen) o3 ⟨c, oc, vs, t, o4, c1, c2, by rw [o5]; exact c3⟩ (o10 s1 (fun b o z1 z2 z3 => un.keep b o z1 z2 z3 (by simp)) _ _ _ _ ?_)
  rw [o2, o4, o5, o6, o7, o8]
  refine wpAny_newFunctionEnv L.lam.noCell o9 (fun h2 ns but => ⟨lim.fresh _ but, ?_⟩) L.lam.kind
  have grown : ∀ b o, s1.heap.get? b = some o → h2.get? b = some o := fun b o z => but.extBut b o (Nat.ne_of_lt (Heap.lt_size z)) (Heap.get?_push_of_some _ z)
  have entered := lam_enter (E := E) (f := f) (c := c) (tk := s1.toks + binds.length) inv L.lam e0 room.hd un ns grown
  refine PySem.W.kla_codeExpr (wpAny_mono ((bd A outer s1 H1 (room.deeper _)).run [] _ _ H1 Q entered want) ?_ fun _ _ z => z)
  rintro v s2 ⟨v', H2, j, rel, q⟩
  exact ⟨v', H2, j.os, j.bare, j.base, j.hok, rel, q⟩
/-- y(), y in the i-th slot of a def that was handed the lambda, entered at s2 from the frames outer2 -/
theorem pe_actG {CXg : CXT} {Eg : XK} {N : List Str} {q : Str} {sg : Scope} {g : Addr} {cd : Value} {i : Nat} {y : Str} {pn : List (Addr × Obj)} {xe : Value → Shared → Prop} {W : WX} {p1 p2 : Pos} {A2 : Around} {outer2 : List Env} {s2 : Shared} {H2 : Hp}
    (L : LamAt X sl H st body scope f c) (bd : LamBody X scope body k f c E tb) (un2 : Un (frs X.stack) [] H H2 st.heap s2.heap) (sub : ∀ b ∈ frs outer2, b ∈ frs X.stack ∨ st.heap.get? b = none)
    (tk : Takes ((cxOf CXg X.prog X.w X.K X.mg X.base N q sg g cd A2 outer2 s2 H2 Eg).tr pn xe) W) (hW : ∀ cls d σ' H', σ'.length = N.length → E cls d H' → W cls d σ' H') (room : Room (k + 1) (A2.deeper (envOfC q sg s2.heap.objs.size g cd)))
    (slot : N[i]? = some y) (vis : Vis sg y) (n1 : (y == ("__debug__" : Str)) = false := by decide) (n2 : (y == ("__classdict__" : Str)) = false := by decide) :
    PE ((cxOf CXg X.prog X.w X.K X.mg X.base N q sg g cd A2 outer2 s2 H2 Eg).tr pn xe) (.Call (.Name y p1) [] [] p2)
      (fun σ' H' Q => σ'[i]? = some (some (.ref f)) ∧ H' c = some (CodeO c (X.env.qual ++ "<lambda>")) ∧ tb sl H' Q) := by
  refine ⟨fun pz sz σz Hz Q jz ⟨w1, w2, w3⟩ => ?_⟩
  refine wpAny_Call_Name_kw (thn ((pe_var (pos := p1) (i := i) slot vis n1 n2).run pz sz σz Hz (fun v H1 => v = .ref f ∧ H1 = Hz) jz ⟨_, w1, rfl, rfl⟩) ?_)
  rintro u s1 ⟨_, _, j, rel, rfl, rfl⟩
  cases (show u = Value.ref f from rel)
  have un := un_comp un2 (show Un (frs outer2) [] H2 _ s2.heap s1.heap from j.base) sub
  obtain ⟨fd, _, o1, _⟩ := L.fn
  refine PySem.W.callWith_F0 ⟨_, _, _, _, un.keep f _ o1 L.new L.nofr (by simp)⟩ ?_
  refine wpAny_call (codeAny_mono (lam_runs (Q := Q) L bd room j.env0 un w2 w3) ?_)
  rintro (er | (_ | _ | _ | u)) s3 z
  · exact tk er s3 (XE.of_call j (fun cls d H' y => hW cls d σz H' j.len y) z)
  · exact z.elim
  · exact z.elim
  · exact z.elim
  · exact j.after z
end
/-- a def that calls what it got, from wherever it is called -/
def Gives2 (P : Program) (w : World) (K : PySem.W.Frag) (mg : Str → Option Value) (base : Heap) (N : List Str) (x : Str) (sg : Scope) (g : Addr) (cd : Value) (bg : List Stmt) (y : Str) (q : Str) (TT : (XK → Hp → VK → Prop) → Hp → VK → Prop) : Prop :=
  ∀ (A2 : Around) (outer2 : List Env) (f c : Addr) (s : Shared) (H : Hp) (Q : VK) (tl : XK → Hp → VK → Prop),
    (∀ (W : WX) (pn : List (Addr × Obj)) (xe : Value → Shared → Prop) (E : XK) (p1 p2 : Pos), Takes ((cxOf C8.CX0 P w K mg base N x sg g cd A2 outer2 s H C8.E0).tr pn xe) W → (∀ cls d σ' H', σ'.length = N.length → E cls d H' → W cls d σ' H') →
      PE ((cxOf C8.CX0 P w K mg base N x sg g cd A2 outer2 s H C8.E0).tr pn xe) (.Call (.Name y p1) [] [] p2) (fun σ' H' Q => σ'[0]? = some (some (.ref f)) ∧ H' c = some (CodeO c q) ∧ tl E H' Q)) →
    H c = some (CodeO c q) → TT tl H Q → ∃ t, PSs (cxOf C8.CX0 P w K mg base N x sg g cd A2 outer2 s H C8.E0).nox bg t ∧ t { nx := fun _ H' => Q .non H', rt := Q } (L2.start N [.ref f]) H
/-- err.f in a suite, whatever the error's class is -/
def tXfA (K : PySem.W.Frag) (a : Addr) (cls : Value) (d : Option Addr) (f : Str) (te : TE) : TE := fun σ H Q => ∃ C, XfC K C ∧ PySem.W.findIn K (.ref C) f = some none ∧ tXf a cls d C f te σ H Q
theorem pe_xfA {X : Cx} {a : Addr} {oe : Obj} {cls : Value} {d : Option Addr} {pn : List (Addr × Obj)} {e : Expr} {te : TE} {pos : Pos} {n : Str} (z : Zc cls d oe) (rec_ : ∃ vs, oe.data = .fields vs) (he : PE (X.suite a ((a, oe) :: pn)) e te)
    (plain : attributeBase e n X.env (eval e X.env) = eval e X.env := by rfl) : PE (X.suite a ((a, oe) :: pn)) (.Attribute e n pos) (tXfA X.K a cls d n te) :=
  ⟨fun pins s σ H Q I ⟨_, xc, no, h⟩ => (pe_xf xc no z rec_ he plain).run pins s σ H Q I h⟩
/-! ### x1(lambda: body), x1: return x2(a1)[0]; x2 calls what it got -/
/-- a def as it stands: its parameter, names by slot, body -/
structure One (K : PySem.W.Frag) (mg : Str → Option Value) (x : Str) (g : Addr) (cd : Value) (N : List Str) (y : Str) (sg : Scope) (bg : List Stmt) : Prop where
  at_ : mg x = some (.ref g)
  kp : PySem.W.keepIn K (.ref g) = true
  ex : ∃ (oc : Value) (od : Option Addr) (pa : Arguments) (dV kV doc pm : Value) (an : Option Addr) (ct : Value) (osl : Array (Option Value)),
    K.lookup g = some ⟨oc, od, .func (PySem.W.fnOf x x pa bg sg dV kV doc pm an cd ct), osl⟩ ∧ L2.Binds K (PySem.W.fnOf x x pa bg sg dV kV doc pm an cd ct) [y] []
  code : PySem.W.codeIn K cd x = true
  sc : FnScope N [y] sg
  slot : N[0]? = some y
  vis : Vis sg y
  n1 : (x == ("__debug__" : Str)) = false
  n2 : (y == ("__debug__" : Str)) = false
  n3 : (y == ("__classdict__" : Str)) = false
theorem start_slot {N : List Str} {y : Str} {v : V} (h : N[0]? = some y) : (L2.start N [v])[0]? = some (some v) := by
  match N, h with
  | _ :: _, _ => rfl
section
variable {X : Cx} {x1 x2 y1 y2 : Str} {g1 g2 : Addr} {cd1 cd2 : Value} {N1 N2 : List Str} {sg1 sg2 : Scope} {bg2 : List Stmt} {j0 : Nat} {q1 q2 q3 q4 q5 q6 : Pos} {TT : (XK → Hp → VK → Prop) → Hp → VK → Prop}
abbrev handsOn (x2 y1 : Str) (j0 : Nat) (q1 q2 q3 q4 q5 q6 : Pos) : List Stmt := [.Return (some (.Subscript (.Call (.Name x2 q1) [.Name y1 q2] [] q3) (.Constant (.int 0) j0 q4) q5)) q6]
/-- in x1's frame, entered at s1 from X: x2(y1) -/
theorem pe_hand (D1 : One X.K X.mg x1 g1 cd1 N1 y1 sg1 (handsOn x2 y1 j0 q1 q2 q3 q4 q5 q6)) (D2 : One X.K X.mg x2 g2 cd2 N2 y2 sg2 bg2) (isG : sg1.names.lookup x2 = some .globalImplicit) (gives : Gives2 X.prog X.w X.K X.mg X.base N2 x2 sg2 g2 cd2 bg2 y2 (X.env.qual ++ "<lambda>") TT)
    {sl : L2.St} {H : Hp} {s1 : Shared} {body : Expr} {scope : Scope} {f c : Addr} {k : Nat} {t : XK → TE} (L : LamAt X sl H s1 body scope f c) (bd : ∀ E, LamBody X scope body k f c E (t E)) (room : Room (k + 2) (X.A.deeper (envOfC x1 sg1 s1.heap.objs.size g1 cd1))) :
    PE (cxOf C8.CX0 X.prog X.w X.K X.mg X.base N1 x1 sg1 g1 cd1 X.A X.stack s1 H C8.E0) (.Call (.Name x2 q1) [.Name y1 q2] [] q3)
      (fun σ' H' Q => σ'[0]? = some (some (.ref f)) ∧ H' c = some (CodeO c (X.env.qual ++ "<lambda>")) ∧ TT (fun E H2 Q2 => t E sl H2 Q2) H' Q) := by
  refine ⟨fun pz sz σz Hz Q jz ⟨w1, w2, w3⟩ => ?_⟩
  refine wpAny_Call_Name_kw (ld_glob jz (show (envOfC x1 sg1 s1.heap.objs.size g1 cd1).kindOf x2 = some .globalImplicit from isG) D2.at_ ?_ D2.n1)
  have arg : PA (cxOf C8.CX0 X.prog X.w X.K X.mg X.base N1 x1 sg1 g1 cd1 X.A X.stack s1 H C8.E0) [.Name y1 q2] (tCons (tVar 0) tNil) := pa_cons (pe_var (i := 0) D1.slot D1.vis D1.n2 D1.n3) pa_nil
  refine PySem.W.callWith_K (h₀ := X.base) jz.ok.mod.kin D2.kp (thn (arg.run q3 pz sz σz Hz (fun vs H2 => vs = [.ref f] ∧ H2 = Hz) jz ⟨_, w1, rfl, rfl⟩) ?_) (by rfl) (by rfl)
  rintro us s2 ⟨_, _, j, rel, rfl, rfl⟩
  obtain ⟨oc, od, pa, dV, kV, doc, pm2, an, ct, osl, lk, bnd⟩ := D2.ex
  match us, rel with
  | [_], .cons r .nil =>
    cases r
    refine ⟨j.kIn, ?_⟩
    have sub : ∀ b ∈ frs (envOfC x1 sg1 s1.heap.objs.size g1 cd1 :: X.stack), b ∈ frs X.stack ∨ s1.heap.get? b = none := fun b m => by
      obtain ⟨ev, m1, m2⟩ := List.mem_filterMap.mp m
      rcases List.mem_cons.mp m1 with rfl | m1
      · cases m2
        refine .inr (Option.eq_none_iff_forall_ne_some.mpr fun o z => ?_)
        exact Nat.lt_irrefl _ (Heap.lt_size z)
      · exact .inl (List.mem_filterMap.mpr ⟨ev, m1, m2⟩)
    have inner : codeAny (model X.prog X.w) (X.A.deeper (envOfC x1 sg1 s1.heap.objs.size g1 cd1)) (.call (.ref g2) ⟨[.ref f], []⟩) (CR C8.CX0 (envOfC x1 sg1 s1.heap.objs.size g1 cd1 :: X.stack) X.prog X.w _ s2 Q C8.E0) s2 :=
      run_ofS (N := N2) (ps := [y2]) (us := [.ref f]) (vs := [.ref f]) lk D2.code D2.sc room j.env0 (bnd s2 [.ref f] j.kIn rfl) (.cons rfl .nil) rfl fun room2 => by
        obtain ⟨tt, d1, d2⟩ := gives (X.A.deeper (envOfC x1 sg1 s1.heap.objs.size g1 cd1)) (envOfC x1 sg1 s1.heap.objs.size g1 cd1 :: X.stack) f c s2 _ Q (fun E H2 Q2 => t E sl H2 Q2)
          (fun W pn xe E p1 p2 tk hW => pe_actG (i := 0) L (bd E) (show Un (frs X.stack) [] H _ s1.heap s2.heap from j.base) sub tk hW room2 D2.slot D2.vis D2.n2 D2.n3) w2 w3
        exact ⟨tt, d1.nox, d2⟩
    refine wpAny_call (codeAny_mono inner ?_)
    rintro (er | (_ | _ | _ | u)) s3 z
    · exact (show False from z).elim
    · exact z.elim
    · exact z.elim
    · exact z.elim
    · exact j.after z
/-- the lambda is made, with whatever defaults -/
def LamMk (X : Cx) (T : List (Addr × Str)) (params : Arguments) (body : Expr) (scope : Scope) (lpos : Pos) : Prop :=
  ∀ {pins : List (Addr × Obj)} {sl : L2.St} {H : Hp} {st : Shared} {Q : Value → Shared → Prop} {E : Value → Shared → Prop}, Inv X pins sl H st → Tabs T H →
    (∀ (f c : Addr) (H1 : Hp) (s1 : Shared), Inv X pins sl H1 s1 → LamAt X sl H1 s1 body scope f c → ExtN H H1 → Tabs T H1 → H1 c = some (CodeO c (X.env.qual ++ "<lambda>")) → Q (.ref f) s1) →
    wpAny (model X.prog X.w) X.A (eval (.Lambda params body scope lpos) X.env) Q E st
theorem pe_word {T : List (Addr × Str)} {k : Nat} {params : Arguments} {body : Expr} {scope : Scope} {t : XK → TE} {p lpos pos : Pos} (isG : Gl X x1) (D1 : One X.K X.mg x1 g1 cd1 N1 y1 sg1 (handsOn x2 y1 j0 q1 q2 q3 q4 q5 q6)) (isG2 : sg1.names.lookup x2 = some .globalImplicit)
    (D2 : One X.K X.mg x2 g2 cd2 N2 y2 sg2 bg2) (gives : Gives2 X.prog X.w X.K X.mg X.base N2 x2 sg2 g2 cd2 bg2 y2 (X.env.qual ++ "<lambda>") TT) (mk : LamMk X T params body scope lpos) (room : Room (k + 3) X.A) (bd : ∀ f c' E, LamBody X scope body k f c' E (t E)) :
    PE X (.Call (.Name x1 p) [.Lambda params body scope lpos] [] pos) (tLam T (fun tl H Q => TT tl H fun v H1 => rIxT X.K v (.int 0) H1 Q) t) := by
  refine ⟨fun pins st sl H Q inv ⟨tabs, want⟩ => ?_⟩
  refine wpAny_Call_Name_kw (ld_glob inv isG D1.at_ (PySem.W.callWith_K (h₀ := X.base) inv.ok.mod.kin D1.kp ?_ (by rfl) (by rfl)) D1.n1)
  refine Calls.spliced_cons (rest := backTo pos (starEach [] X.env)) (mk inv tabs fun f c' H1 s1 inv1 LA ext tabs1 co => ?_)
  refine Calls.spliced_nil ⟨inv1.kIn, ?_⟩
  obtain ⟨oc, od, pa, dV, kV, doc, pm1, an, ct, osl, lk, bnd⟩ := D1.ex
  have outerRun : codeAny (model X.prog X.w) X.A (.call (.ref g1) ⟨[.ref f], []⟩) (CR C8.CX0 X.stack X.prog X.w H1 s1 Q C8.E0) s1 :=
    run_ofS (N := N1) (ps := [y1]) (us := [.ref f]) (vs := [.ref f]) lk D1.code D1.sc room inv1.env0 (bnd s1 [.ref f] inv1.kIn rfl) (.cons rfl .nil) rfl fun room1 =>
      ⟨_, pss_one (ps_ret (pe_ix ix_tup (pe_hand D1 D2 isG2 gives LA (bd f c') room1) pe_int fun _ _ => rfl)), start_slot D1.slot, co, want H1 ext tabs1⟩
  refine wpAny_call (codeAny_mono outerRun ?_)
  rintro (er | (_ | _ | _ | u)) s3 z
  · exact (show False from z).elim
  · exact z.elim
  · exact z.elim
  · exact z.elim
  · exact inv1.after z
end
section
variable {X : Cx} {T : List (Addr × Str)} {c P : Addr} {params : Arguments} {body : Expr} {scope : Scope} {lpos : Pos}
/-- without defaults -/
theorem mk_plain (TB : TabB X.base X.mg c P) (code : X.env.code = .ref c) (mem : (P, X.env.qual ++ "<lambda>") ∈ T) (only : ∀ p ∈ T, p.1 = P → p.2 = X.env.qual ++ "<lambda>") (L : LamS2 X scope) (nodef : defaultsOf params X.env = ([], []))
    (noargs : ∀ (q : Str) (cl : List (Str × Addr)) (pm cv ctv : Value), bindArgs (PySem.W.kla_fn "<lambda>" q params body scope cl pm cv ctv) ⟨[], []⟩ = pure []) : LamMk X T params body scope lpos := by
  intro pins sl H st Q E inv tabs k
  have has : ∀ z ∈ scope.names, z.2 = .free → ∃ c, X.env.cells.lookup z.1 = some c := fun z m e => (L.free z m e).elim (fun q => inv.ok.has _ (.inl q)) (fun q => inv.ok.has _ (.inr q))
  refine lam_make2 inv TB code mem only tabs nodef has fun f c' pm ctv H1 s1 inv1 ext tabs1 obj new nofr co => ?_
  exact k f c' H1 s1 inv1 ⟨⟨pins, inv1⟩, L, new, nofr, _, [], obj, rfl, rfl, rfl, rfl, rfl, rfl, rfl, (fun y m => by cases m), (fun s2 _ => BindsTo.of_eq (noargs _ _ _ _ _))⟩ ext tabs1 co
end
end VQ
namespace VQ
open PySem PyProof.Rows L2 LamX
/-! ### a lambda with a default -/
theorem ct_step {M : Model} {A : Around} {E : Value → Shared → Prop} {s : Shared} {b : Bool} {items : List Value} {jp : Value → Sem Value} {Q : Value → Shared → Prop} (k : ∀ (ct : Value) (h1 : Heap), (∀ b o, s.heap.get? b = some o → h1.get? b = some o) → s.heap.objs.size ≤ h1.objs.size → wpAny M A (jp ct) Q E { s with heap := h1 }) :
    wpAny M A (if b = true then (do let ct ← pure Value.none; jp ct) else (do let ct ← newTextTuple items; jp ct)) Q E s := by
  cases b with
  | true => exact wpAny_bind (wpAny_pure (k .none s.heap (fun _ _ z => z) (Nat.le_refl _)))
  | false => exact wpAny_bind (wpAny_newTextTuple (k _ _ (fun _ _ z => Heap.get?_push_of_some _ z) (by rw [Heap.size_push]; omega)))
abbrev fnDfl (q : Str) (params : Arguments) (body : Expr) (scope : Scope) (cl : List (Str × Addr)) (pm : Value) (c : Addr) (ctv dV : Value) : FuncData := { PySem.W.kla_fn "<lambda>" q params body scope cl pm (.ref c) ctv with defaults := dV }
section
variable {X : Cx} {T : List (Addr × Str)} {c P : Addr} {params : Arguments} {body : Expr} {scope : Scope} {lpos : Pos}
theorem tail_run {pins : List (Addr × Obj)} {sl : L2.St} {H : Hp} {st : Shared} {Q : Value → Shared → Prop} {E : Value → Shared → Prop} {dV : Value} (inv : Inv X pins sl H st) (TB : TabB X.base X.mg c P) (code : X.env.code = .ref c) (mem : (P, X.env.qual ++ "<lambda>") ∈ T) (only : ∀ p ∈ T, p.1 = P → p.2 = X.env.qual ++ "<lambda>") (tabs : Tabs T H)
    (has : ∀ z ∈ scope.names, z.2 = .free → ∃ c, X.env.cells.lookup z.1 = some c)
    (k : ∀ (f c' : Addr) (pm ctv : Value) (H1 : Hp) (s1 : Shared), Inv X pins sl H1 s1 → ExtN H H1 → Tabs T H1 → (∀ b o, st.heap.get? b = some o → H b = none → s1.heap.get? b = some o ∧ H1 b = none) →
      s1.heap.get? f = some { cls := .type "function", data := .func (fnDfl (X.env.qual ++ "<lambda>") params body scope (cloFrom X.env.cells scope.names []) pm c' ctv dV) } → H1 f = none → f ∉ frs X.stack → H1 c' = some (CodeO c' (X.env.qual ++ "<lambda>")) → Q (.ref f) s1) :
    wpAny (model X.prog X.w) X.A (makeTail "<lambda>" (X.env.qual ++ "<lambda>") params (.expr body) scope X.env dV .none none lpos lpos.line) Q E st := by
  obtain ⟨ps, atP, trip, known⟩ := tabs _ mem
  have rawP : st.heap.get? P = some { cls := .none, data := .fields ps } := inv.hok P _ atP
  obtain ⟨bm, ob, b1, b2, b3, b4, b5, b6, b7, b8⟩ := TB.bm.keeps inv.bk
  have noFrame : ∀ f, st.heap.objs.size ≤ f → f ∉ frs X.stack := fun f above z => by
    rcases List.mem_cons.mp (inv.stkSub _ z) with e | e
    · exact absurd inv.lt (by rw [← e]; exact Nat.not_lt.mpr above)
    · exact inv.nofs above e
  have nsG : st.heap.Ns mainGlobals X.mg := inv.mod.glob.keeps inv.bk
  unfold makeTail
  rw [closure_ok has, inv.ok.glob]
  refine wpAny_bind (wpAny_pure (ct_step fun ct h1 grown sz1 => ?_))
  have hd1 := (TB.code.keeps inv.bk).keeps grown
  have rawP1 := grown _ _ rawP
  cases found : codeAmong lpos ps.toList with
  | none =>
    refine wpAny_bind (wpAny_functionCodeX code (hd1.code rawP1 trip) (hd1.tab rawP1) found fun c' h2 tk but above below _ rec_ tab2 _ => ?_)
    have nsG2 := (nsG.keeps grown).extBut but TB.gP
    refine wpAny_bind (wpAny_builtinsFor nsG2 b1 b2 (but _ _ b4 (grown _ _ b5)) b6 b7 b8 (wpAny_bind (wpAny_nsGet nsG2 (wpAny_bind (wpAny_pure (wpAny_newObj_type ?_ (by size_fits)))))))
    obtain ⟨c2, oc, vs, t, ec, r1, r2, r3⟩ := rec_
    cases ec
    have newC : H c' = none := inv.hok.fresh (Nat.le_trans sz1 above)
    have szf : st.heap.objs.size ≤ h2.objs.size := Nat.le_trans (Nat.le_trans sz1 above) (Nat.le_of_lt below)
    have old : ∀ b o, b ≠ P → st.heap.get? b = some o → h2.get? b = some o := fun b o n z => but b o n (grown b o z)
    have inv2 := inv_table (t' := tk) (more := #[rawInt lpos.line, rawInt lpos.col, .ref c']) (h' := h2.push { cls := .type "function", data := .func (fnDfl (X.env.qual ++ "<lambda>") params body scope (cloFrom X.env.cells scope.names []) ((X.mg "__name__").getD .none) c' ct dV) }) inv atP
      (fun b o n z => Heap.get?_push_of_some _ (old b o n z)) (Heap.get?_push_of_some _ tab2.2) (Nat.le_trans sz1 above) ⟨oc, vs, t, Heap.get?_push_of_some _ r1, r2, r3⟩
    have nP : ∀ b, H b = none → b ≠ P := fun b z e => by
      rw [e, atP] at z
      cases z
    have ext : ExtN H (upd (upd H P (.tbl (ps ++ #[rawInt lpos.line, rawInt lpos.col, .ref c']))) c' (CodeO c' (X.env.qual ++ "<lambda>"))) := fun b o z n => by
      have bP : b ≠ P := fun e => by
        rw [e] at z
        exact n ps (Option.some.inj (z.symm.trans atP))
      rw [upd_ne (ne_of_none z newC), upd_ne bP]
      exact z
    have glue : (ps ++ #[rawInt lpos.line, rawInt lpos.col, Value.ref c']).toList = ps.toList ++ [rawInt lpos.line, rawInt lpos.col, .ref c'] := by simp
    refine k h2.objs.size c' _ ct _ _ inv2 ext (fun p m => ?_) (fun b o z n => ⟨Heap.get?_push_of_some _ (old b o (nP b n) z), ?_⟩) (Heap.get?_push_size _ rfl) ?_ (noFrame _ szf) upd_same
    · by_cases e : p.1 = P
      · rw [only p m e, e]
        refine ⟨_, by rw [upd_ne (ne_of_none atP newC), upd_same], by rw [glue]; exact PySem.TriplesOk_snoc _ _ _ _ trip, fun p' cv hit => ?_⟩
        rw [glue] at hit
        rcases among_app _ trip hit with z | z
        · obtain ⟨c0, z1, z2⟩ := known p' cv z
          exact ⟨c0, z1, ext _ _ z2 codeO_ne⟩
        · exact ⟨c', z, upd_same⟩
      · obtain ⟨ps', a1, a2, a3⟩ := tabs p m
        refine ⟨ps', by rw [upd_ne (ne_of_none a1 newC), upd_ne e]; exact a1, a2, fun p' cv hit => ?_⟩
        obtain ⟨c0, z1, z2⟩ := a3 p' cv hit
        exact ⟨c0, z1, ext _ _ z2 codeO_ne⟩
    · have nc : b ≠ c' := Nat.ne_of_lt (Nat.lt_of_lt_of_le (Heap.lt_size z) (Nat.le_trans sz1 above))
      rw [upd_ne nc, upd_ne (nP b n)]
      exact n
    · rw [upd_ne (Nat.ne_of_gt below), upd_ne (Nat.ne_of_gt (Nat.lt_of_lt_of_le (Heap.lt_size rawP) szf))]
      exact inv.hok.fresh szf
  | some cv =>
    obtain ⟨c', e, stands⟩ := known lpos cv found
    subst e
    have nsG1 := nsG.keeps grown
    refine wpAny_bind (wpAny_functionCode_hit code (hd1.code rawP1 trip) found (wpAny_bind (wpAny_builtinsFor nsG1 b1 b2 (grown _ _ b5) b6 b7 b8 (wpAny_bind (wpAny_nsGet nsG1 (wpAny_bind (wpAny_pure (wpAny_newObj_type ?_ (by size_fits)))))))))
    have stays : ∀ b o, st.heap.get? b = some o → (h1.push { cls := .type "function", data := .func (fnDfl (X.env.qual ++ "<lambda>") params body scope (cloFrom X.env.cells scope.names []) ((X.mg "__name__").getD .none) c' ct dV) }).get? b = some o := fun b o z => Heap.get?_push_of_some _ (grown b o z)
    exact k h1.objs.size c' _ ct H _ (inv.kept stays) (ExtN.refl H) tabs (fun b o z n => ⟨stays b o z, n⟩) (Heap.get?_push_size _ rfl) (inv.hok.fresh sz1) (noFrame _ sz1) stands
/-- one default, an int -/
theorem mk_dflt {i : Int} {j : Nat} {dp : Pos} {y : Str} (TB : TabB X.base X.mg c P) (code : X.env.code = .ref c) (mem : (P, X.env.qual ++ "<lambda>") ∈ T) (only : ∀ p ∈ T, p.1 = P → p.2 = X.env.qual ++ "<lambda>") (L : LamS2 X scope)
    (defs : defaultsOf params X.env = ([eval (.Constant (.int i) j dp) X.env], [])) (nokw : params.kwonlyargs = []) (loc : scope.names.lookup y = some .local)
    (args : ∀ (q : Str) (cl : List (Str × Addr)) (pm ctv u : Value) (cv T0 : Addr), ∃ k, bindArgs (fnDfl q params body scope cl pm cv ctv (.ref T0)) ⟨[], []⟩ = seqItems? (.ref T0) >>= k ∧ k (some #[u]) = pure [(y, u)]) : LamMk X T params body scope lpos := by
  intro pins sl H st Q E inv tabs k
  have has : ∀ z ∈ scope.names, z.2 = .free → ∃ c, X.env.cells.lookup z.1 = some c := fun z m e => (L.free z m e).elim (fun q => inv.ok.has _ (.inl q)) (fun q => inv.ok.has _ (.inr q))
  rw [arm_eval_Lambda, defs]
  show wpAny _ _ (do let dv ← evalAll [eval (.Constant (.int i) j dp) X.env]; let kdv ← holding dv (evalAllOpt []); makeFunction "<lambda>" (X.env.qual ++ "<lambda>") params (.expr body) scope X.env dv kdv [] lpos lpos.line) _ _ _
  refine wpAny_bind (wpAny_evalAll_cons (wpAny_Constant_int (wpAny_evalAll_nil (wpAny_bind (wpAny_holding (wpAny_pure ?_))))))
  rw [makeFunction_eq, nokw]
  simp only [List.zip_nil_left, List.filterMap_nil, List.isEmpty_nil, List.isEmpty_cons, if_true, Bool.false_eq_true, if_false, pure_bind]
  refine wpAny_bind (wpAny_newTextTuple ?_)
  have old : ∀ b o, st.heap.get? b = some o → (st.heap.push { cls := .type "tuple", data := .seq [Value.int i st.toks].toArray }).get? b = some o := fun b o z => Heap.get?_push_of_some _ z
  have atT : (st.heap.push { cls := .type "tuple", data := .seq [Value.int i st.toks].toArray }).get? st.heap.objs.size = some { cls := .type "tuple", data := .seq [Value.int i st.toks].toArray } := Heap.get?_push_size _ rfl
  have inv1 : Inv X pins sl H { st with heap := st.heap.push { cls := .type "tuple", data := .seq [Value.int i st.toks].toArray }, toks := st.toks + 1 } := inv.kept old
  have newT : H st.heap.objs.size = none := inv.hok.fresh (Nat.le_refl _)
  have noT : st.heap.objs.size ∉ frs X.stack := fun z => by
    rcases List.mem_cons.mp (inv.stkSub _ z) with e | e
    · exact absurd inv.lt (by rw [← e]; exact Nat.lt_irrefl _)
    · exact inv.nofs (Nat.le_refl _) e
  refine tail_run inv1 TB code mem only tabs has fun f c' pm ctv H1 s1 inv2 ext tabs1 keep obj new nofr co => ?_
  obtain ⟨t1, t2⟩ := keep _ _ atT newT
  refine k f c' H1 s1 inv2 ⟨⟨pins, inv2⟩, L, new, nofr, _, [(y, Value.int i st.toks)], obj, rfl, rfl, rfl, rfl, rfl, rfl, rfl, fun z m => ?_, fun s2 stays => ?_⟩ ext tabs1 co
  · rw [List.mem_singleton.mp m]
    exact loc
  · obtain ⟨kk, e1, e2⟩ := args (X.env.qual ++ "<lambda>") (cloFrom X.env.cells scope.names []) pm ctv (.int i st.toks) c' st.heap.objs.size
    refine BindsTo.of_looks fun M => ?_
    rw [e1]
    intro A' Q' E' s3 kp q
    have there := kp _ _ (stays _ _ t1 t2 noT)
    exact wpAny_bind (wpAny_seqItems there rfl ((PySem.W.Looks.of_pure e2 : PySem.W.Looks M s2.heap _ _) A' Q' E' s3 kp q))
end
end VQ
namespace VQ
open PySem L2 LamX
abbrev sTried : Stmt := top 24
abbrev sWord : Stmt := top 25
/-- where the error classes stand that the law names -/
structure Errs (mg : Str → Option Value) (Ta NT NR BT Uf Fu TM QE No : Addr) : Prop where
  ta : mg "Taken" = some (.ref Ta)
  nt : mg "NoTable" = some (.ref NT)
  nr : mg "NoRow" = some (.ref NR)
  bt : mg "BadText" = some (.ref BT)
  uf : mg "Unfit" = some (.ref Uf)
  fu : mg "Full" = some (.ref Fu)
  tm : mg "TooMany" = some (.ref TM)
  qe : mg "QuiltError" = some (.ref QE)
  no : mg "Nothing" = some (.ref No)
/-- a refusal without a field: the last clause takes it -/
structure Plain (K : PySem.W.Frag) (Ta NT NR BT Uf Fu TM QE No C : Addr) : Prop where
  n1 : PySem.W.exmAny K (.ref C) [.ref Ta, .ref NT, .ref NR] = some false
  n2 : PySem.W.exmAny K (.ref C) [.ref BT, .ref Uf] = some false
  n3 : PySem.W.exmAny K (.ref C) [.ref Fu] = some false
  n4 : PySem.W.exmAny K (.ref C) [.ref TM] = some false
  y5 : PySem.W.exmAny K (.ref C) [.ref QE, .ref No] = some true
  xf : XfC K C
  nc : PySem.W.findIn K (.ref C) "called" = some none
/-- what is wished of an error: the tuple of its name and a blank -/
def Caught (K : PySem.W.Frag) (Ta NT NR BT Uf Fu TM QE No : Addr) (Q : VK) : XK := fun cls d H => ∃ (C dd : Addr) (fs : List (Str × V)) (nm : Str), cls = .ref C ∧ d = some dd ∧ Plain K Ta NT NR BT Uf Fu TM QE No C ∧ H dd = some (.xd fs) ∧ fs.lookup ("called" : Str) = some (V.str nm) ∧
  ∀ p, H p = none → Q (.ref p) (upd H p (.tup [.str nm, .str ""]))
def TTried (K : PySem.W.Frag) (Ta NT NR BT Uf Fu TM QE No : Addr) : (XK → Hp → VK → Prop) → Hp → VK → Prop := fun tl H Q =>
  tl (Caught K Ta NT NR BT Uf Fu TM QE No Q) H fun v H1 => [V.str "told", v].length ≤ sizeLine ∧ ∀ p, H1 p = none → Q (.ref p) (upd H1 p (.tup [.str "told", v]))
/-- a def of one parameter as it stands -/
theorem one_of {K : PySem.W.Frag} {mg : Str → Option Value} {x y : Str} {st : Stmt} {f : Addr} {fd : FuncData} {N : List Str} (A1 : At K mg x st [y] f fd) (sc : FnScope N [y] (defScope st)) (slot : N[0]? = some y) (vis : Vis (defScope st) y) (n1 : (x == ("__debug__" : Str)) = false) (n2 : (y == ("__debug__" : Str)) = false) (n3 : (y == ("__classdict__" : Str)) = false) :
    ∃ cd, One K mg x f cd N y (defScope st) (defBody st) := by
  obtain ⟨oc, od, kV, doc, pm, an, cdv, ct, osl, e, lk, code⟩ := A1.fn.ex
  have bd := A1.bd
  rw [e] at lk bd
  exact ⟨cdv, A1.gl, A1.fn.kp, ⟨oc, od, _, _, kV, doc, pm, an, ct, osl, lk, bd⟩, code, sc, slot, vis, n1, n2, n3⟩
theorem scTried : FnScope ["_law_ask", "e"] ["_law_ask"] (defScope sTried) := ⟨rfl, rfl, rfl, by decide +kernel, rfl, by decide +kernel, by decide +kernel⟩
theorem scWord : FnScope ["_law_ask"] ["_law_ask"] (defScope sWord) := ⟨rfl, rfl, rfl, by decide +kernel, rfl, by decide +kernel, by decide +kernel⟩
section
variable {P : Program} {w : World} {K : PySem.W.Frag} {mg : Str → Option Value} {base : Heap} {Ta NT NR BT Uf Fu TM QE No : Addr}
theorem tried_gives {g : Addr} {cdg : Value} {q : Str} (G : Errs mg Ta NT NR BT Uf Fu TM QE No) : Gives2 P w K mg base ["_law_ask", "e"] "_law_tried" (defScope sTried) g cdg (defBody sTried) "_law_ask" q (TTried K Ta NT NR BT Uf Fu TM QE No) := by
  intro A2 outer2 f c' s H Q tl act hc h
  refine ⟨_, pss_one (ps_try_manyA (X := (cxOf C8.CX0 P w K mg base ["_law_ask", "e"] "_law_tried" (defScope sTried) g cdg A2 outer2 s H C8.E0).nox) (i := 1) (n := "e")
      (tb := fun W D σ H => ∃ Ech : XK, (∀ cls d σ' H', σ'.length = 2 → Ech cls d H' → W cls d σ' H') ∧ σ[0]? = some (some (.ref f)) ∧ H c' = some (CodeO c' q) ∧ tl Ech H fun v H1 => [V.str "told", v].length ≤ sizeLine ∧ ∀ p, H1 p = none → D.rt (.ref p) (upd H1 p (.tup [.str "told", v])))
      rfl rfl scTried.nd rfl rfl LamX.takes0 (fun W pn xe tk _ => ?_)
      (HdsA.cons (Cte.three ⟨rfl, by decide, .inl G.ta⟩ ⟨rfl, by decide, .inl G.nt⟩ ⟨rfl, by decide, .inl G.nr⟩) (fun a oe cls d pn hz hf => pss_one (ps_ret (pe_tup (pa_cons (pe_xfA hz hf (pv 1)) (pa_cons (pe_xfA hz hf (pv 1)) pa_nil)))))
      (HdsA.cons (Cte.two ⟨rfl, by decide, .inl G.bt⟩ ⟨rfl, by decide, .inl G.uf⟩) (fun a oe cls d pn hz hf => pss_one (ps_ret (pe_tup (pa_cons (pe_xfA hz hf (pv 1)) (pa_cons (pe_xfA hz hf (pv 1)) pa_nil)))))
      (HdsA.cons (Cte.one ⟨rfl, by decide, .inl G.fu⟩) (fun a oe cls d pn hz hf => pss_one (ps_ret (pe_tup (pa_cons (pe_xfA hz hf (pv 1)) (pa_cons (pe_xfA hz hf (pv 1)) pa_nil)))))
      (HdsA.cons (Cte.one ⟨rfl, by decide, .inl G.tm⟩) (fun a oe cls d pn hz hf => pss_one (ps_ret (pe_tup (pa_cons (pe_xfA hz hf (pv 1)) (pa_cons (pe_xfA hz hf (pv 1)) pa_nil)))))
      (HdsA.cons (Cte.two ⟨rfl, by decide, .inl G.qe⟩ ⟨rfl, by decide, .inl G.no⟩) (fun a oe cls d pn hz hf => pss_one (ps_ret (pe_tup (pa_cons (pe_xfA hz hf (pv 1)) (pa_cons pe_str pa_nil)))))
      HdsA.nil)))))), ?_⟩
  · refine ⟨fun pins s' σ H' D I ⟨Ech, hW, h1, h2, h3⟩ => ?_⟩
    exact (pss_one (ps_ret (pe_tup (pa_cons pe_str (pa_cons (act W pn xe Ech _ _ tk hW) pa_nil))))).run pins s' σ H' D I ⟨h1, h2, h3⟩
  · refine ⟨Caught K Ta NT NR BT Uf Fu TM QE No Q, fun cls d σ' H' hlen hC => ?_, rfl, hc, h⟩
    obtain ⟨C, dd, fs, nm, rfl, rfl, pl, hdd, hl, hq⟩ := hC
    refine ⟨false, pl.n1, fun z => Bool.noConfusion z, fun _ => ⟨false, pl.n2, fun z => Bool.noConfusion z, fun _ => ⟨false, pl.n3, fun z => Bool.noConfusion z, fun _ => ⟨false, pl.n4, fun z => Bool.noConfusion z, fun _ => ⟨true, pl.y5, fun _ a na => ?_, fun z => Bool.noConfusion z⟩⟩⟩⟩⟩
    have e1 : (σ'.set 1 (some (V.ref a)))[1]? = some (some (V.ref a)) := List.getElem?_set_self (by rw [hlen]; decide)
    exact ⟨C, pl.xf, pl.nc, _, e1, rfl, rfl, dd, fs, _, rfl, hdd, hl, by show 2 ≤ sizeLine; decide, fun p hp => hq p hp⟩
end
end VQ
namespace VQ
open PySem L2 LamX
abbrev sWorth : Stmt := top 26
abbrev sFigs : Stmt := top 27
/-! ### figures -/
def figLow (w : Nat) : Nat → Str
  | 0 => ⟨#[]⟩
  | i + 1 => (⟨#[48 + w / 2 ^ i % 2]⟩ : Str) ++ figLow w i
def fig (w : Nat) : Str := figLow w 5
theorem figLow_len (w : Nat) : ∀ i, (figLow w i).length = i
  | 0 => rfl
  | i + 1 => by
    show ((⟨#[48 + w / 2 ^ i % 2]⟩ : Str) ++ figLow w i).length = i + 1
    show (#[48 + w / 2 ^ i % 2] ++ (figLow w i).cps).size = i + 1
    rw [Array.size_append]
    have := figLow_len w i
    show 1 + (figLow w i).length = i + 1
    omega
theorem str_bit (n : Nat) : (toString ((n % 2 : Nat) : Int) : Str) = ⟨#[48 + n % 2]⟩ := by
  rcases Nat.mod_two_eq_zero_or_one n with h | h
  · rw [h]; decide +kernel
  · rw [h]; decide +kernel
section
variable {P : Program} {w : World} {K : PySem.W.Frag} {mg : Str → Option Value} {base : Heap}
def spFigs : Sp := fun vs H Q _ => ∃ (n : Nat), vs = [.int (n : Int)] ∧ Q (.str (fig n)) H
theorem scFigs : FnScope ["_law_worth_here", "_law_found", "_law_at"] ["_law_worth_here"] (defScope sFigs) := ⟨rfl, rfl, rfl, by decide +kernel, rfl, by decide +kernel, by decide +kernel⟩
theorem ok_figs {f : Addr} {fd : FuncData} (F : Fun K "_law_figs" "_law_figs" sFigs f fd) (rng : mg "range" = none) (str : mg "str" = none) : FnOk P w K mg base CX0 1 f fd ["_law_worth_here"] spFigs := by
  refine F.ok scFigs (fun vs H Q E h => ?_) (fun cdv A outer s H vs Q E hr h => ?_)
  · obtain ⟨n, rfl, _⟩ := h
    rfl
  · obtain ⟨n, rfl, k⟩ := h
    refine ⟨_, pss_cons (ps_set (i := 1) scFigs.nd rfl (.inl rfl) pe_str)
      (pss_cons (ps_for PassesOwn.never rfl (pi_range1 rfl rng (pa_cons pe_int pa_nil)) (pg_name (i := 2) scFigs.nd rfl (.inl rfl))
        (pss_cons (ps_set (i := 1) scFigs.nd rfl (.inl rfl) (pe_op op_add_str (pe_callTy call_str_int (by rfl) str (by decide +kernel) (pa_cons (pe_op op_mod (pv 0) pe_int) pa_nil)) (pv 1)))
        (pss_one (ps_set (i := 0) scFigs.nd rfl (.inl rfl) (pe_op op_fdiv (pv 0) pe_int)))))
      (pss_one (ps_ret (pv 1)))), ?_⟩
    refine ⟨5, rfl, by decide, by decide, for_range (lo := 0) (n := 5) (fun i σ H' => H' = H ∧ ∃ v : Option V, σ = [some (.int ((n / 2 ^ i : Nat) : Int)), some (.str (figLow n i)), v]) ?_ ?_ ?_⟩
    · refine ⟨rfl, none, ?_⟩
      show [some (V.int (n : Int)), some (V.str (Str.ofString "")), none] = _
      rw [Nat.pow_zero, Nat.div_one, show Str.ofString "" = figLow n 0 from (show Str.ofString "" = (⟨#[]⟩ : Str) by decide +kernel)]
    · rintro i σ H' hi ⟨rfl, v, rfl⟩
      have e1 : ((n / 2 ^ i : Nat) : Int) % 2 = ((n / 2 ^ i % 2 : Nat) : Int) := by omega
      have e2 : ((n / 2 ^ i : Nat) : Int) / 2 = ((n / 2 ^ (i + 1) : Nat) : Int) := by
        rw [Nat.pow_succ, ← Nat.div_div_eq_div_mul]; omega
      refine ⟨_, rfl, _, 2, rfl, rfl, (by show (0 : Int) < 2; decide), _, rfl, ?_, _, rfl, _, _, rfl, rfl, ?_, ?_⟩
      · rw [e1]
        rcases Nat.mod_two_eq_zero_or_one (n / 2 ^ i) with h | h <;> rw [h] <;> decide
      · rw [e1, str_bit, figLow_len]
        show 1 + i ≤ sizeLine
        have : i < 5 := hi
        exact Nat.le_trans (by omega : 1 + i ≤ 6) (by decide)
      · refine ⟨_, rfl, _, 2, rfl, rfl, ⟨by decide, by decide⟩, rfl, some (.int (0 + (i : Int))), ?_⟩
        show [some (V.int (((n / 2 ^ i : Nat) : Int) / 2)), some (V.str (Str.ofString (toString (((n / 2 ^ i : Nat) : Int) % 2)) ++ figLow n i)), some (V.int (0 + (i : Int)))] = _
        rw [e2, e1, str_bit]
        rfl
    · rintro σ H' ⟨rfl, v, rfl⟩
      exact ⟨_, rfl, k⟩
/-! ### drawn worths -/
/-- a number drawn by the bag, of which R is true -/
def spDraw (R : Int → Prop) : Sp := fun vs H Q _ => ∃ (b : Addr), vs = [.ref b] ∧ Bag H b ∧ ∀ (i : Int) (H' : Hp), R i → Bag H' b → Keep b H H' → Q (.int i) H'
theorem scWorth : FnScope ["_law_bag_here"] ["_law_bag_here"] (defScope sWorth) := ⟨rfl, rfl, rfl, by decide +kernel, rfl, by decide +kernel, by decide +kernel⟩
theorem Bag.ne {H : Hp} {b p : Addr} (h : Bag H b) (n : H p = none) : p ≠ b := fun e => by
  obtain ⟨o, z⟩ := h.here
  rw [e, z] at n
  cases n
theorem ok_worth {f fO fP : Addr} {fd fdO fdP : FuncData} (F : Fun K "_law_worth" "_law_worth" sWorth f fd) (len : mg "len" = none) (P1 : At K mg "_law_pull" sPull ["_law_bag_here", "_law_size"] fP fdP) (P2 : At K mg "_law_of" sOf ["_law_bag_here", "_law_some"] fO fdO) :
    FnOk P w K mg base CX0 3 f fd ["_law_bag_here"] (spDraw fun i => 0 ≤ i ∧ i < 32) := by
  have G1 : FnOk P w K mg base CX0 1 fP fdP ["_law_bag_here", "_law_size"] spPull := ok_pull P1.fn len
  have G2 : FnOk P w K mg base CX0 2 fO fdO ["_law_bag_here", "_law_some"] (spOf K) := ok_of P2.fn len P1
  refine F.ok scWorth (fun vs H Q E h => ?_) (fun cdv A outer s H vs Q E hr h => ?_)
  · obtain ⟨b, rfl, _⟩ := h
    rfl
  · obtain ⟨b, rfl, B, k⟩ := h
    have hr1 : Room 1 _ := hr.mono (by decide)
    refine ⟨_, pss_one (ps_ret (pe_call G2 hr rfl P2.gl P2.fn.kp P2.bd .nil pass0 (pa_cons (pv 0) (pa_cons (pe_lst
      (pa_cons (pe_call G1 hr1 rfl P1.gl P1.fn.kp P1.bd .nil pass0 (pa_cons (pv 0) (pa_cons pe_int pa_nil)))
      (pa_cons (pe_call G1 hr1 rfl P1.gl P1.fn.kp P1.bd .nil pass0 (pa_cons (pv 0) (pa_cons pe_int pa_nil)))
      (pa_cons (pe_call G1 hr1 rfl P1.gl P1.fn.kp P1.bd .nil pass0 (pa_cons (pv 0) (pa_cons pe_int pa_nil)))
      (pa_cons pe_int (pa_cons pe_int pa_nil)))))) pa_nil)))), ?_⟩
    refine ⟨_, rfl, _, rfl, b, 32, rfl, B, by decide, by decide, fun d1 H1 a1 c1 B1 k1 => ?_⟩
    refine ⟨_, rfl, b, 32, rfl, B1, by decide, by decide, fun d2 H2 a2 c2 B2 k2 => ?_⟩
    refine ⟨_, rfl, b, 4, rfl, B2, by decide, by decide, fun d3 H3 a3 c3 B3 k3 => ?_⟩
    refine ⟨by show 5 ≤ sizeLine; decide, fun p hp => ?_⟩
    have sm := same_new (o := HO.lst [.int d1, .int d2, .int d3, .int 0, .int 31]) hp
    refine ⟨b, p, _, rfl, B3.same sm, B3.ne hp, SqL.of upd_same, by show 1 ≤ 5; decide, by show 5 < 1000; decide, fun v H' mem B' k' => ?_⟩
    have kk : Keep b H H' := ((k1.trans k2).trans k3).trans (Keep.trans (Same.keep sm) k')
    rcases List.mem_cons.mp mem with rfl | mem
    · exact k _ _ ⟨a1, c1⟩ B' kk
    rcases List.mem_cons.mp mem with rfl | mem
    · exact k _ _ ⟨a2, c2⟩ B' kk
    rcases List.mem_cons.mp mem with rfl | mem
    · exact k _ _ ⟨a3, by omega⟩ B' kk
    rcases List.mem_cons.mp mem with rfl | mem
    · exact k _ _ ⟨by decide, by decide⟩ B' kk
    rcases List.mem_cons.mp mem with rfl | mem
    · exact k _ _ ⟨by decide, by decide⟩ B' kk
    · cases mem
end
end VQ
namespace VQ
open PySem L2 LamX
/-! ### things of the plain kinds -/
def worthB : V → Bool
  | .int i => decide (0 ≤ i) && decide (i < 32)
  | _ => false
def basics : List String := ["NoneType", "bool", "int", "str", "list", "tuple"]
theorem basic_cases {K : PySem.W.Frag} {H : Hp} {x : V} {t : String} (h : TyX K H x (.type t)) (m : t ∈ basics) :
    (x = .non ∧ t = "NoneType") ∨ (∃ b, x = .bl b ∧ t = "bool") ∨ (∃ i, x = .int i ∧ t = "int") ∨ (∃ z, x = .str z ∧ t = "str") ∨ (∃ a, x = .ref a ∧ (t = "list" ∨ t = "tuple")) := by
  generalize e : Value.type t = tv at h
  cases h with
  | base b =>
    cases b with
    | non => cases e; exact .inl ⟨rfl, rfl⟩
    | bl y => cases e; exact .inr (.inl ⟨y, rfl, rfl⟩)
    | int i => cases e; exact .inr (.inr (.inl ⟨i, rfl, rfl⟩))
    | str y => cases e; exact .inr (.inr (.inr (.inl ⟨y, rfl, rfl⟩)))
    | flt y => cases e; exact absurd m (by decide)
    | lst _ => cases e; exact .inr (.inr (.inr (.inr ⟨_, rfl, .inl rfl⟩)))
    | frz _ => cases e; exact .inr (.inr (.inr (.inr ⟨_, rfl, .inl rfl⟩)))
    | tup _ => cases e; exact .inr (.inr (.inr (.inr ⟨_, rfl, .inr rfl⟩)))
    | dK _ => cases e; exact absurd m (by decide)
    | dT _ => cases e; exact absurd m (by decide)
    | ins _ _ _ _ _ _ => cases e
  | byt _ => cases e; exact absurd m (by decide)
  | set _ => cases e; exact absurd m (by decide)
  | kList _ _ => cases e; exact .inr (.inr (.inr (.inr ⟨_, rfl, .inl rfl⟩)))
  | kTuple _ _ => cases e; exact .inr (.inr (.inr (.inr ⟨_, rfl, .inr rfl⟩)))
  | kDict _ _ => cases e; exact absurd m (by decide)
  | fTuple _ => cases e; exact .inr (.inr (.inr (.inr ⟨_, rfl, .inr rfl⟩)))
  | fDict _ => cases e; exact absurd m (by decide)
section
variable {P : Program} {w : World} {K : PySem.W.Frag} {mg : Str → Option Value} {base : Heap}
/-- what the program's own modules ask of the names -/
structure Blt (mg : Str → Option Value) : Prop where
  isi : mg "isinstance" = none
  int : mg "int" = none
  bool : mg "bool" = none
  str : mg "str" = none
  list : mg "list" = none
  tuple : mg "tuple" = none
  len : mg "len" = none
  all : mg "all" = none
  range : mg "range" = none
/-! ### a refusal without a field -/
def spErr (K : PySem.W.Frag) (C : Addr) (nm : Str) : Sp := fun vs H Q _ => ∃ a : Addr, vs = [.ref a] ∧ H a = some (exo a C none) ∧ ∀ d, H d = none → d ≠ a → Q .non (upd (upd H d (exd d [(("called" : Str), .str nm)])) a (exo a C (some d)))
/-- the class at C, its __init__ at fI -/
structure ErrC (K : PySem.W.Frag) (mg : Str → Option Value) (x : Str) (C fI : Addr) (fd : FuncData) (qual : Str) (st : Stmt) : Prop where
  gl : mg x = some (.ref C)
  ox : OexC K C
  it : PySem.W.findIn K (.ref C) "__init__" = some (some (.ref fI))
  ty : PySem.W.typeIn K (.ref fI) = some (.type "function")
  nc : PySem.W.findIn K (.ref C) "called" = some none
  fn : Fun K "__init__" qual st fI fd
  bd : Binds K fd ["self"] []
theorem ok_err {x qual nm : Str} {st : Stmt} {C fI : Addr} {fd : FuncData} {p1 p2 p3 p4 : Pos} {j : Nat} (Er : ErrC K mg x C fI fd qual st) (sc : FnScope ["self"] ["self"] (defScope st)) (v : Vis (defScope st) "self")
    (hb : defBody st = [.Assign [.Attribute (.Name "self" p1) "called" p2] (.Constant (.str nm) j p3) p4]) : FnOk P w K mg base CX0 1 fI fd ["self"] (spErr K C nm) := by
  refine Er.fn.ok sc (fun vs H Q E h => ?_) (fun cdv A outer s H vs Q E' hr h => ?_)
  · obtain ⟨a, rfl, _⟩ := h
    rfl
  · obtain ⟨a, rfl, ha, k⟩ := h
    rw [hb]
    refine ⟨_, pss_one (ps_ost (pe_var (i := 0) rfl v) pe_str), ?_⟩
    exact ⟨_, rfl, a, C, rfl, Er.ox, Er.nc, .inl ⟨ha, fun dx hd ne => k dx hd ne⟩⟩
theorem raise_plain {C : Addr} {nm : Str} {σ : L2.St} {H : Hp} {W : XK} (h : ∀ d, H d = none → W (.ref C) (some d) (upd H d (.xd [(("called" : Str), .str nm)]))) : tMkO0 C (spErr K C nm) σ H W := by
  intro a ha
  refine ⟨a, rfl, upd_same, fun d hd ne => ⟨rfl, d, [(("called" : Str), V.str nm)], upd_same, ?_, ?_, ?_⟩⟩
  · rw [upd_ne ne, upd_same]
  · rw [upd_ne ne] at hd
    exact hd
  · have hd' : H d = none := by
      rw [upd_ne ne] at hd
      exact hd
    have e : upd (del (upd (upd (upd H a (exo a C none)) d (exd d [(("called" : Str), V.str nm)])) a (exo a C (some d))) a) d (.xd [(("called" : Str), V.str nm)]) = upd H d (.xd [(("called" : Str), V.str nm)]) := by
      funext b
      by_cases hb : b = d
      · rw [hb, upd_same, upd_same]
      · rw [upd_ne hb, upd_ne hb]
        by_cases hba : b = a
        · rw [hba, del_same, ha]
        · rw [del_ne hba, upd_ne hba, upd_ne hb, upd_ne hba]
    rw [e]
    exact h d hd'
end
end VQ
namespace VQ
open PySem L2 LamX
/-- two things that are the same all through, to a depth -/
inductive Alike (H : Hp) : Nat → V → V → Prop
  | non (n : Nat) : Alike H n .non .non
  | bl (n : Nat) (b : Bool) : Alike H n (.bl b) (.bl b)
  | int (n : Nat) (i : Int) : Alike H n (.int i) (.int i)
  | str (n : Nat) (z : Str) : Alike H n (.str z) (.str z)
  | lst {n : Nat} {a b : Addr} {xs ys : List V} (ha : H a = some (.lst xs)) (hb : H b = some (.lst ys)) (hl : xs.length = ys.length) (hz : ys.length ≤ 1000) (h : ∀ (i : Nat) (x y : V), xs[i]? = some x → ys[i]? = some y → Alike H n x y) : Alike H (n + 1) (.ref a) (.ref b)
  | tup {n : Nat} {a b : Addr} {xs ys : List V} (ha : H a = some (.tup xs)) (hb : H b = some (.tup ys)) (hl : xs.length = ys.length) (hz : ys.length ≤ 1000) (h : ∀ (i : Nat) (x y : V), xs[i]? = some x → ys[i]? = some y → Alike H n x y) : Alike H (n + 1) (.ref a) (.ref b)
theorem Alike.same {H H' : Hp} (s : Same H H') {n : Nat} {x y : V} (h : Alike H n x y) : Alike H' n x y := by
  induction h with
  | non n => exact .non n
  | bl n b => exact .bl n b
  | int n i => exact .int n i
  | str n z => exact .str n z
  | lst ha hb hl hz _ ih => exact .lst (s _ _ ha) (s _ _ hb) hl hz ih
  | tup ha hb hl hz _ ih => exact .tup (s _ _ ha) (s _ _ hb) hl hz ih
def spSame (n : Nat) : Sp := fun vs H Q _ => ∃ x y, vs = [x, y] ∧ Alike H n x y ∧ ∀ H', Same H H' → Q (.bl true) H'
section
variable {P : Program} {w : World} {K : PySem.W.Frag} {mg : Str → Option Value} {base : Heap}
section
variable {X : Cx} {p p0 p1 p2 p3 pos : Pos} {i k : Nat} {y : Str}
/-- isinstance(y, n) -/
theorem pe_isi {n : Str} {c : String} (he : PE X (.Name y p0) (tVar i)) (g : Gl X "isinstance") (hm : X.mg "isinstance" = none) (gn : Gl X n) (hn : X.mg n = none) (hv : bootBuiltins n = some (.type c)) (n1 : n ≠ "__name__" := by decide) (n2 : (n == ("__debug__" : Str)) = false := by decide) :
    PE X (.Call (.Name "isinstance" p) [.Name y p0, .Name n p1] [] pos) (tCB (rIsi X.K) (tCons (tVar i) (tCons (tC (.ty c)) tNil))) :=
  pe_callB call_isi g hm (by decide +kernel) (pa_cons he (pa_cons (pe_bltn (v := .ty c) gn hn hv rfl n1 n2) pa_nil))
/-- isinstance(y, (int, str)) -/
theorem pe_isiT (he : PE X (.Name y p0) (tVar i)) (g : Gl X "isinstance") (hm : X.mg "isinstance" = none) (gi : Gl X "int") (hi : X.mg "int" = none) (gs : Gl X "str") (hs : X.mg "str" = none) :
    PE X (.Call (.Name "isinstance" p) [.Name y p0, .Tuple [.Name "int" p1, .Name "str" p2] k p3] [] pos) (tCB (rIsiT X.K) (tCons (tVar i) (tCons (tTup (tCons (tC (.ty "int")) (tCons (tC (.ty "str")) tNil))) tNil))) :=
  pe_callB call_isiT g hm (by decide +kernel) (pa_cons he (pa_cons (pe_tup (pa_cons (pe_bltn (v := .ty "int") gi hi (by decide +kernel) rfl) (pa_cons (pe_bltn (v := .ty "str") gs hs (by decide +kernel) rfl) pa_nil))) pa_nil))
end
theorem rd_isi {σ : L2.St} {H : Hp} {Q : VK} {i : Nat} {x : V} {t c : String} {b : Bool} (hx : σ[i]? = some (some x)) (ty : TyX K H x (.type t)) (kb : kitB t c = some b) (h : Q (.bl b) H) : tCB (rIsi K) (tCons (tVar i) (tCons (tC (.ty c)) tNil)) σ H Q :=
  ⟨x, hx, _, _, _, _, b, rfl, .ty c, ty, kit_ty kb, h⟩
theorem TyX.basic_same {H H' : Hp} {x : V} {t : String} (s : Same H H') (ty : TyX K H x (.type t)) (m : t ∈ basics) : TyX K H' x (.type t) := by
  generalize e : Value.type t = tv at ty
  cases ty with
  | base b =>
    cases b with
    | non => exact .base .non
    | bl y => exact .base (.bl y)
    | int i => exact .base (.int i)
    | str y => exact .base (.str y)
    | flt y => exact .base (.flt y)
    | lst q => exact .base (.lst (s _ _ q))
    | frz q => exact .base (.frz (s _ _ q))
    | tup q => exact .base (.tup (s _ _ q))
    | dK q => exact .base (.dK (s _ _ q))
    | dT q => exact .base (.dT (s _ _ q))
    | ins _ _ _ _ _ _ => cases e
  | byt y => exact .byt y
  | set q => exact .set (s _ _ q)
  | kList q c => exact .kList q c
  | kTuple q c => exact .kTuple q c
  | kDict q c => exact .kDict q c
  | fTuple q => exact .fTuple (s _ _ q)
  | fDict q => exact .fDict (s _ _ q)
end
end VQ
namespace VQ
open PySem L2 LamX
abbrev sSame : Stmt := top 23
section
variable {P : Program} {w : World} {K : PySem.W.Frag} {mg : Str → Option Value} {base : Heap}
theorem scSame : FnScope ["_law_found", "_law_due", "_law_at"] ["_law_found", "_law_due"] (defScope sSame) := ⟨rfl, rfl, rfl, by decide +kernel, rfl, by decide +kernel, by decide +kernel⟩
def anyIS (t : String) : Bool := t == "int" || t == "str" || t == "bool"
theorem rd_isiT {σ : L2.St} {H : Hp} {Q : VK} {i : Nat} {x : V} {t : String} {b : Bool} (hx : σ[i]? = some (some x)) (ty : TyX K H x (.type t)) (m : t ∈ basics) (kb : PySem.W.kitAny K (.type t) [.type "int", .type "str"] = some b) (h : ∀ H', Same H H' → Q (.bl b) H') :
    tCB (rIsiT K) (tCons (tVar i) (tCons (tTup (tCons (tC (.ty "int")) (tCons (tC (.ty "str")) tNil))) tNil)) σ H Q :=
  ⟨x, hx, (by show 2 ≤ sizeLine; decide), fun p hp => ⟨x, p, _, _, _, b, rfl, upd_same, .cons (.ty "int") (.cons (.ty "str") .nil), TyX.basic_same (same_new hp) ty m, kb, h _ (same_new hp)⟩⟩
theorem kIS {t : String} {b b' : Bool} (h1 : kitB t "int" = some b) (h2 : kitB t "str" = some b') : PySem.W.kitAny K (.type t) [.type "int", .type "str"] = some (b || b') := by
  refine kitAny_cons (kit_ty h1) (fun e => ?_) (fun e => by rw [e]; rfl)
  subst e
  refine kitAny_cons (kit_ty h2) (fun e => ?_) (fun e => by rw [e]; rfl)
  subst e
  rfl
/-- the scalars' three clauses: from the first to the third -/
theorem ok_same0 {f : Addr} {fd : FuncData} (F : Fun K "_law_same" "_law_same" sSame f fd) (b : Blt mg) : FnOk P w K mg base CX0 1 f fd ["_law_found", "_law_due"] (spSame 0) := by
  refine F.ok scSame (fun vs H Q E h => ?_) (fun cdv A outer s H vs Q E hr h => ?_)
  · obtain ⟨x, y, rfl, _⟩ := h
    rfl
  · obtain ⟨x, y, rfl, al, k⟩ := h
    refine ⟨_, pss_cons (ps_if (pt_cmp (pc_isN (pv 1))) (pss_one (ps_ret (pe_cmp (pc_isN (pv 0))))) pss_nil)
      (pss_cons (ps_if (PW.pt (pw_or (pt_val (pe_isi (pv 1) rfl b.isi rfl b.bool (c := "bool") (by decide +kernel))) (pw_or1 (pt_val (pe_isi (pv 0) rfl b.isi rfl b.bool (c := "bool") (by decide +kernel))))))
        (pss_one (ps_ret (pe_and (pe_isi (pv 1) rfl b.isi rfl b.bool (c := "bool") (by decide +kernel)) (pe_and (pe_isi (pv 0) rfl b.isi rfl b.bool (c := "bool") (by decide +kernel)) (pe_one (pe_cmpR op_eq (pv 0) (pv 1) (nomark _))))))) pss_nil)
      (pss_cons (ps_if (pt_val (pe_isiT (pv 1) rfl b.isi rfl b.int rfl b.str))
        (pss_one (ps_ret (pe_and (pe_cmpR op_eq (pe_isi (pv 0) rfl b.isi rfl b.int (c := "int") (by decide +kernel)) (pe_isi (pv 1) rfl b.isi rfl b.int (c := "int") (by decide +kernel)) (nomark _)) (pe_and (pe_isiT (pv 0) rfl b.isi rfl b.int rfl b.str) (pe_one (pe_cmpR op_eq (pv 0) (pv 1) (nomark _))))))) pss_nil)
      pss_never)), ?_⟩
    cases al with
    | non => exact ⟨_, rfl, _, rfl, iteT ⟨_, rfl, k H (Same.refl H)⟩⟩
    | bl _ c =>
      refine ⟨_, rfl, _, rfl, iteF ?_⟩
      refine rd_isi rfl (.base (.bl c)) (b := true) (by decide +kernel) ⟨_, rfl, iteT ?_⟩
      refine rd_isi rfl (.base (.bl c)) (b := true) (by decide +kernel) ⟨_, rfl, iteT ?_⟩
      refine rd_isi rfl (.base (.bl c)) (b := true) (by decide +kernel) ⟨_, rfl, iteT ?_⟩
      refine ⟨_, rfl, _, rfl, rfl, ?_⟩
      rw [decide_eq_true rfl]
      exact k H (Same.refl H)
    | int _ i =>
      refine ⟨_, rfl, _, rfl, iteF ?_⟩
      refine rd_isi rfl (.base (.int i)) (b := false) (by decide +kernel) ⟨_, rfl, iteF ?_⟩
      refine rd_isi rfl (.base (.int i)) (b := false) (by decide +kernel) ⟨_, rfl, iteF ?_⟩
      refine rd_isiT rfl (.base (.int i)) (by decide) (kIS (b := true) (b' := false) (by decide +kernel) (by decide +kernel)) fun H1 s1 => ⟨_, rfl, iteT ?_⟩
      refine rd_isi rfl (.base (.int i)) (b := true) (by decide +kernel) ?_
      refine rd_isi rfl (.base (.int i)) (b := true) (by decide +kernel) ⟨rfl, _, rfl, iteT ?_⟩
      refine rd_isiT rfl (.base (.int i)) (by decide) (kIS (b := true) (b' := false) (by decide +kernel) (by decide +kernel)) fun H2 s2 => ⟨_, rfl, iteT ?_⟩
      refine ⟨_, rfl, _, rfl, rfl, ?_⟩
      rw [decide_eq_true rfl]
      exact k H2 (s1.trans s2)
    | str _ z =>
      refine ⟨_, rfl, _, rfl, iteF ?_⟩
      refine rd_isi rfl (.base (.str z)) (b := false) (by decide +kernel) ⟨_, rfl, iteF ?_⟩
      refine rd_isi rfl (.base (.str z)) (b := false) (by decide +kernel) ⟨_, rfl, iteF ?_⟩
      refine rd_isiT rfl (.base (.str z)) (by decide) (kIS (b := false) (b' := true) (by decide +kernel) (by decide +kernel)) fun H1 s1 => ⟨_, rfl, iteT ?_⟩
      refine rd_isi rfl (.base (.str z)) (b := false) (by decide +kernel) ?_
      refine rd_isi rfl (.base (.str z)) (b := false) (by decide +kernel) ⟨rfl, _, rfl, iteT ?_⟩
      refine rd_isiT rfl (.base (.str z)) (by decide) (kIS (b := false) (b' := true) (by decide +kernel) (by decide +kernel)) fun H2 s2 => ⟨_, rfl, iteT ?_⟩
      refine ⟨_, rfl, _, rfl, rfl, ?_⟩
      rw [decide_eq_true rfl]
      exact k H2 (s1.trans s2)
theorem ok_sameS {f : Addr} {fd : FuncData} {n lv : Nat} (A1 : At K mg "_law_same" sSame ["_law_found", "_law_due"] f fd) (b : Blt mg) (G : FnOk P w K mg base CX0 lv f fd ["_law_found", "_law_due"] (spSame n)) : FnOk P w K mg base CX0 (lv + 1) f fd ["_law_found", "_law_due"] (spSame (n + 1)) := by
  have F := A1.fn
  refine F.ok scSame (fun vs H Q E h => ?_) (fun cdv A outer s H vs Q E hr h => ?_)
  · obtain ⟨x, y, rfl, _⟩ := h
    rfl
  · obtain ⟨x, y, rfl, al, k⟩ := h
    refine ⟨_, pss_cons (ps_if (pt_cmp (pc_isN (pv 1))) (pss_one (ps_ret (pe_cmp (pc_isN (pv 0))))) pss_nil)
      (pss_cons (ps_if (PW.pt (pw_or (pt_val (pe_isi (pv 1) rfl b.isi rfl b.bool (c := "bool") (by decide +kernel))) (pw_or1 (pt_val (pe_isi (pv 0) rfl b.isi rfl b.bool (c := "bool") (by decide +kernel))))))
        (pss_one (ps_ret (pe_and (pe_isi (pv 1) rfl b.isi rfl b.bool (c := "bool") (by decide +kernel)) (pe_and (pe_isi (pv 0) rfl b.isi rfl b.bool (c := "bool") (by decide +kernel)) (pe_one (pe_cmpR op_eq (pv 0) (pv 1) (nomark _))))))) pss_nil)
      (pss_cons (ps_if (pt_val (pe_isiT (pv 1) rfl b.isi rfl b.int rfl b.str))
        (pss_one (ps_ret (pe_and (pe_cmpR op_eq (pe_isi (pv 0) rfl b.isi rfl b.int (c := "int") (by decide +kernel)) (pe_isi (pv 1) rfl b.isi rfl b.int (c := "int") (by decide +kernel)) (nomark _)) (pe_and (pe_isiT (pv 0) rfl b.isi rfl b.int rfl b.str) (pe_one (pe_cmpR op_eq (pv 0) (pv 1) (nomark _))))))) pss_nil)
      (pss_cons (ps_if (PW.pt (pw_or (pt_cmpR op_ne (pe_isi (pv 0) rfl b.isi rfl b.list (c := "list") (by decide +kernel)) (pe_isi (pv 1) rfl b.isi rfl b.list (c := "list") (by decide +kernel)) (nomark _))
          (pw_or1 (pt_cmpR op_ne (pe_isi (pv 0) rfl b.isi rfl b.tuple (c := "tuple") (by decide +kernel)) (pe_isi (pv 1) rfl b.isi rfl b.tuple (c := "tuple") (by decide +kernel)) (nomark _)))))
        (pss_one (ps_ret pe_bl)) pss_nil)
      (pss_one (ps_ret (pe_and (pe_cmpR op_eq (pe_callB call_len_seq (by rfl) b.len PySem.boot_len (pa_cons (pv 0) pa_nil)) (pe_callB call_len_seq (by rfl) b.len PySem.boot_len (pa_cons (pv 1) pa_nil)) (nomark _))
        (pe_one (pe_callB (cr_all rfl) (by rfl) b.all (by decide +kernel) (pa_cons
          (pe_lc (own := [("_law_at", 2)]) (g := gName 2) (tt := tYes) (te := tCall (spSame n) [] E0 (tCons (tOp (rIx K) (tVar 0) (tVar 2)) (tCons (tOp (rIx K) (tVar 1) (tVar 2)) tNil))) rfl scSame.nd (pi_range1 rfl b.range (pa_cons (pe_callB call_len_seq (by rfl) b.len PySem.boot_len (pa_cons (pv 1) pa_nil)) pa_nil))
            (blkOk_by (N := ["_law_found", "_law_due", "_law_at"]) (sc := defScope sSame) (by decide +kernel)) (fun _ _ _ _ _ => pg_name (i := 2) scSame.nd rfl (.inl rfl)) (fun _ _ _ _ _ => pts_nil)
            (fun _ _ _ _ _ => pe_call G hr rfl A1.gl A1.fn.kp A1.bd .nil pass0 (pa_cons (pe_ix ix_seq (pv 0) (pv 2) fun _ _ => rfl) (pa_cons (pe_ix ix_seq (pv 1) (pv 2) fun _ _ => rfl) pa_nil)))) pa_nil)))))))))
      , ?_⟩
    cases al with
    | non => exact ⟨_, rfl, _, rfl, iteT ⟨_, rfl, k H (Same.refl H)⟩⟩
    | bl _ c =>
      refine ⟨_, rfl, _, rfl, iteF ?_⟩
      refine rd_isi rfl (.base (.bl c)) (b := true) (by decide +kernel) ⟨_, rfl, iteT ?_⟩
      refine rd_isi rfl (.base (.bl c)) (b := true) (by decide +kernel) ⟨_, rfl, iteT ?_⟩
      refine rd_isi rfl (.base (.bl c)) (b := true) (by decide +kernel) ⟨_, rfl, iteT ?_⟩
      refine ⟨_, rfl, _, rfl, rfl, ?_⟩
      rw [decide_eq_true rfl]
      exact k H (Same.refl H)
    | int _ i =>
      refine ⟨_, rfl, _, rfl, iteF ?_⟩
      refine rd_isi rfl (.base (.int i)) (b := false) (by decide +kernel) ⟨_, rfl, iteF ?_⟩
      refine rd_isi rfl (.base (.int i)) (b := false) (by decide +kernel) ⟨_, rfl, iteF ?_⟩
      refine rd_isiT rfl (.base (.int i)) (by decide) (kIS (b := true) (b' := false) (by decide +kernel) (by decide +kernel)) fun H1 s1 => ⟨_, rfl, iteT ?_⟩
      refine rd_isi rfl (.base (.int i)) (b := true) (by decide +kernel) ?_
      refine rd_isi rfl (.base (.int i)) (b := true) (by decide +kernel) ⟨rfl, _, rfl, iteT ?_⟩
      refine rd_isiT rfl (.base (.int i)) (by decide) (kIS (b := true) (b' := false) (by decide +kernel) (by decide +kernel)) fun H2 s2 => ⟨_, rfl, iteT ?_⟩
      refine ⟨_, rfl, _, rfl, rfl, ?_⟩
      rw [decide_eq_true rfl]
      exact k H2 (s1.trans s2)
    | str _ z =>
      refine ⟨_, rfl, _, rfl, iteF ?_⟩
      refine rd_isi rfl (.base (.str z)) (b := false) (by decide +kernel) ⟨_, rfl, iteF ?_⟩
      refine rd_isi rfl (.base (.str z)) (b := false) (by decide +kernel) ⟨_, rfl, iteF ?_⟩
      refine rd_isiT rfl (.base (.str z)) (by decide) (kIS (b := false) (b' := true) (by decide +kernel) (by decide +kernel)) fun H1 s1 => ⟨_, rfl, iteT ?_⟩
      refine rd_isi rfl (.base (.str z)) (b := false) (by decide +kernel) ?_
      refine rd_isi rfl (.base (.str z)) (b := false) (by decide +kernel) ⟨rfl, _, rfl, iteT ?_⟩
      refine rd_isiT rfl (.base (.str z)) (by decide) (kIS (b := false) (b' := true) (by decide +kernel) (by decide +kernel)) fun H2 s2 => ⟨_, rfl, iteT ?_⟩
      refine ⟨_, rfl, _, rfl, rfl, ?_⟩
      rw [decide_eq_true rfl]
      exact k H2 (s1.trans s2)
    | @lst _ a c xs ys ha hc hl hz hh =>
      have tyA : ∀ H', Same H H' → TyX K H' (.ref a) (.type "list") := fun H' s' => .base (.lst (s' _ _ ha))
      have tyC : ∀ H', Same H H' → TyX K H' (.ref c) (.type "list") := fun H' s' => .base (.lst (s' _ _ hc))
      refine ⟨_, rfl, _, rfl, iteF ?_⟩
      refine rd_isi rfl (tyC H (Same.refl H)) (b := false) (by decide +kernel) ⟨_, rfl, iteF ?_⟩
      refine rd_isi rfl (tyA H (Same.refl H)) (b := false) (by decide +kernel) ⟨_, rfl, iteF ?_⟩
      refine rd_isiT rfl (tyC H (Same.refl H)) (by decide) (kIS (b := false) (b' := false) (by decide +kernel) (by decide +kernel)) fun H1 s1 => ⟨_, rfl, iteF ?_⟩
      refine rd_isi rfl (tyA H1 s1) (b := true) (by decide +kernel) ?_
      refine rd_isi rfl (tyC H1 s1) (b := true) (by decide +kernel) ⟨rfl, _, rfl, iteF ?_⟩
      refine rd_isi rfl (tyA H1 s1) (b := false) (by decide +kernel) ?_
      refine rd_isi rfl (tyC H1 s1) (b := false) (by decide +kernel) ⟨rfl, _, rfl, iteF ?_⟩
      refine ⟨_, rfl, a, xs, rfl, .inl (SqL.of (s1 _ _ ha)), _, rfl, c, ys, rfl, .inl (SqL.of (s1 _ _ hc)), rfl, _, rfl, ?_⟩
      rw [hl, decide_eq_true rfl]
      refine iteT ?_
      refine ⟨_, rfl, c, ys, rfl, .inl (SqL.of (s1 _ _ hc)), (ys.length : Int), rfl, by omega, by omega, fun D hD => ?_⟩
      rw [Int.toNat_natCast]
      refine lc_range (lo := 0) (n := ys.length) (fun i H' => Same H1 H' ∧ H' D = some (.lst ((List.replicate i true).map V.bl))) ⟨same_new hD, upd_same⟩ ?_ ?_
      · rintro i H2 hi ⟨s2, h2⟩
        refine ⟨rfl, ?_⟩
        refine iteT (B := Same H1 H2 ∧ H2 D = some (HO.lst ((List.replicate (i + 1) true).map V.bl))) ?_
        have hx : xs[i]? = some (xs[i]'(by omega)) := List.getElem?_eq_getElem _
        have hy : ys[i]? = some (ys[i]'hi) := List.getElem?_eq_getElem _
        have e00 : (0 : Int) + (i : Int) = (i : Int) := Int.zero_add _
        refine ⟨_, rfl, _, rfl, .inl ⟨a, xs, _, _, rfl, rfl, SqL.of (s2 _ _ (s1 _ _ ha)), (by rw [e00]; exact atI_nat hx), ?_⟩⟩
        refine ⟨_, rfl, _, rfl, .inl ⟨c, ys, _, _, rfl, rfl, SqL.of (s2 _ _ (s1 _ _ hc)), (by rw [e00]; exact atI_nat hy), ?_⟩⟩
        refine ⟨_, _, rfl, (hh i _ _ hx hy).same (s1.trans s2), fun H3 s3 => ?_⟩
        refine ⟨_, s3 _ _ h2, ?_, ?_, ?_⟩
        · rw [List.length_map, List.length_replicate]
          exact Nat.lt_of_lt_of_le (by omega : i < 1001) (by decide)
        · intro q o e
          have nq : q ≠ D := fun z => by
            rw [z, hD] at e
            cases e
          rw [upd_ne nq]
          exact s3 _ _ (s2 _ _ e)
        · rw [upd_same, List.replicate_succ', List.map_append]
          rfl
      · rintro H2 ⟨s2, h2⟩
        refine ⟨D, _, rfl, SqL.of h2, ?_⟩
        rw [show (List.replicate ys.length true).all id = true by simp]
        exact k H2 (s1.trans s2)
    | @tup _ a c xs ys ha hc hl hz hh =>
      have tyA : ∀ H', Same H H' → TyX K H' (.ref a) (.type "tuple") := fun H' s' => .base (.tup (s' _ _ ha))
      have tyC : ∀ H', Same H H' → TyX K H' (.ref c) (.type "tuple") := fun H' s' => .base (.tup (s' _ _ hc))
      refine ⟨_, rfl, _, rfl, iteF ?_⟩
      refine rd_isi rfl (tyC H (Same.refl H)) (b := false) (by decide +kernel) ⟨_, rfl, iteF ?_⟩
      refine rd_isi rfl (tyA H (Same.refl H)) (b := false) (by decide +kernel) ⟨_, rfl, iteF ?_⟩
      refine rd_isiT rfl (tyC H (Same.refl H)) (by decide) (kIS (b := false) (b' := false) (by decide +kernel) (by decide +kernel)) fun H1 s1 => ⟨_, rfl, iteF ?_⟩
      refine rd_isi rfl (tyA H1 s1) (b := false) (by decide +kernel) ?_
      refine rd_isi rfl (tyC H1 s1) (b := false) (by decide +kernel) ⟨rfl, _, rfl, iteF ?_⟩
      refine rd_isi rfl (tyA H1 s1) (b := true) (by decide +kernel) ?_
      refine rd_isi rfl (tyC H1 s1) (b := true) (by decide +kernel) ⟨rfl, _, rfl, iteF ?_⟩
      refine ⟨_, rfl, a, xs, rfl, .inr (SqT.of (s1 _ _ ha)), _, rfl, c, ys, rfl, .inr (SqT.of (s1 _ _ hc)), rfl, _, rfl, ?_⟩
      rw [hl, decide_eq_true rfl]
      refine iteT ?_
      refine ⟨_, rfl, c, ys, rfl, .inr (SqT.of (s1 _ _ hc)), (ys.length : Int), rfl, by omega, by omega, fun D hD => ?_⟩
      rw [Int.toNat_natCast]
      refine lc_range (lo := 0) (n := ys.length) (fun i H' => Same H1 H' ∧ H' D = some (.lst ((List.replicate i true).map V.bl))) ⟨same_new hD, upd_same⟩ ?_ ?_
      · rintro i H2 hi ⟨s2, h2⟩
        refine ⟨rfl, ?_⟩
        refine iteT (B := Same H1 H2 ∧ H2 D = some (HO.lst ((List.replicate (i + 1) true).map V.bl))) ?_
        have hx : xs[i]? = some (xs[i]'(by omega)) := List.getElem?_eq_getElem _
        have hy : ys[i]? = some (ys[i]'hi) := List.getElem?_eq_getElem _
        have e00 : (0 : Int) + (i : Int) = (i : Int) := Int.zero_add _
        refine ⟨_, rfl, _, rfl, .inr (.inl ⟨a, xs, _, _, rfl, rfl, SqT.of (s2 _ _ (s1 _ _ ha)), (by rw [e00]; exact atI_nat hx), ?_⟩)⟩
        refine ⟨_, rfl, _, rfl, .inr (.inl ⟨c, ys, _, _, rfl, rfl, SqT.of (s2 _ _ (s1 _ _ hc)), (by rw [e00]; exact atI_nat hy), ?_⟩)⟩
        refine ⟨_, _, rfl, (hh i _ _ hx hy).same (s1.trans s2), fun H3 s3 => ?_⟩
        refine ⟨_, s3 _ _ h2, ?_, ?_, ?_⟩
        · rw [List.length_map, List.length_replicate]
          exact Nat.lt_of_lt_of_le (by omega : i < 1001) (by decide)
        · intro q o e
          have nq : q ≠ D := fun z => by
            rw [z, hD] at e
            cases e
          rw [upd_ne nq]
          exact s3 _ _ (s2 _ _ e)
        · rw [upd_same, List.replicate_succ', List.map_append]
          rfl
      · rintro H2 ⟨s2, h2⟩
        refine ⟨D, _, rfl, SqL.of h2, ?_⟩
        rw [show (List.replicate ys.length true).all id = true by simp]
        exact k H2 (s1.trans s2)
/-- to any depth -/
theorem ok_same {f : Addr} {fd : FuncData} (A1 : At K mg "_law_same" sSame ["_law_found", "_law_due"] f fd) (b : Blt mg) : ∀ n : Nat, FnOk P w K mg base CX0 (n + 1) f fd ["_law_found", "_law_due"] (spSame n)
  | 0 => ok_same0 A1.fn b
  | n + 1 => ok_sameS A1 b (ok_same A1 b n)
end
end VQ
namespace VQ
open PySem L2 LamX
/-! ### walks over a text -/
theorem lc_text {z : Str} {g : TG} {tt : TT} {te : TE} {vs : List Nat} {σ : L2.St} {H1 : Hp} {D : Addr} {Qd : Hp → Prop} (Pv : Nat → Hp → Prop) (h0 : Pv 0 (upd H1 D (.lst [])))
    (turn : ∀ (i c : Nat) (H : Hp), z.cps[i]? = some c → Pv i H → g (.str ⟨#[c]⟩) (wipe σ vs) H fun σ2 H2 => wipe σ2 vs = wipe σ vs ∧ tt σ2 H2 fun b H3 => if b = true then te σ2 H3 fun y H4 => ∃ acc, H4 D = some (.lst acc) ∧ acc.length < sizeLine ∧ Pv (i + 1) (upd H4 D (.lst (acc ++ [y]))) else Pv (i + 1) H3)
    (fin : ∀ H, Pv z.cps.size H → Qd H) :
    ∃ W : Nat → Nat → Hp → Prop, (∃ m, W 0 m (upd H1 D (.lst []))) ∧ ∀ i m H, W i m H → ((Its z).stop i H ∧ Qd H) ∨ ((Its z).go i H ∧ ∃ Nx : Hp → Prop, (∀ H', Nx H' → ∃ m', m' < m ∧ W (i + 1) m' H') ∧
      ∀ x H', (Its z).yld i H x H' → g x (wipe σ vs) H' fun σ2 H2 => wipe σ2 vs = wipe σ vs ∧ tt σ2 H2 fun b H3 => if b = true then te σ2 H3 fun y H4 => ∃ acc, H4 D = some (.lst acc) ∧ acc.length < sizeLine ∧ Nx (upd H4 D (.lst (acc ++ [y]))) else Nx H3) := by
  refine ⟨fun i m H => m + i = z.cps.size ∧ Pv i H, ⟨z.cps.size, by simp, h0⟩, ?_⟩
  rintro i m H ⟨em, p⟩
  by_cases lt : i < z.cps.size
  · refine .inr ⟨lt, Pv (i + 1), fun H' p' => ⟨m - 1, by omega, by omega, p'⟩, ?_⟩
    rintro x H' ⟨rfl, c, ec, rfl⟩
    exact turn i c H' ec p
  · have e : i = z.cps.size := by omega
    subst e
    exact .inl ⟨Nat.le_refl _, fin H p⟩
theorem for_text {z : Str} {g : TG} {tb : TS} {D : Ends} {σ : L2.St} {H : Hp} (Pv : Nat → L2.St → Hp → Prop) (h0 : Pv 0 σ H)
    (turn : ∀ (i c : Nat) σ H, z.cps[i]? = some c → Pv i σ H → g (.str ⟨#[c]⟩) σ H fun σ2 H2 => tb { D with nx := Pv (i + 1), ct := Pv (i + 1), bk := D.nx } σ2 H2) (fin : ∀ σ H, Pv z.cps.size σ H → D.nx σ H) :
    ∃ W : Nat → Nat → L2.St → Hp → Prop, (∃ m, W 0 m σ H) ∧ ∀ i m σ H, W i m σ H → ((Its z).stop i H ∧ D.nx σ H) ∨ ((Its z).go i H ∧ ∃ Nx : L2.St → Hp → Prop, (∀ σ' H', Nx σ' H' → ∃ m', m' < m ∧ W (i + 1) m' σ' H') ∧
      ∀ x H', (Its z).yld i H x H' → g x σ H' fun σ2 H2 => tb { D with nx := Nx, ct := Nx, bk := D.nx } σ2 H2) := by
  refine ⟨fun i m σ H => m + i = z.cps.size ∧ Pv i σ H, ⟨z.cps.size, by simp, h0⟩, ?_⟩
  rintro i m σ H ⟨em, p⟩
  by_cases lt : i < z.cps.size
  · refine .inr ⟨lt, Pv (i + 1), fun σ' H' p' => ⟨m - 1, by omega, by omega, p'⟩, ?_⟩
    rintro x H' ⟨rfl, c, ec, rfl⟩
    exact turn i c σ H' ec p
  · have e : i = z.cps.size := by omega
    subst e
    exact .inl ⟨Nat.le_refl _, fin σ H p⟩
/-! ### beginnings: the sixty-three of them -/
def tk (z : Str) (k : Nat) : Str := ⟨(z.cps.toList.take k).toArray⟩
def begs : List Str := (List.range 6).flatMap fun k => (List.range (2 ^ k)).map fun j => tk (fig (j * 2 ^ (5 - k))) k
theorem tk_in : ∀ w, w < 32 → ∀ k, k < 6 → tk (fig w) k ∈ begs := by decide +kernel
def signB (c : Nat) : Bool := decide (c ∈ [48, 49])
def begB : V → Bool
  | .str z => decide (z.length ≤ 5) && z.cps.toList.all signB
  | _ => false
theorem begs_yes : ∀ z ∈ begs, begB (.str z) = true := by decide +kernel
theorem begs_len : ∀ z ∈ begs, z.length ≤ 5 := by decide +kernel
abbrev calledAs (nm : Str) : HO := .xd [(("called" : Str), .str nm)]
/-- a comprehension without a test -/
theorem yes_turn {σ : L2.St} {H : Hp} {A B : Hp → Prop} (h : A H) : tYes σ H fun b H3 => if b = true then A H3 else B H3 := by
  show if true = true then A H else B H
  rw [if_pos rfl]
  exact h
end VQ
namespace VQ
open PySem L2 LamX
abbrev sIsBeg : Stmt := top 15
section
variable {P : Program} {w : World} {K : PySem.W.Frag} {mg : Str → Option Value} {base : Heap}
/-- a text is no longer than can be read -/
def Short : V → Prop
  | .str z => z.length ≤ 1000
  | _ => True
def spIsBeg (K : PySem.W.Frag) : Sp := fun vs H Q _ => ∃ (x : V) (t : String), vs = [x] ∧ TyX K H x (.type t) ∧ t ∈ basics ∧ Short x ∧ ∀ H', Same H H' → Q (.bl (begB x)) H'
theorem scIsBeg : FnScope ["thing", "sign"] ["thing"] (defScope sIsBeg) := ⟨rfl, rfl, rfl, by decide +kernel, rfl, by decide +kernel, by decide +kernel⟩
theorem ok_isbeg {f : Addr} {fd : FuncData} {tk5 : Tok} (F : Fun K "is_beginning" "is_beginning" sIsBeg f fd) (b : Blt mg) (Fg : mg "FIGURES" = some (.int 5 tk5)) : FnOk P w K mg base CX0 1 f fd ["thing"] (spIsBeg K) := by
  refine F.ok scIsBeg (fun vs H Q E h => ?_) (fun cdv A outer s H vs Q E hr h => ?_)
  · obtain ⟨x, t, rfl, _⟩ := h
    rfl
  · obtain ⟨x, t, rfl, ty, m, sh, k⟩ := h
    refine ⟨_, pss_one (ps_ret (pe_and (pe_isi (pv 0) rfl b.isi rfl b.str (c := "str") (by decide +kernel))
      (pe_and (pe_cmpR op_le (pe_callB call_len_str (by rfl) b.len PySem.boot_len (pa_cons (pv 0) pa_nil)) (pe_glob (v := .int 5) rfl Fg ⟨_, rfl⟩) (nomark _))
      (pe_one (pe_callB (cr_all rfl) (by rfl) b.all (by decide +kernel) (pa_cons
        (pe_lc (own := [("sign", 1)]) (g := gName 1) (tt := tYes) (te := tOp (fun x y H Q => ∃ (c : Nat) (z : Str), x = .str ⟨#[c]⟩ ∧ y = .str z ∧ Q (.bl (decide (c ∈ z.cps.toList))) H) (tVar 1) (tC (.str "01"))) rfl scIsBeg.nd (pi_str (pv 0))
          (blkOk_by (N := ["thing", "sign"]) (sc := defScope sIsBeg) (by decide +kernel)) (fun _ _ _ _ _ => pg_name (i := 1) scIsBeg.nd rfl (.inl rfl)) (fun _ _ _ _ _ => pts_nil)
          (fun _ _ _ _ _ => pe_cmpR op_in_sign (pv 1) pe_str rfl)) pa_nil)))))), ?_⟩
    rcases basic_cases ty m with ⟨rfl, rfl⟩ | ⟨c, rfl, rfl⟩ | ⟨i, rfl, rfl⟩ | ⟨z, rfl, rfl⟩ | ⟨a, rfl, rfl | rfl⟩
    · exact rd_isi rfl ty (b := false) (by decide +kernel) ⟨_, rfl, iteF (k H (Same.refl H))⟩
    · exact rd_isi rfl ty (b := false) (by decide +kernel) ⟨_, rfl, iteF (k H (Same.refl H))⟩
    · exact rd_isi rfl ty (b := false) (by decide +kernel) ⟨_, rfl, iteF (k H (Same.refl H))⟩
    · have sh' : z.length ≤ 1000 := sh
      refine rd_isi rfl ty (b := true) (by decide +kernel) ⟨_, rfl, iteT ?_⟩
      refine ⟨_, rfl, z, rfl, Nat.le_trans sh' (by decide), (z.length : Int), 5, rfl, rfl, _, rfl, ?_⟩
      by_cases le : z.length ≤ 5
      · rw [if_pos (decide_eq_true (show (z.length : Int) ≤ 5 by omega))]
        have e : begB (.str z) = z.cps.toList.all signB := by
          show (decide (z.length ≤ 5) && z.cps.toList.all signB) = _
          rw [decide_eq_true le, Bool.true_and]
        rw [e] at k
        refine ⟨_, rfl, z, rfl, fun D hD => ?_⟩
        refine lc_text (fun i H' => Same H H' ∧ H' D = some (.lst (((z.cps.toList.take i).map signB).map V.bl))) ⟨same_new hD, upd_same⟩ ?_ ?_
        · rintro i c H2 hc ⟨s2, h2⟩
          have hi : i < z.cps.size := (Array.getElem?_eq_some_iff.mp hc).1
          refine ⟨rfl, ?_⟩
          refine iteT (B := Same H H2 ∧ H2 D = some (.lst (((z.cps.toList.take (i + 1)).map signB).map V.bl))) ?_
          refine ⟨_, rfl, c, "01", rfl, rfl, _, h2, ?_, ?_, ?_⟩
          · rw [List.length_map, List.length_map, List.length_take]
            exact Nat.lt_of_le_of_lt (Nat.min_le_left _ _) (Nat.lt_of_lt_of_le (show i < 1001 by have : z.cps.size = z.length := rfl; omega) (by decide))
          · intro q o z'
            have nq : q ≠ D := fun y => by
              rw [y, hD] at z'
              cases z'
            rw [upd_ne nq]
            exact s2 _ _ z'
          · rw [upd_same, List.take_add_one, show z.cps.toList[i]? = some c by rw [Array.getElem?_toList]; exact hc, List.map_append, List.map_append]
            rfl
        · rintro H2 ⟨s2, h2⟩
          refine ⟨D, _, rfl, SqL.of h2, ?_⟩
          have e2 : ((z.cps.toList.take z.cps.size).map signB).all id = z.cps.toList.all signB := by
            rw [List.take_of_length_le (by simp), List.all_map]
            rfl
          rw [e2]
          exact k H2 s2
      · rw [if_neg (by simpa using (show ¬ (z.length : Int) ≤ 5 by omega))]
        have e : begB (.str z) = false := by
          show (decide (z.length ≤ 5) && _) = false
          rw [decide_eq_false le, Bool.false_and]
        rw [e] at k
        exact k H (Same.refl H)
    · exact rd_isi rfl ty (b := false) (by decide +kernel) ⟨_, rfl, iteF (k H (Same.refl H))⟩
    · exact rd_isi rfl ty (b := false) (by decide +kernel) ⟨_, rfl, iteF (k H (Same.refl H))⟩
end
end VQ
namespace VQ
open PySem L2 LamX
abbrev sNeedBeg : Stmt := top 16
abbrev sBadBeg : Stmt := inClass (top 2) 0
theorem scBadBeg : FnScope ["self"] ["self"] (defScope sBadBeg) := ⟨rfl, rfl, rfl, by decide +kernel, rfl, by decide +kernel, by decide +kernel⟩
section
variable {P : Program} {w : World} {K : PySem.W.Frag} {mg : Str → Option Value} {base : Heap}
/-- it is let by, or refused -/
def spNeed (K : PySem.W.Frag) (ok : V → Bool) (C : Addr) (nm : Str) : Sp := fun vs H Q E => ∃ (x : V) (t : String), vs = [x] ∧ TyX K H x (.type t) ∧ t ∈ basics ∧ Short x ∧
  (ok x = true → ∀ H', Same H H' → Q .non H') ∧ (ok x = false → ∀ H' d, Same H H' → H' d = none → E (.ref C) (some d) (upd H' d (calledAs nm)))
theorem scNeedBeg : FnScope ["beginning"] ["beginning"] (defScope sNeedBeg) := ⟨rfl, rfl, rfl, by decide +kernel, rfl, by decide +kernel, by decide +kernel⟩
theorem ok_needbeg {f fB C fI : Addr} {fd fdB fdI : FuncData} {tk5 : Tok} (F : Fun K "need_beginning" "need_beginning" sNeedBeg f fd) (b : Blt mg) (Fg : mg "FIGURES" = some (.int 5 tk5)) (aB : At K mg "is_beginning" sIsBeg ["thing"] fB fdB)
    (Er : ErrC K mg "BadBeginning" C fI fdI "BadBeginning.__init__" sBadBeg) : FnOk P w K mg base (L2.CX P w) 3 f fd ["beginning"] (spNeed K begB C "BadBeginning") := by
  have GB : FnOk P w K mg base CX0 1 fB fdB ["thing"] (spIsBeg K) := ok_isbeg aB.fn b Fg
  have GI : FnOk P w K mg base CX0 1 fI fdI ["self"] (spErr K C "BadBeginning") := ok_err Er scBadBeg (.inl rfl) rfl
  refine F.okX scNeedBeg (fun vs H Q E h => ?_) (fun cdv A outer s H vs Q E hr h => ?_)
  · obtain ⟨x, t, rfl, _⟩ := h
    rfl
  · obtain ⟨x, t, rfl, ty, m, sh, k1, k2⟩ := h
    have hr1 : Room 1 _ := hr.mono (by decide)
    refine ⟨_, pss_one (ps_if (pt_not (pt_val (pe_call GB hr1 rfl aB.gl aB.fn.kp aB.bd .nil pass0 (pa_cons (pv 0) pa_nil))))
        (pss_one (ps_raise rfl (takes_of rfl rfl rfl rfl) (pmk_oex0 Er.ox Er.it Er.ty GI hr Er.bd pass0 rfl Er.gl))) pss_nil), ?_⟩
    refine ⟨_, rfl, x, t, rfl, ty, m, sh, fun H1 s1 => ⟨_, rfl, ?_⟩⟩
    cases e : begB x with
    | false => exact raise_plain (σ := []) fun d hd => k2 e H1 d s1 hd
    | true => exact k1 e H1 s1
end
end VQ
namespace VQ
open PySem L2 LamX
def lastC (z : Str) : Nat := z.cps.toList.getLastD 0
def dropL (z : Str) : Str := ⟨z.cps.toList.dropLast.toArray⟩
def flip (c : Nat) : Str := if c = 48 then "1" else "0"
def bro (z : Str) : Str := dropL z ++ flip (lastC z)
theorem bro_cut : ∀ z ∈ begs, z ≠ ("" : Str) → atI z.cps.toList (-1) = some (lastC z) ∧ cutS z none (some (-1)) = dropL z ∧ (dropL z).length ≤ 5 ∧ (lastC z = 48 ∨ lastC z = 49) := by decide +kernel
theorem bro_in : ∀ z ∈ begs, z ≠ ("" : Str) → bro z ∈ begs ∧ bro z ≠ ("" : Str) ∧ bro (bro z) = z := by decide +kernel
theorem cut_to (z : Str) (k : Nat) : cutS z none (some (k : Int)) = tk z k := by
  unfold cutS tk
  rw [HT.sIx_none, HT.sIx_nat, List.drop_zero, Nat.sub_zero, show z.length = z.cps.toList.length by simp [Str.length]]
  by_cases le : k ≤ z.cps.toList.length
  · rw [Nat.min_eq_left le]
  · have le' : z.cps.toList.length ≤ k := by omega
    rw [Nat.min_eq_right le', List.take_of_length_le (Nat.le_refl _), List.take_of_length_le le']
end VQ
namespace VQ
open PySem L2 LamX
abbrev sBrother : Stmt := top 18
section
variable {P : Program} {w : World} {K : PySem.W.Frag} {mg : Str → Option Value} {base : Heap}
def spBrother (K : PySem.W.Frag) (C : Addr) : Sp := fun vs H Q E => ∃ (x : V) (t : String), vs = [x] ∧ TyX K H x (.type t) ∧ t ∈ basics ∧ Short x ∧
  (∀ z : Str, x = .str z → z ∈ begs → z ≠ ("" : Str) → ∀ H', Same H H' → Q (.str (bro z)) H') ∧ ((x = .str "" ∨ begB x = false) → ∀ H' d, Same H H' → H' d = none → E (.ref C) (some d) (upd H' d (calledAs "BadBeginning"))) ∧
  ((∃ z, x = .str z ∧ z ∈ begs) ∨ begB x = false)
theorem scBrother : FnScope ["beginning", "turned"] ["beginning"] (defScope sBrother) := ⟨rfl, rfl, rfl, by decide +kernel, rfl, by decide +kernel, by decide +kernel⟩
theorem ok_brother {f fN fB C fI : Addr} {fd fdN fdB fdI : FuncData} {tk5 : Tok} (F : Fun K "brother" "brother" sBrother f fd) (b : Blt mg) (Fg : mg "FIGURES" = some (.int 5 tk5)) (aB : At K mg "is_beginning" sIsBeg ["thing"] fB fdB) (aN : At K mg "need_beginning" sNeedBeg ["beginning"] fN fdN)
    (Er : ErrC K mg "BadBeginning" C fI fdI "BadBeginning.__init__" sBadBeg) : FnOk P w K mg base (L2.CX P w) 4 f fd ["beginning"] (spBrother K C) := by
  have GN : FnOk P w K mg base (L2.CX P w) 3 fN fdN ["beginning"] (spNeed K begB C "BadBeginning") := ok_needbeg aN.fn b Fg aB Er
  have GI : FnOk P w K mg base CX0 1 fI fdI ["self"] (spErr K C "BadBeginning") := ok_err Er scBadBeg (.inl rfl) rfl
  refine F.okX scBrother (fun vs H Q E h => ?_) (fun cdv A outer s H vs Q E hr h => ?_)
  · obtain ⟨x, t, rfl, _⟩ := h
    rfl
  · obtain ⟨x, t, rfl, ty, m, sh, k1, k2, k3⟩ := h
    have hr2 : Room 2 _ := hr.mono (by decide)
    refine ⟨_, pss_cons (ps_expr (pe_call GN hr rfl aN.gl aN.fn.kp aN.bd .nil (passes_call (takes_of rfl rfl rfl rfl) (fun _ _ _ _ h => h)) (pa_cons (pv 0) pa_nil)))
      (pss_cons (ps_if (pt_cmpR op_eq (pv 0) pe_str (nomark _)) (pss_one (ps_raise rfl (takes_of rfl rfl rfl rfl) (pmk_oex0 Er.ox Er.it Er.ty GI hr2 Er.bd pass0 rfl Er.gl))) pss_nil)
      (pss_cons (ps_set (i := 1) scBrother.nd rfl (.inl rfl) (pe_ifExp (pt_cmpR op_eq (pe_ix ix_str (pv 0) (pe_un un_neg pe_int) fun _ _ => rfl) pe_str (nomark _)) pe_str pe_str))
      (pss_one (ps_ret (pe_op op_add_str (pe_slice sl_str (pv 0) po_none (po_some (pe_un un_neg pe_int))) (pv 1)))))), ?_⟩
    refine ⟨_, rfl, x, t, rfl, ty, m, sh, fun yes H1 s1 => ?_, fun no H1 d s1 hd => k2 (.inr no) H1 d s1 hd⟩
    rcases k3 with ⟨z, rfl, hz⟩ | no
    · refine ⟨_, rfl, rfl, _, rfl, ?_⟩
      by_cases e : z = ("" : Str)
      · rw [decide_eq_true (congrArg V.str e)]
        refine iteT ?_
        exact raise_plain (σ := []) fun d hd => k2 (.inl (congrArg V.str e)) H1 d s1 hd
      · rw [decide_eq_false (fun q => e (V.str.inj q))]
        refine iteF ?_
        obtain ⟨c1, c2, c3, c4⟩ := bro_cut z hz e
        have lz : z.length ≤ sizeLine := Nat.le_trans (begs_len z hz) (by decide)
        have key : ∀ u : Str, u = flip (lastC z) → u.length = 1 → Q (.str (cutS z none (some (-1)) ++ u)) H1 := fun u eu _ => by
          rw [c2, eu]
          exact k1 z rfl hz e H1 s1
        have fin : ∀ u : Str, u = flip (lastC z) → u.length = 1 → ((cutS z none (some (-1))).length + u.length ≤ sizeLine) := fun u _ el => by
          rw [c2, el]
          exact Nat.le_trans (by omega : (dropL z).length + 1 ≤ 6) (by decide)
        refine ⟨_, rfl, 1, rfl, z, -1, lastC z, rfl, rfl, lz, c1, rfl, _, rfl, ?_⟩
        by_cases el : lastC z = 48
        · rw [el, show decide (V.str ⟨#[48]⟩ = V.str "0") = true by decide +kernel]
          have ef : ("1" : Str) = flip (lastC z) := by rw [el]; rfl
          exact iteT ⟨_, rfl, 1, rfl, _, rfl, z, rfl, lz, _, rfl, _, _, rfl, rfl, fin _ ef (by decide +kernel), key _ ef (by decide +kernel)⟩
        · have el' : lastC z = 49 := by omega
          rw [el', show decide (V.str ⟨#[49]⟩ = V.str "0") = false by decide +kernel]
          have ef : ("0" : Str) = flip (lastC z) := by rw [el']; rfl
          exact iteF ⟨_, rfl, 1, rfl, _, rfl, z, rfl, lz, _, rfl, _, _, rfl, rfl, fin _ ef (by decide +kernel), key _ ef (by decide +kernel)⟩
    · rw [no] at yes
      cases yes
end
end VQ
namespace VQ
open PySem L2 LamX
abbrev sSpan : Stmt := top 17
def spanT (r : Int × Int) (c : Nat) : Int × Int := if c = 48 then (r.1, (r.1 + r.2) / 2) else ((r.1 + r.2) / 2, r.2)
def spanF (z : Str) : Int × Int := z.cps.toList.foldl spanT (0, 32)
section
variable {P : Program} {w : World} {K : PySem.W.Frag} {mg : Str → Option Value} {base : Heap}
def spSpan (K : PySem.W.Frag) (C : Addr) : Sp := fun vs H Q E => ∃ (x : V) (t : String), vs = [x] ∧ TyX K H x (.type t) ∧ t ∈ basics ∧ Short x ∧
  (∀ z : Str, x = .str z → z ∈ begs → ∀ H' p, Same H H' → H p = none → H' p = some (.tup [.int (spanF z).1, .int (spanF z).2]) → Q (.ref p) H') ∧ (begB x = false → ∀ H' d, Same H H' → H' d = none → E (.ref C) (some d) (upd H' d (calledAs "BadBeginning"))) ∧
  ((∃ z, x = .str z ∧ z ∈ begs) ∨ begB x = false)
theorem scSpan : FnScope ["beginning", "low", "behind", "sign", "middle"] ["beginning"] (defScope sSpan) := ⟨rfl, rfl, rfl, by decide +kernel, rfl, by decide +kernel, by decide +kernel⟩
theorem ok_span {f fN fB C fI : Addr} {fd fdN fdB fdI : FuncData} {tk5 tk32 : Tok} (F : Fun K "span" "span" sSpan f fd) (b : Blt mg) (W : mg "WORTHS" = some (.int 32 tk32)) (Fg : mg "FIGURES" = some (.int 5 tk5)) (aB : At K mg "is_beginning" sIsBeg ["thing"] fB fdB) (aN : At K mg "need_beginning" sNeedBeg ["beginning"] fN fdN)
    (Er : ErrC K mg "BadBeginning" C fI fdI "BadBeginning.__init__" sBadBeg) : FnOk P w K mg base (L2.CX P w) 4 f fd ["beginning"] (spSpan K C) := by
  have GN : FnOk P w K mg base (L2.CX P w) 3 fN fdN ["beginning"] (spNeed K begB C "BadBeginning") := ok_needbeg aN.fn b Fg aB Er
  refine F.okX scSpan (fun vs H Q E h => ?_) (fun cdv A outer s H vs Q E hr h => ?_)
  · obtain ⟨x, t, rfl, _⟩ := h
    rfl
  · obtain ⟨x, t, rfl, ty, m, sh, k1, k2, k3⟩ := h
    refine ⟨_, pss_cons (ps_expr (pe_call GN hr rfl aN.gl aN.fn.kp aN.bd .nil (passes_call (takes_of rfl rfl rfl rfl) (fun _ _ _ _ h => h)) (pa_cons (pv 0) pa_nil)))
      (PSs.nox (pss_cons (ps_set (i := 1) scSpan.nd rfl (.inl rfl) pe_int)
      (pss_cons (ps_set (i := 2) scSpan.nd rfl (.inl rfl) (pe_glob (v := .int 32) rfl W ⟨_, rfl⟩))
      (pss_cons (ps_for PassesOwn.never rfl (pi_str (pv 0)) (pg_name (i := 3) scSpan.nd rfl (.inl rfl))
        (pss_cons (ps_set (i := 4) scSpan.nd rfl (.inl rfl) (pe_op op_fdiv (pe_op op_add (pv 1) (pv 2)) pe_int))
        (pss_one (ps_if (pt_cmpR op_eq (pv 3) pe_str (nomark _)) (pss_one (ps_set (i := 2) scSpan.nd rfl (.inl rfl) (pv 4))) (pss_one (ps_set (i := 1) scSpan.nd rfl (.inl rfl) (pv 4)))))))
      (pss_one (ps_ret (pe_tup (pa_cons (pv 1) (pa_cons (pv 2) pa_nil))))))))), ?_⟩
    refine ⟨_, rfl, x, t, rfl, ty, m, sh, fun yes H1 s1 => ?_, fun no H1 d s1 hd => k2 no H1 d s1 hd⟩
    rcases k3 with ⟨z, rfl, hz⟩ | no
    · refine ⟨_, rfl, z, rfl, for_text (fun i σ H' => H' = H1 ∧ ∃ v3 v4 : Option V, σ = [some (.str z), some (.int ((z.cps.toList.take i).foldl spanT (0, 32)).1), some (.int ((z.cps.toList.take i).foldl spanT (0, 32)).2), v3, v4]) ⟨rfl, none, none, rfl⟩ ?_ ?_⟩
      · rintro i c σ H2 hc ⟨rfl, v3, v4, rfl⟩
        have step : (z.cps.toList.take (i + 1)).foldl spanT (0, 32) = spanT ((z.cps.toList.take i).foldl spanT (0, 32)) c := by
          rw [List.take_add_one, show z.cps.toList[i]? = some c by rw [Array.getElem?_toList]; exact hc, List.foldl_append]
          rfl
        refine ⟨_, rfl, _, rfl, _, _, rfl, rfl, _, 2, rfl, rfl, ⟨by decide, by decide⟩, ?_⟩
        refine ⟨_, rfl, rfl, _, rfl, ?_⟩
        by_cases e : c = 48
        · subst e
          rw [show decide (V.str ⟨#[48]⟩ = V.str "0") = true by decide +kernel]
          refine iteT ⟨_, rfl, rfl, some (.str ⟨#[48]⟩), some (.int ((((z.cps.toList.take i).foldl spanT (0, 32)).1 + ((z.cps.toList.take i).foldl spanT (0, 32)).2) / 2)), ?_⟩
          rw [step]
          rfl
        · have ne : ¬ V.str ⟨#[c]⟩ = V.str "0" := fun q => e (by
            have q1 : (⟨#[c]⟩ : Str) = ⟨#[48]⟩ := (V.str.inj q).trans (by decide +kernel)
            have q2 := congrArg Str.cps q1
            have q3 : [c] = [48] := congrArg Array.toList q2
            exact (List.cons.inj q3).1)
          rw [decide_eq_false ne]
          refine iteF ⟨_, rfl, rfl, some (.str ⟨#[c]⟩), some (.int ((((z.cps.toList.take i).foldl spanT (0, 32)).1 + ((z.cps.toList.take i).foldl spanT (0, 32)).2) / 2)), ?_⟩
          rw [step]
          unfold spanT
          rw [if_neg e]
          rfl
      · rintro σ H2 ⟨rfl, v3, v4, rfl⟩
        have all : z.cps.toList.take z.cps.size = z.cps.toList := List.take_of_length_le (by simp)
        refine ⟨_, rfl, _, rfl, by show 2 ≤ sizeLine; decide, fun p hp => ?_⟩
        refine k1 z rfl hz _ p (s1.trans (same_new hp)) (s1.free hp) ?_
        rw [upd_same, all]
        rfl
    · rw [no] at yes
      cases yes
end
end VQ
namespace VQ
open PySem L2 LamX
abbrev sBegin : Stmt := top 28
theorem cut_tk : ∀ w, w < 32 → ∀ k : Nat, k < 6 → cutS (fig w) none (some (k : Int)) = tk (fig w) k := by decide +kernel
section
variable {P : Program} {w : World} {K : PySem.W.Frag} {mg : Str → Option Value} {base : Heap}
def spBegin : Sp := fun vs H Q _ => ∃ b : Addr, vs = [.ref b] ∧ Bag H b ∧ ∀ (z : Str) (H' : Hp), z ∈ begs → Bag H' b → Keep b H H' → Q (.str z) H'
theorem scBegin : FnScope ["_law_bag_here", "_law_size"] ["_law_bag_here"] (defScope sBegin) := ⟨rfl, rfl, rfl, by decide +kernel, rfl, by decide +kernel, by decide +kernel⟩
theorem ok_begin {f fP fO fW fG : Addr} {fd fdP fdO fdW fdG : FuncData} (F : Fun K "_law_begin" "_law_begin" sBegin f fd) (b : Blt mg) (aP : At K mg "_law_pull" sPull ["_law_bag_here", "_law_size"] fP fdP) (aO : At K mg "_law_of" sOf ["_law_bag_here", "_law_some"] fO fdO)
    (aW : At K mg "_law_worth" sWorth ["_law_bag_here"] fW fdW) (aG : At K mg "_law_figs" sFigs ["_law_worth_here"] fG fdG) : FnOk P w K mg base CX0 4 f fd ["_law_bag_here"] spBegin := by
  have GO : FnOk P w K mg base CX0 2 fO fdO ["_law_bag_here", "_law_some"] (spOf K) := ok_of aO.fn b.len aP
  have GW : FnOk P w K mg base CX0 3 fW fdW ["_law_bag_here"] (spDraw fun i => 0 ≤ i ∧ i < 32) := ok_worth aW.fn b.len aP aO
  have GG : FnOk P w K mg base CX0 1 fG fdG ["_law_worth_here"] spFigs := ok_figs aG.fn b.range b.str
  refine F.ok scBegin (fun vs H Q E h => ?_) (fun cdv A outer s H vs Q E hr h => ?_)
  · obtain ⟨bg, rfl, _⟩ := h
    rfl
  · obtain ⟨bg, rfl, B, k⟩ := h
    have hr1 : Room 1 _ := hr.mono (by decide)
    have hr2 : Room 2 _ := hr.mono (by decide)
    refine ⟨_, pss_cons (ps_set (i := 1) scBegin.nd rfl (.inl rfl) (pe_call GO hr2 rfl aO.gl aO.fn.kp aO.bd .nil pass0 (pa_cons (pv 0) (pa_cons (pe_lst (pa_cons pe_int (pa_cons pe_int (pa_cons pe_int (pa_cons pe_int (pa_cons pe_int (pa_cons pe_int (pa_cons pe_int pa_nil)))))))) pa_nil))))
      (pss_one (ps_ret (pe_slice sl_str (pe_call GG hr1 rfl aG.gl aG.fn.kp aG.bd .nil pass0 (pa_cons (pe_call GW hr rfl aW.gl aW.fn.kp aW.bd .nil pass0 (pa_cons (pv 0) pa_nil)) pa_nil)) po_none (po_some (pv 1))))), ?_⟩
    refine ⟨_, rfl, by show 7 ≤ sizeLine; decide, fun p hp => ?_⟩
    have sm := same_new (o := HO.lst [.int 0, .int 0, .int 1, .int 2, .int 3, .int 4, .int 5]) hp
    refine ⟨bg, p, _, rfl, B.same sm, B.ne hp, SqL.of upd_same, by show 1 ≤ 7; decide, by show 7 < 1000; decide, fun v H1 mem B1 k1 => ?_⟩
    obtain ⟨n, rfl, hn⟩ : ∃ n : Nat, v = .int (n : Int) ∧ n < 6 := by
      rcases List.mem_cons.mp mem with rfl | mem
      · exact ⟨0, rfl, by decide⟩
      rcases List.mem_cons.mp mem with rfl | mem
      · exact ⟨0, rfl, by decide⟩
      rcases List.mem_cons.mp mem with rfl | mem
      · exact ⟨1, rfl, by decide⟩
      rcases List.mem_cons.mp mem with rfl | mem
      · exact ⟨2, rfl, by decide⟩
      rcases List.mem_cons.mp mem with rfl | mem
      · exact ⟨3, rfl, by decide⟩
      rcases List.mem_cons.mp mem with rfl | mem
      · exact ⟨4, rfl, by decide⟩
      rcases List.mem_cons.mp mem with rfl | mem
      · exact ⟨5, rfl, by decide⟩
      · cases mem
    refine ⟨_, rfl, bg, rfl, B1, fun i H2 hi B2 k2 => ?_⟩
    obtain ⟨wt, rfl⟩ := Int.eq_ofNat_of_zero_le hi.1
    have hw : wt < 32 := by omega
    refine ⟨wt, rfl, _, rfl, _, rfl, _, rfl, by rw [fig, figLow_len]; decide, ?_⟩
    rw [cut_tk wt hw n hn]
    exact k _ H2 (tk_in wt hw n hn) B2 (Keep.trans (Keep.trans (Same.keep sm) k1) k2)
end
end VQ
namespace VQ
open PySem L2 LamX
abbrev sUnder : Stmt := top 29
/-- the worths under a beginning -/
def underN (z : Str) : List Nat := (List.range 32).filter fun w => decide (tk (fig w) z.length = z)
def underL (z : Str) : List Int := (underN z).map Int.ofNat
theorem cut_any (z : Str) (k : Nat) : cutS z none (some (k : Int)) = tk z k := by
  unfold cutS tk
  rw [HT.sIx_none, HT.sIx_nat, List.drop_zero, Nat.sub_zero]
  have e : z.length = z.cps.toList.length := by simp [Str.length]
  rw [e]
  by_cases le : k ≤ z.cps.toList.length
  · rw [Nat.min_eq_left le]
  · rw [Nat.min_eq_right (by omega), List.take_of_length_le (Nat.le_refl _), List.take_of_length_le (by omega)]
section
variable {P : Program} {w : World} {K : PySem.W.Frag} {mg : Str → Option Value} {base : Heap}
def spUnder : Sp := fun vs H Q _ => ∃ z : Str, vs = [.str z] ∧ z.length ≤ 1000 ∧ ∀ (p : Addr) (H' : Hp), H p = none → Same H H' → H' p = some (.lst ((underL z).map V.int)) → Q (.ref p) H'
theorem scUnder : FnScope ["_law_beginning", "_law_worth_here"] ["_law_beginning"] (defScope sUnder) := ⟨rfl, rfl, rfl, by decide +kernel, rfl, by decide +kernel, by decide +kernel⟩
theorem ok_under {f fG : Addr} {fd fdG : FuncData} (F : Fun K "_law_under" "_law_under" sUnder f fd) (b : Blt mg) (aG : At K mg "_law_figs" sFigs ["_law_worth_here"] fG fdG) : FnOk P w K mg base CX0 2 f fd ["_law_beginning"] spUnder := by
  have GG : FnOk P w K mg base CX0 1 fG fdG ["_law_worth_here"] spFigs := ok_figs aG.fn b.range b.str
  refine F.ok scUnder (fun vs H Q E h => ?_) (fun cdv A outer s H vs Q E hr h => ?_)
  · obtain ⟨z, rfl, _⟩ := h
    rfl
  · obtain ⟨z, rfl, lz, k⟩ := h
    have lz' : z.length ≤ sizeLine := Nat.le_trans lz (by decide)
    refine ⟨_, pss_one (ps_ret (pe_lc (own := [("_law_worth_here", 1)]) (g := gName 1)
      (tt := tTest (tOp rEq (tSl rSlS (tCall spFigs [] E0 (tCons (tVar 1) tNil)) tNoPart (tPart (tCB (fun xs H Q => ∃ z, xs = [.str z] ∧ z.length ≤ sizeLine ∧ Q (.int z.length) H) (tCons (tVar 0) tNil)))) (tVar 0))) (te := tVar 1) rfl scUnder.nd (pi_range1 rfl b.range (pa_cons pe_int pa_nil))
      (blkOk_by (N := ["_law_beginning", "_law_worth_here"]) (sc := defScope sUnder) (by decide +kernel)) (fun _ _ _ _ _ => pg_name (i := 1) scUnder.nd rfl (.inl rfl))
      (fun _ _ _ _ _ => pts_one (pt_cmpR op_eq (pe_slice sl_str (pe_call GG hr rfl aG.gl aG.fn.kp aG.bd .nil pass0 (pa_cons (pv 1) pa_nil)) po_none (po_some (pe_callB call_len_str (by rfl) b.len PySem.boot_len (pa_cons (pv 0) pa_nil)))) (pv 0) (nomark _)))
      (fun _ _ _ _ _ => pv 1))), ?_⟩
    refine ⟨32, rfl, by decide, by decide, fun D hD => ?_⟩
    refine lc_range (lo := 0) (n := 32) (fun i H' => Same H H' ∧ H' D = some (.lst ((((List.range i).filter fun w => decide (tk (fig w) z.length = z)).map Int.ofNat).map V.int))) ⟨same_new hD, upd_same⟩ ?_ ?_
    · rintro i H2 hi ⟨s2, h2⟩
      refine ⟨rfl, ?_⟩
      have e0 : (0 : Int) + (i : Int) = ((i : Nat) : Int) := Int.zero_add _
      refine ⟨_, rfl, i, congrArg (fun t : Int => [V.int t]) e0, _, rfl, z, rfl, lz', _, rfl, _, rfl, by rw [fig, figLow_len]; decide, _, rfl, rfl, _, rfl, ?_⟩
      rw [cut_any]
      by_cases e : tk (fig i) z.length = z
      · rw [decide_eq_true (congrArg V.str e)]
        refine iteT ⟨_, rfl, _, h2, ?_, ?_, ?_⟩
        · rw [List.length_map, List.length_map]
          exact Nat.lt_of_le_of_lt (List.length_filter_le _ _) (by rw [List.length_range]; exact Nat.lt_of_lt_of_le hi (by decide))
        · intro q o y
          have nq : q ≠ D := fun x => by
            rw [x, hD] at y
            cases y
          rw [upd_ne nq]
          exact s2 _ _ y
        · have f1 : [i].filter (fun w => decide (tk (fig w) z.length = z)) = [i] := by rw [List.filter_cons, if_pos (decide_eq_true e)] <;> rfl
          rw [upd_same, List.range_succ, List.filter_append, f1, e0, List.map_append, List.map_append]
          rfl
      · rw [decide_eq_false (fun q => e (V.str.inj q))]
        refine iteF ⟨s2, ?_⟩
        have f1 : [i].filter (fun w => decide (tk (fig w) z.length = z)) = [] := by rw [List.filter_cons, if_neg (by simpa using e)] <;> rfl
        rw [h2, List.range_succ, List.filter_append, f1, List.append_nil]
    · rintro H2 ⟨s2, h2⟩
      exact k D H2 hD s2 h2
end
end VQ
namespace VQ
open PySem L2 LamX
/-! ### what the laws' own bodies share -/
theorem Tabs.keep {T : List (Addr × Str)} {H H' : Hp} {b : Addr} (t : Tabs T H) (B : Bag H b) (k : Keep b H H') : Tabs T H' := fun p hp => by
  obtain ⟨l, ns, i, r, x, n, nl, h1, _⟩ := B
  obtain ⟨ps, a1, a2, a3⟩ := t p hp
  refine ⟨ps, k.1 _ _ (fun z => ?_) a1, a2, fun pos cv hc => ?_⟩
  · rw [z, h1] at a1
    cases a1
  · obtain ⟨c, e1, e2⟩ := a3 pos cv hc
    refine ⟨c, e1, k.1 _ _ (fun z => ?_) e2⟩
    rw [z, h1] at e2
    cases e2
theorem Bag.extN {H H' : Hp} {b : Addr} (B : Bag H b) (e : ExtN H H') : Bag H' b := by
  obtain ⟨l, ns, i, r, x, n, nl, h1, h2, h3⟩ := B
  exact ⟨l, ns, i, r, x, n, nl, e _ _ h1 (fun ps z => by cases z), e _ _ h2 (fun ps z => by cases z), h3⟩
theorem passCX {X : Cx} : Passes (L2.CX X.prog X.w) X E0 := fun _ _ _ _ _ _ _ ⟨_, _, _, _, _, _, _, _, _, _, _, _, z⟩ => z.elim
/-- law's promise: a list of at most 63 ints is handed in, True comes out; Pt: the table of its code object -/
def spLaw (K : PySem.W.Frag) (Pt : Addr) : Sp := fun vs H Q _ => ∃ (a : Addr) (ns : List Int), vs = [.ref a] ∧ SqL K H a (ns.map V.int) ∧ ns.length ≤ 63 ∧ H Pt = some (.tbl #[]) ∧ ∀ H', Q (.bl true) H'
theorem extN_same {H H' : Hp} (s : Same H H') : ExtN H H' := fun b o h _ => s b o h
end VQ
namespace VQ
open PySem L2 LamX
/-- the word of a call that is refused without a field -/
theorem word_refused {K : PySem.W.Frag} {Ta NT NR BT Uf Fu TM QE No C : Addr} {T : List (Addr × Str)} {nm : Str} {σ : L2.St} {H : Hp} {Q : VK} {t : XK → TE} (PL : Plain K Ta NT NR BT Uf Fu TM QE No C) (hT : Tabs T H)
    (call : ∀ (H1 : Hp) (Q1 : VK) (E : XK), ExtN H H1 → (∀ H2 d, Same H1 H2 → H2 d = none → E (.ref C) (some d) (upd H2 d (.xd [(("called" : Str), .str nm)]))) → t E σ H1 Q1) (k : ∀ H', ExtN H H' → Tabs T H' → Q (.str nm) H') :
    tLam T (fun tl H Q => TTried K Ta NT NR BT Uf Fu TM QE No tl H fun v H1 => rIxT K v (.int 0) H1 Q) t σ H Q := by
  refine ⟨hT, fun H1 e1 T1 => call H1 _ _ e1 fun H2 d s2 hd => ?_⟩
  refine ⟨C, d, _, nm, rfl, rfl, PL, upd_same, rfl, fun p hp => ⟨p, _, _, _, rfl, rfl, SqT.of upd_same, rfl, ?_⟩⟩
  have s4 := (s2.trans (same_new hd)).trans (same_new (o := .tup [.str nm, .str ""]) hp)
  exact k _ (e1.trans (extN_same s4)) (Tabs.ext T1 s4)
end VQ
namespace VQ
open PySem L2 LamX
abbrev sOddBeg : Stmt := top 30
section
variable {P : Program} {w : World} {K : PySem.W.Frag} {mg : Str → Option Value} {base : Heap} {Ta NT NR BT Uf Fu TM QE No : Addr}
def oddBegs : List Str := ["012", "2", " ", "010101", "000000", "a", "1 ", "0-"]
theorem odd_no : ∀ z ∈ oddBegs, begB (.str z) = false ∧ z.length ≤ 1000 := by decide +kernel
def spOddBeg : Sp := fun vs H Q _ => ∃ b : Addr, vs = [.ref b] ∧ Bag H b ∧ ∀ (z : Str) (H' : Hp), z ∈ oddBegs → Bag H' b → Keep b H H' → Q (.str z) H'
theorem scOddBeg : FnScope ["_law_bag_here"] ["_law_bag_here"] (defScope sOddBeg) := ⟨rfl, rfl, rfl, by decide +kernel, rfl, by decide +kernel, by decide +kernel⟩
theorem ok_oddbeg {f fP fO : Addr} {fd fdP fdO : FuncData} (F : Fun K "_law_odd_begin" "_law_odd_begin" sOddBeg f fd) (b : Blt mg) (aP : At K mg "_law_pull" sPull ["_law_bag_here", "_law_size"] fP fdP) (aO : At K mg "_law_of" sOf ["_law_bag_here", "_law_some"] fO fdO) :
    FnOk P w K mg base CX0 3 f fd ["_law_bag_here"] spOddBeg := by
  have GO : FnOk P w K mg base CX0 2 fO fdO ["_law_bag_here", "_law_some"] (spOf K) := ok_of aO.fn b.len aP
  refine F.ok scOddBeg (fun vs H Q E h => ?_) (fun cdv A outer s H vs Q E hr h => ?_)
  · obtain ⟨bg, rfl, _⟩ := h
    rfl
  · obtain ⟨bg, rfl, B, k⟩ := h
    refine ⟨_, pss_one (ps_ret (pe_call GO hr rfl aO.gl aO.fn.kp aO.bd .nil pass0 (pa_cons (pv 0) (pa_cons (pe_lst (pa_cons pe_str (pa_cons pe_str (pa_cons pe_str (pa_cons pe_str (pa_cons pe_str (pa_cons pe_str (pa_cons pe_str (pa_cons pe_str pa_nil))))))))) pa_nil)))), ?_⟩
    refine ⟨_, rfl, by show 8 ≤ sizeLine; decide, fun p hp => ?_⟩
    have sm := same_new (o := HO.lst (oddBegs.map V.str)) hp
    refine ⟨bg, p, oddBegs.map V.str, rfl, B.same sm, B.ne hp, SqL.of upd_same, by decide, by decide, fun v H1 mem B1 k1 => ?_⟩
    obtain ⟨z, hz, rfl⟩ := List.mem_map.mp mem
    exact k z H1 hz B1 (Keep.trans (Same.keep sm) k1)
/-! ### the mathematics: all sixty-three -/
theorem m_span : ∀ z ∈ begs, atI ((underL z).map V.int) 0 = some (.int (spanF z).1) ∧ atI ((underL z).map V.int) (-1) = some (.int ((spanF z).2 - 1)) := by decide +kernel
theorem m_len : ∀ z ∈ begs, (underL z).length ≤ 32 := by decide +kernel
theorem m_perm : ∀ z ∈ begs, z ≠ ("" : Str) → (underL z ++ underL (bro z)).isPerm (underL (dropL z)) = true ∧ (underL (dropL z)).Pairwise (· ≤ ·) ∧ SeqAt.shaped (.list ((underL (dropL z)).map PyData.int)) = true ∧ (underL z).length + (underL (bro z)).length < 64 ∧ (dropL z).length ≤ 5 := by decide +kernel
theorem srt_eq : ∀ {l m : List Int}, l.Pairwise (· ≤ ·) → m.Pairwise (· ≤ ·) → l.Perm m → l = m
  | [], m, _, _, p => (List.Perm.nil_eq p)
  | a :: l, [], _, _, p => by cases p.length_eq
  | a :: l, b :: m, s1, s2, p => by
    obtain ⟨h1, t1⟩ := List.pairwise_cons.mp s1
    obtain ⟨h2, t2⟩ := List.pairwise_cons.mp s2
    have ab : a = b := by
      have m1 : a ∈ b :: m := p.subset List.mem_cons_self
      have m2 : b ∈ a :: l := p.symm.subset List.mem_cons_self
      rcases List.mem_cons.mp m1 with e | m1
      · exact e
      rcases List.mem_cons.mp m2 with e | m2
      · exact e.symm
      have := h1 b m2
      have := h2 a m1
      omega
    subst ab
    rw [srt_eq t1 t2 (List.Perm.cons_inv p)]
theorem dp_ints (H : Hp) : ∀ ns : List Int, DpAll K H (ns.map V.int) (ns.map PyData.int)
  | [] => .nil
  | n :: r => .cons (.int n) (dp_ints H r)
end
end VQ
namespace VQ
open PySem L2 LamX
abbrev sLaw : Stmt := top 31
section
variable {P : Program} {w : World} {K : PySem.W.Frag} {mg : Str → Option Value} {base : Heap} {Ta NT NR BT Uf Fu TM QE No : Addr}
theorem scLaw : FnScope ["_law_script", "_law_bag_here", "_law_turn", "_law_worths", "_law_other", "_law_odd", "_law_one"] ["_law_script"] (defScope sLaw) := ⟨rfl, rfl, rfl, by decide +kernel, rfl, by decide +kernel, by decide +kernel⟩
theorem ok_law {f c Pt : Addr} {kV doc pm ct oc : Value} {an od : Option Addr} {osl : Array (Option Value)} {fB fP fO fS fT fWd fW fG fBg fU fOb fIb fN fSp fBr C fI : Addr} {fdB fdP fdO fdS fdT fdWd fdW fdG fdBg fdU fdOb fdIb fdN fdSp fdBr fdI : FuncData} {tk' tk5 : Tok}
    (lk : K.lookup f = some ⟨oc, od, .func (PySem.W.fnOf "law" "law" (defArgs sLaw) (defBody sLaw) (defScope sLaw) .none kV doc pm an (.ref c) ct), osl⟩) (hcd : PySem.W.codeIn K (.ref c) "law" = true) (TB : TabB base mg c Pt)
    (b : Blt mg) (srt : mg "sorted" = none) (W : mg "WORTHS" = some (.int 32 tk')) (Fg : mg "FIGURES" = some (.int 5 tk5)) (ER : Errs mg Ta NT NR BT Uf Fu TM QE No) (PL : Plain K Ta NT NR BT Uf Fu TM QE No C)
    (aB : At K mg "_law_bag" sBag ["_law_script"] fB fdB) (aP : At K mg "_law_pull" sPull ["_law_bag_here", "_law_size"] fP fdP) (aO : At K mg "_law_of" sOf ["_law_bag_here", "_law_some"] fO fdO)
    (aS : At K mg "_law_same" sSame ["_law_found", "_law_due"] fS fdS) (aT : At K mg "_law_tried" sTried ["_law_ask"] fT fdT) (aWd : At K mg "_law_word" sWord ["_law_ask"] fWd fdWd)
    (aW : At K mg "_law_worth" sWorth ["_law_bag_here"] fW fdW) (aG : At K mg "_law_figs" sFigs ["_law_worth_here"] fG fdG) (aBg : At K mg "_law_begin" sBegin ["_law_bag_here"] fBg fdBg) (aU : At K mg "_law_under" sUnder ["_law_beginning"] fU fdU) (aOb : At K mg "_law_odd_begin" sOddBeg ["_law_bag_here"] fOb fdOb)
    (aIb : At K mg "is_beginning" sIsBeg ["thing"] fIb fdIb) (aN : At K mg "need_beginning" sNeedBeg ["beginning"] fN fdN) (aSp : At K mg "span" sSpan ["beginning"] fSp fdSp) (aBr : At K mg "brother" sBrother ["beginning"] fBr fdBr) (EW : ErrC K mg "BadBeginning" C fI fdI "BadBeginning.__init__" sBadBeg) :
    FnOk P w K mg base CX0 8 f (PySem.W.fnOf "law" "law" (defArgs sLaw) (defBody sLaw) (defScope sLaw) .none kV doc pm an (.ref c) ct) ["_law_script"] (spLaw K Pt) := by
  have GB : FnOk P w K mg base CX0 1 fB fdB ["_law_script"] (spBag K) := ok_bag aB.fn b.list
  have GS : FnOk P w K mg base CX0 2 fS fdS ["_law_found", "_law_due"] (spSame 1) := ok_same aS b 1
  have GBg : FnOk P w K mg base CX0 4 fBg fdBg ["_law_bag_here"] spBegin := ok_begin aBg.fn b aP aO aW aG
  have GU : FnOk P w K mg base CX0 2 fU fdU ["_law_beginning"] spUnder := ok_under aU.fn b aG
  have GOb : FnOk P w K mg base CX0 3 fOb fdOb ["_law_bag_here"] spOddBeg := ok_oddbeg aOb.fn b aP aO
  have GSp : FnOk P w K mg base (L2.CX P w) 4 fSp fdSp ["beginning"] (spSpan K C) := ok_span aSp.fn b W Fg aIb aN EW
  have GBr : FnOk P w K mg base (L2.CX P w) 4 fBr fdBr ["beginning"] (spBrother K C) := ok_brother aBr.fn b Fg aIb aN EW
  obtain ⟨cdv1, D1⟩ := one_of aWd scWord rfl (.inl rfl) (by decide) (by decide) (by decide)
  obtain ⟨cdv2, D2⟩ := one_of aT scTried rfl (.inl rfl) (by decide) (by decide) (by decide)
  refine fn_of lk hcd scLaw (fun vs H Q E h => ?_) (fun A outer s H vs Q E hr h => ?_)
  · obtain ⟨a, ns, rfl, _⟩ := h
    rfl
  · obtain ⟨a, ns, rfl, hS, hlen, hP, k⟩ := h
    have hr1 : Room 1 _ := hr.mono (by decide)
    have hr2 : Room 2 _ := hr.mono (by decide)
    have hr3 : Room 3 _ := hr.mono (by decide)
    have hr4 : Room 4 _ := hr.mono (by decide)
    have hu : (A.deeper (PyProof.Rows.envOfC "law" (defScope sLaw) s.heap.objs.size f (.ref c))).units + 64 < cLine := hr.units
    refine ⟨_, PSs.nox (pss_cons (ps_set (i := 1) scLaw.nd rfl (.inl rfl) (pe_call GB hr1 rfl aB.gl aB.fn.kp aB.bd .nil pass0 (pa_cons (pv 0) pa_nil)))
      (pss_cons (ps_for PassesOwn.never rfl (pi_range1 rfl b.range (pa_cons pe_int pa_nil)) (pg_name (i := 2) scLaw.nd rfl (.inl rfl))
        (pss_cons (ps_set (i := 6) scLaw.nd rfl (.inr rfl) (pe_call GBg hr4 rfl aBg.gl aBg.fn.kp aBg.bd .nil pass0 (pa_cons (pv 1) pa_nil)))
        (pss_cons (ps_set (i := 3) scLaw.nd rfl (.inl rfl) (pe_call GU hr2 rfl aU.gl aU.fn.kp aU.bd .nil pass0 (pa_cons (pv 6) pa_nil)))
        (pss_cons (ps_if (pt_not (pt_val (pe_call GS hr2 rfl aS.gl aS.fn.kp aS.bd .nil pass0 (pa_cons (pe_call GSp hr4 rfl aSp.gl aSp.fn.kp aSp.bd .nil passCX (pa_cons (pv 6) pa_nil))
            (pa_cons (pe_tup (pa_cons (pe_ix ix_list (pv 3) pe_int fun _ _ => rfl) (pa_cons (pe_op op_add (pe_ix ix_list (pv 3) (pe_un un_neg pe_int) fun _ _ => rfl) pe_int) pa_nil))) pa_nil)))))
          (pss_one (ps_ret pe_bl)) pss_nil)
        (C8.pss_cut (ps_if (pt_cmpR op_eq (pv 6) pe_str (nomark _))
            (pss_one (ps_if (pt_cmpR op_ne (pe_word (k := 4) (T := [(Pt, _)]) (t := fun E => tCall (spBrother K C) [] E (tCons (tVar 6) tNil)) rfl D1 rfl D2 (tried_gives ER) (mk_plain TB rfl (List.mem_singleton.mpr rfl) (fun p hp _ => by rw [List.mem_singleton.mp hp]) (lamS2_by (N := ["_law_script", "_law_bag_here", "_law_turn", "_law_worths", "_law_other", "_law_odd", "_law_one"]) (sc := defScope sLaw) (by decide +kernel) rfl rfl) rfl (fun _ _ _ _ _ => rfl)) hr
              (fun f c' E A outer s H hr' => pe_call GBr hr' rfl aBr.gl aBr.fn.kp aBr.bd .nil (passes_call (takes_of rfl rfl rfl rfl) (fun _ _ _ _ h => h)) (pa_cons (pv 6) pa_nil))) pe_str (nomark _)) (pss_one (ps_ret pe_bl)) pss_nil))
            (pss_cons (ps_set (i := 4) scLaw.nd rfl (.inl rfl) (pe_call GBr hr4 rfl aBr.gl aBr.fn.kp aBr.bd .nil passCX (pa_cons (pv 6) pa_nil)))
            (pss_cons (ps_if (PW.pt (pw_or (pt_not (pt_val (pe_isi (pv 4) rfl b.isi rfl b.str (c := "str") (by decide +kernel)))) (pw_or1 (pt_cmpR op_ne (pe_call GBr hr4 rfl aBr.gl aBr.fn.kp aBr.bd .nil passCX (pa_cons (pv 4) pa_nil)) (pv 6) (nomark _))))) (pss_one (ps_ret pe_bl)) pss_nil)
            (pss_one (ps_if (pt_cmpR (op_neD hu) (pe_callB cr_sorted (by rfl) srt (by decide +kernel) (pa_cons (pe_op op_cat (pv 3) (pe_call GU hr2 rfl aU.gl aU.fn.kp aU.bd .nil pass0 (pa_cons (pv 4) pa_nil))) pa_nil))
              (pe_call GU hr2 rfl aU.gl aU.fn.kp aU.bd .nil pass0 (pa_cons (pe_slice sl_str (pv 6) po_none (po_some (pe_un un_neg pe_int))) pa_nil)) (nomark _)) (pss_one (ps_ret pe_bl)) pss_nil)))))
        (pss_cons (ps_set (i := 5) scLaw.nd rfl (.inr rfl) (pe_call GOb hr3 rfl aOb.gl aOb.fn.kp aOb.bd .nil pass0 (pa_cons (pv 1) pa_nil)))
        (pss_one (ps_if (pt_cmpR (op_neD hu) (pe_lst (pa_cons
            (pe_word (k := 4) (T := [(Pt, _)]) (t := fun E => tCall (spSpan K C) [] E (tCons (tVar 5) tNil)) rfl D1 rfl D2 (tried_gives ER) (mk_plain TB rfl (List.mem_singleton.mpr rfl) (fun p hp _ => by rw [List.mem_singleton.mp hp]) (lamS2_by (N := ["_law_script", "_law_bag_here", "_law_turn", "_law_worths", "_law_other", "_law_odd", "_law_one"]) (sc := defScope sLaw) (by decide +kernel) rfl rfl) rfl (fun _ _ _ _ _ => rfl)) hr
              (fun f c' E A outer s H hr' => pe_call GSp hr' rfl aSp.gl aSp.fn.kp aSp.bd .nil (passes_call (takes_of rfl rfl rfl rfl) (fun _ _ _ _ h => h)) (pa_cons (pv 5) pa_nil)))
            (pa_cons (pe_word (k := 4) (T := [(Pt, _)]) (t := fun E => tCall (spBrother K C) [] E (tCons (tVar 5) tNil)) rfl D1 rfl D2 (tried_gives ER) (mk_dflt (y := "_law_a") TB rfl (List.mem_singleton.mpr rfl) (fun p hp _ => by rw [List.mem_singleton.mp hp]) (lamS2_by (N := ["_law_script", "_law_bag_here", "_law_turn", "_law_worths", "_law_other", "_law_odd", "_law_one"]) (sc := defScope sLaw) (by decide +kernel) rfl rfl) rfl rfl rfl (fun _ _ _ _ _ _ _ => ⟨_, rfl, rfl⟩)) hr
              (fun f c' E A outer s H hr' => pe_call GBr hr' rfl aBr.gl aBr.fn.kp aBr.bd .nil (passes_call (takes_of rfl rfl rfl rfl) (fun _ _ _ _ h => h)) (pa_cons (pv 5) pa_nil))) pa_nil)))
            (pe_op op_rep (pe_lst (pa_cons pe_str pa_nil)) pe_int) (nomark _)) (pss_one (ps_ret pe_bl)) pss_nil))))))))
      (pss_one (ps_ret (pe_and (pe_cmpR (op_eqD hu) (pe_call GSp hr4 rfl aSp.gl aSp.fn.kp aSp.bd .nil passCX (pa_cons pe_str pa_nil)) (pe_tup (pa_cons pe_int (pa_cons pe_int pa_nil))) (nomark _))
        (pe_one (pe_cmpR (op_eqD hu) (pe_call GSp hr4 rfl aSp.gl aSp.fn.kp aSp.bd .nil passCX (pa_cons pe_str pa_nil)) (pe_tup (pa_cons pe_int (pa_cons pe_int pa_nil))) (nomark _)))))))), ?_⟩
    refine ⟨_, rfl, a, ns, rfl, hS, hlen, fun bg H1 nb B1 s1 => ?_⟩
    refine ⟨8, rfl, by decide, by decide, for_range (lo := 0) (n := 8) (fun i σ H' => Bag H' bg ∧ Tabs [(Pt, (PyProof.Rows.envOfC "law" (defScope sLaw) s.heap.objs.size f (.ref c)).qual ++ "<lambda>")] H' ∧ ∃ v2 v3 v4 v5 v6 : Option V, σ = [some (.ref a), some (.ref bg), v2, v3, v4, v5, v6]) ?_ ?_ ?_⟩
    · refine ⟨B1, fun p hp => ?_, none, none, none, none, none, rfl⟩
      rw [List.mem_singleton.mp hp]
      exact TabS.nil (s1 _ _ hP)
    · rintro i σ H2 hi ⟨B2, T2, v2, v3, v4, v5, v6, rfl⟩
      refine ⟨_, rfl, bg, rfl, B2, fun z H3 hz B3 k3 => ?_⟩
      have T3 := Tabs.keep T2 B2 k3
      have lz := begs_len z hz
      refine ⟨_, rfl, z, rfl, by omega, fun p H4 np s4 hp4 => ?_⟩
      have B4 := B3.same s4
      have T4 := Tabs.ext T3 s4
      have shz : Short (.str z) := Nat.le_trans lz (by decide)
      have yes := begs_yes z hz
      have no : ∀ {X : Prop}, begB (.str z) = false → X := fun q => by rw [yes] at q; cases q
      refine ⟨_, rfl, .str z, "str", rfl, .base (.str z), by decide, shz, fun z' ez hz' H5 q s5 nq hq5 => ?_, fun q => no q, .inl ⟨z, rfl, hz⟩⟩
      cases ez
      refine ⟨_, rfl, p, _, 0, _, rfl, rfl, SqL.of (s5 _ _ hp4), (m_span z hz).1, _, rfl, 1, rfl, p, _, -1, _, rfl, rfl, SqL.of (s5 _ _ hp4), (m_span z hz).2, _, 1, rfl, rfl, by show 2 ≤ sizeLine; decide, fun r hr5 => ?_⟩
      have nqr : q ≠ r := fun y => by
        rw [y, hr5] at hq5
        cases hq5
      refine ⟨_, _, rfl, .tup ((upd_ne nqr).trans hq5) upd_same rfl (by show 2 ≤ 1000; decide) fun j x y hx hy => ?_, fun H6 s6 => ⟨_, rfl, iteF ?_⟩⟩
      · match j, hx, hy with
        | 0, hx, hy => cases hx; cases hy; exact .int 0 _
        | 1, hx, hy =>
          cases hx
          cases hy
          show Alike _ 0 (V.int (spanF z).2) (V.int ((spanF z).2 - 1 + 1))
          rw [show (spanF z).2 - 1 + 1 = (spanF z).2 by omega]
          exact .int 0 _
        | n + 2, hx, hy => cases hx
      · have s46 : Same H4 H6 := (s5.trans (same_new hr5)).trans s6
        have B6 := B4.same s46
        have T6 := Tabs.ext T4 s46
        have hp6 := s46 _ _ hp4
        refine ⟨fun σ' H' => Bag H' bg ∧ Tabs [(Pt, (PyProof.Rows.envOfC "law" (defScope sLaw) s.heap.objs.size f (.ref c)).qual ++ "<lambda>")] H' ∧ ∃ v2 v3 v4 v5 v6 : Option V, σ' = [some (.ref a), some (.ref bg), v2, v3, v4, v5, v6], ?_, ?_⟩
        · refine ⟨_, rfl, rfl, _, rfl, ?_⟩
          by_cases e : z = ("" : Str)
          · rw [decide_eq_true (congrArg V.str e)]
            refine iteT ?_
            refine word_refused PL T6 (fun H7 Q7 E7 e7 raise => ?_) fun H7 e7 T7 => ⟨rfl, _, rfl, iteNS rfl ?_⟩
            · exact ⟨_, rfl, .str z, "str", rfl, .base (.str z), by decide, shz, fun z' ez _ ne => absurd ((V.str.inj ez).symm.trans e) ne, fun _ H8 d s8 hd => raise H8 d s8 hd, .inl ⟨z, rfl, hz⟩⟩
            · exact ⟨B6.extN e7, T7, _, _, _, _, _, rfl⟩
          · rw [decide_eq_false (fun y => e (V.str.inj y))]
            refine iteF ?_
            obtain ⟨b1, b2, b3⟩ := bro_in z hz e
            obtain ⟨m1, m2, m3, m4, m5⟩ := m_perm z hz e
            obtain ⟨_, c2, _, _⟩ := bro_cut z hz e
            have nox : ∀ {X : Prop} {u : Str}, u ∈ begs → u ≠ ("" : Str) → (V.str u = .str "" ∨ begB (.str u) = false) → X := fun hu ne y => by
              rcases y with y | y
              · exact absurd (V.str.inj y) ne
              · rw [begs_yes _ hu] at y
                cases y
            refine ⟨_, rfl, .str z, "str", rfl, .base (.str z), by decide, shz, fun z' ez _ _ H7 s7 => ?_, fun y => nox hz e y, .inl ⟨z, rfl, hz⟩⟩
            cases ez
            refine rd_isi rfl (.base (.str (bro z))) (b := true) (by decide +kernel) ⟨_, rfl, iteF ?_⟩
            refine ⟨_, rfl, .str (bro z), "str", rfl, .base (.str (bro z)), by decide, Nat.le_trans (begs_len _ b1) (by decide), fun z' ez _ _ H8 s8 => ?_, fun y => nox b1 b2 y, .inl ⟨bro z, rfl, b1⟩⟩
            cases ez
            refine ⟨_, rfl, rfl, _, rfl, iteNS (congrArg V.str b3) ?_⟩
            refine ⟨_, rfl, _, rfl, bro z, rfl, Nat.le_trans (begs_len _ b1) (by decide), fun p2 H9 np2 s9 hp9 => ?_⟩
            have s69 : Same H6 H9 := (s7.trans s8).trans s9
            refine ⟨p, p2, _, _, rfl, rfl, s69 _ _ hp6, hp9, ?_, fun p3 hp3 => ?_⟩
            · rw [List.length_map, List.length_map]
              exact Nat.le_trans (Nat.le_of_lt m4) (by decide)
            · refine ⟨p3, underL z ++ underL (bro z), rfl, ?_, by rw [List.length_append]; exact m4, fun ns' p4 perm pw hp4' => ?_⟩
              · rw [List.map_append]
                exact SqL.of upd_same
              · have es : ns' = underL (dropL z) := srt_eq pw m2 (perm.trans (List.isPerm_iff.mp m1))
                subst es
                have sA := s69.trans ((same_new hp3).trans (same_new (o := .lst ((underL (dropL z)).map V.int)) hp4'))
                refine ⟨_, rfl, 1, rfl, _, rfl, z, rfl, Nat.le_trans lz (by decide), dropL z, congrArg (fun t : Str => [V.str t]) c2, Nat.le_trans m5 (by decide), fun p5 H10 np5 s10 hp10 => ?_⟩
                refine ⟨.list ((underL (dropL z)).map PyData.int), .list ((underL (dropL z)).map PyData.int), .lst (SqL.of (s10 _ _ upd_same)) (dp_ints _ _), .lst (SqL.of hp10) (dp_ints _ _), m3, m3, _, rfl, ?_⟩
                rw [SeqAt.eqv_refl _ (SeqAt.canLay_of_shaped m3)]
                refine iteF ?_
                have sB := sA.trans s10
                exact ⟨B6.same sB, Tabs.ext T6 sB, _, _, _, _, _, rfl⟩
        · rintro σ' H7 ⟨B7, T7, w2, w3, w4, w5, w6, rfl⟩
          refine ⟨_, rfl, bg, rfl, B7, fun od H8 hod B8 k8 => ?_⟩
          have T8 := Tabs.keep T7 B7 k8
          obtain ⟨o1, o2⟩ := odd_no od hod
          have nob : ∀ {X : Prop} {z' : Str}, V.str od = .str z' → z' ∈ begs → X := fun e m => by
            cases e
            rw [begs_yes _ m] at o1
            cases o1
          refine word_refused (nm := "BadBeginning") PL T8 (fun H9 Q9 E9 e9 raise => ?_) fun H9 e9 T9 => ?_
          · exact ⟨_, rfl, .str od, "str", rfl, .base (.str od), by decide, o2, fun z' ez m => nob ez m, fun _ H' d s' hd => raise H' d s' hd, .inr o1⟩
          · refine word_refused (nm := "BadBeginning") PL T9 (fun H10 Q10 E10 e10 raise => ?_) fun H10 e10 T10 => ?_
            · exact ⟨_, rfl, .str od, "str", rfl, .base (.str od), by decide, o2, fun z' ez m => nob ez m, fun _ H' d s' hd => raise H' d s' hd, .inr o1⟩
            · refine ⟨by show 2 ≤ sizeLine; decide, fun p hp => ⟨by show 1 ≤ sizeLine; decide, fun q hq => ?_⟩⟩
              refine ⟨q, 2, _, rfl, rfl, upd_same, by decide, by decide, by show 1 * 2 ≤ sizeLine; decide, fun r hr9 => ?_⟩
              have nqp : p ≠ q := fun y => by
                rw [y] at hq
                rw [upd_same] at hq
                cases hq
              have s1' := same_new (o := HO.lst [.str "BadBeginning", .str "BadBeginning"]) hp
              have s2' := same_new (o := HO.lst [.str "BadBeginning"]) hq
              have s3' := same_new (o := HO.lst [.str "BadBeginning", .str "BadBeginning"]) hr9
              refine ⟨.list [.str "BadBeginning", .str "BadBeginning"], .list [.str "BadBeginning", .str "BadBeginning"], .lst (SqL.of (s3' _ _ (s2' _ _ upd_same))) (.cons (.str _) (.cons (.str _) .nil)), .lst (SqL.of upd_same) (.cons (.str _) (.cons (.str _) .nil)), by decide +kernel, by decide +kernel, _, rfl, ?_⟩
              rw [SeqAt.eqv_refl _ (by decide +kernel)]
              refine iteF ?_
              have sC := (s1'.trans s2').trans s3'
              have eC := (e9.trans e10)
              exact ⟨(B8.extN eC).same sC, Tabs.ext T10 sC, _, _, _, _, _, rfl⟩
    · rintro σ H2 ⟨B2, T2, v2, v3, v4, v5, v6, rfl⟩
      have c1 : ("" : Str) ∈ begs := by decide +kernel
      have c2 : ("01" : Str) ∈ begs := by decide +kernel
      refine ⟨.str "", "str", rfl, .base (.str _), by decide, Nat.le_of_ble_eq_true rfl, fun z' ez _ H3 p s3 np hp => ?_, fun q => (by rw [begs_yes _ c1] at q; cases q), .inl ⟨_, rfl, c1⟩⟩
      cases ez
      refine ⟨by show 2 ≤ sizeLine; decide, fun q hq => ?_⟩
      have npq : p ≠ q := fun y => by
        rw [y, hq] at hp
        cases hp
      refine ⟨.tuple [.int 0, .int 32], .tuple [.int 0, .int 32], .tup (SqT.of ((upd_ne npq).trans hp)) (.cons (.int _) (.cons (.int _) .nil)), .tup (SqT.of upd_same) (.cons (.int _) (.cons (.int _) .nil)), by decide +kernel, by decide +kernel, _, rfl, ?_⟩
      rw [SeqAt.eqv_refl _ (by decide +kernel)]
      refine iteT ?_
      refine ⟨.str "01", "str", rfl, .base (.str _), by decide, Nat.le_of_ble_eq_true rfl, fun z' ez _ H4 p4 s4 np4 hp4 => ?_, fun q => (by rw [begs_yes _ c2] at q; cases q), .inl ⟨_, rfl, c2⟩⟩
      cases ez
      refine ⟨by show 2 ≤ sizeLine; decide, fun q4 hq4 => ?_⟩
      have npq4 : p4 ≠ q4 := fun y => by
        rw [y, hq4] at hp4
        cases hp4
      refine ⟨.tuple [.int 8, .int 16], .tuple [.int 8, .int 16], .tup (SqT.of ((upd_ne npq4).trans hp4)) (.cons (.int _) (.cons (.int _) .nil)), .tup (SqT.of upd_same) (.cons (.int _) (.cons (.int _) .nil)), by decide +kernel, by decide +kernel, ?_⟩
      rw [SeqAt.eqv_refl _ (by decide +kernel)]
      exact k _
end
end VQ
namespace VQ
open PySem L2 LamX
/-! ### what the top has left -/
def oexB (K : PySem.W.Frag) (C : Addr) : Bool := match K.lookup C with
  | some ⟨cl, _, .cls cd, sl⟩ => decide (cl = .type "type") && (match cd.mro with
    | top :: bm => decide (top = .ref C) && PySem.HandSPX.refsVE bm
    | [] => false) && decide (sl.size = 6) && decide (sl[4]? = some (some (.builtin "ValueError.__new__"))) && cd.hasDict && !cd.hasDel
  | _ => false
theorem six {sl : Array (Option Value)} {v : Option Value} (h : sl.size = 6) (e : sl[4]? = some v) : ∃ k0 k1 k2 k3 k5, sl = #[k0, k1, k2, k3, v, k5] := by
  obtain ⟨l⟩ := sl
  match l, h, e with
  | [k0, k1, k2, k3, k4, k5], _, e =>
    cases e
    exact ⟨k0, k1, k2, k3, k5, rfl⟩
theorem oexB_ok {K : PySem.W.Frag} {C : Addr} (q : oexB K C = true) : ∃ nm q N bs bm sn sub ab col dd k0 k1 k2 k3 k5, K.lookup C = some (excClassObj nm q C N bs bm true sn sub ab col dd k0 k1 k2 k3 k5 "ValueError.__new__") ∧ PySem.HandSPX.refsVE bm = true := by
  unfold oexB at q
  cases here : K.lookup C with
  | none => rw [here] at q; cases q
  | some o =>
    obtain ⟨cl, dc, dt, sl⟩ := o
    rw [here] at q
    cases dt with
    | cls cd =>
      obtain ⟨nm, bs, mro, ns, qn, hasD, sn, sub, ab, col, del⟩ := cd
      cases mro with
      | nil => simp at q
      | cons first bm =>
        simp only [Bool.and_eq_true, decide_eq_true_eq, Bool.not_eq_true'] at q
        obtain ⟨⟨⟨⟨⟨q1, q2, q3⟩, q4⟩, q5⟩, q6⟩, q7⟩ := q
        obtain ⟨k0, k1, k2, k3, k5, rfl⟩ := six q4 q5
        subst q1 q2 q6 q7
        exact ⟨nm, qn, ns, bs, bm, sn, sub, ab, col, dc, k0, k1, k2, k3, k5, rfl, q3⟩
    | _ => cases q
/-- an error class of the program: made by its own __init__, its field called -/
def errB (K : PySem.W.Frag) (x : Str) : Bool := oexB K (He.ga K x) && (decide (PySem.W.findIn K (.ref (He.ga K x)) "__setattr__" = some (some (.builtin "object.__setattr__"))) &&
  (decide (PySem.W.subIn K (.ref (He.ga K x)) (.type "BaseException") = some true) && (decide (PySem.W.typeIn K (.ref (He.ga K x)) = some (.type "type")) && (PySem.W.keepIn K (.ref (He.ga K x)) &&
  (decide (PySem.W.findIn K (.ref (He.ga K x)) "__init__" = some (some (.ref (He.ma K (He.ga K x) "__init__")))) && (decide (PySem.W.typeIn K (.ref (He.ma K (He.ga K x) "__init__")) = some (.type "function")) &&
  decide (PySem.W.findIn K (.ref (He.ga K x)) "called" = some none)))))))
theorem errB_ok {K : PySem.W.Frag} {mg : Str → Option Value} {x qual : Str} {st : Stmt} {fd : FuncData} (h : errB K x = true) (gl : mg x = some (.ref (He.ga K x))) (fn : Fun K "__init__" qual st (He.ma K (He.ga K x) "__init__") fd) (bd : Binds K fd ["self"] []) :
    ErrC K mg x (He.ga K x) (He.ma K (He.ga K x) "__init__") fd qual st := by
  obtain ⟨h1, h⟩ := He.ba h
  obtain ⟨h2, h⟩ := He.ba h
  obtain ⟨h3, h⟩ := He.ba h
  obtain ⟨h4, h⟩ := He.ba h
  obtain ⟨h5, h⟩ := He.ba h
  obtain ⟨h6, h⟩ := He.ba h
  obtain ⟨h7, h8⟩ := He.ba h
  exact ⟨gl, ⟨oexB_ok h1, of_decide_eq_true h2, of_decide_eq_true h3, of_decide_eq_true h4, h5⟩, of_decide_eq_true h6, of_decide_eq_true h7, of_decide_eq_true h8, fn, bd⟩
theorem fun_of_D {K : PySem.W.Frag} {x qual : Str} {st : Stmt} {f : Addr} {fd : FuncData} (F : FunD K x qual (defArgs st) (defBody st) (defScope st) [] [] f fd) : Fun K x qual st f fd := by
  obtain ⟨oc, od, dV, kV, doc, pm, an, cdv, ct, osl, e, lk, cd, dv, kw⟩ := F.ex
  rcases dv with ⟨_, rfl⟩ | ⟨z, _⟩
  · exact ⟨⟨oc, od, kV, doc, pm, an, cdv, ct, osl, e, lk, cd⟩, F.kp⟩
  · exact absurd rfl z
/-- a def of the top -/
def dd (x : Str) (st : Stmt) : He.DefD := ⟨(x, none), x, x, defArgs st, defBody st, defScope st, [], []⟩
def dm (c m q : Str) (st : Stmt) : He.DefD := ⟨(c, some m), m, q, defArgs st, defBody st, defScope st, [], []⟩
end VQ
namespace VQ
open PySem L2 LamX
def plainB (K : PySem.W.Frag) (x : Str) : Bool := decide (PySem.W.exmAny K (.ref (He.ga K x)) [.ref (He.ga K "Taken"), .ref (He.ga K "NoTable"), .ref (He.ga K "NoRow")] = some false) &&
  (decide (PySem.W.exmAny K (.ref (He.ga K x)) [.ref (He.ga K "BadText"), .ref (He.ga K "Unfit")] = some false) && (decide (PySem.W.exmAny K (.ref (He.ga K x)) [.ref (He.ga K "Full")] = some false) &&
  (decide (PySem.W.exmAny K (.ref (He.ga K x)) [.ref (He.ga K "TooMany")] = some false) && (decide (PySem.W.exmAny K (.ref (He.ga K x)) [.ref (He.ga K "QuiltError"), .ref (He.ga K "Nothing")] = some true) &&
  (xfB K (He.ga K x) && decide (PySem.W.findIn K (.ref (He.ga K x)) "called" = some none))))))
theorem plainB_ok {K : PySem.W.Frag} {x : Str} (h : plainB K x = true) : Plain K (He.ga K "Taken") (He.ga K "NoTable") (He.ga K "NoRow") (He.ga K "BadText") (He.ga K "Unfit") (He.ga K "Full") (He.ga K "TooMany") (He.ga K "QuiltError") (He.ga K "Nothing") (He.ga K x) := by
  obtain ⟨h1, h⟩ := He.ba h
  obtain ⟨h2, h⟩ := He.ba h
  obtain ⟨h3, h⟩ := He.ba h
  obtain ⟨h4, h⟩ := He.ba h
  obtain ⟨h5, h⟩ := He.ba h
  obtain ⟨h6, h7⟩ := He.ba h
  exact ⟨of_decide_eq_true h1, of_decide_eq_true h2, of_decide_eq_true h3, of_decide_eq_true h4, of_decide_eq_true h5, xfB_ok h6, of_decide_eq_true h7⟩
end VQ
/-! ### the head: what the top has left, by names -/
namespace VQ
open PySem L2 LamX
def fn : List He.DefD := [dd "_law_bag" sBag, dd "_law_pull" sPull, dd "_law_of" sOf, dd "_law_same" sSame, dd "_law_tried" sTried, dd "_law_word" sWord, dd "_law_worth" sWorth, dd "_law_figs" sFigs, dd "_law_begin" sBegin, dd "_law_under" sUnder, dd "_law_odd_begin" sOddBeg, dd "is_beginning" sIsBeg, dd "need_beginning" sNeedBeg, dd "span" sSpan, dd "brother" sBrother, dm "BadBeginning" "__init__" "BadBeginning.__init__" sBadBeg, dd "law" sLaw]
def fa : List He.Fa := [.free "isinstance", .free "int", .free "bool", .free "str", .free "list", .free "tuple", .free "len", .free "all", .free "range", .free "sorted", .int "WORTHS" 32, .int "FIGURES" 5, .glo "Taken", .glo "NoTable", .glo "NoRow", .glo "BadText", .glo "Unfit", .glo "Full", .glo "TooMany", .glo "QuiltError", .glo "Nothing", .glo "_law_bag", .glo "_law_pull", .glo "_law_of", .glo "_law_same", .glo "_law_tried", .glo "_law_word", .glo "_law_worth", .glo "_law_figs", .glo "_law_begin", .glo "_law_under", .glo "_law_odd_begin", .glo "is_beginning", .glo "need_beginning", .glo "span", .glo "brother", .glo "BadBeginning", .glo "law"]
def ex (K : PySem.W.Frag) : Bool := errB K "BadBeginning" && plainB K "BadBeginning"
abbrev Rw : PySem.W.OpenRow := PySem.W.OpenLaw.row PySem.Challenge.rw_voidquilt_k02_worths_under_beginnings
abbrev hk : PySem.W.Hook := He.hookX 6 fa fn [] [("law", none)] ex
def ob (s : PySem.W.SharedT) : He.AlX := He.obsX 6 fa fn [] [("law", none)] ex (HandSHeadRun.getT s)
theorem ob_eq (s : PySem.W.SharedT) : ob s = hk.obs s.abs := He.obsX_eq (HandSHeadRun.getT_eq s)
def loose : List PySem.Str := (["QuiltError", "BadBeginning", "Taken", "Full", "BadText", "Unfit", "TooMany", "Missing", "NoTable", "NoRow", "Nothing", "WORTHS", "FIGURES", "is_beginning", "need_beginning", "span", "brother", "_law_bag", "_law_pull", "_law_of", "_law_same", "_law_tried", "_law_word", "_law_worth", "_law_figs", "_law_begin", "_law_under", "_law_odd_begin"] : List PySem.Str)
theorem run (w : World) : HandSHeadRun.RunEq Rw (PySem.W.view Rw.prog [31]) hk ob 40000 loose w := by
  intro os
  kernel_rfl
theorem at_of {K : PySem.W.Frag} {h : Heap} {mg : Str → Option Value} (X : K.In h) (G : h.Ns mainGlobals mg) {x : Str} {st : Stmt} {ps : List Str} (c : He.SaysD fa fn K) (m : dd x st ∈ fn) (g : He.Fa.glo x ∈ fa)
    (hb : ∀ (kV doc pm : Value) (an : Option Addr) (cdv ct : Value) (us : List Value), us.length = ps.length → bindArgs (PySem.W.fnOf x x (defArgs st) (defBody st) (defScope st) .none kV doc pm an cdv ct) ⟨us, []⟩ = pure (ps.zip us)) : ∃ fd, At K mg x st ps (He.ga K x) fd := by
  obtain ⟨fd, F⟩ := c.defs m
  have F' : Fun K x x st (He.ga K x) fd := fun_of_D F
  exact ⟨fd, F', He.glo_ok X G (c.facts g), F'.binds hb⟩
theorem facts {l : PySem.W.OpenLaw} {w : World} {K : PySem.W.Frag} {h : Heap} {mg : Str → Option Value} {f : Addr} (X : K.In h) (G : h.Ns mainGlobals mg) (hfa : mg ("law" : Str) = some (.ref f)) (S : He.SaysX fa fn [] [("law", none)] ex w h K) : LawAtS l w K CX0 8 63 "_law_script" mg f h := by
  have c : He.SaysD fa fn K := S.t.d
  have gl : ∀ {x : Str}, He.Fa.glo x ∈ fa → mg x = some (.ref (He.ga K x)) := fun m => He.glo_ok X G (c.facts m)
  have fr : ∀ {x : Str}, He.Fa.free x ∈ fa → mg x = none := fun m => He.free_ok X G (c.facts m)
  obtain ⟨tkWORTHS, iWORTHS⟩ := He.int_ok X G (x := "WORTHS") (i := 32) (c.facts (by simp [fa]))
  obtain ⟨tkFIGURES, iFIGURES⟩ := He.int_ok X G (x := "FIGURES") (i := 5) (c.facts (by simp [fa]))
  have b : Blt mg := ⟨fr (by simp [fa]), fr (by simp [fa]), fr (by simp [fa]), fr (by simp [fa]), fr (by simp [fa]), fr (by simp [fa]), fr (by simp [fa]), fr (by simp [fa]), fr (by simp [fa])⟩
  have fsorted : mg "sorted" = none := fr (by simp [fa])
  have ER : Errs mg (He.ga K "Taken") (He.ga K "NoTable") (He.ga K "NoRow") (He.ga K "BadText") (He.ga K "Unfit") (He.ga K "Full") (He.ga K "TooMany") (He.ga K "QuiltError") (He.ga K "Nothing") :=
    ⟨gl (by simp [fa]), gl (by simp [fa]), gl (by simp [fa]), gl (by simp [fa]), gl (by simp [fa]), gl (by simp [fa]), gl (by simp [fa]), gl (by simp [fa]), gl (by simp [fa])⟩
  have more : ex K = true := S.more
  unfold ex at more
  obtain ⟨m1, m2⟩ := He.ba more
  have more : errB K "BadBeginning" = true ∧ plainB K "BadBeginning" = true := ⟨m1, m2⟩
  obtain ⟨r0, s0⟩ := more
  obtain ⟨fdIBadBeginning, FIBadBeginning⟩ := c.defs (d := dm "BadBeginning" "__init__" "BadBeginning.__init__" sBadBeg) (by simp [fn])
  have FJBadBeginning : Fun K "__init__" "BadBeginning.__init__" sBadBeg (He.ma K (He.ga K "BadBeginning") "__init__") fdIBadBeginning := fun_of_D FIBadBeginning
  have bIBadBeginning : Binds K fdIBadBeginning ["self"] [] := FJBadBeginning.binds fun _ _ _ _ _ _ us hl => match us, hl with | [_], _ => rfl
  have EBadBeginning := errB_ok (qual := "BadBeginning.__init__") (st := sBadBeg) r0 (gl (x := "BadBeginning") (by simp [fa])) FJBadBeginning bIBadBeginning
  have PBadBeginning := plainB_ok s0
  obtain ⟨fd_law_bag, a_law_bag⟩ := at_of (x := "_law_bag") (st := sBag) (ps := ["_law_script"]) X G c (by simp [fn]) (by simp [fa]) fun _ _ _ _ _ _ us hl => match us, hl with | [_], _ => rfl
  obtain ⟨fd_law_pull, a_law_pull⟩ := at_of (x := "_law_pull") (st := sPull) (ps := ["_law_bag_here", "_law_size"]) X G c (by simp [fn]) (by simp [fa]) fun _ _ _ _ _ _ us hl => match us, hl with | [_, _], _ => rfl
  obtain ⟨fd_law_of, a_law_of⟩ := at_of (x := "_law_of") (st := sOf) (ps := ["_law_bag_here", "_law_some"]) X G c (by simp [fn]) (by simp [fa]) fun _ _ _ _ _ _ us hl => match us, hl with | [_, _], _ => rfl
  obtain ⟨fd_law_same, a_law_same⟩ := at_of (x := "_law_same") (st := sSame) (ps := ["_law_found", "_law_due"]) X G c (by simp [fn]) (by simp [fa]) fun _ _ _ _ _ _ us hl => match us, hl with | [_, _], _ => rfl
  obtain ⟨fd_law_tried, a_law_tried⟩ := at_of (x := "_law_tried") (st := sTried) (ps := ["_law_ask"]) X G c (by simp [fn]) (by simp [fa]) fun _ _ _ _ _ _ us hl => match us, hl with | [_], _ => rfl
  obtain ⟨fd_law_word, a_law_word⟩ := at_of (x := "_law_word") (st := sWord) (ps := ["_law_ask"]) X G c (by simp [fn]) (by simp [fa]) fun _ _ _ _ _ _ us hl => match us, hl with | [_], _ => rfl
  obtain ⟨fd_law_worth, a_law_worth⟩ := at_of (x := "_law_worth") (st := sWorth) (ps := ["_law_bag_here"]) X G c (by simp [fn]) (by simp [fa]) fun _ _ _ _ _ _ us hl => match us, hl with | [_], _ => rfl
  obtain ⟨fd_law_figs, a_law_figs⟩ := at_of (x := "_law_figs") (st := sFigs) (ps := ["_law_worth_here"]) X G c (by simp [fn]) (by simp [fa]) fun _ _ _ _ _ _ us hl => match us, hl with | [_], _ => rfl
  obtain ⟨fd_law_begin, a_law_begin⟩ := at_of (x := "_law_begin") (st := sBegin) (ps := ["_law_bag_here"]) X G c (by simp [fn]) (by simp [fa]) fun _ _ _ _ _ _ us hl => match us, hl with | [_], _ => rfl
  obtain ⟨fd_law_under, a_law_under⟩ := at_of (x := "_law_under") (st := sUnder) (ps := ["_law_beginning"]) X G c (by simp [fn]) (by simp [fa]) fun _ _ _ _ _ _ us hl => match us, hl with | [_], _ => rfl
  obtain ⟨fd_law_odd_begin, a_law_odd_begin⟩ := at_of (x := "_law_odd_begin") (st := sOddBeg) (ps := ["_law_bag_here"]) X G c (by simp [fn]) (by simp [fa]) fun _ _ _ _ _ _ us hl => match us, hl with | [_], _ => rfl
  obtain ⟨fdis_beginning, ais_beginning⟩ := at_of (x := "is_beginning") (st := sIsBeg) (ps := ["thing"]) X G c (by simp [fn]) (by simp [fa]) fun _ _ _ _ _ _ us hl => match us, hl with | [_], _ => rfl
  obtain ⟨fdneed_beginning, aneed_beginning⟩ := at_of (x := "need_beginning") (st := sNeedBeg) (ps := ["beginning"]) X G c (by simp [fn]) (by simp [fa]) fun _ _ _ _ _ _ us hl => match us, hl with | [_], _ => rfl
  obtain ⟨fdspan, aspan⟩ := at_of (x := "span") (st := sSpan) (ps := ["beginning"]) X G c (by simp [fn]) (by simp [fa]) fun _ _ _ _ _ _ us hl => match us, hl with | [_], _ => rfl
  obtain ⟨fdbrother, abrother⟩ := at_of (x := "brother") (st := sBrother) (ps := ["beginning"]) X G c (by simp [fn]) (by simp [fa]) fun _ _ _ _ _ _ us hl => match us, hl with | [_], _ => rfl
  obtain ⟨fd, F⟩ := c.defs (d := dd "law" sLaw) (by simp [fn])
  have ef : f = He.ga K "law" := by
    have e := hfa.symm.trans (gl (x := "law") (by simp [fa]))
    injection e with e
    injection e
  subst ef
  have F' : Fun K "law" "law" sLaw (He.ga K "law") fd := fun_of_D F
  obtain ⟨oc, od, kV, doc, pm, an, cdv, ct, osl, efd, lk, hcd⟩ := F'.ex
  obtain ⟨cc, rfl⟩ := He.codeIn_ref hcd
  have ec : He.codeOf K ("law", none) = cc := He.codeOf_eq (p := ("law", none)) lk (by rw [efd])
  refine ⟨fd, [He.cT K ("law", none)], spLaw K (He.cT K ("law", none)).2, fun p hp => ?_, fun p hp => ?_, fun p hp => ?_, fun s u => ?_, fun H a ns hn _ hT hS => ?_, fun base KB GB TB => ?_⟩
  · obtain rfl := List.mem_singleton.mp hp
    exact S.empty _ (by simp)
  · obtain rfl := List.mem_singleton.mp hp
    exact S.out _ (by simp)
  · obtain rfl := List.mem_singleton.mp hp
    exact PySem.W.codeHd_of_K X (S.hd _ (by simp))
  · rw [efd]
    exact .of_eq rfl
  · exact ⟨a, ns, rfl, hS, hn, hT _ (List.mem_singleton.mpr rfl), fun _ => rfl⟩
  · have TB' := TB _ (List.mem_singleton.mpr rfl)
    have e1 : (He.cT K ("law", none)).1 = cc := ec
    rw [e1] at TB'
    rw [efd] at lk ⊢
    exact ok_law lk hcd TB' b fsorted iWORTHS iFIGURES ER PBadBeginning a_law_bag a_law_pull a_law_of a_law_same a_law_tried a_law_word a_law_worth a_law_figs a_law_begin a_law_under a_law_odd_begin ais_beginning aneed_beginning aspan abrother EBadBeginning
end VQ
open PySem PySem.W PySem.Calls PyProof.Rows
set_option maxRecDepth 100000 in
set_option maxHeartbeats 0 in
theorem PySem.Challenge.cw_voidquilt_k02_worths_under_beginnings_holds : PySem.Challenge.rw_voidquilt_k02_worths_under_beginnings.Holds := by
  w_on; o_law
  refine HandSHeadRun.head_any (r := PySem.W.OpenLaw.row PySem.Challenge.rw_voidquilt_k02_worths_under_beginnings) (q := view (PySem.W.OpenLaw.row PySem.Challenge.rw_voidquilt_k02_worths_under_beginnings).prog [31]) (H := VQ.hk) (ob := VQ.ob) (M := 40000) (loose := VQ.loose) (d := HandSHeadRun.topDef (PySem.W.OpenLaw.row PySem.Challenge.rw_voidquilt_k02_worths_under_beginnings).prog 31) (kwd := []) VQ.ob_eq
    (by kernel_rfl) (fun s => by kernel_rfl) VQ.run (by kernel_rfl) (by kernel_rfl) (by kernel_rfl) (by rfl) (by first | assumption | decide +kernel) (by decide +kernel) ⟨rfl, rfl, rfl, rfl, rfl, by decide +kernel⟩ ?hw ?hc
  case hw => w_witness2
  case hc =>
    refine LamX.walk_ofTsE (l := PySem.Challenge.rw_voidquilt_k02_worths_under_beginnings) (n := 63) (k := 8) (x := "_law_script") (CX := fun _ => L2.CX0) rfl (by decide) (by kernel_rfl) ⟨rfl, by decide, by decide⟩ ?F (fun _ _ _ _ _ z => z)
    intro w mg fa h Y G hmg0
    obtain ⟨K, KX, S⟩ := Y
    have hmg : mg ("law" : PySem.Str) = some (.ref fa) := by
      have e : (HandSHeadRun.topDef (PySem.W.OpenLaw.row PySem.Challenge.rw_voidquilt_k02_worths_under_beginnings).prog 31).name = ("law" : PySem.Str) := by kernel_rfl
      rw [← e]
      exact hmg0
    exact ⟨K, KX, VQ.facts KX G hmg S⟩
