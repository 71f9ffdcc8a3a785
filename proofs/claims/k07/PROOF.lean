import PyProof.Rows.All
import Wide.All
import OpenK.AllK
import Wide.FinOn
import HandS.Base
import HandS.Call
import HandS.List
import HandS.Words
import HandS.WordsList
import HandS.Codes
import HandS.FStr
import PyProof.FString3
import PyProof.Rows.StrIntSpec
import PyProof.FactsAll.int_2
import KE.KxField
import HandS.Ends
import HandS.Exc
import HandS.ExcInit
import HandS.ExcField
import HandS.TryMany
import KE.KTryMore
import HandS.Lambda
import HandS.Defaults
import PyProof.DefMake
import PyProof.DefCall
import HandS.TupMul
import HandS.TupAny
import HandS.Zip
import HandS.Comp
import HandS.Iter
import KE.GoesMore
import HandS.IsInst
import HandS.StrMore
import HandS.WordsExc
import HandS.Text
import PyProof.StrLaws
import PyProof.StrLawsAffix
import HandS.EndTab
import HandS.HeadWalk
import HandS.Head0
import HandS.Head1
import HandS.Head2
import HandS.HeadEnd
import HandS.HeadHook1
import HandS.HeadHook2
import HandS.HeadHook3
import HandS.HeadHook4
import PySem.Challenge.RW_voidquilt_k07_whole_put_together_boxes_c
set_option Elab.async false
set_option linter.all false
set_option maxRecDepth 100000
set_option maxHeartbeats 3000000
namespace VQ
open PySem L2
def top (i : Nat) : Stmt := PySem.Challenge.pw_voidquilt_k07_whole_put_together_boxes_c.main.body.getD i (.Pass ⟨0, 0, 0, 0⟩)
abbrev sBag : Stmt := top 35
abbrev sPull : Stmt := top 36
abbrev sOf : Stmt := top 37
/-- a drawing bag stands at b -/
def Bag (H : Hp) (b : Addr) : Prop := ∃ (l : Addr) (ns : List Int) (i r x n : Int), l ≠ b ∧ H b = some (.lst [.ref l, .int i, .int r, .int x, .int n]) ∧ H l = some (.lst (ns.map V.int)) ∧ 0 ≤ i ∧ 0 ≤ x ∧ x < 2147483629
/-- all but b is as it was, and the list in b's first place is the same one -/
def Keep (b : Addr) (H H' : Hp) : Prop := (∀ a o, a ≠ b → H a = some o → H' a = some o) ∧ ∀ l r, H b = some (.lst (.ref l :: r)) → ∃ r', H' b = some (.lst (.ref l :: r'))
theorem Keep.refl (b : Addr) (H : Hp) : Keep b H H := ⟨fun _ _ _ h => h, fun _ r h => ⟨r, h⟩⟩
theorem Keep.trans {b : Addr} {H H1 H2 : Hp} (h1 : Keep b H H1) (h2 : Keep b H1 H2) : Keep b H H2 := ⟨fun a o n h => h2.1 a o n (h1.1 a o n h), fun l r h => let ⟨r1, e⟩ := h1.2 l r h; h2.2 l r1 e⟩
theorem Keep.upd {b l : Addr} {H : Hp} {r r' : List V} (h : H b = some (.lst (.ref l :: r))) : Keep b H (upd H b (.lst (.ref l :: r'))) := ⟨fun a u n h => by rw [upd_ne n]; exact h, fun l' r1 e => by
  rw [h] at e
  cases e
  exact ⟨r', upd_same⟩⟩
theorem Same.keep {b : Addr} {H H' : Hp} (h : Same H H') : Keep b H H' := ⟨fun a o _ e => h a o e, fun l r e => ⟨r, h _ _ e⟩⟩
theorem same_new {H : Hp} {p : Addr} {o : HO} (h : H p = none) : Same H (upd H p o) := fun a u e => by rw [upd_ne (ne_of_none e h)]; exact e
theorem Bag.here {H : Hp} {b : Addr} (h : Bag H b) : ∃ o, H b = some o := by
  obtain ⟨l, ns, i, r, x, n, _, h1, _⟩ := h
  exact ⟨_, h1⟩
theorem Bag.same {H H' : Hp} {b : Addr} (h : Bag H b) (s : Same H H') : Bag H' b := by
  obtain ⟨l, ns, i, r, x, n, nl, h1, h2, h3⟩ := h
  exact ⟨l, ns, i, r, x, n, nl, s _ _ h1, s _ _ h2, h3⟩
theorem Keep.free {b p : Addr} {H H' : Hp} (k : Keep b H H') (h : Bag H b) (h' : Bag H' b) (hp : H' p = none) : H p = none := by
  cases q : H p with
  | none => rfl
  | some o =>
    by_cases e : p = b
    · obtain ⟨o', z⟩ := h'.here
      rw [e, z] at hp
      cases hp
    · rw [k.1 p o e q] at hp
      cases hp
/-- something new is written while the bag is kept -/
theorem Bag.put {b D : Addr} {H0 H : Hp} {o : HO} (B0 : Bag H0 b) (hD : H0 D = none) (k : Keep b H0 H) (B : Bag H b) : Bag (upd H D o) b ∧ Keep b H0 (upd H D o) := by
  obtain ⟨l, ns, i, r, x, n, nl, h1, h2, h3⟩ := B0
  obtain ⟨l', ns', i', r', x', n', nl', g1, g2, g3⟩ := B
  obtain ⟨rr, e⟩ := k.2 l _ h1
  rw [g1] at e
  cases e
  have bD : b ≠ D := ne_of_none h1 hD
  have lD : l ≠ D := ne_of_none h2 hD
  refine ⟨⟨l, ns', i', r', x', n', nl', (upd_ne bD).trans g1, (upd_ne lD).trans g2, g3⟩, fun a u ne e => ?_, fun l2 r2 e => ?_⟩
  · rw [upd_ne (ne_of_none e hD)]
    exact k.1 a u ne e
  · rw [upd_ne bD]
    exact k.2 l2 r2 e
theorem Keep.tup {b a : Addr} {H H' : Hp} {xs : List V} (k : Keep b H H') (B : Bag H b) (h : H a = some (.tup xs)) : H' a = some (.tup xs) := by
  refine k.1 a _ (fun e => ?_) h
  obtain ⟨l, ns, i, r, x, n, nl, h1, _⟩ := B
  rw [e, h1] at h
  cases h
def spPull : Sp := fun vs H Q _ => ∃ (b : Addr) (s : Int), vs = [.ref b, .int s] ∧ Bag H b ∧ 1 ≤ s ∧ s < 1073741824 ∧
  ∀ (d : Int) (H' : Hp), 0 ≤ d → d < s → Bag H' b → Keep b H H' → Q (.int d) H'
section
variable {P : Program} {w : World} {K : PySem.W.Frag} {mg : Str → Option Value} {base : Heap}
theorem scPull : FnScope ["_law_bag_here", "_law_size", "_law_cell", "_law_digit"] ["_law_bag_here", "_law_size"] (defScope sPull) := ⟨rfl, rfl, rfl, by decide +kernel, rfl, by decide +kernel, by decide +kernel⟩
theorem ok_pull {f : Addr} {fd : FuncData} (F : Fun K "_law_pull" "_law_pull" sPull f fd) (len : mg "len" = none) : FnOk P w K mg base CX0 1 f fd ["_law_bag_here", "_law_size"] spPull := by
  refine F.ok scPull (fun vs H Q E h => ?_) (fun cdv A outer s H vs Q E hr h => ?_)
  · obtain ⟨b, s, rfl, _⟩ := h
    rfl
  · obtain ⟨b, z, rfl, B, z1, z2, k⟩ := h
    refine ⟨_, C8.pss_cut (ps_if (PW.pt (pw_and (pt_cmpR op_lt (pe_ix ix_list (pv 0) pe_int fun _ _ => rfl) (pv 1) (nomark _)) (pw_and1 (pt_cmpR op_lt (pe_ix ix_list (pv 0) pe_int fun _ _ => rfl)
          (pe_callB call_len_seq (by rfl) len PySem.boot_len (pa_cons (pe_ix ix_list (pv 0) pe_int fun _ _ => rfl) pa_nil)) (nomark _)))))
        (pss_cons (ps_set (i := 2) scPull.nd rfl (.inl rfl) (pe_ix ix_list (pe_ix ix_list (pv 0) pe_int fun _ _ => rfl) (pe_ix ix_list (pv 0) pe_int fun _ _ => rfl) fun _ _ => rfl))
        (pss_cons (ps_asg (pe_op op_add (pe_ix ix_list (pv 0) pe_int fun _ _ => rfl) pe_int) (pg_sub (pv 0) pe_int set_list))
        (pss_cons (ps_asg (pe_ifExp (pt_cmpR op_ge (pv 2) (pe_op op_pow pe_int pe_int) (nomark _)) (pe_op op_sub (pv 2) (pe_op op_pow pe_int pe_int)) pe_int) (pg_sub (pv 0) pe_int set_list))
        (pss_one (ps_asg (pe_op op_mod (pe_op op_add (pe_op op_add (pe_op op_mul (pe_ix ix_list (pv 0) pe_int fun _ _ => rfl) pe_int) (pe_op op_mul (pv 2) pe_int)) (pe_ix ix_list (pv 0) pe_int fun _ _ => rfl)) pe_int) (pg_sub (pv 0) pe_int set_list))))))
        pss_nil)
      (pss_cons (ps_if (pt_cmpR op_ge (pe_ix ix_list (pv 0) pe_int fun _ _ => rfl) (pv 1) (nomark _))
        (pss_cons (ps_set (i := 3) scPull.nd rfl (.inl rfl) (pe_op op_mod (pe_ix ix_list (pv 0) pe_int fun _ _ => rfl) (pv 1)))
        (pss_cons (ps_asg (pe_op op_fdiv (pe_ix ix_list (pv 0) pe_int fun _ _ => rfl) (pv 1)) (pg_sub (pv 0) pe_int set_list))
        (pss_one (ps_ret (pv 3)))))
        pss_nil)
      (pss_cons (ps_asg (pe_op op_add (pe_ix ix_list (pv 0) pe_int fun _ _ => rfl) pe_int) (pg_sub (pv 0) pe_int set_list))
      (pss_cons (ps_asg (pe_op op_mod (pe_op op_add (pe_op op_add (pe_op op_add (pe_op op_pow (pe_ix ix_list (pv 0) pe_int fun _ _ => rfl) pe_int) (pe_op op_mul pe_int (pe_ix ix_list (pv 0) pe_int fun _ _ => rfl))) (pe_op op_fdiv (pe_ix ix_list (pv 0) pe_int fun _ _ => rfl) pe_int)) pe_int) pe_int) (pg_sub (pv 0) pe_int set_list))
      (pss_one (ps_ret (pe_op op_mod (pe_op op_fdiv (pe_ix ix_list (pv 0) pe_int fun _ _ => rfl) pe_int) (pv 1)))))))
      , ?_⟩
    refine ⟨fun σ' H' => ∃ (c e : Option V), σ' = [some (.ref b), some (.int z), c, e] ∧ Bag H' b ∧ Keep b H H', ?_, ?_⟩
    · obtain ⟨l, ns, i, r, x, n, nl, h1, h2, i0, x0, x1⟩ := id B
      have m53 : ∀ y : Int, 0 ≤ y % 2147483629 ∧ y % 2147483629 < 2147483629 := fun y => ⟨Int.emod_nonneg _ (by decide), Int.emod_lt_of_pos _ (by decide)⟩
      refine ⟨_, rfl, _, _, _, _, rfl, rfl, SqL.of h1, (show atI [V.ref l, .int i, .int r, .int x, .int n] 2 = some (.int r) from rfl), _, rfl, _, _, rfl, rfl, _, rfl, ?_⟩
      refine ite2 (fun _ => ?_) (fun _ => ?_)
      · refine ⟨_, rfl, _, _, _, _, rfl, rfl, SqL.of h1, (show atI [V.ref l, .int i, .int r, .int x, .int n] 1 = some (.int i) from rfl), _, rfl, _, _, _, _, rfl, rfl, SqL.of h1, (show atI [V.ref l, .int i, .int r, .int x, .int n] 0 = some (.ref l) from rfl), l, _, rfl, .inl (SqL.of h2), _, _, rfl, rfl, _, rfl, ?_⟩
        refine ite2 (fun hlt => ?_) (fun _ => ?_)
        · have hi : i < (ns.length : Int) := by
            have q := of_decide_eq_true hlt
            rw [List.length_map] at q
            exact q
          obtain ⟨j, rfl⟩ := Int.eq_ofNat_of_zero_le i0
          have hj : j < ns.length := Int.ofNat_lt.mp hi
          have at1 : atI (ns.map V.int) (j : Int) = some (V.int (ns[j]'hj)) := atI_nat (by rw [List.getElem?_map, List.getElem?_eq_getElem hj]; rfl)
          generalize ns[j]'hj = cell at at1
          refine ⟨_, rfl, _, _, _, _, rfl, rfl, SqL.of h1, (show atI [V.ref l, .int j, .int r, .int x, .int n] 0 = some (.ref l) from rfl), _, rfl, _, _, _, _, rfl, rfl, SqL.of h1, (show atI [V.ref l, .int j, .int r, .int x, .int n] 1 = some (.int j) from rfl), l, _, _, _, rfl, rfl, SqL.of h2, at1, ?_⟩
          -- bag[1] = bag[1] + 1
          refine ⟨_, rfl, _, _, _, _, rfl, rfl, SqL.of h1, (show atI [V.ref l, .int j, .int r, .int x, .int n] 1 = some (.int j) from rfl), _, _, rfl, rfl, _, rfl, b, _, 1, 1, rfl, rfl, h1, rfl, ?_⟩
          -- bag[2] = ..
          refine ⟨_, rfl, 10, 18, rfl, rfl, ⟨by decide, by decide, by decide⟩, _, _, rfl, rfl, _, rfl, ?_⟩
          refine ite2 (fun _ => ?_) (fun _ => ?_)
          · refine ⟨_, rfl, 10, 18, rfl, rfl, ⟨by decide, by decide, by decide⟩, _, _, rfl, rfl, _, rfl, b, _, 2, 2, rfl, rfl, upd_same, rfl, ?_⟩
            refine ⟨_, rfl, b, _, _, _, rfl, rfl, SqL.of upd_same, rfl, _, 69069, rfl, rfl, .inr ⟨by decide, by decide⟩, _, rfl, _, 5, rfl, rfl, .inr ⟨by decide, by decide⟩, _, _, rfl, rfl, _, rfl, b, _, _, _, rfl, rfl, SqL.of upd_same, rfl, _, _, rfl, rfl, _, 2147483629, rfl, rfl, (show (0 : Int) < 2147483629 by decide), _, rfl, b, _, 3, 3, rfl, rfl, upd_same, rfl, ?_⟩
            refine ⟨_, _, rfl, ⟨l, ns, _, _, _, _, nl, upd_same, ?_, ?_, (m53 _).1, (m53 _).2⟩, ?_⟩
            · rw [upd_ne nl, upd_ne nl, upd_ne nl]
              exact h2
            · omega
            · exact Keep.trans (Keep.trans (Keep.upd h1) (Keep.upd upd_same)) (Keep.upd upd_same)
          · refine ⟨_, rfl, b, _, 2, 2, rfl, rfl, upd_same, rfl, ?_⟩
            refine ⟨_, rfl, b, _, _, _, rfl, rfl, SqL.of upd_same, rfl, _, 69069, rfl, rfl, .inr ⟨by decide, by decide⟩, _, rfl, _, 5, rfl, rfl, .inr ⟨by decide, by decide⟩, _, _, rfl, rfl, _, rfl, b, _, _, _, rfl, rfl, SqL.of upd_same, rfl, _, _, rfl, rfl, _, 2147483629, rfl, rfl, (show (0 : Int) < 2147483629 by decide), _, rfl, b, _, 3, 3, rfl, rfl, upd_same, rfl, ?_⟩
            refine ⟨_, _, rfl, ⟨l, ns, _, _, _, _, nl, upd_same, ?_, ?_, (m53 _).1, (m53 _).2⟩, ?_⟩
            · rw [upd_ne nl, upd_ne nl, upd_ne nl]
              exact h2
            · omega
            · exact Keep.trans (Keep.trans (Keep.upd h1) (Keep.upd upd_same)) (Keep.upd upd_same)
        · exact ⟨none, none, rfl, B, Keep.refl b H⟩
      · exact ⟨none, none, rfl, B, Keep.refl b H⟩
    · rintro σ' H' ⟨c, e, rfl, B', kp⟩
      obtain ⟨l, ns, i, r, x, n, nl, h1, h2, i0, x0, x1⟩ := id B'
      refine ⟨_, rfl, _, _, _, _, rfl, rfl, SqL.of h1, (show atI [V.ref l, .int i, .int r, .int x, .int n] 2 = some (.int r) from rfl), _, rfl, _, _, rfl, rfl, _, rfl, ?_⟩
      have m53 : ∀ y : Int, 0 ≤ y % 2147483629 ∧ y % 2147483629 < 2147483629 := fun y => ⟨Int.emod_nonneg _ (by decide), Int.emod_lt_of_pos _ (by decide)⟩
      have mz : ∀ y : Int, 0 ≤ y % z ∧ y % z < z := fun y => ⟨Int.emod_nonneg _ (by omega), Int.emod_lt_of_pos _ (by omega)⟩
      refine ite2 (fun _ => ?_) (fun _ => ?_)
      · refine ⟨_, rfl, b, _, _, _, rfl, rfl, SqL.of h1, rfl, _, rfl, _, _, rfl, rfl, (show (0 : Int) < z by omega), ?_⟩
        refine ⟨_, rfl, b, _, _, _, rfl, rfl, SqL.of h1, rfl, _, rfl, _, _, rfl, rfl, ⟨(show (0 : Int) < z by omega), z2⟩, _, rfl, b, _, 2, 2, rfl, rfl, h1, rfl, ?_⟩
        refine ⟨_, rfl, ?_⟩
        exact k _ _ (mz _).1 (mz _).2 ⟨l, ns, _, _, _, _, nl, upd_same, by rw [upd_ne nl]; exact h2, i0, x0, x1⟩ (kp.trans (Keep.upd h1))
      · refine ⟨_, rfl, b, _, _, _, rfl, rfl, SqL.of h1, rfl, _, _, rfl, rfl, _, rfl, b, _, 4, 4, rfl, rfl, h1, rfl, ?_⟩
        refine ⟨_, rfl, b, _, _, _, rfl, rfl, SqL.of upd_same, rfl, _, 3, rfl, rfl, ⟨by decide, by decide, by omega⟩, _, rfl, b, _, _, _, rfl, rfl, SqL.of upd_same, rfl, 40507, _, rfl, rfl, .inl ⟨by decide, by decide⟩, _, _, rfl, rfl, _, rfl, b, _, _, _, rfl, rfl, SqL.of upd_same, rfl, _, 101, rfl, rfl, ⟨by decide, by decide⟩, _, _, rfl, rfl, _, _, rfl, rfl, _, 2147483629, rfl, rfl, (show (0 : Int) < 2147483629 by decide), _, rfl, b, _, 3, 3, rfl, rfl, upd_same, rfl, ?_⟩
        refine ⟨_, rfl, b, _, _, _, rfl, rfl, SqL.of upd_same, rfl, _, 19, rfl, rfl, ⟨by decide, by decide⟩, _, rfl, _, _, rfl, rfl, (show (0 : Int) < z by omega), ?_⟩
        exact k _ _ (mz _).1 (mz _).2 ⟨l, ns, _, _, _, _, nl, upd_same, by rw [upd_ne nl, upd_ne nl]; exact h2, i0, (m53 _).1, (m53 _).2⟩ (kp.trans (Keep.trans (Keep.upd h1) (Keep.upd upd_same)))
/-- an item of a list that is read, drawn by the bag -/
def spOf (K : PySem.W.Frag) : Sp := fun vs H Q _ => ∃ (b p : Addr) (xs : List V), vs = [.ref b, .ref p] ∧ Bag H b ∧ p ≠ b ∧ SqL K H p xs ∧ 1 ≤ xs.length ∧ xs.length < 1000 ∧
  ∀ (v : V) (H' : Hp), v ∈ xs → Bag H' b → Keep b H H' → Q v H'
theorem Keep.seq {b a : Addr} {H H' : Hp} {xs : List V} (k : Keep b H H') (n : a ≠ b) (h : SqL K H a xs) : SqL K H' a xs := by
  rcases h with (z | ⟨o, z⟩) | z
  · exact .inl (.inl (k.1 _ _ n z))
  · exact .inl (.inr ⟨o, k.1 _ _ n z⟩)
  · exact .inr z
/-- where a def stands -/
structure At (K : PySem.W.Frag) (mg : Str → Option Value) (x : Str) (st : Stmt) (ps : List Str) (f : Addr) (fd : FuncData) : Prop where
  fn : Fun K x x st f fd
  gl : mg x = some (.ref f)
  bd : Binds K fd ps []
theorem scOf : FnScope ["_law_bag_here", "_law_some"] ["_law_bag_here", "_law_some"] (defScope sOf) := ⟨rfl, rfl, rfl, by decide +kernel, rfl, by decide +kernel, by decide +kernel⟩
theorem ok_of {f fP : Addr} {fd fdP : FuncData} (F : Fun K "_law_of" "_law_of" sOf f fd) (len : mg "len" = none) (P1 : At K mg "_law_pull" sPull ["_law_bag_here", "_law_size"] fP fdP) : FnOk P w K mg base CX0 2 f fd ["_law_bag_here", "_law_some"] (spOf K) := by
  have G : FnOk P w K mg base CX0 1 fP fdP ["_law_bag_here", "_law_size"] spPull := ok_pull P1.fn len
  refine F.ok scOf (fun vs H Q E h => ?_) (fun cdv A outer s H vs Q E hr h => ?_)
  · obtain ⟨b, p, xs, rfl, _⟩ := h
    rfl
  · obtain ⟨b, p, xs, rfl, B, np, hx, l1, l2, k⟩ := h
    refine ⟨_, pss_one (ps_ret (pe_ix ix_list (pv 1) (pe_call G hr rfl P1.gl P1.fn.kp P1.bd .nil pass0 (pa_cons (pv 0) (pa_cons (pe_callB call_len_seq (by rfl) len PySem.boot_len (pa_cons (pv 1) pa_nil)) pa_nil))) fun _ _ => rfl)), ?_⟩
    refine ⟨_, rfl, _, rfl, _, rfl, p, xs, rfl, .inl hx, b, _, rfl, B, by omega, by omega, fun d H' d0 d1 B' kp => ?_⟩
    obtain ⟨j, rfl⟩ := Int.eq_ofNat_of_zero_le d0
    have hj : j < xs.length := Int.ofNat_lt.mp d1
    exact ⟨p, xs, _, _, rfl, rfl, kp.seq np hx, atI_nat (List.getElem?_eq_getElem hj), k _ H' (List.getElem_mem hj) B' kp⟩
def spBag (K : PySem.W.Frag) : Sp := fun vs H Q _ => ∃ (a : Addr) (ns : List Int), vs = [.ref a] ∧ SqL K H a (ns.map V.int) ∧ ns.length ≤ 63 ∧ ∀ (b : Addr) (H' : Hp), H b = none → Bag H' b → Same H H' → Q (.ref b) H'
theorem scBag : FnScope ["_law_script"] ["_law_script"] (defScope sBag) := ⟨rfl, rfl, rfl, by decide +kernel, rfl, by decide +kernel, by decide +kernel⟩
theorem ok_bag {f : Addr} {fd : FuncData} (F : Fun K "_law_bag" "_law_bag" sBag f fd) (lst : mg "list" = none) : FnOk P w K mg base CX0 1 f fd ["_law_script"] (spBag K) := by
  refine F.ok scBag (fun vs H Q E h => ?_) (fun cdv A outer s H vs Q E hr h => ?_)
  · obtain ⟨a, ns, rfl, _⟩ := h
    rfl
  · obtain ⟨a, ns, rfl, hx, hl, k⟩ := h
    refine ⟨_, pss_one (ps_ret (pe_lst (pa_cons (pe_callTy call_list_of (by rfl) lst (by decide +kernel) (pa_cons (pe_slice sl_list (pv 0) po_none (po_some pe_int)) pa_nil)) (pa_cons pe_int (pa_cons pe_int (pa_cons pe_int (pa_cons pe_int pa_nil))))))), ?_⟩
    refine ⟨_, rfl, _, rfl, a, _, rfl, hx, fun p hp => ?_⟩
    refine ⟨p, _, rfl, .inl (SqL.of upd_same), fun l hl' => ?_⟩
    refine ⟨by show 5 ≤ sizeLine; decide, fun b hb => ?_⟩
    have e : cutV (ns.map V.int) none (some 63) = ns.map V.int := by
      unfold cutV
      rw [HT.sIx_none]
      show ((ns.map V.int).drop 0).take (HT.sIx _ _ (some ((63 : Nat) : Int)) - 0) = _
      rw [HT.sIx_nat, List.drop_zero, Nat.sub_zero]
      exact List.take_of_length_le (by rw [List.length_map]; omega)
    have nl : l ≠ b := fun z => by
      rw [z, upd_same] at hb
      cases hb
    have s1 : Same H (upd H p (.lst (cutV (ns.map V.int) none (some 63)))) := same_new hp
    have s2 : Same H (upd (upd H p (.lst (cutV (ns.map V.int) none (some 63)))) l (.lst (cutV (ns.map V.int) none (some 63)))) := s1.trans (same_new hl')
    refine k b _ (s2.free hb) ⟨l, ns, 0, 0, 1, 0, nl, upd_same, ?_, by decide, by decide, by decide⟩ (s2.trans (same_new hb))
    rw [upd_ne nl, upd_same, e]
end
end VQ
namespace VQ
open PySem PySem.W L2 PyProof.Rows
open Builtin Builtin.Float Builtin.Int Builtin.Str
def binS (n : Nat) : PySem.Str := ⟨((Nat.toDigits 2 n).map Char.toNat).toArray⟩
theorem ret_text2 {M : Model} {A : Around} {E : Value → Shared → Prop} {s : Shared} {X T : PySem.Str} {Q : PySem.Fin → Shared → Prop} (e : X = T) (hL : T.length ≤ sizeLine) (h : ∀ t k, Q (.done (.ret (.str T t))) { s with toks := k }) : wpAny M A (retStr X) Q E s := by
  subst e
  exact wpAny_bind (wpAny_mkStr (by exact wpAny_pure (h _ _)) hL)
theorem ite_no2 {c : Prop} [Decidable c] {X Y : Prop} (hc : ¬ c) (h : Y) : if c then X else Y := by
  rw [if_neg hc]
  exact h
theorem wpAny_eqn {α : Type} {M : Model} {A : Around} {E : Value → Shared → Prop} {s : Shared} {Q : α → Shared → Prop} {t t' : Sem α} (e : t = t') (h : wpAny M A t' Q E s) : wpAny M A t Q E s := by
  rw [e]
  exact h
theorem parse_b : parseFormatSpec [98] "int" 62 = .ok ⟨32, 62, none, false, false, none, none, none, some 98⟩ := by kernel_rfl
theorem fmtb_run {prog : Program} {w : World} {A : Around} {R : PySem.Fin → Shared → Prop} {E : Value → Shared → Prop} {s : Shared} {a : Int} {t u : Tok} (h0 : 0 ≤ a) (h1 : a < 32)
    (h : ∀ t' k, R (.done (.ret (.str (binS a.toNat) t'))) { s with toks := k }) : wpAny (model prog w) A (Builtin.«int.__format__» ⟨[.int a t, .str (⟨#[98]⟩ : PySem.Str) u], []⟩) R E s := by
  simp only [Builtin.«int.__format__», selfAndOne, noKeywords, Int.intOfSelf, asInt?, asStr?, List.isEmpty_nil, if_true, pure_bind, bind_pure, bind_assoc, Bool.false_eq_true, if_false,
    show (Value.str (⟨#[98]⟩ : PySem.Str) u == Value.none) = false from rfl, show ((⟨#[98]⟩ : PySem.Str).length == 0) = false from rfl]
  refine wpAny_bind (wpAny_typeNameOf (T := "str") (typeIs_str _ _ _) (by decide) fun kind => ?_)
  rw [if_neg (by decide)]
  apply wpAny_bind
  apply wpAny_typeNameOfCut_int
  simp only [parse_b]
  rw [if_pos (by decide)]
  refine wpAny_eqn (t' := retStr (intField' ⟨32, 62, none, false, false, none, none, none, some 98⟩ (decide (a < 0)) [] ((Nat.toDigits 2 a.natAbs).map fun c => (if (98 : Nat) == 88 then c.toUpper else c).toNat) [] 4)) ?eq ?_
  case eq => kernel_rfl
  refine ret_text2 ?e ?l h
  case e =>
    obtain ⟨m, rfl⟩ := Int.eq_ofNat_of_zero_le h0
    have hm : m < 32 := by omega
    clear h h0 h1
    revert m
    decide +kernel
  case l =>
    obtain ⟨m, rfl⟩ := Int.eq_ofNat_of_zero_le h0
    have hm : m < 32 := by omega
    clear h h0 h1
    revert m
    decide +kernel
theorem fmtb_meets {a : Int} {t : Tok} (h0 : 0 ≤ a) (h1 : a < 32) : ∀ u, Meets (Builtin.«int.__format__» ⟨[.int a t, .str (⟨#[98]⟩ : PySem.Str) u], []⟩) (fun _ R s => ∀ t' k, R (.ok (.ret (.str (binS a.toNat) t'))) { s with toks := k }) :=
  fun u prog w A R s h => fmtb_run h0 h1 fun t' k => h t' k
def tFmtB (te : TE) : TE := fun σ H Q => te σ H fun x H1 => ∃ i : Int, x = .int i ∧ 0 ≤ i ∧ i < 32 ∧ Q (.str (binS i.toNat)) H1
theorem pe_fmtB {X : Cx} {e : Expr} {te : TE} {j : Nat} {p1 p2 pos : Pos} (he : PE X e te) : PE X (.FormattedValue e (-1) (some (.JoinedStr [.Constant (.str "b") j p1] p2)) pos) (tFmtB te) := by
  refine ⟨fun pins s σ H Q I h => ?_⟩
  refine wpAny_FormattedValue_spec (thn (he.run pins s σ H _ I h) fun v s1 ⟨x, H1, I1, r1, i, ex, h0, h1, q⟩ => ?_)
  subst ex
  obtain ⟨t, rfl⟩ := r1
  refine thn ((pe_joined1 (pe_str (X := X) (x := "b") (j := j) (pos := p1)) (pos := p2)).run pins s1 σ H1 (fun v H2 => v = .str "b" ∧ H2 = H1) I1 ⟨rfl, rfl⟩) fun r s2 ⟨y, H2, I2, r2, ey, eH⟩ => ?_
  subst ey
  obtain ⟨tk, rfl⟩ := r2
  rw [eH] at I2
  refine ⟨"b", tk, rfl, ?_⟩
  exact KXf.field_int (spec' := ⟨#[98]⟩) (by decide +kernel) (by decide) (by decide) (fmtb_meets h0 h1) fun t' k => ⟨.str (binS i.toNat), H1, I2.tok _, ⟨_, rfl⟩, q⟩
end VQ
namespace VQ
open PySem PyProof.Rows L2
/-! ### an error made without things: C() -/
/-- the end of C(): a is the new error, d its dict -/
def MadeEnd (H : Hp) (C a : Addr) (Q : XK) : VK := fun v H2 => v = .non ∧ ∃ (d : Addr) (fs : List (Str × V)), H2 a = some (exo a C (some d)) ∧ H2 d = some (exd d fs) ∧ H d = none ∧ Q (.ref C) (some d) (upd (del H2 a) d (.xd fs))
def tMkO0 (C : Addr) (sp : Sp) : L2.St → Hp → XK → Prop := fun _ H Q => ∀ a, H a = none → sp [.ref a] (upd H a (exo a C none)) (MadeEnd H C a Q) E00
  where E00 : XK := fun _ _ _ => False
theorem pmk_oex0 {X : Cx} {CX : CXT} {x : Str} {C g : Addr} {k : Nat} {fd : FuncData} {ps : List Str} {sp : Sp} {p pos : Pos} (cl : OexC X.K C) (ini : PySem.W.findIn X.K (.ref C) "__init__" = some (some (.ref g))) (ity : PySem.W.typeIn X.K (.ref g) = some (.type "function"))
    (ok : FnOk X.prog X.w X.K X.mg X.base CX k g fd ps sp) (room : Room (k + 1) X.A) (bnd : Binds X.K fd ps []) (out : Passes CX X (fun _ _ _ => False)) (isG : Gl X x) (atG : X.mg x = some (.ref C)) (nodb : (x == ("__debug__" : Str)) = false := by decide) :
    PMk X (.Call (.Name x p) [] [] pos) (tMkO0 C sp) := by
  intro pn st sl H Q inv want
  refine wpAny_Call_Name_kw (ld_glob inv isG atG (PySem.W.callWith_K0 inv.kIn cl.kC ?_) nodb)
  obtain ⟨_, _, _, _, mro, _, _, _, _, _, _, _, _, _, _, here, tail⟩ := cl.cls
  obtain ⟨h0, gn, dw, tk, osx⟩ := st
  -- the new error stands behind its empty tuple of things
  generalize eA : h0.objs.size + 1 = a
  have above : h0.objs.size ≤ a := by omega
  have promise := want a (inv.hok.fresh above)
  generalize eN : (h0.push (PySem.W.kdv_tup [])).push (PySem.HandSPX.excO C h0.objs.size) = h1
  have stays : ∀ b o, h0.get? b = some o → h1.get? b = some o := fun b o z => by
    rw [← eN]
    exact Heap.get?_push_of_some _ (Heap.get?_push_of_some _ z)
  have stands : h1.get? a = some (PySem.HandSPX.excO C h0.objs.size) := by
    rw [← eN, ← eA]
    heap_get
  have inv1 : Inv X pn sl (upd H a (exo a C none)) ⟨h1, gn, dw, tk, osx⟩ := inv.laid (t' := tk) stays above (exo_ok stands)
  have self1 : Vals [V.ref a] [Value.ref a] := .cons rfl .nil
  have cnt : ([Value.ref a] ++ ([] : List Value)).length = ps.length := (ok.len _ _ _ _ promise).symm ▸ rfl
  have binds1 := bnd ⟨h1, gn, dw, tk, osx⟩ [Value.ref a] inv1.kIn cnt
  have runs := ok.run _ X.stack ⟨h1, gn, dw, tk, osx⟩ _ ⟨[Value.ref a], []⟩ [Value.ref a] [V.ref a] _ _ (room.make C [] []) (inv1.env0.make C [] []) binds1 self1 promise
  subst eN eA
  refine wpAny_call (PySem.HandSPX.call_own F.excBase_ValueError (fun Y => PySem.HandSPX.refsVE_contains Y mro tail) (inv.kIn _ _ here) (PySem.W.looks_findIn inv.kIn ini) (fun self => PySem.W.bind_fn inv.kIn self ity) (Nat.zero_le _) (codeAny_mono runs ?_))
  rintro (er | (_ | _ | _ | u)) st2 z
  · exact out pn sl _ _ er st2 inv1 z
  · exact z.elim
  · exact z.elim
  · exact z.elim
  · obtain ⟨v, H2, z1, z2, z3, z4, z5, rfl, d, fs, y1, y2, y3, y4⟩ := z
    obtain ⟨_, _, _, _, _⟩ := st2
    exact ⟨z5, mk_end (raises_own cl.exC cl.tyC) inv above stays z3 z4 z1 z2 y1 y2 y3 y4⟩
/-! ### a try with several clauses, each «as n» -/
/-- what a clause names: one class, or a tuple of two or three -/
inductive Cte (X : Cx) : Expr → List Value → Prop
  | one {x : Str} {c : Value} {np : Pos} (h : Names X x c) : Cte X (.Name x np) [c]
  | two {x y : Str} {c e : Value} {p q r : Pos} {k : Nat} (h : Names X x c) (h' : Names X y e) : Cte X (.Tuple [.Name x p, .Name y q] k r) [c, e]
  | three {x y z : Str} {c e f : Value} {p q r t : Pos} {k : Nat} (h : Names X x c) (h' : Names X y e) (h'' : Names X z f) : Cte X (.Tuple [.Name x p, .Name y q, .Name z r] k t) [c, e, f]
section
variable {X : Cx} {a : Addr} {around : List (Addr × Obj)}
theorem names_read {pn : List (Addr × Obj)} {sl : L2.St} {H : Hp} {st : Shared} {x : Str} {c : Value} {np : Pos} {Q E : Value → Shared → Prop} (nm : Names X x c) (inv : Inv (X.suite a around) pn sl H st) (q : Q c st) :
    wpAny (model X.prog X.w) (X.A.mark (some (.ref a))) (eval (.Name x np) X.env) Q E st := by
  rcases nm with ⟨n1, n2, n3 | ⟨n3, n4, n5⟩⟩
  · exact ld_glob (X := X.suite a around) inv n1 n3 q n2
  · exact ld_blt (X := X.suite a around) inv n1 n3 n4 q n5 n2
theorem cte_run {pn : List (Addr × Obj)} {sl : L2.St} {H : Hp} {st : Shared} {te : Expr} {cs : List Value} {cls : Value} {oe : Obj} {b : Bool} {Q : Bool → Shared → Prop} {E1 E2 : Value → Shared → Prop} (ct : Cte X te cs) (inv : Inv (X.suite a around) pn sl H st)
    (at_ : st.heap.get? a = some oe) (hc : oe.cls = cls) (ans : PySem.W.exmAny X.K cls cs = some b) (q : ∀ h', (∀ b o, st.heap.get? b = some o → h'.get? b = some o) → Q b { st with heap := h' }) :
    wpAny (model X.prog X.w) (X.A.mark (some (.ref a))) (eval te X.env) (fun c s1 => wpAny (model X.prog X.w) (X.A.mark (some (.ref a))) (excMatches (.ref a) c) Q E1 s1) E2 st := by
  have ty : PySem.W.Looks (model X.prog X.w) st.heap (typeOf (.ref a)) cls := fun _ _ _ _ kp z => wpAny_typeOf_ref (kp _ _ at_) (hc ▸ z)
  have grown : ∀ (us : List Value) (b : Addr) (o : Obj), st.heap.get? b = some o → (st.heap.push { cls := .type "tuple", data := .seq us.toArray }).get? b = some o := fun us b o z => Heap.get?_push_of_some _ z
  have kin : ∀ us : List Value, X.K.In (st.heap.push { cls := .type "tuple", data := .seq us.toArray }) := fun us => (show X.K.In st.heap from inv.kIn).keeps (grown us)
  cases ct with
  | one n1 =>
    obtain ⟨b1, d1, x1, y1, z1⟩ := PySem.W.exmAny_cons ans
    cases (show some false = some d1 from y1)
    rw [Bool.or_false] at z1
    subst z1
    exact names_read n1 inv ((PySem.W.exm_one (M := model X.prog X.w) inv.kIn ty x1).here (q st.heap fun _ _ z => z))
  | @two x y c e p' q' r' k n1 n2 =>
    refine wpAny_Tuple_spliced ?_
    show wpAny _ _ (spliced [(false, eval (.Name x p') X.env), (false, eval (.Name y q') X.env)]) _ _ _
    refine Calls.spliced_cons (names_read n1 inv (Calls.spliced_cons (names_read n2 inv (Calls.spliced_nil ⟨by show 2 ≤ sizeLine; decide, ?_⟩))))
    exact (PySem.W.exm_tup2 (M := model X.prog X.w) (kin [c, e]) (ty.keeps (grown [c, e])) (Heap.get?_push_size _ rfl) ans).here (q _ (grown [c, e]))
  | @three x y z c e f p' q' r' t' k n1 n2 n3 =>
    refine wpAny_Tuple_spliced ?_
    show wpAny _ _ (spliced [(false, eval (.Name x p') X.env), (false, eval (.Name y q') X.env), (false, eval (.Name z r') X.env)]) _ _ _
    refine Calls.spliced_cons (names_read n1 inv (Calls.spliced_cons (names_read n2 inv (Calls.spliced_cons (names_read n3 inv (Calls.spliced_nil ⟨by show 3 ≤ sizeLine; decide, ?_⟩))))))
    exact (PySem.W.exm_tup3 (M := model X.prog X.w) (kin [c, e, f]) (ty.keeps (grown [c, e, f])) (Heap.get?_push_size _ rfl) ans).here (q _ (grown [c, e, f]))
end
theorem fly_keeps {B h h' : Heap} {l : List Env} {a : Addr} {Z : Obj → Prop} (f : HandSPX.FlyingZ B l a Z h) (k : ∀ b o, h.get? b = some o → h'.get? b = some o) : HandSPX.FlyingZ B l a Z h' := by
  rcases f with ⟨f1, f2, f3, oe, vs, T, oT, ts, e1, e2, e3, e4, e5, e6, e7, e8, e9⟩
  exact ⟨fun b o z => k b o (f1 b o z), f2, f3.of_keeps fun b o z _ => ⟨o, k b o z, rfl⟩, oe, vs, T, oT, ts, k _ _ e1, e2, e3, e4, e5, e6, k _ _ e7, e8, e9⟩
/-- the ends of a suite whose name (slot i) goes behind it -/
def offName (i : Nat) (D : Ends) : Ends := { nx := fun σ' H' => D.nx (σ'.set i none) H', rt := D.rt, bk := fun σ' H' => D.bk (σ'.set i none) H', ct := fun σ' H' => D.ct (σ'.set i none) H' }
abbrev Suite := Addr → Value → Option Addr → TS
/-- what the clauses wish of an error of the body -/
def wManyA (K : PySem.W.Frag) (i : Nat) (Wout : WX) (D : Ends) : List (List Value × Suite) → WX
  | [] => Wout
  | (cs, ts) :: r => fun cls d σ H => ∃ b, PySem.W.exmAny K cls cs = some b ∧ (b = true → ∀ a, H a = none → ts a cls d (offName i D) (σ.set i (some (.ref a))) H) ∧ (b = false → wManyA K i Wout D r cls d σ H)
/-- a suite walked, whatever error it has caught -/
def Suited (X : Cx) (body : List Stmt) (ts : Suite) : Prop := ∀ (a : Addr) (oe : Obj) (cls : Value) (d : Option Addr) (pn : List (Addr × Obj)), Zc cls d oe → (∃ vs, oe.data = .fields vs) → PSs (X.suite a ((a, oe) :: pn)) body (ts a cls d)
inductive HdsA (X : Cx) (n : Str) : List ExceptHandler → List (List Value × Suite) → Prop
  | nil : HdsA X n [] []
  | cons {te : Expr} {cs : List Value} {ts : Suite} {b₀ : Stmt} {more : List Stmt} {pos' : Pos} {hds : List ExceptHandler} {l : List (List Value × Suite)} (hc : Cte X te cs) (hsu : Suited X (b₀ :: more) ts) (r : HdsA X n hds l) :
      HdsA X n (.ExceptHandler (some te) (some n) (b₀ :: more) pos' :: hds) ((cs, ts) :: l)
section
variable {X : Cx} {n : Str} {i : Nat} {Wout : WX} {pins : List (Addr × Obj)} {D : Ends}
/-- one after the other, from where the error at a has landed -/
theorem hds_run (two : X.stack = X.env :: X.outer) (fr : X.env.frame = some X.env.locals) (nd : X.N.Nodup) (slot : X.N[i]? = some n) (loc : X.env.kindOf n = some .local) (tk : Takes X Wout) {a : Addr} {B : Heap} {sI s' : Shared} {σ' : L2.St} {H' : Hp} {cls : Value} {d : Option Addr}
    (inv : Inv X pins σ' H' sI) (ground : ∀ b o, sI.heap.get? b = some o → b ∉ frs X.stack → B.get? b = some o) (free : H' a = none) (notL : a ≠ X.env.locals) (notF : a ∉ X.fs) (sameOs : s'.os = sI.os) (bare : AllBare s'.gens)
    {hds : List ExceptHandler} {l : List (List Value × Suite)} (H : HdsA X n hds l) : wManyA X.K i Wout D l cls d σ' H' → ∀ h : Heap, HandSPX.FlyingZ B (X.env :: X.outer) a (Zc cls d) h → sI.heap.UpToSlots h →
    wpAny (model X.prog X.w) X.A (handleBy (.ref a) X.env hds) (SP X pins D) X.xe { s' with heap := h } := by
  induction H with
  | nil =>
    intro wish h fl up
    refine wpAny_handleBy_nil ?_
    have goOn : wpAny (model X.prog X.w) X.A (setFlight (.ref a) X.env.frame) (fun _ s4 => wpAny (model X.prog X.w) X.A (throw (.ref a) : Sem Flow) (SP X pins D) X.xe s4) X.xe { s' with heap := h } := by
      rw [fr]
      exact HandSPX.setFlight_upZ fl fun h4 held up4 => wpAny_throw (tk _ _ ⟨a, B, sI, pins, σ', H', cls, d, rfl, inv, ground, up.trans up4, .inr (.inr (two ▸ held)), free, sameOs, bare, wish⟩)
    obtain ⟨_, _, _, oe, vs, T, _, _, t1, _, t3, t4, _⟩ := id fl
    unfold PySem.passOn
    refine wpAny_bind (wpAny_field t1 t3 t4 ?_)
    have isRef : ¬ ((Value.ref T == Value.none) = true) := by simp
    rw [if_neg isRef]
    first
      | exact wpAny_bind goOn
      | exact wpAny_bind (wpAny_pure (by exact wpAny_bind goOn))
  | @cons te cs ts b₀ more pos' hds2 l2 named suited _ ih =>
    rintro ⟨b, ans, yes, no⟩ h fl up
    have onGround : ∀ {g : Heap}, HandSPX.FlyingZ B (X.env :: X.outer) a (Zc cls d) g → sI.heap.UpToSlots g → Inv X pins σ' H' { s' with heap := g } := fun f u => inv.landed ground f.1 u sameOs bare
    obtain ⟨oe, vs, t1, t2, t3⟩ := fl.there
    refine wpAny_handleBy_cons (codeAny_handlers_test (cte_run named ((onGround fl up).suite t1 t3 free notL notF) t1 t2.1 ans fun g kp => ?_)) (fun z => by cases z)
    have fl2 := fly_keeps fl kp
    have up2 := up.trans (Heap.UpToSlots.of_keeps kp)
    cases b with
    | false =>
      show wpAny _ X.A (handleBy _ X.env hds2) _ _ _
      exact ih (no rfl) g fl2 up2
    | true =>
      refine codeAny_handlers_suite_as (HandSPX.lands_againZ fl2 fun g4 fl4 up4 => ?_)
      obtain ⟨o4, _, u1, u2, u3⟩ := fl4.there
      have inv4 := (onGround fl4 (up2.trans up4)).suite u1 u3 free notL notF
      refine store_ok (X := X.suite a ((a, o4) :: (X.pn ++ pins))) (v := .ref a) inv4 nd slot (.inl loc) rfl (fun s5 inv5 => ?_) (.inr loc)
      refine wpAny_mono ((suited a o4 cls d (X.pn ++ pins) u2 ⟨_, u3⟩).run [] s5 _ H' (offName i D) inv5 (yes rfl a free)) ?_ (fun _ _ z => False.elim z)
      have nameGoes : ∀ {s6 : Shared} {σ6 : L2.St} {H6 : Hp} {Q : Shared → Prop}, Inv (X.suite a ((a, o4) :: (X.pn ++ pins))) [] σ6 H6 s6 → (∀ s7, Inv X pins (σ6.set i none) H6 s7 → Q s7) →
          wpAny (model X.prog X.w) X.A (do bindName X.env n .none; unbindBehindTheSuite X.env n pos') (fun _ s7 => Q s7) X.xe s6 := fun j z => gone_ok (j.unsuite inv.ok) nd slot loc z
      rintro (_ | _ | _ | v) s6 z
      · obtain ⟨_, _, j, z⟩ := z
        exact nameGoes j fun _ j7 => ⟨_, _, j7, z⟩
      · obtain ⟨_, _, j, z⟩ := z
        exact nameGoes j fun _ j7 => ⟨_, _, j7, z⟩
      · obtain ⟨_, _, j, z⟩ := z
        exact nameGoes j fun _ j7 => ⟨_, _, j7, z⟩
      · obtain ⟨_, _, _, j, r, z⟩ := z
        exact nameGoes j fun _ j7 => ⟨_, _, _, j7, r, z⟩
/-- try: body / except .. as n: ..  (several clauses) -/
theorem ps_try_manyA {body : List Stmt} {h₀ : ExceptHandler} {hds : List ExceptHandler} {l : List (List Value × Suite)} {pos : Pos} {tb : WX → TS} (two : X.stack = X.env :: X.outer) (fr : X.env.frame = some X.env.locals) (nd : X.N.Nodup) (slot : X.N[i]? = some n) (loc : X.env.kindOf n = some .local) (tk : Takes X Wout)
    (inside : ∀ (W : WX) (pn : List (Addr × Obj)) (xe : Value → Shared → Prop), Takes (X.tr pn xe) W → PassesOwn (model X.prog X.w) X.A X.env xe → PSs (X.tr pn xe) body (tb W))
    (clauses : HdsA X n (h₀ :: hds) l) : PS X (.Try body (h₀ :: hds) [] [] pos) (fun D σ H => tb (wManyA X.K i Wout D l) D σ H) := by
  refine ⟨fun pins st sl H D inv want => wpAny_Try_except (wpAny_mono ((inside (wManyA X.K i Wout D l) (X.pn ++ pins) _ (fun u s' air => ?_) PassesOwn.looking).run [] st sl H D (inv.toTry _) want) ?_ fun e s1 z => z)⟩
  · obtain ⟨a, B, sI, _, σ', H', cls, d, rfl, j0, ground, up, sky, free, sameOs, bare, wish⟩ := air
    have frames : X.A.frames = some (X.env :: X.outer) := two ▸ inv.ok.frames
    refine Sky.land Zc.steady frames fr (show Sky B (X.env :: X.outer) a (Zc cls d) X.env.locals s'.heap from two ▸ sky) fun h3 fl up3 => ?_
    obtain ⟨oe, vs, t1, _, t3⟩ := fl.there
    have noFrame : a ∉ frs (X.env :: X.outer) := fun m => by
      obtain ⟨_, o2, e2, nf⟩ := fl.2.2.1.mem m
      rw [t1] at e2
      cases e2
      exact nf _ t3
    refine hds_run two fr nd slot loc tk (j0.ofTry inv.ok) ground free (fun z => noFrame (List.mem_filterMap.mpr ⟨X.env, List.mem_cons_self, z ▸ fr⟩)) (fun m => ?_) sameOs bare clauses wish h3 fl (up.trans up3)
    obtain ⟨ev, m1, m2⟩ := List.mem_filterMap.mp m
    exact noFrame (List.mem_filterMap.mpr ⟨ev, List.mem_cons_of_mem _ m1, m2⟩)
  · rintro (_ | _ | _ | v) s1 z
    · obtain ⟨_, _, j, z⟩ := z
      exact wpAny_execs_nil ⟨_, _, j.ofTry inv.ok, z⟩
    · obtain ⟨_, _, j, z⟩ := z
      exact ⟨_, _, j.ofTry inv.ok, z⟩
    · obtain ⟨_, _, j, z⟩ := z
      exact ⟨_, _, j.ofTry inv.ok, z⟩
    · obtain ⟨_, _, _, j, r, z⟩ := z
      exact ⟨_, _, _, j.ofTry inv.ok, r, z⟩
end
end VQ
namespace VQ
open PySem PyProof.Rows L2 LamX
/-- kept by one part of the run, then by another one over more frames, all of which are new to the first -/
theorem un_comp {fs1 fs2 : List Addr} {H H1 H2 : Hp} {h h1 h2 : Heap} (u1 : Un fs1 [] H H1 h h1) (u2 : Un fs2 [] H1 H2 h1 h2) (sub : ∀ b ∈ fs2, b ∈ fs1 ∨ h.get? b = none) : Un fs1 [] H H2 h h2 where
  keep := fun b o e n hb hx => u2.keep b o (u1.keep b o e n hb hx) (u1.free b o e n hx) (fun m => (sub b m).elim hb fun z => nomatch z.symm.trans e) hx
  slot := fun b o e n hb hx => by
    obtain ⟨sl1, e1⟩ := u1.slot b o e n hb hx
    obtain ⟨sl2, e2⟩ := u2.any e1 (u1.free b o e n hx) hx
    exact ⟨sl2, e2⟩
  free := fun b o e n hx => let ⟨o', e1⟩ := u1.there b o e hx; u2.free b o' e1 (u1.free b o e n hx) hx
  there := fun b o e hx => let ⟨o', e1⟩ := u1.there b o e hx; u2.there b o' e1 hx
  tups := fun b xs e => u2.tups b xs (u1.tups b xs e)
  frzs := fun b o u e => u2.frzs b o u (u1.frzs b o u e)
  tbls := fun b ps e => by
    obtain ⟨m1, e1⟩ := u1.tbls b ps e
    obtain ⟨m2, e2⟩ := u2.tbls b _ e1
    rw [Array.append_assoc] at e2
    exact ⟨_, e2⟩
/-- a lambda's names: captured ones, globals, and names of its own that the maker does not have -/
structure LamS2 (X : Cx) (scope : Scope) : Prop where
  kind : scope.kind = .function
  co : scope.isCoroutine = false
  gen : scope.isGenerator = false
  noCell : ∀ y ∈ scope.names, y.2 ≠ .cell
  own : ∀ y ∈ scope.names, y.2 = .local → y.1 ∉ X.N
  free : ∀ y ∈ scope.names, y.2 = .free → X.env.scope.names.lookup y.1 = some .cell ∨ X.env.scope.names.lookup y.1 = some .free
def lamS2B (N : List Str) (sc scope : Scope) : Bool := decide (scope.kind = .function) && !scope.isCoroutine && !scope.isGenerator &&
  scope.names.all fun y => !decide (y.2 = .cell) && (!decide (y.2 = .local) || !N.contains y.1) && (!decide (y.2 = .free) || decide (sc.names.lookup y.1 = some .cell) || decide (sc.names.lookup y.1 = some .free))
theorem lamS2_by {X : Cx} {N : List Str} {sc scope : Scope} (h : lamS2B N sc scope = true) (eN : X.N = N) (es : X.env.scope = sc) : LamS2 X scope := by
  subst eN es
  simp only [lamS2B, Bool.and_eq_true, Bool.or_eq_true, Bool.not_eq_true', decide_eq_true_eq, decide_eq_false_iff_not, List.all_eq_true] at h
  obtain ⟨⟨⟨h1, h2⟩, h3⟩, h4⟩ := h
  refine ⟨h1, h2, h3, fun y m => (h4 y m).1.1, fun y m e z => ?_, fun y m e => ?_⟩
  · rcases (h4 y m).1.2 with q | q
    · exact q e
    · rw [List.contains_iff_mem.mpr z] at q
      cases q
  · rcases (h4 y m).2 with (q | q) | q
    · exact absurd e q
    · exact .inl q
    · exact .inr q
/-- the lambda of X's frame at the state st: its object at f, its code object at c -/
structure LamAt (X : Cx) (sl : L2.St) (H : Hp) (st : Shared) (body : Expr) (scope : Scope) (f c : Addr) : Prop where
  inv : ∃ pins, Inv X pins sl H st
  lam : LamS2 X scope
  new : H f = none
  nofr : f ∉ frs X.stack
  fn : ∃ (fd : FuncData) (binds : List (Str × Value)), st.heap.get? f = some { cls := .type "function", data := .func fd } ∧ fd.scope = scope ∧ fd.body = .expr body ∧ fd.code = .ref c ∧ fd.qualname = X.env.qual ++ "<lambda>" ∧ fd.globals = mainGlobals ∧ fd.builtins = builtinsNs ∧
    fd.closure = cloFrom X.env.cells scope.names [] ∧ (∀ y ∈ binds, scope.names.lookup y.1 = some .local) ∧ ∀ s1 : Shared, (∀ b o, st.heap.get? b = some o → H b = none → b ∉ frs X.stack → s1.heap.get? b = some o) → BindsTo s1 fd ⟨[], []⟩ binds
/-- its body as a reading, wherever it is entered -/
abbrev LamBody (X : Cx) (scope : Scope) (body : Expr) (k : Nat) (f c : Addr) (E : XK) (tb : TE) : Prop :=
  ∀ (A : Around) (outer : List Env) (s : Shared) (H : Hp), Room k (A.deeper (lamEnv X scope s.heap.objs.size f c)) → PE (lamCx X A outer s H E scope f c) body tb
section
variable {X : Cx} {sl : L2.St} {H : Hp} {st : Shared} {body : Expr} {scope : Scope} {f c : Addr} {k : Nat} {E : XK} {tb : TE}
/-- the closure's cells are the maker's -/
theorem clo_cell {y : Str} {d : Addr} (has : ∀ z ∈ scope.names, z.2 = .free → ∃ c, X.env.cells.lookup z.1 = some c) (e : (cloFrom X.env.cells scope.names []).lookup y = some d) : X.env.cells.lookup y = some d := by
  rcases cloFrom_mem (PySem.mem_of_lookup e) with m | ⟨m1, m2⟩
  · cases m
  · obtain ⟨c1, e1⟩ := has _ m1 rfl
    have e1 : X.env.cells.lookup y = some c1 := e1
    rw [m2, e1]
    rfl
theorem lam_enter {pins : List (Addr × Obj)} {A : Around} {outer : List Env} {s1 : Shared} {H1 : Hp} {h2 : Heap} {tk : Nat} {m : Str → Option Value} (inv : Inv X pins sl H st) (L : LamS2 X scope) (e0 : Env0 X.prog X.w X.K X.mg X.base A outer s1 H1) (cool : A.handled = none)
    (un : Un (frs X.stack) [] H H1 st.heap s1.heap) (ns : h2.Ns s1.heap.objs.size m) (grown : ∀ b o, s1.heap.get? b = some o → h2.get? b = some o) : Inv (lamCx X A outer s1 H1 E scope f c) [] sl H1 { s1 with heap := h2, toks := tk } := by
  have has : ∀ z ∈ scope.names, z.2 = .free → ∃ c, X.env.cells.lookup z.1 = some c := fun z m e => (L.free z m e).elim (fun q => inv.ok.has _ (.inl q)) (fun q => inv.ok.has _ (.inr q))
  have own : ∀ {y : Str}, scope.names.lookup y = some .free → ∃ d, (cloFrom X.env.cells scope.names []).lookup y = some d := fun {y} q => mem_lookup (cloFrom_has (cells := X.env.cells) (acc := []) (PySem.mem_of_lookup q))
  have cellOn : ∀ {d : Addr} {v : Option Value}, H d = none → st.heap.IsCell d v → h2.IsCell d v := fun {d v} z ⟨o, q1, q2⟩ => by
    obtain ⟨sl', q⟩ := un.any q1 z (by simp)
    exact ⟨_, grown _ _ q, q2⟩
  have noCell : ∀ {y : Str}, scope.names.lookup y ≠ some .cell := fun {y} q => L.noCell _ (PySem.mem_of_lookup q) rfl
  have none_ : ∀ b : Addr, b ∉ (lamCx X A outer s1 H1 E scope f c).ex := fun b z => by cases (show b ∈ ([] : List Addr) from z)
  exact {
    ok := {
      mod := e0.mod
      kind := L.kind
      glob := rfl
      blt := rfl
      above := Nat.le_refl _
      inj := fun y z d q1 q2 => inv.ok.inj y z d (clo_cell has q1) (clo_cell has q2)
      has := fun y q => q.elim (fun z => absurd (show scope.names.lookup y = some .cell from z) noCell) (fun z => own z)
      cab := fun y d z _ => by cases (show false = true from z)
      hd := fun _ => cool
      frames := Around.frames_deeper e0.frames
      stk := .inr ⟨rfl, rfl⟩
      exf := fun b z => absurd z (none_ b)
      bs := e0.bs
      bsz := e0.bsz
      noex := fun b _ _ => none_ b
      exfs := fun b z => absurd z (none_ b)
      funs := e0.funs
      frf := e0.frf }
    os := rfl
    bare := e0.bare
    base := Un.kept grown
    loc := ⟨m, ns, fun i y v q1 q2 q3 => by
      rcases (show Vis scope y from q3) with q | q | q
      · exact absurd (List.mem_of_getElem? q1) (L.own _ (PySem.mem_of_lookup q) rfl)
      · exact absurd q noCell
      · obtain ⟨m0, _, look⟩ := inv.loc
        have there := L.free _ (PySem.mem_of_lookup q) rfl
        obtain ⟨u, rel, at_⟩ := look i y v q1 q2 (.inr there)
        obtain ⟨d, hd⟩ := own q
        refine ⟨u, rel, .inr ⟨.inr q, d, hd, ?_⟩⟩
        have hd' := clo_cell has hd
        rcases at_ with ⟨z, _⟩ | ⟨_, d2, z1, z2⟩
        · have z : X.env.scope.names.lookup y = some .local := z
          rcases there with t | t <;> rw [t] at z <;> cases z
        · cases z1.symm.trans hd'
          exact cellOn (inv.freeC y _ hd') z2⟩
    cell := fun y d q => by
      obtain ⟨v, z⟩ := inv.cell y d (clo_cell has q)
      exact ⟨v, cellOn (inv.freeC y d (clo_cell has q)) z⟩
    free := e0.hok.fresh (Nat.le_refl _)
    freeC := fun y d q => by
      obtain ⟨v, o, z, _⟩ := inv.cell y d (clo_cell has q)
      exact un.free d o z (inv.freeC y d (clo_cell has q)) (by simp)
    pin := fun q m => by cases (show q ∈ ([] : List (Addr × Obj)) from m)
    hok := e0.hok.kept grown
    len := inv.len }
/-- called from the frames outer, at a state that has kept what st had -/
theorem lam_runs (L : LamAt X sl H st body scope f c) (bd : LamBody X scope body k f c E tb) {A : Around} {outer : List Env} {s1 : Shared} {H1 : Hp} {Q : VK} (room : Room (k + 1) A) (e0 : Env0 X.prog X.w X.K X.mg X.base A outer s1 H1)
    (un : Un (frs X.stack) [] H H1 st.heap s1.heap) (code : H1 c = some (CodeO c (X.env.qual ++ "<lambda>"))) (want : tb sl H1 Q) :
    codeAny (model X.prog X.w) A (.call (.ref f) ⟨[], []⟩) (CR (L2.CX X.prog X.w) outer X.prog X.w H1 s1 Q E) s1 := by
  obtain ⟨pins, inv⟩ := L.inv
  obtain ⟨⟨oc, vs, t, c1, c2, c3⟩, _⟩ := e0.hok c _ code
  obtain ⟨fd, binds, o1, o2, o3, o4, o5, o6, o7, o8, o9, o10⟩ := L.fn
  have stands := un.keep f _ o1 L.new L.nofr (by simp)
  have lim : s1.heap.NoLimit := e0.mod.nolimit.keeps fun b o z => (e0.bs b o z).1
  refine PySem.W.kla_callFunE room.depth stands rfl (by rw [o2]; exact L.lam.co) (by rw [o2]; exact L.lam.gen) o3 ⟨c, oc, vs, t, o4, c1, c2, by rw [o5]; exact c3⟩ (o10 s1 (fun b o z1 z2 z3 => un.keep b o z1 z2 z3 (by simp)) _ _ _ _ ?_)
  rw [o2, o4, o5, o6, o7, o8]
  refine wpAny_newFunctionEnv L.lam.noCell o9 (fun h2 ns but => ⟨lim.fresh _ but, ?_⟩) L.lam.kind
  have grown : ∀ b o, s1.heap.get? b = some o → h2.get? b = some o := fun b o z => but.extBut b o (Nat.ne_of_lt (Heap.lt_size z)) (Heap.get?_push_of_some _ z)
  have entered := lam_enter (E := E) (f := f) (c := c) (tk := s1.toks + binds.length) inv L.lam e0 room.hd un ns grown
  refine PySem.W.kla_codeExpr (wpAny_mono ((bd A outer s1 H1 (room.deeper _)).run [] _ _ H1 Q entered want) ?_ fun _ _ z => z)
  rintro v s2 ⟨v', H2, j, rel, q⟩
  exact ⟨v', H2, j.os, j.bare, j.base, j.hok, rel, q⟩
/-- y(), y in the i-th slot of a def that was handed the lambda, entered at s2 from the frames outer2 -/
theorem pe_actG {CXg : CXT} {Eg : XK} {N : List Str} {q : Str} {sg : Scope} {g : Addr} {cd : Value} {i : Nat} {y : Str} {pn : List (Addr × Obj)} {xe : Value → Shared → Prop} {W : WX} {p1 p2 : Pos} {A2 : Around} {outer2 : List Env} {s2 : Shared} {H2 : Hp}
    (L : LamAt X sl H st body scope f c) (bd : LamBody X scope body k f c E tb) (un2 : Un (frs X.stack) [] H H2 st.heap s2.heap) (sub : ∀ b ∈ frs outer2, b ∈ frs X.stack ∨ st.heap.get? b = none)
    (tk : Takes ((cxOf CXg X.prog X.w X.K X.mg X.base N q sg g cd A2 outer2 s2 H2 Eg).tr pn xe) W) (hW : ∀ cls d σ' H', σ'.length = N.length → E cls d H' → W cls d σ' H') (room : Room (k + 1) (A2.deeper (envOfC q sg s2.heap.objs.size g cd)))
    (slot : N[i]? = some y) (vis : Vis sg y) (n1 : (y == ("__debug__" : Str)) = false := by decide) (n2 : (y == ("__classdict__" : Str)) = false := by decide) :
    PE ((cxOf CXg X.prog X.w X.K X.mg X.base N q sg g cd A2 outer2 s2 H2 Eg).tr pn xe) (.Call (.Name y p1) [] [] p2)
      (fun σ' H' Q => σ'[i]? = some (some (.ref f)) ∧ H' c = some (CodeO c (X.env.qual ++ "<lambda>")) ∧ tb sl H' Q) := by
  refine ⟨fun pz sz σz Hz Q jz ⟨w1, w2, w3⟩ => ?_⟩
  refine wpAny_Call_Name_kw (thn ((pe_var (pos := p1) (i := i) slot vis n1 n2).run pz sz σz Hz (fun v H1 => v = .ref f ∧ H1 = Hz) jz ⟨_, w1, rfl, rfl⟩) ?_)
  rintro u s1 ⟨_, _, j, rel, rfl, rfl⟩
  cases (show u = Value.ref f from rel)
  have un := un_comp un2 (show Un (frs outer2) [] H2 _ s2.heap s1.heap from j.base) sub
  obtain ⟨fd, _, o1, _⟩ := L.fn
  refine PySem.W.callWith_F0 ⟨_, _, _, _, un.keep f _ o1 L.new L.nofr (by simp)⟩ ?_
  refine wpAny_call (codeAny_mono (lam_runs (Q := Q) L bd room j.env0 un w2 w3) ?_)
  rintro (er | (_ | _ | _ | u)) s3 z
  · exact tk er s3 (XE.of_call j (fun cls d H' y => hW cls d σz H' j.len y) z)
  · exact z.elim
  · exact z.elim
  · exact z.elim
  · exact j.after z
end
/-- a def that calls what it got, from wherever it is called -/
def Gives2 (P : Program) (w : World) (K : PySem.W.Frag) (mg : Str → Option Value) (base : Heap) (N : List Str) (x : Str) (sg : Scope) (g : Addr) (cd : Value) (bg : List Stmt) (y : Str) (q : Str) (TT : (XK → Hp → VK → Prop) → Hp → VK → Prop) : Prop :=
  ∀ (A2 : Around) (outer2 : List Env) (f c : Addr) (s : Shared) (H : Hp) (Q : VK) (tl : XK → Hp → VK → Prop),
    (∀ (W : WX) (pn : List (Addr × Obj)) (xe : Value → Shared → Prop) (E : XK) (p1 p2 : Pos), Takes ((cxOf C8.CX0 P w K mg base N x sg g cd A2 outer2 s H C8.E0).tr pn xe) W → (∀ cls d σ' H', σ'.length = N.length → E cls d H' → W cls d σ' H') →
      PE ((cxOf C8.CX0 P w K mg base N x sg g cd A2 outer2 s H C8.E0).tr pn xe) (.Call (.Name y p1) [] [] p2) (fun σ' H' Q => σ'[0]? = some (some (.ref f)) ∧ H' c = some (CodeO c q) ∧ tl E H' Q)) →
    H c = some (CodeO c q) → TT tl H Q → ∃ t, PSs (cxOf C8.CX0 P w K mg base N x sg g cd A2 outer2 s H C8.E0).nox bg t ∧ t { nx := fun _ H' => Q .non H', rt := Q } (L2.start N [.ref f]) H
/-- err.f in a suite, whatever the error's class is -/
def tXfA (K : PySem.W.Frag) (a : Addr) (cls : Value) (d : Option Addr) (f : Str) (te : TE) : TE := fun σ H Q => ∃ C, XfC K C ∧ PySem.W.findIn K (.ref C) f = some none ∧ tXf a cls d C f te σ H Q
theorem pe_xfA {X : Cx} {a : Addr} {oe : Obj} {cls : Value} {d : Option Addr} {pn : List (Addr × Obj)} {e : Expr} {te : TE} {pos : Pos} {n : Str} (z : Zc cls d oe) (rec_ : ∃ vs, oe.data = .fields vs) (he : PE (X.suite a ((a, oe) :: pn)) e te)
    (plain : attributeBase e n X.env (eval e X.env) = eval e X.env := by rfl) : PE (X.suite a ((a, oe) :: pn)) (.Attribute e n pos) (tXfA X.K a cls d n te) :=
  ⟨fun pins s σ H Q I ⟨_, xc, no, h⟩ => (pe_xf xc no z rec_ he plain).run pins s σ H Q I h⟩
/-! ### x1(lambda: body), x1: return x2(a1)[0]; x2 calls what it got -/
/-- a def as it stands: its parameter, names by slot, body -/
structure One (K : PySem.W.Frag) (mg : Str → Option Value) (x : Str) (g : Addr) (cd : Value) (N : List Str) (y : Str) (sg : Scope) (bg : List Stmt) : Prop where
  at_ : mg x = some (.ref g)
  kp : PySem.W.keepIn K (.ref g) = true
  ex : ∃ (oc : Value) (od : Option Addr) (pa : Arguments) (dV kV doc pm : Value) (an : Option Addr) (ct : Value) (osl : Array (Option Value)),
    K.lookup g = some ⟨oc, od, .func (PySem.W.fnOf x x pa bg sg dV kV doc pm an cd ct), osl⟩ ∧ L2.Binds K (PySem.W.fnOf x x pa bg sg dV kV doc pm an cd ct) [y] []
  code : PySem.W.codeIn K cd x = true
  sc : FnScope N [y] sg
  slot : N[0]? = some y
  vis : Vis sg y
  n1 : (x == ("__debug__" : Str)) = false
  n2 : (y == ("__debug__" : Str)) = false
  n3 : (y == ("__classdict__" : Str)) = false
theorem start_slot {N : List Str} {y : Str} {v : V} (h : N[0]? = some y) : (L2.start N [v])[0]? = some (some v) := by
  match N, h with
  | _ :: _, _ => rfl
section
variable {X : Cx} {x1 x2 y1 y2 : Str} {g1 g2 : Addr} {cd1 cd2 : Value} {N1 N2 : List Str} {sg1 sg2 : Scope} {bg2 : List Stmt} {j0 : Nat} {q1 q2 q3 q4 q5 q6 : Pos} {TT : (XK → Hp → VK → Prop) → Hp → VK → Prop}
abbrev handsOn (x2 y1 : Str) (j0 : Nat) (q1 q2 q3 q4 q5 q6 : Pos) : List Stmt := [.Return (some (.Subscript (.Call (.Name x2 q1) [.Name y1 q2] [] q3) (.Constant (.int 0) j0 q4) q5)) q6]
/-- in x1's frame, entered at s1 from X: x2(y1) -/
theorem pe_hand (D1 : One X.K X.mg x1 g1 cd1 N1 y1 sg1 (handsOn x2 y1 j0 q1 q2 q3 q4 q5 q6)) (D2 : One X.K X.mg x2 g2 cd2 N2 y2 sg2 bg2) (isG : sg1.names.lookup x2 = some .globalImplicit) (gives : Gives2 X.prog X.w X.K X.mg X.base N2 x2 sg2 g2 cd2 bg2 y2 (X.env.qual ++ "<lambda>") TT)
    {sl : L2.St} {H : Hp} {s1 : Shared} {body : Expr} {scope : Scope} {f c : Addr} {k : Nat} {t : XK → TE} (L : LamAt X sl H s1 body scope f c) (bd : ∀ E, LamBody X scope body k f c E (t E)) (room : Room (k + 2) (X.A.deeper (envOfC x1 sg1 s1.heap.objs.size g1 cd1))) :
    PE (cxOf C8.CX0 X.prog X.w X.K X.mg X.base N1 x1 sg1 g1 cd1 X.A X.stack s1 H C8.E0) (.Call (.Name x2 q1) [.Name y1 q2] [] q3)
      (fun σ' H' Q => σ'[0]? = some (some (.ref f)) ∧ H' c = some (CodeO c (X.env.qual ++ "<lambda>")) ∧ TT (fun E H2 Q2 => t E sl H2 Q2) H' Q) := by
  refine ⟨fun pz sz σz Hz Q jz ⟨w1, w2, w3⟩ => ?_⟩
  refine wpAny_Call_Name_kw (ld_glob jz (show (envOfC x1 sg1 s1.heap.objs.size g1 cd1).kindOf x2 = some .globalImplicit from isG) D2.at_ ?_ D2.n1)
  have arg : PA (cxOf C8.CX0 X.prog X.w X.K X.mg X.base N1 x1 sg1 g1 cd1 X.A X.stack s1 H C8.E0) [.Name y1 q2] (tCons (tVar 0) tNil) := pa_cons (pe_var (i := 0) D1.slot D1.vis D1.n2 D1.n3) pa_nil
  refine PySem.W.callWith_K (h₀ := X.base) jz.ok.mod.kin D2.kp (thn (arg.run q3 pz sz σz Hz (fun vs H2 => vs = [.ref f] ∧ H2 = Hz) jz ⟨_, w1, rfl, rfl⟩) ?_) (by rfl) (by rfl)
  rintro us s2 ⟨_, _, j, rel, rfl, rfl⟩
  obtain ⟨oc, od, pa, dV, kV, doc, pm2, an, ct, osl, lk, bnd⟩ := D2.ex
  match us, rel with
  | [_], .cons r .nil =>
    cases r
    refine ⟨j.kIn, ?_⟩
    have sub : ∀ b ∈ frs (envOfC x1 sg1 s1.heap.objs.size g1 cd1 :: X.stack), b ∈ frs X.stack ∨ s1.heap.get? b = none := fun b m => by
      obtain ⟨ev, m1, m2⟩ := List.mem_filterMap.mp m
      rcases List.mem_cons.mp m1 with rfl | m1
      · cases m2
        refine .inr (Option.eq_none_iff_forall_ne_some.mpr fun o z => ?_)
        exact Nat.lt_irrefl _ (Heap.lt_size z)
      · exact .inl (List.mem_filterMap.mpr ⟨ev, m1, m2⟩)
    have inner : codeAny (model X.prog X.w) (X.A.deeper (envOfC x1 sg1 s1.heap.objs.size g1 cd1)) (.call (.ref g2) ⟨[.ref f], []⟩) (CR C8.CX0 (envOfC x1 sg1 s1.heap.objs.size g1 cd1 :: X.stack) X.prog X.w _ s2 Q C8.E0) s2 :=
      run_ofS (N := N2) (ps := [y2]) (us := [.ref f]) (vs := [.ref f]) lk D2.code D2.sc room j.env0 (bnd s2 [.ref f] j.kIn rfl) (.cons rfl .nil) rfl fun room2 => by
        obtain ⟨tt, d1, d2⟩ := gives (X.A.deeper (envOfC x1 sg1 s1.heap.objs.size g1 cd1)) (envOfC x1 sg1 s1.heap.objs.size g1 cd1 :: X.stack) f c s2 _ Q (fun E H2 Q2 => t E sl H2 Q2)
          (fun W pn xe E p1 p2 tk hW => pe_actG (i := 0) L (bd E) (show Un (frs X.stack) [] H _ s1.heap s2.heap from j.base) sub tk hW room2 D2.slot D2.vis D2.n2 D2.n3) w2 w3
        exact ⟨tt, d1.nox, d2⟩
    refine wpAny_call (codeAny_mono inner ?_)
    rintro (er | (_ | _ | _ | u)) s3 z
    · exact (show False from z).elim
    · exact z.elim
    · exact z.elim
    · exact z.elim
    · exact j.after z
/-- the lambda is made, with whatever defaults -/
def LamMk (X : Cx) (T : List (Addr × Str)) (params : Arguments) (body : Expr) (scope : Scope) (lpos : Pos) : Prop :=
  ∀ {pins : List (Addr × Obj)} {sl : L2.St} {H : Hp} {st : Shared} {Q : Value → Shared → Prop} {E : Value → Shared → Prop}, Inv X pins sl H st → Tabs T H →
    (∀ (f c : Addr) (H1 : Hp) (s1 : Shared), Inv X pins sl H1 s1 → LamAt X sl H1 s1 body scope f c → ExtN H H1 → Tabs T H1 → H1 c = some (CodeO c (X.env.qual ++ "<lambda>")) → Q (.ref f) s1) →
    wpAny (model X.prog X.w) X.A (eval (.Lambda params body scope lpos) X.env) Q E st
theorem pe_word {T : List (Addr × Str)} {k : Nat} {params : Arguments} {body : Expr} {scope : Scope} {t : XK → TE} {p lpos pos : Pos} (isG : Gl X x1) (D1 : One X.K X.mg x1 g1 cd1 N1 y1 sg1 (handsOn x2 y1 j0 q1 q2 q3 q4 q5 q6)) (isG2 : sg1.names.lookup x2 = some .globalImplicit)
    (D2 : One X.K X.mg x2 g2 cd2 N2 y2 sg2 bg2) (gives : Gives2 X.prog X.w X.K X.mg X.base N2 x2 sg2 g2 cd2 bg2 y2 (X.env.qual ++ "<lambda>") TT) (mk : LamMk X T params body scope lpos) (room : Room (k + 3) X.A) (bd : ∀ f c' E, LamBody X scope body k f c' E (t E)) :
    PE X (.Call (.Name x1 p) [.Lambda params body scope lpos] [] pos) (tLam T (fun tl H Q => TT tl H fun v H1 => rIxT X.K v (.int 0) H1 Q) t) := by
  refine ⟨fun pins st sl H Q inv ⟨tabs, want⟩ => ?_⟩
  refine wpAny_Call_Name_kw (ld_glob inv isG D1.at_ (PySem.W.callWith_K (h₀ := X.base) inv.ok.mod.kin D1.kp ?_ (by rfl) (by rfl)) D1.n1)
  refine Calls.spliced_cons (rest := backTo pos (starEach [] X.env)) (mk inv tabs fun f c' H1 s1 inv1 LA ext tabs1 co => ?_)
  refine Calls.spliced_nil ⟨inv1.kIn, ?_⟩
  obtain ⟨oc, od, pa, dV, kV, doc, pm1, an, ct, osl, lk, bnd⟩ := D1.ex
  have outerRun : codeAny (model X.prog X.w) X.A (.call (.ref g1) ⟨[.ref f], []⟩) (CR C8.CX0 X.stack X.prog X.w H1 s1 Q C8.E0) s1 :=
    run_ofS (N := N1) (ps := [y1]) (us := [.ref f]) (vs := [.ref f]) lk D1.code D1.sc room inv1.env0 (bnd s1 [.ref f] inv1.kIn rfl) (.cons rfl .nil) rfl fun room1 =>
      ⟨_, pss_one (ps_ret (pe_ix ix_tup (pe_hand D1 D2 isG2 gives LA (bd f c') room1) pe_int fun _ _ => rfl)), start_slot D1.slot, co, want H1 ext tabs1⟩
  refine wpAny_call (codeAny_mono outerRun ?_)
  rintro (er | (_ | _ | _ | u)) s3 z
  · exact (show False from z).elim
  · exact z.elim
  · exact z.elim
  · exact z.elim
  · exact inv1.after z
end
section
variable {X : Cx} {T : List (Addr × Str)} {c P : Addr} {params : Arguments} {body : Expr} {scope : Scope} {lpos : Pos}
/-- without defaults -/
theorem mk_plain (TB : TabB X.base X.mg c P) (code : X.env.code = .ref c) (mem : (P, X.env.qual ++ "<lambda>") ∈ T) (only : ∀ p ∈ T, p.1 = P → p.2 = X.env.qual ++ "<lambda>") (L : LamS2 X scope) (nodef : defaultsOf params X.env = ([], []))
    (noargs : ∀ (q : Str) (cl : List (Str × Addr)) (pm cv ctv : Value), bindArgs (PySem.W.kla_fn "<lambda>" q params body scope cl pm cv ctv) ⟨[], []⟩ = pure []) : LamMk X T params body scope lpos := by
  intro pins sl H st Q E inv tabs k
  have has : ∀ z ∈ scope.names, z.2 = .free → ∃ c, X.env.cells.lookup z.1 = some c := fun z m e => (L.free z m e).elim (fun q => inv.ok.has _ (.inl q)) (fun q => inv.ok.has _ (.inr q))
  refine lam_make2 inv TB code mem only tabs nodef has fun f c' pm ctv H1 s1 inv1 ext tabs1 obj new nofr co => ?_
  exact k f c' H1 s1 inv1 ⟨⟨pins, inv1⟩, L, new, nofr, _, [], obj, rfl, rfl, rfl, rfl, rfl, rfl, rfl, (fun y m => by cases m), (fun s2 _ => BindsTo.of_eq (noargs _ _ _ _ _))⟩ ext tabs1 co
end
end VQ
namespace VQ
open PySem PyProof.Rows L2 LamX
/-! ### a lambda with a default -/
theorem ct_step {M : Model} {A : Around} {E : Value → Shared → Prop} {s : Shared} {b : Bool} {items : List Value} {jp : Value → Sem Value} {Q : Value → Shared → Prop} (k : ∀ (ct : Value) (h1 : Heap), (∀ b o, s.heap.get? b = some o → h1.get? b = some o) → s.heap.objs.size ≤ h1.objs.size → wpAny M A (jp ct) Q E { s with heap := h1 }) :
    wpAny M A (if b = true then (do let ct ← pure Value.none; jp ct) else (do let ct ← newTextTuple items; jp ct)) Q E s := by
  cases b with
  | true => exact wpAny_bind (wpAny_pure (k .none s.heap (fun _ _ z => z) (Nat.le_refl _)))
  | false => exact wpAny_bind (wpAny_newTextTuple (k _ _ (fun _ _ z => Heap.get?_push_of_some _ z) (by rw [Heap.size_push]; omega)))
abbrev fnDfl (q : Str) (params : Arguments) (body : Expr) (scope : Scope) (cl : List (Str × Addr)) (pm : Value) (c : Addr) (ctv dV : Value) : FuncData := { PySem.W.kla_fn "<lambda>" q params body scope cl pm (.ref c) ctv with defaults := dV }
section
variable {X : Cx} {T : List (Addr × Str)} {c P : Addr} {params : Arguments} {body : Expr} {scope : Scope} {lpos : Pos}
theorem tail_run {pins : List (Addr × Obj)} {sl : L2.St} {H : Hp} {st : Shared} {Q : Value → Shared → Prop} {E : Value → Shared → Prop} {dV : Value} (inv : Inv X pins sl H st) (TB : TabB X.base X.mg c P) (code : X.env.code = .ref c) (mem : (P, X.env.qual ++ "<lambda>") ∈ T) (only : ∀ p ∈ T, p.1 = P → p.2 = X.env.qual ++ "<lambda>") (tabs : Tabs T H)
    (has : ∀ z ∈ scope.names, z.2 = .free → ∃ c, X.env.cells.lookup z.1 = some c)
    (k : ∀ (f c' : Addr) (pm ctv : Value) (H1 : Hp) (s1 : Shared), Inv X pins sl H1 s1 → ExtN H H1 → Tabs T H1 → (∀ b o, st.heap.get? b = some o → H b = none → s1.heap.get? b = some o ∧ H1 b = none) →
      s1.heap.get? f = some { cls := .type "function", data := .func (fnDfl (X.env.qual ++ "<lambda>") params body scope (cloFrom X.env.cells scope.names []) pm c' ctv dV) } → H1 f = none → f ∉ frs X.stack → H1 c' = some (CodeO c' (X.env.qual ++ "<lambda>")) → Q (.ref f) s1) :
    wpAny (model X.prog X.w) X.A (makeTail "<lambda>" (X.env.qual ++ "<lambda>") params (.expr body) scope X.env dV .none none lpos lpos.line) Q E st := by
  obtain ⟨ps, atP, trip, known⟩ := tabs _ mem
  have rawP : st.heap.get? P = some { cls := .none, data := .fields ps } := inv.hok P _ atP
  obtain ⟨bm, ob, b1, b2, b3, b4, b5, b6, b7, b8⟩ := TB.bm.keeps inv.bk
  have noFrame : ∀ f, st.heap.objs.size ≤ f → f ∉ frs X.stack := fun f above z => by
    rcases List.mem_cons.mp (inv.stkSub _ z) with e | e
    · exact absurd inv.lt (by rw [← e]; exact Nat.not_lt.mpr above)
    · exact inv.nofs above e
  have nsG : st.heap.Ns mainGlobals X.mg := inv.mod.glob.keeps inv.bk
  unfold makeTail
  rw [closure_ok has, inv.ok.glob]
  refine wpAny_bind (wpAny_pure (ct_step fun ct h1 grown sz1 => ?_))
  have hd1 := (TB.code.keeps inv.bk).keeps grown
  have rawP1 := grown _ _ rawP
  cases found : codeAmong lpos ps.toList with
  | none =>
    refine wpAny_bind (wpAny_functionCodeX code (hd1.code rawP1 trip) (hd1.tab rawP1) found fun c' h2 tk but above below _ rec_ tab2 _ => ?_)
    have nsG2 := (nsG.keeps grown).extBut but TB.gP
    refine wpAny_bind (wpAny_builtinsFor nsG2 b1 b2 (but _ _ b4 (grown _ _ b5)) b6 b7 b8 (wpAny_bind (wpAny_nsGet nsG2 (wpAny_bind (wpAny_pure (wpAny_newObj_type ?_ (by size_fits)))))))
    obtain ⟨c2, oc, vs, t, ec, r1, r2, r3⟩ := rec_
    cases ec
    have newC : H c' = none := inv.hok.fresh (Nat.le_trans sz1 above)
    have szf : st.heap.objs.size ≤ h2.objs.size := Nat.le_trans (Nat.le_trans sz1 above) (Nat.le_of_lt below)
    have old : ∀ b o, b ≠ P → st.heap.get? b = some o → h2.get? b = some o := fun b o n z => but b o n (grown b o z)
    have inv2 := inv_table (t' := tk) (more := #[rawInt lpos.line, rawInt lpos.col, .ref c']) (h' := h2.push { cls := .type "function", data := .func (fnDfl (X.env.qual ++ "<lambda>") params body scope (cloFrom X.env.cells scope.names []) ((X.mg "__name__").getD .none) c' ct dV) }) inv atP
      (fun b o n z => Heap.get?_push_of_some _ (old b o n z)) (Heap.get?_push_of_some _ tab2.2) (Nat.le_trans sz1 above) ⟨oc, vs, t, Heap.get?_push_of_some _ r1, r2, r3⟩
    have nP : ∀ b, H b = none → b ≠ P := fun b z e => by
      rw [e, atP] at z
      cases z
    have ext : ExtN H (upd (upd H P (.tbl (ps ++ #[rawInt lpos.line, rawInt lpos.col, .ref c']))) c' (CodeO c' (X.env.qual ++ "<lambda>"))) := fun b o z n => by
      have bP : b ≠ P := fun e => by
        rw [e] at z
        exact n ps (Option.some.inj (z.symm.trans atP))
      rw [upd_ne (ne_of_none z newC), upd_ne bP]
      exact z
    have glue : (ps ++ #[rawInt lpos.line, rawInt lpos.col, Value.ref c']).toList = ps.toList ++ [rawInt lpos.line, rawInt lpos.col, .ref c'] := by simp
    refine k h2.objs.size c' _ ct _ _ inv2 ext (fun p m => ?_) (fun b o z n => ⟨Heap.get?_push_of_some _ (old b o (nP b n) z), ?_⟩) (Heap.get?_push_size _ rfl) ?_ (noFrame _ szf) upd_same
    · by_cases e : p.1 = P
      · rw [only p m e, e]
        refine ⟨_, by rw [upd_ne (ne_of_none atP newC), upd_same], by rw [glue]; exact PySem.TriplesOk_snoc _ _ _ _ trip, fun p' cv hit => ?_⟩
        rw [glue] at hit
        rcases among_app _ trip hit with z | z
        · obtain ⟨c0, z1, z2⟩ := known p' cv z
          exact ⟨c0, z1, ext _ _ z2 codeO_ne⟩
        · exact ⟨c', z, upd_same⟩
      · obtain ⟨ps', a1, a2, a3⟩ := tabs p m
        refine ⟨ps', by rw [upd_ne (ne_of_none a1 newC), upd_ne e]; exact a1, a2, fun p' cv hit => ?_⟩
        obtain ⟨c0, z1, z2⟩ := a3 p' cv hit
        exact ⟨c0, z1, ext _ _ z2 codeO_ne⟩
    · have nc : b ≠ c' := Nat.ne_of_lt (Nat.lt_of_lt_of_le (Heap.lt_size z) (Nat.le_trans sz1 above))
      rw [upd_ne nc, upd_ne (nP b n)]
      exact n
    · rw [upd_ne (Nat.ne_of_gt below), upd_ne (Nat.ne_of_gt (Nat.lt_of_lt_of_le (Heap.lt_size rawP) szf))]
      exact inv.hok.fresh szf
  | some cv =>
    obtain ⟨c', e, stands⟩ := known lpos cv found
    subst e
    have nsG1 := nsG.keeps grown
    refine wpAny_bind (wpAny_functionCode_hit code (hd1.code rawP1 trip) found (wpAny_bind (wpAny_builtinsFor nsG1 b1 b2 (grown _ _ b5) b6 b7 b8 (wpAny_bind (wpAny_nsGet nsG1 (wpAny_bind (wpAny_pure (wpAny_newObj_type ?_ (by size_fits)))))))))
    have stays : ∀ b o, st.heap.get? b = some o → (h1.push { cls := .type "function", data := .func (fnDfl (X.env.qual ++ "<lambda>") params body scope (cloFrom X.env.cells scope.names []) ((X.mg "__name__").getD .none) c' ct dV) }).get? b = some o := fun b o z => Heap.get?_push_of_some _ (grown b o z)
    exact k h1.objs.size c' _ ct H _ (inv.kept stays) (ExtN.refl H) tabs (fun b o z n => ⟨stays b o z, n⟩) (Heap.get?_push_size _ rfl) (inv.hok.fresh sz1) (noFrame _ sz1) stands
/-- one default, an int -/
theorem mk_dflt {i : Int} {j : Nat} {dp : Pos} {y : Str} (TB : TabB X.base X.mg c P) (code : X.env.code = .ref c) (mem : (P, X.env.qual ++ "<lambda>") ∈ T) (only : ∀ p ∈ T, p.1 = P → p.2 = X.env.qual ++ "<lambda>") (L : LamS2 X scope)
    (defs : defaultsOf params X.env = ([eval (.Constant (.int i) j dp) X.env], [])) (nokw : params.kwonlyargs = []) (loc : scope.names.lookup y = some .local)
    (args : ∀ (q : Str) (cl : List (Str × Addr)) (pm ctv u : Value) (cv T0 : Addr), ∃ k, bindArgs (fnDfl q params body scope cl pm cv ctv (.ref T0)) ⟨[], []⟩ = seqItems? (.ref T0) >>= k ∧ k (some #[u]) = pure [(y, u)]) : LamMk X T params body scope lpos := by
  intro pins sl H st Q E inv tabs k
  have has : ∀ z ∈ scope.names, z.2 = .free → ∃ c, X.env.cells.lookup z.1 = some c := fun z m e => (L.free z m e).elim (fun q => inv.ok.has _ (.inl q)) (fun q => inv.ok.has _ (.inr q))
  rw [arm_eval_Lambda, defs]
  show wpAny _ _ (do let dv ← evalAll [eval (.Constant (.int i) j dp) X.env]; let kdv ← holding dv (evalAllOpt []); makeFunction "<lambda>" (X.env.qual ++ "<lambda>") params (.expr body) scope X.env dv kdv [] lpos lpos.line) _ _ _
  refine wpAny_bind (wpAny_evalAll_cons (wpAny_Constant_int (wpAny_evalAll_nil (wpAny_bind (wpAny_holding (wpAny_pure ?_))))))
  rw [makeFunction_eq, nokw]
  simp only [List.zip_nil_left, List.filterMap_nil, List.isEmpty_nil, List.isEmpty_cons, if_true, Bool.false_eq_true, if_false, pure_bind]
  refine wpAny_bind (wpAny_newTextTuple ?_)
  have old : ∀ b o, st.heap.get? b = some o → (st.heap.push { cls := .type "tuple", data := .seq [Value.int i st.toks].toArray }).get? b = some o := fun b o z => Heap.get?_push_of_some _ z
  have atT : (st.heap.push { cls := .type "tuple", data := .seq [Value.int i st.toks].toArray }).get? st.heap.objs.size = some { cls := .type "tuple", data := .seq [Value.int i st.toks].toArray } := Heap.get?_push_size _ rfl
  have inv1 : Inv X pins sl H { st with heap := st.heap.push { cls := .type "tuple", data := .seq [Value.int i st.toks].toArray }, toks := st.toks + 1 } := inv.kept old
  have newT : H st.heap.objs.size = none := inv.hok.fresh (Nat.le_refl _)
  have noT : st.heap.objs.size ∉ frs X.stack := fun z => by
    rcases List.mem_cons.mp (inv.stkSub _ z) with e | e
    · exact absurd inv.lt (by rw [← e]; exact Nat.lt_irrefl _)
    · exact inv.nofs (Nat.le_refl _) e
  refine tail_run inv1 TB code mem only tabs has fun f c' pm ctv H1 s1 inv2 ext tabs1 keep obj new nofr co => ?_
  obtain ⟨t1, t2⟩ := keep _ _ atT newT
  refine k f c' H1 s1 inv2 ⟨⟨pins, inv2⟩, L, new, nofr, _, [(y, Value.int i st.toks)], obj, rfl, rfl, rfl, rfl, rfl, rfl, rfl, fun z m => ?_, fun s2 stays => ?_⟩ ext tabs1 co
  · rw [List.mem_singleton.mp m]
    exact loc
  · obtain ⟨kk, e1, e2⟩ := args (X.env.qual ++ "<lambda>") (cloFrom X.env.cells scope.names []) pm ctv (.int i st.toks) c' st.heap.objs.size
    refine BindsTo.of_looks fun M => ?_
    rw [e1]
    intro A' Q' E' s3 kp q
    have there := kp _ _ (stays _ _ t1 t2 noT)
    exact wpAny_bind (wpAny_seqItems there rfl ((PySem.W.Looks.of_pure e2 : PySem.W.Looks M s2.heap _ _) A' Q' E' s3 kp q))
end
end VQ
namespace VQ
open PySem PySem.Spec PyProof.Rows L2 LamX
/-! ### a tuple times a number from 1 on -/
theorem once_mul (l : Addr) (its : Array Value) (n : Nat) (dd : Option Addr) (sl : Array (Option Value)) (u : Tok) :
    Meets (Builtin.«tuple.__mul__» ⟨[.ref l, .int 1 u], []⟩) (fun _ R s => s.heap.get? l = some ⟨.type "tuple", dd, .seq its n, sl⟩ ∧ R (.ok (.ret (.ref l))) s) :=
  .of_wp fun prog w A R s h => by
    obtain ⟨hp, g, d, tk, os⟩ := s
    obtain ⟨hl, h⟩ := h
    have f1 := AutoSeq1.idx_int
    wp_walk using wpAny_loadPart' hl
    exact ⟨_, rfl, h⟩
/-- once is the tuple itself -/
def rTimes (K : PySem.W.Frag) : R2 := fun x y H Q => ∃ (l : Addr) (k : Int) (xs : List V), x = .ref l ∧ y = .int k ∧ SqT K H l xs ∧ xs ≠ [] ∧ 1 ≤ k ∧ k ≤ 1000 ∧ xs.length ≤ 1000 ∧
  (k = 1 → Q (.ref l) H) ∧ (k ≠ 1 → ∀ p, H p = none → Q (.ref p) (upd H p (.tup (List.replicate k.toNat xs).flatten)))
theorem op_times {X : Cx} : OpR X (binaryOp .Mult) (rTimes X.K) := by
  intro pins s σ H x y v u Q I rx ry h
  obtain ⟨l, k, xs, rfl, rfl, sq, ne, k1, k2, hz, q1, q2⟩ := h
  by_cases e : k = 1
  · subst e
    cases rx
    obtain ⟨t, rfl⟩ := ry
    obtain ⟨its, r, ⟨⟨cls, dd, data, sl⟩, ho, hc, n, hd⟩, hs⟩ := I.tuple sq
    simp only at hc hd
    subst hc hd
    exact wpAny_binaryOp_repeat_ref (T := "tuple") (U := "int") (by decide) ⟨_, ho, rfl⟩ (fun s' => typeIs_int s' 1 t) noFill_tuple_mul F.fills_int_mul F.slot_int_rmul repeat_tuple F.slot_int_index.lookup
      (call_meets F.slot_int_rmul (typeIs_int s 1 t) F.entry_int_rmul (F.args_int_rmul_2 _ _) (int_rmul_tuple 1 t l its.toArray n dd sl)
        ⟨ho, rfl, ⟨_, ho, rfl⟩, call_meets F.slot_tuple_mul ⟨_, ho, rfl⟩ F.entry_tuple_mul (F.args_tuple_mul_2 _ _) (once_mul l its.toArray n dd sl t) ⟨ho, .ref l, H, I, rfl, q1 rfl⟩⟩)
  · exact op_repT pins s σ H _ _ v u Q I rx ry ⟨l, k, xs, rfl, rfl, sq, ne, by omega, k2, hz, q2 e⟩
/-! ### comprehensions over zip of two tuples -/
theorem lc_zipT {K : PySem.W.Frag} {a b : Addr} {xs ys : List V} {g : TG} {tt : TT} {te : TE} {vs : List Nat} {σ : L2.St} {H1 : Hp} {D : Addr} {Qd : Hp → Prop} (len : xs.length = ys.length) (Pv : Nat → Hp → Prop) (h0 : Pv 0 (upd H1 D (.lst []))) (both : ∀ i H, Pv i H → SqT K H a xs ∧ SqT K H b ys)
    (turn : ∀ (i : Nat) (x y : V) (T : Addr) (H : Hp), xs[i]? = some x → ys[i]? = some y → Pv i H → H T = none → g (.ref T) (wipe σ vs) (upd H T (.tup [x, y])) fun σ2 H2 => wipe σ2 vs = wipe σ vs ∧ tt σ2 H2 fun b H3 => if b = true then te σ2 H3 fun y H4 => ∃ acc, H4 D = some (.lst acc) ∧ acc.length < sizeLine ∧ Pv (i + 1) (upd H4 D (.lst (acc ++ [y]))) else Pv (i + 1) H3)
    (fin : ∀ H, Pv xs.length H → Qd H) :
    ∃ W : Nat → Nat → Hp → Prop, (∃ m, W 0 m (upd H1 D (.lst []))) ∧ ∀ i m H, W i m H → ((RZ.ItzT K a b).stop i H ∧ Qd H) ∨ ((RZ.ItzT K a b).go i H ∧ ∃ Nx : Hp → Prop, (∀ H', Nx H' → ∃ m', m' < m ∧ W (i + 1) m' H') ∧
      ∀ x H', (RZ.ItzT K a b).yld i H x H' → g x (wipe σ vs) H' fun σ2 H2 => wipe σ2 vs = wipe σ vs ∧ tt σ2 H2 fun b H3 => if b = true then te σ2 H3 fun y H4 => ∃ acc, H4 D = some (.lst acc) ∧ acc.length < sizeLine ∧ Nx (upd H4 D (.lst (acc ++ [y]))) else Nx H3) := by
  refine ⟨fun i m H => m + i = xs.length ∧ Pv i H, ⟨xs.length, by simp, h0⟩, ?_⟩
  rintro i m H ⟨em, p⟩
  obtain ⟨sx, sy⟩ := both i H p
  by_cases lt : i < xs.length
  · have lt' : i < ys.length := by rw [← len]; exact lt
    refine .inr ⟨⟨xs, ys, xs[i], ys[i], sx, sy, List.getElem?_eq_getElem lt, List.getElem?_eq_getElem lt'⟩, Pv (i + 1), fun H' p' => ⟨m - 1, by omega, by omega, p'⟩, ?_⟩
    rintro v H' ⟨T, x, y, rfl, nT, rfl, e1, e2⟩
    exact turn i x y T H (e1 xs sx) (e2 ys sy) p nT
  · have e : i = xs.length := by omega
    subst e
    exact .inl ⟨⟨xs, ys, sx, sy, .inl (Nat.le_refl _)⟩, fin H p⟩
end VQ
namespace VQ
open PySem PySem.Spec PyProof.Rows L2
/-! ### enumerate of a tuple -/
abbrev tiO (l : Addr) : Obj := { cls := .type "tuple_iterator", data := .fields #[.ref l, .int 0 0] }
abbrev enO (it : Addr) : Obj := { cls := .type "enumerate", data := .fields #[.none, .bool false, .ref it, rawInt 0, .none, .none] }
theorem enum_newT (l : Addr) (its : Array Value) (n : Nat) (dd : Option Addr) (sl : Array (Option Value)) :
    Meets (Builtin.«enumerate.__new__» ⟨[.type "enumerate", .ref l], []⟩) (fun _ R s => s.heap.get? l = some ⟨.type "tuple", dd, .seq its n, sl⟩ ∧
      R (.ok (.ret (.ref (s.heap.push (tiO l)).objs.size))) { s with heap := (s.heap.push (tiO l)).push (enO s.heap.objs.size) }) :=
  .of_wp fun prog w A R s z => by
    obtain ⟨hp, g, d, tk, os⟩ := s
    obtain ⟨hl, z⟩ := z
    have isSub := sub_enumerate
    have tupL : Heap.IsTuple (Shared.heap ⟨hp, g, d, tk, os⟩) l its := ⟨_, hl, rfl, n, rfl⟩
    wp_walk using AutoSeq1.wpAny_loadPart' hl
    refine wpAny_stack_any fun _ => wpAny_pure ?_
    split
    · rename_i c _ _ _ _ _
      cases (c == Value.type "enumerate") <;>
      · wp_walk using AutoSeq1.wpAny_loadPart' hl, wpAny_pyIter_tuple tupL
        exact ⟨_, rfl, z⟩
    · wp_walk using AutoSeq1.wpAny_loadPart' hl, wpAny_pyIter_tuple tupL
      exact ⟨_, rfl, z⟩
theorem enum_callT {prog : Program} {w : World} {A : Around} {E : Value → Shared → Prop} {s : Shared} {l : Addr} {its : Array Value} {Q : Value → Shared → Prop} (tupL : s.heap.IsTuple l its)
    (k : ∀ g : Heap, IsEnum g (s.heap.objs.size + 1) s.heap.objs.size 0 .none → g.IsTupleIter s.heap.objs.size l 0 → (∀ b o, s.heap.get? b = some o → g.get? b = some o) → Q (.ref (s.heap.objs.size + 1)) { s with heap := g }) :
    wpAny (model prog w) A (call (.type "enumerate") [.ref l]) Q E s := by
  obtain ⟨⟨c, dd, dt, sl⟩, hl, c1, n, c2⟩ := tupL
  have c1 : c = .type "tuple" := c1
  have c2 : dt = .seq its n := c2
  subst c1 c2
  refine callType_new F.called_enumerate (by decide) (F.typeCall_enumerate_1 _) (F.newCall_enumerate_1 _) (fun x => F.args_object_init_2 x _) F.entry_enumerate_new (enum_newT l its n dd sl) ⟨hl, ?_⟩
  have sz : (s.heap.push (tiO l)).objs.size = s.heap.objs.size + 1 := Heap.size_push ..
  show _ ∧ _
  rw [sz]
  have en : IsEnum ((s.heap.push (tiO l)).push (enO s.heap.objs.size)) (s.heap.objs.size + 1) s.heap.objs.size 0 .none := by
    have q := Heap.get?_push_size (s.heap.push (tiO l)) (o := enO s.heap.objs.size) rfl
    rw [sz] at q
    exact q
  exact ⟨⟨_, en, rfl⟩, k _ en ⟨_, Heap.get?_push_of_some _ (Heap.get?_push_size _ rfl), rfl, rfl⟩ fun b o q => Heap.get?_push_of_some _ (Heap.get?_push_of_some _ q)⟩
/-- the tuple at a, each item in a new pair with its place -/
def IteT (K : PySem.W.Frag) (a : Addr) : It :=
  ⟨fun i H => ∃ (xs : List V) (x : V), SqT K H a xs ∧ xs[i]? = some x, fun i H v H' => ∃ T x, v = .ref T ∧ H T = none ∧ H' = upd H T (.tup [.int (i : Nat), x]) ∧ ∀ xs, SqT K H a xs → xs[i]? = some x, fun i H => ∃ xs : List V, SqT K H a xs ∧ xs.length = i⟩
theorem turn_enumT {P : Program} {w : World} {K : PySem.W.Frag} {elts : List Expr} {kk : Nat} {tpos : Pos} (a e it : Addr) :
    Turn P w K (.Tuple elts kk tpos) (IteT K a) [e, it] e (fun i h => (∃ old, IsEnum h e it ((i : Nat) : Int) old) ∧ h.IsTupleIter it a i) where
  mem := by simp
  obj := fun i h ⟨⟨old, he⟩, o, ho, hc, hd⟩ b hb => by
    have z : b = e ∨ b = it := by simpa using hb
    rcases z with rfl | rfl
    · exact ⟨_, he, fun v q => nomatch q⟩
    · exact ⟨o, ho, fun v q => by rw [hd] at q; cases q⟩
  keep := fun i h h' ⟨⟨old, he⟩, ti⟩ k => ⟨⟨old, k e (by simp) _ he⟩, ti.at fun o q => k it (by simp) o q⟩
  item := by
    rintro X rfl rfl rfl calm i pins s σ H E inv fp ⟨⟨old, he⟩, ti⟩ ⟨xs, x, sq, hx⟩
    obtain ⟨its, rv, tp, _⟩ := inv.tuple sq
    obtain ⟨u, hu, ru⟩ := rv.get hx
    have tp' : s.heap.IsTuple a its.toArray := tp
    have le : e < s.heap.objs.size := Heap.lt_size he
    have li : it < s.heap.objs.size := by obtain ⟨_, q, _⟩ := ti; exact Heap.lt_size q
    have ea : e ≠ a := fun z => by
      obtain ⟨o, ho, hc, _⟩ := tp'
      rw [← z, he] at ho
      cases ho
      injection hc with q
      exact absurd q (by decide)
    have ai : a ≠ it := fun z => by
      obtain ⟨o, ho, hc, _⟩ := tp'
      obtain ⟨o', ho', hc', _⟩ := ti
      rw [z, ho'] at ho
      cases ho
      rw [hc'] at hc
      injection hc with q
      exact absurd q (by decide)
    have ei : e ≠ it := fun z => by
      obtain ⟨o', ho', hc', _⟩ := ti
      rw [← z, he] at ho'
      cases ho'
      injection hc' with q
      exact absurd q (by decide)
    have hi : i < its.toArray.size := by
      have := (List.getElem?_eq_some_iff.mp hu).1
      simpa using this
    refine wpAny_pyNext_enum_itemD (Draws.tuple (A := X.A.in1) (inv.ok.hd calm) it a ai its.toArray) he ⟨ti, tp'⟩ hi ei (by simp [ei, ea]) fun y h1 tk py eo st hT _ kp => ?_
    have eu : y = u := by
      have q : its[i]? = some y := by simpa using py
      rw [hu] at q
      exact (Option.some.inj q).symm
    subst eu
    refine ⟨_, rfl, wpAny_letOwnedTupleGo_enum (s := { s with heap := h1, toks := tk + 1 }) eo fun h2 he2 sb => ?_⟩
    have hT2 : h2.get? s.heap.objs.size = some { cls := .type "tuple", data := .seq #[.int i tk, y] } := (sb.2 _ (Nat.ne_of_gt le)).trans hT
    have new : ObjOk X.prog X.w (upd H s.heap.objs.size (.tup [.int (i : Nat), x])) h2 s.heap.objs.size (.tup [.int (i : Nat), x]) :=
      ⟨by show 2 ≤ sizeLine; decide, [.int i tk, y], .cons ⟨_, rfl⟩ (.cons ru .nil), ⟨_, hT2, rfl, _, rfl⟩⟩
    have inv1 : Inv X pins σ (upd H s.heap.objs.size (.tup [.int (i : Nat), x])) { s with heap := h2, toks := tk + 1 } :=
      inv.turnedNew (ch := [e, it]) (fun b ob hb q => (sb.2 b (fun z => hb (by simp [z]))).trans (kp b ob (fun z => hb (by simp [z])) (fun z => hb (by simp [z])) q)) fp (Nat.le_refl _) new
    refine ⟨.ref s.heap.objs.size, _, inv1, rfl, ⟨_, x, rfl, inv.hok.fresh (Nat.le_refl _), rfl, fun ys hy => by rw [inv.tuple_inj hy sq]; exact hx⟩, ⟨⟨y, ?_⟩, st.1.at fun o q => (sb.2 it (Ne.symm ei)).trans q⟩, fun b hb => ?_⟩
    · rw [show ((i + 1 : Nat) : Int) = (i : Int) + 1 by omega]
      exact he2
    · have lb : b < s.heap.objs.size := by
        have z : b = e ∨ b = it := by simpa using hb
        rcases z with rfl | rfl
        · exact le
        · exact li
      rw [upd_ne (Nat.ne_of_lt lb)]
      exact (fp b hb).1
  done := by
    rintro X rfl rfl rfl calm i pins s σ H E inv fp ⟨⟨old, he⟩, ti⟩ ⟨xs, sq, hx⟩
    obtain ⟨its, rv, tp, _⟩ := inv.tuple sq
    obtain ⟨f0, f1, f2, f3, f4, f5⟩ := fp it (by simp)
    have tp' : s.heap.IsTuple a its.toArray := tp
    have ai : a ≠ it := fun z => by
      obtain ⟨o, ho, hc, _⟩ := tp'
      obtain ⟨o', ho', hc', _⟩ := ti
      rw [z, ho'] at ho
      cases ho
      rw [hc'] at hc
      injection hc with q
      exact absurd q (by decide)
    have sz : its.toArray.size = i := by
      have := rv.length
      simp
      omega
    refine wpAny_pyNext_enum_endD (n := its.toArray.size) (Draws.tuple (A := X.A.in1) (inv.ok.hd calm) it a ai its.toArray) he ⟨by rw [sz]; exact ti, tp'⟩ fun h1 eb => ⟨rfl, inv.turned (t' := s.toks) (fun b o hb q => eb b o hb q) f0 f1 f3 f4 f5⟩
  self := fun A i s Q E ⟨⟨_, he⟩, _⟩ h => wpAny_pyIter_enum he h
def iEnumT (K : PySem.W.Frag) (ta : TA) : TI := fun σ H R => ta σ H fun vs H1 => ∃ a xs, vs = [.ref a] ∧ SqT K H1 a xs ∧ R (IteT K a) H1
theorem pi_enumT {X : Cx} {e : Expr} {ta : TA} {p pos tpos : Pos} {elts : List Expr} {kk : Nat} (isG : Gl X "enumerate") (atG : X.mg "enumerate" = none) (ha : PA X [e] ta) (hs : starEach [e] X.env = [(false, eval e X.env)] := by rfl) :
    PI X (.Tuple elts kk tpos) (.Call (.Name "enumerate" p) [e] [] pos) (iEnumT X.K ta) := by
  refine ⟨fun pins s σ H R inv h => Call_ (ld_blt inv isG atG boot_enumerate (callWith_type1 (thn (ha.run pos pins s σ H _ inv h) fun us s1 ⟨vs, H1, I1, r1, q1⟩ => ?_) hs rfl))⟩
  obtain ⟨a, xs, rfl, sq, q⟩ := q1
  cases r1 with
  | cons r rr =>
    cases rr
    cases r
    obtain ⟨its, rv, tp, _⟩ := I1.tuple sq
    refine enum_callT tp fun g he ti kp => wpAny_pyIter_enum he ?_
    refine ⟨s1.heap.objs.size + 1, [s1.heap.objs.size + 1, s1.heap.objs.size], _, _, H1, rfl, I1.kept (t' := s1.toks) kp, turn_enumT a (s1.heap.objs.size + 1) s1.heap.objs.size, ⟨⟨.none, he⟩, ti⟩, fun b hb => ?_, q⟩
    have le : s1.heap.objs.size ≤ b := by
      have z : b = s1.heap.objs.size + 1 ∨ b = s1.heap.objs.size := by simpa using hb
      rcases z with rfl | rfl
      · exact Nat.le_succ _
      · exact Nat.le_refl _
    exact I1.fpOk le (I1.hok.fresh le)
/-- a for over enumerate of a tuple, by what holds between two turns -/
theorem for_enumT {K : PySem.W.Frag} {a : Addr} {xs : List V} {g : TG} {tb : TS} {D : Ends} {σ : L2.St} {H : Hp} (Pv : Nat → L2.St → Hp → Prop) (h0 : Pv 0 σ H) (there : ∀ i σ H, Pv i σ H → SqT K H a xs)
    (turn : ∀ (i : Nat) (x : V) (T : Addr) (σ : L2.St) (H : Hp), xs[i]? = some x → Pv i σ H → H T = none → g (.ref T) σ (upd H T (.tup [.int (i : Nat), x])) fun σ2 H2 => tb { D with nx := Pv (i + 1), ct := Pv (i + 1), bk := D.nx } σ2 H2)
    (fin : ∀ σ H, Pv xs.length σ H → D.nx σ H) :
    ∃ W : Nat → Nat → L2.St → Hp → Prop, (∃ m, W 0 m σ H) ∧ ∀ i m σ H, W i m σ H →
      ((IteT K a).stop i H ∧ D.nx σ H) ∨ ((IteT K a).go i H ∧ ∃ N : L2.St → Hp → Prop, (∀ σ' H', N σ' H' → ∃ m', m' < m ∧ W (i + 1) m' σ' H') ∧ ∀ x H', (IteT K a).yld i H x H' → g x σ H' fun σ2 H2 => tb { D with nx := N, ct := N, bk := D.nx } σ2 H2) := by
  refine ⟨fun i m σ H => m + i = xs.length ∧ Pv i σ H, ⟨xs.length, rfl, h0⟩, ?_⟩
  rintro i m σ H ⟨em, p⟩
  have sq := there i σ H p
  by_cases lt : i < xs.length
  · refine .inr ⟨⟨xs, xs[i], sq, List.getElem?_eq_getElem lt⟩, Pv (i + 1), fun σ' H' p' => ⟨m - 1, by omega, by omega, p'⟩, ?_⟩
    rintro v H' ⟨T, x, rfl, nT, rfl, ex⟩
    exact turn i x T σ H (ex xs sq) p nT
  · have e : i = xs.length := by omega
    subst e
    exact .inl ⟨⟨xs, sq, rfl⟩, fin σ H p⟩
end VQ
namespace VQ
open PySem PyProof.Rows L2
/-! ### xs.count(y) of plain things -/
theorem count_vals {y : V} : ∀ {ys : List V} {us : List Value}, Vals ys us → ys.all flatV = true → us.countP (eqU y) = ys.countP (fun z => eqV z y)
  | _, _, .nil, _ => rfl
  | z :: ys, u :: us, .cons r t, f => by
    rw [List.all_cons, Bool.and_eq_true] at f
    rw [List.countP_cons, List.countP_cons, count_vals t f.2, eqU_of r f.1]
def rCntF (K : PySem.W.Frag) : V → List V → Hp → VK → Prop := fun x xs H Q => ∃ (a : Addr) (ys : List V) (y : V), x = .ref a ∧ xs = [y] ∧ SqL K H a ys ∧ flatV y = true ∧ ys.all flatV = true ∧ Q (.int (ys.countP (fun z => eqV z y) : Nat)) H
theorem mt_countF {X : Cx} : MtR X "list.count" (rCntF X.K) := by
  intro pins s σ H x xs v us Q I rx rxs h
  obtain ⟨a, ys, y, rfl, rfl, sq, fy, fys, q⟩ := h
  cases rx
  cases rxs with
  | cons ry rt =>
    cases rt
    obtain ⟨its, rv, ⟨⟨cls, dd, data, sl⟩, n, ho, c1, c2, c3⟩, _⟩ := I.list sq
    simp only at c1 c3
    subst c1 c3
    refine call_meets PySem.F.slot_list_count ⟨_, ho, rfl⟩ PySem.F.entry_list_count (PySem.F.args_list_count_2 _ _) (SeqAt.list_countAt a its.toArray n dd sl _ (eqU y)) ⟨ho, fun u hu => mem_eqAt ry fy rv fys u (by simpa using hu), ?_⟩
    refine ⟨.int (ys.countP (fun z => eqV z y) : Nat), H, I.tok _, ⟨s.toks, ?_⟩, q⟩
    rw [show its.toArray.toList.countP (eqU y) = ys.countP (fun z => eqV z y) from count_vals rv fys]
end VQ
namespace VQ
open PySem PySem.Spec PyProof.Rows L2 LamX
/-- a for over zip of two tuples, by what holds between two turns -/
theorem for_zipT {K : PySem.W.Frag} {a b : Addr} {xs ys : List V} {g : TG} {tb : TS} {D : Ends} {σ : L2.St} {H : Hp} (len : xs.length = ys.length) (Pv : Nat → L2.St → Hp → Prop) (h0 : Pv 0 σ H) (both : ∀ i σ H, Pv i σ H → SqT K H a xs ∧ SqT K H b ys)
    (turn : ∀ (i : Nat) (x y : V) (T : Addr) (σ : L2.St) (H : Hp), xs[i]? = some x → ys[i]? = some y → Pv i σ H → H T = none → g (.ref T) σ (upd H T (.tup [x, y])) fun σ2 H2 => tb { D with nx := Pv (i + 1), ct := Pv (i + 1), bk := D.nx } σ2 H2)
    (fin : ∀ σ H, Pv xs.length σ H → D.nx σ H) :
    ∃ W : Nat → Nat → L2.St → Hp → Prop, (∃ m, W 0 m σ H) ∧ ∀ i m σ H, W i m σ H →
      ((RZ.ItzT K a b).stop i H ∧ D.nx σ H) ∨ ((RZ.ItzT K a b).go i H ∧ ∃ N : L2.St → Hp → Prop, (∀ σ' H', N σ' H' → ∃ m', m' < m ∧ W (i + 1) m' σ' H') ∧ ∀ x H', (RZ.ItzT K a b).yld i H x H' → g x σ H' fun σ2 H2 => tb { D with nx := N, ct := N, bk := D.nx } σ2 H2) := by
  refine ⟨fun i m σ H => m + i = xs.length ∧ Pv i σ H, ⟨xs.length, rfl, h0⟩, ?_⟩
  rintro i m σ H ⟨em, p⟩
  obtain ⟨sx, sy⟩ := both i σ H p
  by_cases lt : i < xs.length
  · have lt' : i < ys.length := by omega
    refine .inr ⟨⟨xs, ys, xs[i], ys[i], sx, sy, List.getElem?_eq_getElem lt, List.getElem?_eq_getElem lt'⟩, Pv (i + 1), fun σ' H' p' => ⟨m - 1, by omega, by omega, p'⟩, ?_⟩
    rintro v H' ⟨T, x, y, rfl, nT, rfl, e1, e2⟩
    exact turn i x y T σ H (e1 xs sx) (e2 ys sy) p nT
  · have e : i = xs.length := by omega
    subst e
    exact .inl ⟨⟨xs, ys, sx, sy, .inl (Nat.le_refl _)⟩, fin σ H p⟩
end VQ
namespace VQ
open PySem L2 LamX
abbrev sWorth : Stmt := top 38
abbrev sFigs : Stmt := top 39
/-! ### figures -/
def figLow (w : Nat) : Nat → Str
  | 0 => ⟨#[]⟩
  | i + 1 => (⟨#[48 + w / 2 ^ i % 2]⟩ : Str) ++ figLow w i
def fig (w : Nat) : Str := figLow w 5
theorem figLow_len (w : Nat) : ∀ i, (figLow w i).length = i
  | 0 => rfl
  | i + 1 => by
    show ((⟨#[48 + w / 2 ^ i % 2]⟩ : Str) ++ figLow w i).length = i + 1
    show (#[48 + w / 2 ^ i % 2] ++ (figLow w i).cps).size = i + 1
    rw [Array.size_append]
    have := figLow_len w i
    show 1 + (figLow w i).length = i + 1
    omega
theorem str_bit (n : Nat) : (toString ((n % 2 : Nat) : Int) : Str) = ⟨#[48 + n % 2]⟩ := by
  rcases Nat.mod_two_eq_zero_or_one n with h | h
  · rw [h]; decide +kernel
  · rw [h]; decide +kernel
section
variable {P : Program} {w : World} {K : PySem.W.Frag} {mg : Str → Option Value} {base : Heap}
def spFigs : Sp := fun vs H Q _ => ∃ (n : Nat), vs = [.int (n : Int)] ∧ Q (.str (fig n)) H
theorem scFigs : FnScope ["_law_worth_here", "_law_found", "_law_at"] ["_law_worth_here"] (defScope sFigs) := ⟨rfl, rfl, rfl, by decide +kernel, rfl, by decide +kernel, by decide +kernel⟩
theorem ok_figs {f : Addr} {fd : FuncData} (F : Fun K "_law_figs" "_law_figs" sFigs f fd) (rng : mg "range" = none) (str : mg "str" = none) : FnOk P w K mg base CX0 1 f fd ["_law_worth_here"] spFigs := by
  refine F.ok scFigs (fun vs H Q E h => ?_) (fun cdv A outer s H vs Q E hr h => ?_)
  · obtain ⟨n, rfl, _⟩ := h
    rfl
  · obtain ⟨n, rfl, k⟩ := h
    refine ⟨_, pss_cons (ps_set (i := 1) scFigs.nd rfl (.inl rfl) pe_str)
      (pss_cons (ps_for PassesOwn.never rfl (pi_range1 rfl rng (pa_cons pe_int pa_nil)) (pg_name (i := 2) scFigs.nd rfl (.inl rfl))
        (pss_cons (ps_set (i := 1) scFigs.nd rfl (.inl rfl) (pe_op op_add_str (pe_callTy call_str_int (by rfl) str (by decide +kernel) (pa_cons (pe_op op_mod (pv 0) pe_int) pa_nil)) (pv 1)))
        (pss_one (ps_set (i := 0) scFigs.nd rfl (.inl rfl) (pe_op op_fdiv (pv 0) pe_int)))))
      (pss_one (ps_ret (pv 1)))), ?_⟩
    refine ⟨5, rfl, by decide, by decide, for_range (lo := 0) (n := 5) (fun i σ H' => H' = H ∧ ∃ v : Option V, σ = [some (.int ((n / 2 ^ i : Nat) : Int)), some (.str (figLow n i)), v]) ?_ ?_ ?_⟩
    · refine ⟨rfl, none, ?_⟩
      show [some (V.int (n : Int)), some (V.str (Str.ofString "")), none] = _
      rw [Nat.pow_zero, Nat.div_one, show Str.ofString "" = figLow n 0 from (show Str.ofString "" = (⟨#[]⟩ : Str) by decide +kernel)]
    · rintro i σ H' hi ⟨rfl, v, rfl⟩
      have e1 : ((n / 2 ^ i : Nat) : Int) % 2 = ((n / 2 ^ i % 2 : Nat) : Int) := by omega
      have e2 : ((n / 2 ^ i : Nat) : Int) / 2 = ((n / 2 ^ (i + 1) : Nat) : Int) := by
        rw [Nat.pow_succ, ← Nat.div_div_eq_div_mul]; omega
      refine ⟨_, rfl, _, 2, rfl, rfl, (by show (0 : Int) < 2; decide), _, rfl, ?_, _, rfl, _, _, rfl, rfl, ?_, ?_⟩
      · rw [e1]
        rcases Nat.mod_two_eq_zero_or_one (n / 2 ^ i) with h | h <;> rw [h] <;> decide
      · rw [e1, str_bit, figLow_len]
        show 1 + i ≤ sizeLine
        have : i < 5 := hi
        exact Nat.le_trans (by omega : 1 + i ≤ 6) (by decide)
      · refine ⟨_, rfl, _, 2, rfl, rfl, ⟨by decide, by decide⟩, rfl, some (.int (0 + (i : Int))), ?_⟩
        show [some (V.int (((n / 2 ^ i : Nat) : Int) / 2)), some (V.str (Str.ofString (toString (((n / 2 ^ i : Nat) : Int) % 2)) ++ figLow n i)), some (V.int (0 + (i : Int)))] = _
        rw [e2, e1, str_bit]
        rfl
    · rintro σ H' ⟨rfl, v, rfl⟩
      exact ⟨_, rfl, k⟩
/-! ### drawn worths -/
/-- a number drawn by the bag, of which R is true -/
def spDraw (R : Int → Prop) : Sp := fun vs H Q _ => ∃ (b : Addr), vs = [.ref b] ∧ Bag H b ∧ ∀ (i : Int) (H' : Hp), R i → Bag H' b → Keep b H H' → Q (.int i) H'
theorem scWorth : FnScope ["_law_bag_here"] ["_law_bag_here"] (defScope sWorth) := ⟨rfl, rfl, rfl, by decide +kernel, rfl, by decide +kernel, by decide +kernel⟩
theorem Bag.ne {H : Hp} {b p : Addr} (h : Bag H b) (n : H p = none) : p ≠ b := fun e => by
  obtain ⟨o, z⟩ := h.here
  rw [e, z] at n
  cases n
theorem ok_worth {f fO fP : Addr} {fd fdO fdP : FuncData} (F : Fun K "_law_worth" "_law_worth" sWorth f fd) (len : mg "len" = none) (P1 : At K mg "_law_pull" sPull ["_law_bag_here", "_law_size"] fP fdP) (P2 : At K mg "_law_of" sOf ["_law_bag_here", "_law_some"] fO fdO) :
    FnOk P w K mg base CX0 3 f fd ["_law_bag_here"] (spDraw fun i => 0 ≤ i ∧ i < 32) := by
  have G1 : FnOk P w K mg base CX0 1 fP fdP ["_law_bag_here", "_law_size"] spPull := ok_pull P1.fn len
  have G2 : FnOk P w K mg base CX0 2 fO fdO ["_law_bag_here", "_law_some"] (spOf K) := ok_of P2.fn len P1
  refine F.ok scWorth (fun vs H Q E h => ?_) (fun cdv A outer s H vs Q E hr h => ?_)
  · obtain ⟨b, rfl, _⟩ := h
    rfl
  · obtain ⟨b, rfl, B, k⟩ := h
    have hr1 : Room 1 _ := hr.mono (by decide)
    refine ⟨_, pss_one (ps_ret (pe_call G2 hr rfl P2.gl P2.fn.kp P2.bd .nil pass0 (pa_cons (pv 0) (pa_cons (pe_lst
      (pa_cons (pe_call G1 hr1 rfl P1.gl P1.fn.kp P1.bd .nil pass0 (pa_cons (pv 0) (pa_cons pe_int pa_nil)))
      (pa_cons (pe_call G1 hr1 rfl P1.gl P1.fn.kp P1.bd .nil pass0 (pa_cons (pv 0) (pa_cons pe_int pa_nil)))
      (pa_cons (pe_call G1 hr1 rfl P1.gl P1.fn.kp P1.bd .nil pass0 (pa_cons (pv 0) (pa_cons pe_int pa_nil)))
      (pa_cons pe_int (pa_cons pe_int pa_nil)))))) pa_nil)))), ?_⟩
    refine ⟨_, rfl, _, rfl, b, 32, rfl, B, by decide, by decide, fun d1 H1 a1 c1 B1 k1 => ?_⟩
    refine ⟨_, rfl, b, 32, rfl, B1, by decide, by decide, fun d2 H2 a2 c2 B2 k2 => ?_⟩
    refine ⟨_, rfl, b, 4, rfl, B2, by decide, by decide, fun d3 H3 a3 c3 B3 k3 => ?_⟩
    refine ⟨by show 5 ≤ sizeLine; decide, fun p hp => ?_⟩
    have sm := same_new (o := HO.lst [.int d1, .int d2, .int d3, .int 0, .int 31]) hp
    refine ⟨b, p, _, rfl, B3.same sm, B3.ne hp, SqL.of upd_same, by show 1 ≤ 5; decide, by show 5 < 1000; decide, fun v H' mem B' k' => ?_⟩
    have kk : Keep b H H' := ((k1.trans k2).trans k3).trans (Keep.trans (Same.keep sm) k')
    rcases List.mem_cons.mp mem with rfl | mem
    · exact k _ _ ⟨a1, c1⟩ B' kk
    rcases List.mem_cons.mp mem with rfl | mem
    · exact k _ _ ⟨a2, c2⟩ B' kk
    rcases List.mem_cons.mp mem with rfl | mem
    · exact k _ _ ⟨a3, by omega⟩ B' kk
    rcases List.mem_cons.mp mem with rfl | mem
    · exact k _ _ ⟨by decide, by decide⟩ B' kk
    rcases List.mem_cons.mp mem with rfl | mem
    · exact k _ _ ⟨by decide, by decide⟩ B' kk
    · cases mem
end
end VQ
namespace VQ
open PySem L2 LamX
/-! ### things of the plain kinds -/
def worthB : V → Bool
  | .int i => decide (0 ≤ i) && decide (i < 32)
  | _ => false
def basics : List String := ["NoneType", "bool", "int", "str", "list", "tuple"]
theorem basic_cases {K : PySem.W.Frag} {H : Hp} {x : V} {t : String} (h : TyX K H x (.type t)) (m : t ∈ basics) :
    (x = .non ∧ t = "NoneType") ∨ (∃ b, x = .bl b ∧ t = "bool") ∨ (∃ i, x = .int i ∧ t = "int") ∨ (∃ z, x = .str z ∧ t = "str") ∨ (∃ a, x = .ref a ∧ (t = "list" ∨ t = "tuple")) := by
  generalize e : Value.type t = tv at h
  cases h with
  | base b =>
    cases b with
    | non => cases e; exact .inl ⟨rfl, rfl⟩
    | bl y => cases e; exact .inr (.inl ⟨y, rfl, rfl⟩)
    | int i => cases e; exact .inr (.inr (.inl ⟨i, rfl, rfl⟩))
    | str y => cases e; exact .inr (.inr (.inr (.inl ⟨y, rfl, rfl⟩)))
    | flt y => cases e; exact absurd m (by decide)
    | lst _ => cases e; exact .inr (.inr (.inr (.inr ⟨_, rfl, .inl rfl⟩)))
    | frz _ => cases e; exact .inr (.inr (.inr (.inr ⟨_, rfl, .inl rfl⟩)))
    | tup _ => cases e; exact .inr (.inr (.inr (.inr ⟨_, rfl, .inr rfl⟩)))
    | dK _ => cases e; exact absurd m (by decide)
    | dT _ => cases e; exact absurd m (by decide)
    | ins _ _ _ _ _ _ => cases e
  | byt _ => cases e; exact absurd m (by decide)
  | set _ => cases e; exact absurd m (by decide)
  | kList _ _ => cases e; exact .inr (.inr (.inr (.inr ⟨_, rfl, .inl rfl⟩)))
  | kTuple _ _ => cases e; exact .inr (.inr (.inr (.inr ⟨_, rfl, .inr rfl⟩)))
  | kDict _ _ => cases e; exact absurd m (by decide)
  | fTuple _ => cases e; exact .inr (.inr (.inr (.inr ⟨_, rfl, .inr rfl⟩)))
  | fDict _ => cases e; exact absurd m (by decide)
section
variable {P : Program} {w : World} {K : PySem.W.Frag} {mg : Str → Option Value} {base : Heap}
/-- what the program's own modules ask of the names -/
structure Blt (mg : Str → Option Value) : Prop where
  isi : mg "isinstance" = none
  int : mg "int" = none
  bool : mg "bool" = none
  str : mg "str" = none
  list : mg "list" = none
  tuple : mg "tuple" = none
  len : mg "len" = none
  all : mg "all" = none
  range : mg "range" = none
/-! ### a refusal without a field -/
def spErr (K : PySem.W.Frag) (C : Addr) (nm : Str) : Sp := fun vs H Q _ => ∃ a : Addr, vs = [.ref a] ∧ H a = some (exo a C none) ∧ ∀ d, H d = none → d ≠ a → Q .non (upd (upd H d (exd d [(("called" : Str), .str nm)])) a (exo a C (some d)))
/-- the class at C, its __init__ at fI -/
structure ErrC (K : PySem.W.Frag) (mg : Str → Option Value) (x : Str) (C fI : Addr) (fd : FuncData) (qual : Str) (st : Stmt) : Prop where
  gl : mg x = some (.ref C)
  ox : OexC K C
  it : PySem.W.findIn K (.ref C) "__init__" = some (some (.ref fI))
  ty : PySem.W.typeIn K (.ref fI) = some (.type "function")
  nc : PySem.W.findIn K (.ref C) "called" = some none
  fn : Fun K "__init__" qual st fI fd
  bd : Binds K fd ["self"] []
theorem ok_err {x qual nm : Str} {st : Stmt} {C fI : Addr} {fd : FuncData} {p1 p2 p3 p4 : Pos} {j : Nat} (Er : ErrC K mg x C fI fd qual st) (sc : FnScope ["self"] ["self"] (defScope st)) (v : Vis (defScope st) "self")
    (hb : defBody st = [.Assign [.Attribute (.Name "self" p1) "called" p2] (.Constant (.str nm) j p3) p4]) : FnOk P w K mg base CX0 1 fI fd ["self"] (spErr K C nm) := by
  refine Er.fn.ok sc (fun vs H Q E h => ?_) (fun cdv A outer s H vs Q E' hr h => ?_)
  · obtain ⟨a, rfl, _⟩ := h
    rfl
  · obtain ⟨a, rfl, ha, k⟩ := h
    rw [hb]
    refine ⟨_, pss_one (ps_ost (pe_var (i := 0) rfl v) pe_str), ?_⟩
    exact ⟨_, rfl, a, C, rfl, Er.ox, Er.nc, .inl ⟨ha, fun dx hd ne => k dx hd ne⟩⟩
theorem raise_plain {C : Addr} {nm : Str} {σ : L2.St} {H : Hp} {W : XK} (h : ∀ d, H d = none → W (.ref C) (some d) (upd H d (.xd [(("called" : Str), .str nm)]))) : tMkO0 C (spErr K C nm) σ H W := by
  intro a ha
  refine ⟨a, rfl, upd_same, fun d hd ne => ⟨rfl, d, [(("called" : Str), V.str nm)], upd_same, ?_, ?_, ?_⟩⟩
  · rw [upd_ne ne, upd_same]
  · rw [upd_ne ne] at hd
    exact hd
  · have hd' : H d = none := by
      rw [upd_ne ne] at hd
      exact hd
    have e : upd (del (upd (upd (upd H a (exo a C none)) d (exd d [(("called" : Str), V.str nm)])) a (exo a C (some d))) a) d (.xd [(("called" : Str), V.str nm)]) = upd H d (.xd [(("called" : Str), V.str nm)]) := by
      funext b
      by_cases hb : b = d
      · rw [hb, upd_same, upd_same]
      · rw [upd_ne hb, upd_ne hb]
        by_cases hba : b = a
        · rw [hba, del_same, ha]
        · rw [del_ne hba, upd_ne hba, upd_ne hb, upd_ne hba]
    rw [e]
    exact h d hd'
end
end VQ
namespace VQ
open PySem L2 LamX
abbrev sIsNumber : Stmt := top 10
abbrev sIsWorth : Stmt := top 11
abbrev sFigures : Stmt := top 14
abbrev sBadWorth : Stmt := inClass (top 2) 0
theorem zfill_bin : ∀ n, n < 32 → Txt.zfill (binS n) 5 = fig n := by decide +kernel
section
variable {P : Program} {w : World} {K : PySem.W.Frag} {mg : Str → Option Value} {base : Heap}
def numB (lo hi : Int) : V → Bool
  | .int i => decide (lo ≤ i) && decide (i < hi)
  | _ => false
/-- whether a thing is a number from one bound to below another -/
def spIsNumber (K : PySem.W.Frag) : Sp := fun vs H Q _ => ∃ (x : V) (t : String) (lo hi : Int), vs = [x, .int lo, .int hi] ∧ TyX K H x (.type t) ∧ t ∈ basics ∧ Q (.bl (numB lo hi x)) H
theorem scIsNumber : FnScope ["thing", "low", "behind"] ["thing", "low", "behind"] (defScope sIsNumber) := ⟨rfl, rfl, rfl, by decide +kernel, rfl, by decide +kernel, by decide +kernel⟩
theorem ok_isnumber {f : Addr} {fd : FuncData} (F : Fun K "is_number" "is_number" sIsNumber f fd) (b : Blt mg) : FnOk P w K mg base CX0 1 f fd ["thing", "low", "behind"] (spIsNumber K) := by
  refine F.ok scIsNumber (fun vs H Q E h => ?_) (fun cdv A outer s H vs Q E hr h => ?_)
  · obtain ⟨x, t, lo, hi, rfl, _⟩ := h
    rfl
  · obtain ⟨x, t, lo, hi, rfl, ty, m, k⟩ := h
    refine ⟨_, pss_one (ps_ret (pe_and (pe_callB call_isi (by rfl) b.isi (by decide +kernel) (pa_cons (pv 0) (pa_cons (pe_bltn (v := .ty "int") rfl b.int (by decide +kernel) rfl) pa_nil)))
      (pe_and (pe_not (pe_callB call_isi (by rfl) b.isi (by decide +kernel) (pa_cons (pv 0) (pa_cons (pe_bltn (v := .ty "bool") rfl b.bool (by decide +kernel) rfl) pa_nil))))
      (pe_one (pe_chain op_le op_lt (pv 1) (pv 0) (pv 2)))))), ?_⟩
    rcases basic_cases ty m with ⟨rfl, rfl⟩ | ⟨c, rfl, rfl⟩ | ⟨i, rfl, rfl⟩ | ⟨z, rfl, rfl⟩ | ⟨a, rfl, rfl | rfl⟩
    · refine ⟨_, rfl, _, _, _, _, false, rfl, .ty "int", ty, kit_ty (by decide +kernel), false, rfl, iteF ?_⟩
      exact k
    · refine ⟨_, rfl, _, _, _, _, true, rfl, .ty "int", ty, kit_ty (by decide +kernel), true, rfl, iteT ?_⟩
      refine ⟨_, rfl, _, _, _, _, true, rfl, .ty "bool", ty, kit_ty (by decide +kernel), true, rfl, false, rfl, iteF ?_⟩
      exact k
    · refine ⟨_, rfl, _, _, _, _, true, rfl, .ty "int", ty, kit_ty (by decide +kernel), true, rfl, iteT ?_⟩
      refine ⟨_, rfl, _, _, _, _, false, rfl, .ty "bool", ty, kit_ty (by decide +kernel), false, rfl, true, rfl, iteT ?_⟩
      refine ⟨_, rfl, _, rfl, lo, i, rfl, rfl, _, rfl, ?_⟩
      by_cases h : lo ≤ i
      · rw [if_pos (decide_eq_true h)]
        refine ⟨_, rfl, i, hi, rfl, rfl, ?_⟩
        have e : numB lo hi (.int i) = decide (i < hi) := by
          show (decide (lo ≤ i) && decide (i < hi)) = _
          rw [decide_eq_true h, Bool.true_and]
        rw [e] at k
        exact k
      · rw [if_neg (by simpa using h)]
        have e : numB lo hi (.int i) = false := by
          show (decide (lo ≤ i) && decide (i < hi)) = _
          rw [decide_eq_false h, Bool.false_and]
        rw [e] at k
        exact k
    · refine ⟨_, rfl, _, _, _, _, false, rfl, .ty "int", ty, kit_ty (by decide +kernel), false, rfl, iteF ?_⟩
      exact k
    · refine ⟨_, rfl, _, _, _, _, false, rfl, .ty "int", ty, kit_ty (by decide +kernel), false, rfl, iteF ?_⟩
      exact k
    · refine ⟨_, rfl, _, _, _, _, false, rfl, .ty "int", ty, kit_ty (by decide +kernel), false, rfl, iteF ?_⟩
      exact k
theorem numB_worth (x : V) : numB 0 32 x = worthB x := by
  cases x <;> rfl
/-- where a def stands that asks is_number, and where that one stands -/
structure AtW (K : PySem.W.Frag) (mg : Str → Option Value) (x : Str) (st : Stmt) (ps : List Str) (f : Addr) (fd : FuncData) : Prop where
  it : At K mg x st ps f fd
  num : ∃ (fN : Addr) (fdN : FuncData), At K mg "is_number" sIsNumber ["thing", "low", "behind"] fN fdN
theorem AtW.gl {x : Str} {st : Stmt} {ps : List Str} {f : Addr} {fd : FuncData} (a : AtW K mg x st ps f fd) : mg x = some (.ref f) := a.it.gl
theorem AtW.bd {x : Str} {st : Stmt} {ps : List Str} {f : Addr} {fd : FuncData} (a : AtW K mg x st ps f fd) : Binds K fd ps [] := a.it.bd
theorem AtW.fn {x : Str} {st : Stmt} {ps : List Str} {f : Addr} {fd : FuncData} (a : AtW K mg x st ps f fd) : Fun K x x st f fd := a.it.fn
def spIsWorth (K : PySem.W.Frag) : Sp := fun vs H Q _ => ∃ (x : V) (t : String), vs = [x] ∧ TyX K H x (.type t) ∧ t ∈ basics ∧ Q (.bl (worthB x)) H
theorem scIsWorth : FnScope ["thing"] ["thing"] (defScope sIsWorth) := ⟨rfl, rfl, rfl, by decide +kernel, rfl, by decide +kernel, by decide +kernel⟩
theorem ok_isworth {f : Addr} {fd : FuncData} {tk : Tok} (F : AtW K mg "is_worth" sIsWorth ["thing"] f fd) (b : Blt mg) (W : mg "WORTHS" = some (.int 32 tk)) : FnOk P w K mg base CX0 2 f fd ["thing"] (spIsWorth K) := by
  obtain ⟨fN, fdN, aN⟩ := F.num
  have GN : FnOk P w K mg base CX0 1 fN fdN ["thing", "low", "behind"] (spIsNumber K) := ok_isnumber aN.fn b
  refine F.it.fn.ok scIsWorth (fun vs H Q E h => ?_) (fun cdv A outer s H vs Q E hr h => ?_)
  · obtain ⟨x, t, rfl, _⟩ := h
    rfl
  · obtain ⟨x, t, rfl, ty, m, k⟩ := h
    refine ⟨_, pss_one (ps_ret (pe_call GN hr rfl aN.gl aN.fn.kp aN.bd .nil pass0 (pa_cons (pv 0) (pa_cons pe_int (pa_cons (pe_glob (v := .int 32) rfl W ⟨_, rfl⟩) pa_nil))))), ?_⟩
    refine ⟨_, rfl, x, t, 0, 32, rfl, ty, m, ?_⟩
    rw [numB_worth]
    exact k
theorem scBadWorth : FnScope ["self"] ["self"] (defScope sBadWorth) := ⟨rfl, rfl, rfl, by decide +kernel, rfl, by decide +kernel, by decide +kernel⟩
def spFigures (K : PySem.W.Frag) (C : Addr) : Sp := fun vs H Q E => ∃ (x : V) (t : String), vs = [x] ∧ TyX K H x (.type t) ∧ t ∈ basics ∧
  (∀ n : Nat, n < 32 → x = .int (n : Int) → Q (.str (fig n)) H) ∧ (worthB x = false → ∀ d, H d = none → E (.ref C) (some d) (upd H d (.xd [(("called" : Str), .str "BadWorth")])))
theorem scFigures : FnScope ["worth"] ["worth"] (defScope sFigures) := ⟨rfl, rfl, rfl, by decide +kernel, rfl, by decide +kernel, by decide +kernel⟩
theorem ok_figures {f fW C fI : Addr} {fd fdW fdI : FuncData} {tk tk' : Tok} (F : Fun K "figures" "figures" sFigures f fd) (b : Blt mg) (W : mg "WORTHS" = some (.int 32 tk)) (Fg : mg "FIGURES" = some (.int 5 tk')) (P1 : AtW K mg "is_worth" sIsWorth ["thing"] fW fdW)
    (EW : ErrC K mg "BadWorth" C fI fdI "BadWorth.__init__" sBadWorth) : FnOk P w K mg base (L2.CX P w) 3 f fd ["worth"] (spFigures K C) := by
  have G1 : FnOk P w K mg base CX0 2 fW fdW ["thing"] (spIsWorth K) := ok_isworth P1 b W
  have GI : FnOk P w K mg base CX0 1 fI fdI ["self"] (spErr K C "BadWorth") := ok_err EW scBadWorth (.inl rfl) rfl
  refine F.okX scFigures (fun vs H Q E h => ?_) (fun cdv A outer s H vs Q E hr h => ?_)
  · obtain ⟨x, t, rfl, _⟩ := h
    rfl
  · obtain ⟨x, t, rfl, ty, m, k1, k2⟩ := h
    refine ⟨_, pss_cons (ps_if (pt_not (pt_val (pe_call G1 hr rfl P1.gl P1.fn.kp P1.bd .nil pass0 (pa_cons (pv 0) pa_nil))))
        (pss_one (ps_raise rfl (takes_of rfl rfl rfl rfl) (pmk_oex0 EW.ox EW.it EW.ty GI hr EW.bd pass0 rfl EW.gl))) pss_nil)
      (pss_one (ps_ret (pe_bm PySem.F.plainAttrs_str PySem.F.slot_str_zfill PySem.F.type_str_zfill mt_zfill (pe_joined1 (pe_fmtB (pv 0))) (pa_cons (pe_glob (v := .int 5) rfl Fg ⟨_, rfl⟩) pa_nil)))), ?_⟩
    refine ⟨_, rfl, x, t, rfl, ty, m, _, rfl, ?_⟩
    cases e : worthB x with
    | false => exact raise_plain (σ := []) fun d hd => k2 e d hd
    | true =>
      obtain ⟨i, rfl⟩ : ∃ i, x = .int i := by
        cases x with
        | int i => exact ⟨i, rfl⟩
        | _ => cases e
      have e' : (decide (0 ≤ i) && decide (i < 32)) = true := e
      have hi : 0 ≤ i ∧ i < 32 := by simpa using e'
      obtain ⟨n, rfl⟩ := Int.eq_ofNat_of_zero_le hi.1
      have hn : n < 32 := by omega
      refine ⟨_, rfl, _, rfl, hi.1, hi.2, rfl, _, _, rfl, rfl, by decide, ?_⟩
      show Q (.str (Txt.zfill (binS n) 5)) H
      rw [zfill_bin n hn]
      exact k1 n hn rfl
end
end VQ
namespace VQ
open PySem L2 LamX
/-- two things that are the same all through, to a depth -/
inductive Alike (H : Hp) : Nat → V → V → Prop
  | non (n : Nat) : Alike H n .non .non
  | bl (n : Nat) (b : Bool) : Alike H n (.bl b) (.bl b)
  | int (n : Nat) (i : Int) : Alike H n (.int i) (.int i)
  | str (n : Nat) (z : Str) : Alike H n (.str z) (.str z)
  | lst {n : Nat} {a b : Addr} {xs ys : List V} (ha : H a = some (.lst xs)) (hb : H b = some (.lst ys)) (hl : xs.length = ys.length) (hz : ys.length ≤ 1000) (h : ∀ (i : Nat) (x y : V), xs[i]? = some x → ys[i]? = some y → Alike H n x y) : Alike H (n + 1) (.ref a) (.ref b)
  | tup {n : Nat} {a b : Addr} {xs ys : List V} (ha : H a = some (.tup xs)) (hb : H b = some (.tup ys)) (hl : xs.length = ys.length) (hz : ys.length ≤ 1000) (h : ∀ (i : Nat) (x y : V), xs[i]? = some x → ys[i]? = some y → Alike H n x y) : Alike H (n + 1) (.ref a) (.ref b)
theorem Alike.same {H H' : Hp} (s : Same H H') {n : Nat} {x y : V} (h : Alike H n x y) : Alike H' n x y := by
  induction h with
  | non n => exact .non n
  | bl n b => exact .bl n b
  | int n i => exact .int n i
  | str n z => exact .str n z
  | lst ha hb hl hz _ ih => exact .lst (s _ _ ha) (s _ _ hb) hl hz ih
  | tup ha hb hl hz _ ih => exact .tup (s _ _ ha) (s _ _ hb) hl hz ih
def spSame (n : Nat) : Sp := fun vs H Q _ => ∃ x y, vs = [x, y] ∧ Alike H n x y ∧ ∀ H', Same H H' → Q (.bl true) H'
section
variable {P : Program} {w : World} {K : PySem.W.Frag} {mg : Str → Option Value} {base : Heap}
section
variable {X : Cx} {p p0 p1 p2 p3 pos : Pos} {i k : Nat} {y : Str}
/-- isinstance(y, n) -/
theorem pe_isi {n : Str} {c : String} (he : PE X (.Name y p0) (tVar i)) (g : Gl X "isinstance") (hm : X.mg "isinstance" = none) (gn : Gl X n) (hn : X.mg n = none) (hv : bootBuiltins n = some (.type c)) (n1 : n ≠ "__name__" := by decide) (n2 : (n == ("__debug__" : Str)) = false := by decide) :
    PE X (.Call (.Name "isinstance" p) [.Name y p0, .Name n p1] [] pos) (tCB (rIsi X.K) (tCons (tVar i) (tCons (tC (.ty c)) tNil))) :=
  pe_callB call_isi g hm (by decide +kernel) (pa_cons he (pa_cons (pe_bltn (v := .ty c) gn hn hv rfl n1 n2) pa_nil))
/-- isinstance(y, (int, str)) -/
theorem pe_isiT (he : PE X (.Name y p0) (tVar i)) (g : Gl X "isinstance") (hm : X.mg "isinstance" = none) (gi : Gl X "int") (hi : X.mg "int" = none) (gs : Gl X "str") (hs : X.mg "str" = none) :
    PE X (.Call (.Name "isinstance" p) [.Name y p0, .Tuple [.Name "int" p1, .Name "str" p2] k p3] [] pos) (tCB (rIsiT X.K) (tCons (tVar i) (tCons (tTup (tCons (tC (.ty "int")) (tCons (tC (.ty "str")) tNil))) tNil))) :=
  pe_callB call_isiT g hm (by decide +kernel) (pa_cons he (pa_cons (pe_tup (pa_cons (pe_bltn (v := .ty "int") gi hi (by decide +kernel) rfl) (pa_cons (pe_bltn (v := .ty "str") gs hs (by decide +kernel) rfl) pa_nil))) pa_nil))
end
theorem rd_isi {σ : L2.St} {H : Hp} {Q : VK} {i : Nat} {x : V} {t c : String} {b : Bool} (hx : σ[i]? = some (some x)) (ty : TyX K H x (.type t)) (kb : kitB t c = some b) (h : Q (.bl b) H) : tCB (rIsi K) (tCons (tVar i) (tCons (tC (.ty c)) tNil)) σ H Q :=
  ⟨x, hx, _, _, _, _, b, rfl, .ty c, ty, kit_ty kb, h⟩
theorem TyX.basic_same {H H' : Hp} {x : V} {t : String} (s : Same H H') (ty : TyX K H x (.type t)) (m : t ∈ basics) : TyX K H' x (.type t) := by
  generalize e : Value.type t = tv at ty
  cases ty with
  | base b =>
    cases b with
    | non => exact .base .non
    | bl y => exact .base (.bl y)
    | int i => exact .base (.int i)
    | str y => exact .base (.str y)
    | flt y => exact .base (.flt y)
    | lst q => exact .base (.lst (s _ _ q))
    | frz q => exact .base (.frz (s _ _ q))
    | tup q => exact .base (.tup (s _ _ q))
    | dK q => exact .base (.dK (s _ _ q))
    | dT q => exact .base (.dT (s _ _ q))
    | ins _ _ _ _ _ _ => cases e
  | byt y => exact .byt y
  | set q => exact .set (s _ _ q)
  | kList q c => exact .kList q c
  | kTuple q c => exact .kTuple q c
  | kDict q c => exact .kDict q c
  | fTuple q => exact .fTuple (s _ _ q)
  | fDict q => exact .fDict (s _ _ q)
end
end VQ
namespace VQ
open PySem L2 LamX
/-! ### walks over a text -/
theorem lc_text {z : Str} {g : TG} {tt : TT} {te : TE} {vs : List Nat} {σ : L2.St} {H1 : Hp} {D : Addr} {Qd : Hp → Prop} (Pv : Nat → Hp → Prop) (h0 : Pv 0 (upd H1 D (.lst [])))
    (turn : ∀ (i c : Nat) (H : Hp), z.cps[i]? = some c → Pv i H → g (.str ⟨#[c]⟩) (wipe σ vs) H fun σ2 H2 => wipe σ2 vs = wipe σ vs ∧ tt σ2 H2 fun b H3 => if b = true then te σ2 H3 fun y H4 => ∃ acc, H4 D = some (.lst acc) ∧ acc.length < sizeLine ∧ Pv (i + 1) (upd H4 D (.lst (acc ++ [y]))) else Pv (i + 1) H3)
    (fin : ∀ H, Pv z.cps.size H → Qd H) :
    ∃ W : Nat → Nat → Hp → Prop, (∃ m, W 0 m (upd H1 D (.lst []))) ∧ ∀ i m H, W i m H → ((Its z).stop i H ∧ Qd H) ∨ ((Its z).go i H ∧ ∃ Nx : Hp → Prop, (∀ H', Nx H' → ∃ m', m' < m ∧ W (i + 1) m' H') ∧
      ∀ x H', (Its z).yld i H x H' → g x (wipe σ vs) H' fun σ2 H2 => wipe σ2 vs = wipe σ vs ∧ tt σ2 H2 fun b H3 => if b = true then te σ2 H3 fun y H4 => ∃ acc, H4 D = some (.lst acc) ∧ acc.length < sizeLine ∧ Nx (upd H4 D (.lst (acc ++ [y]))) else Nx H3) := by
  refine ⟨fun i m H => m + i = z.cps.size ∧ Pv i H, ⟨z.cps.size, by simp, h0⟩, ?_⟩
  rintro i m H ⟨em, p⟩
  by_cases lt : i < z.cps.size
  · refine .inr ⟨lt, Pv (i + 1), fun H' p' => ⟨m - 1, by omega, by omega, p'⟩, ?_⟩
    rintro x H' ⟨rfl, c, ec, rfl⟩
    exact turn i c H' ec p
  · have e : i = z.cps.size := by omega
    subst e
    exact .inl ⟨Nat.le_refl _, fin H p⟩
theorem for_text {z : Str} {g : TG} {tb : TS} {D : Ends} {σ : L2.St} {H : Hp} (Pv : Nat → L2.St → Hp → Prop) (h0 : Pv 0 σ H)
    (turn : ∀ (i c : Nat) σ H, z.cps[i]? = some c → Pv i σ H → g (.str ⟨#[c]⟩) σ H fun σ2 H2 => tb { D with nx := Pv (i + 1), ct := Pv (i + 1), bk := D.nx } σ2 H2) (fin : ∀ σ H, Pv z.cps.size σ H → D.nx σ H) :
    ∃ W : Nat → Nat → L2.St → Hp → Prop, (∃ m, W 0 m σ H) ∧ ∀ i m σ H, W i m σ H → ((Its z).stop i H ∧ D.nx σ H) ∨ ((Its z).go i H ∧ ∃ Nx : L2.St → Hp → Prop, (∀ σ' H', Nx σ' H' → ∃ m', m' < m ∧ W (i + 1) m' σ' H') ∧
      ∀ x H', (Its z).yld i H x H' → g x σ H' fun σ2 H2 => tb { D with nx := Nx, ct := Nx, bk := D.nx } σ2 H2) := by
  refine ⟨fun i m σ H => m + i = z.cps.size ∧ Pv i σ H, ⟨z.cps.size, by simp, h0⟩, ?_⟩
  rintro i m σ H ⟨em, p⟩
  by_cases lt : i < z.cps.size
  · refine .inr ⟨lt, Pv (i + 1), fun σ' H' p' => ⟨m - 1, by omega, by omega, p'⟩, ?_⟩
    rintro x H' ⟨rfl, c, ec, rfl⟩
    exact turn i c σ H' ec p
  · have e : i = z.cps.size := by omega
    subst e
    exact .inl ⟨Nat.le_refl _, fin σ H p⟩
/-! ### beginnings: the sixty-three of them -/
def tk (z : Str) (k : Nat) : Str := ⟨(z.cps.toList.take k).toArray⟩
def begs : List Str := (List.range 6).flatMap fun k => (List.range (2 ^ k)).map fun j => tk (fig (j * 2 ^ (5 - k))) k
theorem tk_in : ∀ w, w < 32 → ∀ k, k < 6 → tk (fig w) k ∈ begs := by decide +kernel
def signB (c : Nat) : Bool := decide (c ∈ [48, 49])
def begB : V → Bool
  | .str z => decide (z.length ≤ 5) && z.cps.toList.all signB
  | _ => false
theorem begs_yes : ∀ z ∈ begs, begB (.str z) = true := by decide +kernel
theorem begs_len : ∀ z ∈ begs, z.length ≤ 5 := by decide +kernel
abbrev calledAs (nm : Str) : HO := .xd [(("called" : Str), .str nm)]
/-- a comprehension without a test -/
theorem yes_turn {σ : L2.St} {H : Hp} {A B : Hp → Prop} (h : A H) : tYes σ H fun b H3 => if b = true then A H3 else B H3 := by
  show if true = true then A H else B H
  rw [if_pos rfl]
  exact h
end VQ
namespace VQ
open PySem L2 LamX
abbrev sIsBeg : Stmt := top 12
section
variable {P : Program} {w : World} {K : PySem.W.Frag} {mg : Str → Option Value} {base : Heap}
/-- a text is no longer than can be read -/
def Short : V → Prop
  | .str z => z.length ≤ 1000
  | _ => True
def spIsBeg (K : PySem.W.Frag) : Sp := fun vs H Q _ => ∃ (x : V) (t : String), vs = [x] ∧ TyX K H x (.type t) ∧ t ∈ basics ∧ Short x ∧ ∀ H', Same H H' → Q (.bl (begB x)) H'
theorem scIsBeg : FnScope ["thing", "sign"] ["thing"] (defScope sIsBeg) := ⟨rfl, rfl, rfl, by decide +kernel, rfl, by decide +kernel, by decide +kernel⟩
theorem ok_isbeg {f : Addr} {fd : FuncData} {tk5 : Tok} (F : Fun K "is_beginning" "is_beginning" sIsBeg f fd) (b : Blt mg) (Fg : mg "FIGURES" = some (.int 5 tk5)) : FnOk P w K mg base CX0 1 f fd ["thing"] (spIsBeg K) := by
  refine F.ok scIsBeg (fun vs H Q E h => ?_) (fun cdv A outer s H vs Q E hr h => ?_)
  · obtain ⟨x, t, rfl, _⟩ := h
    rfl
  · obtain ⟨x, t, rfl, ty, m, sh, k⟩ := h
    refine ⟨_, pss_one (ps_ret (pe_and (pe_isi (pv 0) rfl b.isi rfl b.str (c := "str") (by decide +kernel))
      (pe_and (pe_cmpR op_le (pe_callB call_len_str (by rfl) b.len PySem.boot_len (pa_cons (pv 0) pa_nil)) (pe_glob (v := .int 5) rfl Fg ⟨_, rfl⟩) (nomark _))
      (pe_one (pe_callB (cr_all rfl) (by rfl) b.all (by decide +kernel) (pa_cons
        (pe_lc (own := [("sign", 1)]) (g := gName 1) (tt := tYes) (te := tOp (fun x y H Q => ∃ (c : Nat) (z : Str), x = .str ⟨#[c]⟩ ∧ y = .str z ∧ Q (.bl (decide (c ∈ z.cps.toList))) H) (tVar 1) (tC (.str "01"))) rfl scIsBeg.nd (pi_str (pv 0))
          (blkOk_by (N := ["thing", "sign"]) (sc := defScope sIsBeg) (by decide +kernel)) (fun _ _ _ _ _ => pg_name (i := 1) scIsBeg.nd rfl (.inl rfl)) (fun _ _ _ _ _ => pts_nil)
          (fun _ _ _ _ _ => pe_cmpR op_in_sign (pv 1) pe_str rfl)) pa_nil)))))), ?_⟩
    rcases basic_cases ty m with ⟨rfl, rfl⟩ | ⟨c, rfl, rfl⟩ | ⟨i, rfl, rfl⟩ | ⟨z, rfl, rfl⟩ | ⟨a, rfl, rfl | rfl⟩
    · exact rd_isi rfl ty (b := false) (by decide +kernel) ⟨_, rfl, iteF (k H (Same.refl H))⟩
    · exact rd_isi rfl ty (b := false) (by decide +kernel) ⟨_, rfl, iteF (k H (Same.refl H))⟩
    · exact rd_isi rfl ty (b := false) (by decide +kernel) ⟨_, rfl, iteF (k H (Same.refl H))⟩
    · have sh' : z.length ≤ 1000 := sh
      refine rd_isi rfl ty (b := true) (by decide +kernel) ⟨_, rfl, iteT ?_⟩
      refine ⟨_, rfl, z, rfl, Nat.le_trans sh' (by decide), (z.length : Int), 5, rfl, rfl, _, rfl, ?_⟩
      by_cases le : z.length ≤ 5
      · rw [if_pos (decide_eq_true (show (z.length : Int) ≤ 5 by omega))]
        have e : begB (.str z) = z.cps.toList.all signB := by
          show (decide (z.length ≤ 5) && z.cps.toList.all signB) = _
          rw [decide_eq_true le, Bool.true_and]
        rw [e] at k
        refine ⟨_, rfl, z, rfl, fun D hD => ?_⟩
        refine lc_text (fun i H' => Same H H' ∧ H' D = some (.lst (((z.cps.toList.take i).map signB).map V.bl))) ⟨same_new hD, upd_same⟩ ?_ ?_
        · rintro i c H2 hc ⟨s2, h2⟩
          have hi : i < z.cps.size := (Array.getElem?_eq_some_iff.mp hc).1
          refine ⟨rfl, ?_⟩
          refine iteT (B := Same H H2 ∧ H2 D = some (.lst (((z.cps.toList.take (i + 1)).map signB).map V.bl))) ?_
          refine ⟨_, rfl, c, "01", rfl, rfl, _, h2, ?_, ?_, ?_⟩
          · rw [List.length_map, List.length_map, List.length_take]
            exact Nat.lt_of_le_of_lt (Nat.min_le_left _ _) (Nat.lt_of_lt_of_le (show i < 1001 by have : z.cps.size = z.length := rfl; omega) (by decide))
          · intro q o z'
            have nq : q ≠ D := fun y => by
              rw [y, hD] at z'
              cases z'
            rw [upd_ne nq]
            exact s2 _ _ z'
          · rw [upd_same, List.take_add_one, show z.cps.toList[i]? = some c by rw [Array.getElem?_toList]; exact hc, List.map_append, List.map_append]
            rfl
        · rintro H2 ⟨s2, h2⟩
          refine ⟨D, _, rfl, SqL.of h2, ?_⟩
          have e2 : ((z.cps.toList.take z.cps.size).map signB).all id = z.cps.toList.all signB := by
            rw [List.take_of_length_le (by simp), List.all_map]
            rfl
          rw [e2]
          exact k H2 s2
      · rw [if_neg (by simpa using (show ¬ (z.length : Int) ≤ 5 by omega))]
        have e : begB (.str z) = false := by
          show (decide (z.length ≤ 5) && _) = false
          rw [decide_eq_false le, Bool.false_and]
        rw [e] at k
        exact k H (Same.refl H)
    · exact rd_isi rfl ty (b := false) (by decide +kernel) ⟨_, rfl, iteF (k H (Same.refl H))⟩
    · exact rd_isi rfl ty (b := false) (by decide +kernel) ⟨_, rfl, iteF (k H (Same.refl H))⟩
end
end VQ
namespace VQ
open PySem L2 LamX
abbrev sNeedBeg : Stmt := top 13
abbrev sBadBeg : Stmt := inClass (top 3) 0
theorem scBadBeg : FnScope ["self"] ["self"] (defScope sBadBeg) := ⟨rfl, rfl, rfl, by decide +kernel, rfl, by decide +kernel, by decide +kernel⟩
section
variable {P : Program} {w : World} {K : PySem.W.Frag} {mg : Str → Option Value} {base : Heap}
/-- it is let by, or refused -/
def spNeed (K : PySem.W.Frag) (ok : V → Bool) (C : Addr) (nm : Str) : Sp := fun vs H Q E => ∃ (x : V) (t : String), vs = [x] ∧ TyX K H x (.type t) ∧ t ∈ basics ∧ Short x ∧
  (ok x = true → ∀ H', Same H H' → Q .non H') ∧ (ok x = false → ∀ H' d, Same H H' → H' d = none → E (.ref C) (some d) (upd H' d (calledAs nm)))
theorem scNeedBeg : FnScope ["beginning"] ["beginning"] (defScope sNeedBeg) := ⟨rfl, rfl, rfl, by decide +kernel, rfl, by decide +kernel, by decide +kernel⟩
theorem ok_needbeg {f fB C fI : Addr} {fd fdB fdI : FuncData} {tk5 : Tok} (F : Fun K "need_beginning" "need_beginning" sNeedBeg f fd) (b : Blt mg) (Fg : mg "FIGURES" = some (.int 5 tk5)) (aB : At K mg "is_beginning" sIsBeg ["thing"] fB fdB)
    (Er : ErrC K mg "BadBeginning" C fI fdI "BadBeginning.__init__" sBadBeg) : FnOk P w K mg base (L2.CX P w) 3 f fd ["beginning"] (spNeed K begB C "BadBeginning") := by
  have GB : FnOk P w K mg base CX0 1 fB fdB ["thing"] (spIsBeg K) := ok_isbeg aB.fn b Fg
  have GI : FnOk P w K mg base CX0 1 fI fdI ["self"] (spErr K C "BadBeginning") := ok_err Er scBadBeg (.inl rfl) rfl
  refine F.okX scNeedBeg (fun vs H Q E h => ?_) (fun cdv A outer s H vs Q E hr h => ?_)
  · obtain ⟨x, t, rfl, _⟩ := h
    rfl
  · obtain ⟨x, t, rfl, ty, m, sh, k1, k2⟩ := h
    have hr1 : Room 1 _ := hr.mono (by decide)
    refine ⟨_, pss_one (ps_if (pt_not (pt_val (pe_call GB hr1 rfl aB.gl aB.fn.kp aB.bd .nil pass0 (pa_cons (pv 0) pa_nil))))
        (pss_one (ps_raise rfl (takes_of rfl rfl rfl rfl) (pmk_oex0 Er.ox Er.it Er.ty GI hr Er.bd pass0 rfl Er.gl))) pss_nil), ?_⟩
    refine ⟨_, rfl, x, t, rfl, ty, m, sh, fun H1 s1 => ⟨_, rfl, ?_⟩⟩
    cases e : begB x with
    | false => exact raise_plain (σ := []) fun d hd => k2 e H1 d s1 hd
    | true => exact k1 e H1 s1
end
end VQ
namespace VQ
open PySem L2 LamX
def lastC (z : Str) : Nat := z.cps.toList.getLastD 0
def dropL (z : Str) : Str := ⟨z.cps.toList.dropLast.toArray⟩
def flip (c : Nat) : Str := if c = 48 then "1" else "0"
def bro (z : Str) : Str := dropL z ++ flip (lastC z)
theorem bro_cut : ∀ z ∈ begs, z ≠ ("" : Str) → atI z.cps.toList (-1) = some (lastC z) ∧ cutS z none (some (-1)) = dropL z ∧ (dropL z).length ≤ 5 ∧ (lastC z = 48 ∨ lastC z = 49) := by decide +kernel
theorem bro_in : ∀ z ∈ begs, z ≠ ("" : Str) → bro z ∈ begs ∧ bro z ≠ ("" : Str) ∧ bro (bro z) = z := by decide +kernel
theorem cut_to (z : Str) (k : Nat) : cutS z none (some (k : Int)) = tk z k := by
  unfold cutS tk
  rw [HT.sIx_none, HT.sIx_nat, List.drop_zero, Nat.sub_zero, show z.length = z.cps.toList.length by simp [Str.length]]
  by_cases le : k ≤ z.cps.toList.length
  · rw [Nat.min_eq_left le]
  · have le' : z.cps.toList.length ≤ k := by omega
    rw [Nat.min_eq_right le', List.take_of_length_le (Nat.le_refl _), List.take_of_length_le le']
end VQ
namespace VQ
open PySem L2 LamX
abbrev sBrother : Stmt := top 15
section
variable {P : Program} {w : World} {K : PySem.W.Frag} {mg : Str → Option Value} {base : Heap}
def spBrother (K : PySem.W.Frag) (C : Addr) : Sp := fun vs H Q E => ∃ (x : V) (t : String), vs = [x] ∧ TyX K H x (.type t) ∧ t ∈ basics ∧ Short x ∧
  (∀ z : Str, x = .str z → z ∈ begs → z ≠ ("" : Str) → ∀ H', Same H H' → Q (.str (bro z)) H') ∧ ((x = .str "" ∨ begB x = false) → ∀ H' d, Same H H' → H' d = none → E (.ref C) (some d) (upd H' d (calledAs "BadBeginning"))) ∧
  ((∃ z, x = .str z ∧ z ∈ begs) ∨ begB x = false)
theorem scBrother : FnScope ["beginning", "turned"] ["beginning"] (defScope sBrother) := ⟨rfl, rfl, rfl, by decide +kernel, rfl, by decide +kernel, by decide +kernel⟩
theorem ok_brother {f fN fB C fI : Addr} {fd fdN fdB fdI : FuncData} {tk5 : Tok} (F : Fun K "brother" "brother" sBrother f fd) (b : Blt mg) (Fg : mg "FIGURES" = some (.int 5 tk5)) (aB : At K mg "is_beginning" sIsBeg ["thing"] fB fdB) (aN : At K mg "need_beginning" sNeedBeg ["beginning"] fN fdN)
    (Er : ErrC K mg "BadBeginning" C fI fdI "BadBeginning.__init__" sBadBeg) : FnOk P w K mg base (L2.CX P w) 4 f fd ["beginning"] (spBrother K C) := by
  have GN : FnOk P w K mg base (L2.CX P w) 3 fN fdN ["beginning"] (spNeed K begB C "BadBeginning") := ok_needbeg aN.fn b Fg aB Er
  have GI : FnOk P w K mg base CX0 1 fI fdI ["self"] (spErr K C "BadBeginning") := ok_err Er scBadBeg (.inl rfl) rfl
  refine F.okX scBrother (fun vs H Q E h => ?_) (fun cdv A outer s H vs Q E hr h => ?_)
  · obtain ⟨x, t, rfl, _⟩ := h
    rfl
  · obtain ⟨x, t, rfl, ty, m, sh, k1, k2, k3⟩ := h
    have hr2 : Room 2 _ := hr.mono (by decide)
    refine ⟨_, pss_cons (ps_expr (pe_call GN hr rfl aN.gl aN.fn.kp aN.bd .nil (passes_call (takes_of rfl rfl rfl rfl) (fun _ _ _ _ h => h)) (pa_cons (pv 0) pa_nil)))
      (pss_cons (ps_if (pt_cmpR op_eq (pv 0) pe_str (nomark _)) (pss_one (ps_raise rfl (takes_of rfl rfl rfl rfl) (pmk_oex0 Er.ox Er.it Er.ty GI hr2 Er.bd pass0 rfl Er.gl))) pss_nil)
      (pss_cons (ps_set (i := 1) scBrother.nd rfl (.inl rfl) (pe_ifExp (pt_cmpR op_eq (pe_ix ix_str (pv 0) (pe_un un_neg pe_int) fun _ _ => rfl) pe_str (nomark _)) pe_str pe_str))
      (pss_one (ps_ret (pe_op op_add_str (pe_slice sl_str (pv 0) po_none (po_some (pe_un un_neg pe_int))) (pv 1)))))), ?_⟩
    refine ⟨_, rfl, x, t, rfl, ty, m, sh, fun yes H1 s1 => ?_, fun no H1 d s1 hd => k2 (.inr no) H1 d s1 hd⟩
    rcases k3 with ⟨z, rfl, hz⟩ | no
    · refine ⟨_, rfl, rfl, _, rfl, ?_⟩
      by_cases e : z = ("" : Str)
      · rw [decide_eq_true (congrArg V.str e)]
        refine iteT ?_
        exact raise_plain (σ := []) fun d hd => k2 (.inl (congrArg V.str e)) H1 d s1 hd
      · rw [decide_eq_false (fun q => e (V.str.inj q))]
        refine iteF ?_
        obtain ⟨c1, c2, c3, c4⟩ := bro_cut z hz e
        have lz : z.length ≤ sizeLine := Nat.le_trans (begs_len z hz) (by decide)
        have key : ∀ u : Str, u = flip (lastC z) → u.length = 1 → Q (.str (cutS z none (some (-1)) ++ u)) H1 := fun u eu _ => by
          rw [c2, eu]
          exact k1 z rfl hz e H1 s1
        have fin : ∀ u : Str, u = flip (lastC z) → u.length = 1 → ((cutS z none (some (-1))).length + u.length ≤ sizeLine) := fun u _ el => by
          rw [c2, el]
          exact Nat.le_trans (by omega : (dropL z).length + 1 ≤ 6) (by decide)
        refine ⟨_, rfl, 1, rfl, z, -1, lastC z, rfl, rfl, lz, c1, rfl, _, rfl, ?_⟩
        by_cases el : lastC z = 48
        · rw [el, show decide (V.str ⟨#[48]⟩ = V.str "0") = true by decide +kernel]
          have ef : ("1" : Str) = flip (lastC z) := by rw [el]; rfl
          exact iteT ⟨_, rfl, 1, rfl, _, rfl, z, rfl, lz, _, rfl, _, _, rfl, rfl, fin _ ef (by decide +kernel), key _ ef (by decide +kernel)⟩
        · have el' : lastC z = 49 := by omega
          rw [el', show decide (V.str ⟨#[49]⟩ = V.str "0") = false by decide +kernel]
          have ef : ("0" : Str) = flip (lastC z) := by rw [el']; rfl
          exact iteF ⟨_, rfl, 1, rfl, _, rfl, z, rfl, lz, _, rfl, _, _, rfl, rfl, fin _ ef (by decide +kernel), key _ ef (by decide +kernel)⟩
    · rw [no] at yes
      cases yes
end
end VQ
namespace VQ
open PySem L2 LamX
/-! ### beginnings by their signs -/
theorem begB_iff {z : Str} : begB (.str z) = true ↔ z.length ≤ 5 ∧ ∀ c ∈ z.cps.toList, signB c = true := by
  show (decide (z.length ≤ 5) && z.cps.toList.all signB) = true ↔ _
  rw [Bool.and_eq_true, decide_eq_true_eq, List.all_eq_true]
theorem sign_two {c : Nat} (h : signB c = true) : c = 48 ∨ c = 49 := by
  have := of_decide_eq_true h
  simpa using this
theorem begs_list : ∀ l : List Nat, l.length ≤ 5 → (∀ c ∈ l, signB c = true) → (⟨l.toArray⟩ : Str) ∈ begs
  | [], _, _ => by decide +kernel
  | [a], _, h => by
    rcases sign_two (h a (by simp)) with rfl | rfl <;> decide +kernel
  | [a, b], _, h => by
    rcases sign_two (h a (by simp)) with rfl | rfl <;> rcases sign_two (h b (by simp)) with rfl | rfl <;> decide +kernel
  | [a, b, c], _, h => by
    rcases sign_two (h a (by simp)) with rfl | rfl <;> rcases sign_two (h b (by simp)) with rfl | rfl <;> rcases sign_two (h c (by simp)) with rfl | rfl <;> decide +kernel
  | [a, b, c, d], _, h => by
    rcases sign_two (h a (by simp)) with rfl | rfl <;> rcases sign_two (h b (by simp)) with rfl | rfl <;> rcases sign_two (h c (by simp)) with rfl | rfl <;> rcases sign_two (h d (by simp)) with rfl | rfl <;> decide +kernel
  | [a, b, c, d, e], _, h => by
    rcases sign_two (h a (by simp)) with rfl | rfl <;> rcases sign_two (h b (by simp)) with rfl | rfl <;> rcases sign_two (h c (by simp)) with rfl | rfl <;> rcases sign_two (h d (by simp)) with rfl | rfl <;> rcases sign_two (h e (by simp)) with rfl | rfl <;> decide +kernel
  | _ :: _ :: _ :: _ :: _ :: _ :: _, h, _ => absurd h (by simp)
theorem beg_mem {z : Str} (h1 : z.length ≤ 5) (h2 : ∀ c ∈ z.cps.toList, signB c = true) : z ∈ begs := by
  have e : z = ⟨z.cps.toList.toArray⟩ := StrLaws.mk_of_toList rfl
  rw [e]
  exact begs_list _ (by simpa [Str.length] using h1) h2
theorem beg_signs {z : Str} (h : z ∈ begs) : ∀ c ∈ z.cps.toList, signB c = true := (begB_iff.mp (begs_yes z h)).2
theorem sign_bit (n : Nat) : signB (48 + n % 2) = true := by
  rcases Nat.mod_two_eq_zero_or_one n with h | h <;> rw [h] <;> rfl
theorem figLow_signs (w : Nat) : ∀ i, ∀ c ∈ (figLow w i).cps.toList, signB c = true
  | 0, c, m => by cases m
  | i + 1, c, m => by
    have m' : c ∈ (#[48 + w / 2 ^ i % 2] ++ (figLow w i).cps).toList := m
    rw [Array.toList_append] at m'
    rcases List.mem_append.mp m' with m | m
    · have e : c = 48 + w / 2 ^ i % 2 := by simpa using m
      rw [e]
      exact sign_bit _
    · exact figLow_signs w i c m
theorem fig_signs (w : Nat) : ∀ c ∈ (fig w).cps.toList, signB c = true := figLow_signs w 5
theorem fig_len (w : Nat) : (fig w).length = 5 := figLow_len w 5
theorem fig_in (w : Nat) : fig w ∈ begs := beg_mem (by rw [fig_len]; decide) (fig_signs w)
theorem tk_list (z : Str) (k : Nat) : (tk z k).cps.toList = z.cps.toList.take k := by simp [tk]
theorem tk_len (z : Str) (k : Nat) : (tk z k).length = min k z.length := by simp [tk, Str.length]
theorem tk_beg {z : Str} (h : ∀ c ∈ z.cps.toList, signB c = true) {k : Nat} (hk : k ≤ 5) : tk z k ∈ begs := by
  refine beg_mem (by rw [tk_len]; omega) fun c m => ?_
  rw [tk_list] at m
  exact h c (List.mem_of_mem_take m)
theorem app_signs {a b : Str} (ha : ∀ c ∈ a.cps.toList, signB c = true) (hb : ∀ c ∈ b.cps.toList, signB c = true) : ∀ c ∈ (a ++ b).cps.toList, signB c = true := fun c m => by
  rw [Str.cps_append, Array.toList_append] at m
  rcases List.mem_append.mp m with m | m
  · exact ha c m
  · exact hb c m
theorem m_tk (z : Str) (h : z ∈ begs) (k : Nat) (hk : k < 6) : tk z k ∈ begs := tk_beg (beg_signs h) (by omega)
theorem m_more (z : Str) (h : z ∈ begs) (w : Nat) (_ : w < 32) : tk (z ++ fig w) 5 ∈ begs ∧ (z ++ fig w).length ≤ 10 := by
  refine ⟨tk_beg (app_signs (beg_signs h) (fig_signs w)) (Nat.le_refl 5), ?_⟩
  rw [Str.length_append, fig_len]
  have := begs_len z h
  omega
/-- z begins with u, by the law -/
def beginsB (z u : Str) : Bool := decide (tk z u.length = u)
theorem st_eq (a b : Str) : Txt.startswith a b = beginsB a b := by
  unfold Txt.startswith beginsB
  rw [StrLaws.subAt_eq, List.drop_zero, Bool.eq_iff_iff, Bool.and_eq_true, decide_eq_true_eq, decide_eq_true_eq, beq_iff_eq]
  constructor
  · rintro ⟨_, e⟩
    have q : (tk a b.length).cps.toList = b.cps.toList := by rw [tk_list]; exact e
    exact Str.ext' (Array.toList_inj.mp q)
  · intro e
    have q : (tk a b.length).cps.toList = b.cps.toList := by rw [e]
    rw [tk_list] at q
    refine ⟨?_, q⟩
    have l := congrArg List.length q
    rw [List.length_take] at l
    have l1 : b.cps.toList.length = b.length := by simp [Str.length]
    have l2 : a.cps.toList.length = a.length := by simp [Str.length]
    omega
theorem begins_len {a b : Str} (h : beginsB a b = true) : b.length ≤ a.length := by
  have e := congrArg Str.length (of_decide_eq_true h)
  rw [tk_len] at e
  omega
theorem tk_all (a : Str) : tk a a.length = a := by
  refine Str.ext' (Array.toList_inj.mp ?_)
  rw [tk_list]
  exact List.take_of_length_le (by simp [Str.length])
theorem begins_eq {a b : Str} (h : beginsB a b = true) (l : a.length ≤ b.length) : a = b := by
  have e := of_decide_eq_true h
  rw [show b.length = a.length by have := begins_len h; omega, tk_all] at e
  exact e
theorem begins_self (a : Str) : beginsB a a = true := decide_eq_true (tk_all a)
end VQ
namespace VQ
open PySem L2 LamX
abbrev sBegin : Stmt := top 40
theorem cut_tk : ∀ w, w < 32 → ∀ k : Nat, k < 6 → cutS (fig w) none (some (k : Int)) = tk (fig w) k := by decide +kernel
section
variable {P : Program} {w : World} {K : PySem.W.Frag} {mg : Str → Option Value} {base : Heap}
def spBegin : Sp := fun vs H Q _ => ∃ b : Addr, vs = [.ref b] ∧ Bag H b ∧ ∀ (z : Str) (H' : Hp), z ∈ begs → Bag H' b → Keep b H H' → Q (.str z) H'
theorem scBegin : FnScope ["_law_bag_here", "_law_size"] ["_law_bag_here"] (defScope sBegin) := ⟨rfl, rfl, rfl, by decide +kernel, rfl, by decide +kernel, by decide +kernel⟩
theorem ok_begin {f fP fO fW fG : Addr} {fd fdP fdO fdW fdG : FuncData} (F : Fun K "_law_begin" "_law_begin" sBegin f fd) (b : Blt mg) (aP : At K mg "_law_pull" sPull ["_law_bag_here", "_law_size"] fP fdP) (aO : At K mg "_law_of" sOf ["_law_bag_here", "_law_some"] fO fdO)
    (aW : At K mg "_law_worth" sWorth ["_law_bag_here"] fW fdW) (aG : At K mg "_law_figs" sFigs ["_law_worth_here"] fG fdG) : FnOk P w K mg base CX0 4 f fd ["_law_bag_here"] spBegin := by
  have GO : FnOk P w K mg base CX0 2 fO fdO ["_law_bag_here", "_law_some"] (spOf K) := ok_of aO.fn b.len aP
  have GW : FnOk P w K mg base CX0 3 fW fdW ["_law_bag_here"] (spDraw fun i => 0 ≤ i ∧ i < 32) := ok_worth aW.fn b.len aP aO
  have GG : FnOk P w K mg base CX0 1 fG fdG ["_law_worth_here"] spFigs := ok_figs aG.fn b.range b.str
  refine F.ok scBegin (fun vs H Q E h => ?_) (fun cdv A outer s H vs Q E hr h => ?_)
  · obtain ⟨bg, rfl, _⟩ := h
    rfl
  · obtain ⟨bg, rfl, B, k⟩ := h
    have hr1 : Room 1 _ := hr.mono (by decide)
    have hr2 : Room 2 _ := hr.mono (by decide)
    refine ⟨_, pss_cons (ps_set (i := 1) scBegin.nd rfl (.inl rfl) (pe_call GO hr2 rfl aO.gl aO.fn.kp aO.bd .nil pass0 (pa_cons (pv 0) (pa_cons (pe_lst (pa_cons pe_int (pa_cons pe_int (pa_cons pe_int (pa_cons pe_int (pa_cons pe_int (pa_cons pe_int (pa_cons pe_int pa_nil)))))))) pa_nil))))
      (pss_one (ps_ret (pe_slice sl_str (pe_call GG hr1 rfl aG.gl aG.fn.kp aG.bd .nil pass0 (pa_cons (pe_call GW hr rfl aW.gl aW.fn.kp aW.bd .nil pass0 (pa_cons (pv 0) pa_nil)) pa_nil)) po_none (po_some (pv 1))))), ?_⟩
    refine ⟨_, rfl, by show 7 ≤ sizeLine; decide, fun p hp => ?_⟩
    have sm := same_new (o := HO.lst [.int 0, .int 0, .int 1, .int 2, .int 3, .int 4, .int 5]) hp
    refine ⟨bg, p, _, rfl, B.same sm, B.ne hp, SqL.of upd_same, by show 1 ≤ 7; decide, by show 7 < 1000; decide, fun v H1 mem B1 k1 => ?_⟩
    obtain ⟨n, rfl, hn⟩ : ∃ n : Nat, v = .int (n : Int) ∧ n < 6 := by
      rcases List.mem_cons.mp mem with rfl | mem
      · exact ⟨0, rfl, by decide⟩
      rcases List.mem_cons.mp mem with rfl | mem
      · exact ⟨0, rfl, by decide⟩
      rcases List.mem_cons.mp mem with rfl | mem
      · exact ⟨1, rfl, by decide⟩
      rcases List.mem_cons.mp mem with rfl | mem
      · exact ⟨2, rfl, by decide⟩
      rcases List.mem_cons.mp mem with rfl | mem
      · exact ⟨3, rfl, by decide⟩
      rcases List.mem_cons.mp mem with rfl | mem
      · exact ⟨4, rfl, by decide⟩
      rcases List.mem_cons.mp mem with rfl | mem
      · exact ⟨5, rfl, by decide⟩
      · cases mem
    refine ⟨_, rfl, bg, rfl, B1, fun i H2 hi B2 k2 => ?_⟩
    obtain ⟨wt, rfl⟩ := Int.eq_ofNat_of_zero_le hi.1
    have hw : wt < 32 := by omega
    refine ⟨wt, rfl, _, rfl, _, rfl, _, rfl, by rw [fig, figLow_len]; decide, ?_⟩
    rw [cut_tk wt hw n hn]
    exact k _ H2 (tk_in wt hw n hn) B2 (Keep.trans (Keep.trans (Same.keep sm) k1) k2)
end
end VQ
namespace VQ
open PySem L2 LamX
abbrev sUnder : Stmt := top 41
/-- the worths under a beginning -/
def underN (z : Str) : List Nat := (List.range 32).filter fun w => decide (tk (fig w) z.length = z)
def underL (z : Str) : List Int := (underN z).map Int.ofNat
theorem cut_any (z : Str) (k : Nat) : cutS z none (some (k : Int)) = tk z k := by
  unfold cutS tk
  rw [HT.sIx_none, HT.sIx_nat, List.drop_zero, Nat.sub_zero]
  have e : z.length = z.cps.toList.length := by simp [Str.length]
  rw [e]
  by_cases le : k ≤ z.cps.toList.length
  · rw [Nat.min_eq_left le]
  · rw [Nat.min_eq_right (by omega), List.take_of_length_le (Nat.le_refl _), List.take_of_length_le (by omega)]
section
variable {P : Program} {w : World} {K : PySem.W.Frag} {mg : Str → Option Value} {base : Heap}
def spUnder : Sp := fun vs H Q _ => ∃ z : Str, vs = [.str z] ∧ z.length ≤ 1000 ∧ ∀ (p : Addr) (H' : Hp), H p = none → Same H H' → H' p = some (.lst ((underL z).map V.int)) → Q (.ref p) H'
theorem scUnder : FnScope ["_law_beginning", "_law_worth_here"] ["_law_beginning"] (defScope sUnder) := ⟨rfl, rfl, rfl, by decide +kernel, rfl, by decide +kernel, by decide +kernel⟩
theorem ok_under {f fG : Addr} {fd fdG : FuncData} (F : Fun K "_law_under" "_law_under" sUnder f fd) (b : Blt mg) (aG : At K mg "_law_figs" sFigs ["_law_worth_here"] fG fdG) : FnOk P w K mg base CX0 2 f fd ["_law_beginning"] spUnder := by
  have GG : FnOk P w K mg base CX0 1 fG fdG ["_law_worth_here"] spFigs := ok_figs aG.fn b.range b.str
  refine F.ok scUnder (fun vs H Q E h => ?_) (fun cdv A outer s H vs Q E hr h => ?_)
  · obtain ⟨z, rfl, _⟩ := h
    rfl
  · obtain ⟨z, rfl, lz, k⟩ := h
    have lz' : z.length ≤ sizeLine := Nat.le_trans lz (by decide)
    refine ⟨_, pss_one (ps_ret (pe_lc (own := [("_law_worth_here", 1)]) (g := gName 1)
      (tt := tTest (tOp rEq (tSl rSlS (tCall spFigs [] E0 (tCons (tVar 1) tNil)) tNoPart (tPart (tCB (fun xs H Q => ∃ z, xs = [.str z] ∧ z.length ≤ sizeLine ∧ Q (.int z.length) H) (tCons (tVar 0) tNil)))) (tVar 0))) (te := tVar 1) rfl scUnder.nd (pi_range1 rfl b.range (pa_cons pe_int pa_nil))
      (blkOk_by (N := ["_law_beginning", "_law_worth_here"]) (sc := defScope sUnder) (by decide +kernel)) (fun _ _ _ _ _ => pg_name (i := 1) scUnder.nd rfl (.inl rfl))
      (fun _ _ _ _ _ => pts_one (pt_cmpR op_eq (pe_slice sl_str (pe_call GG hr rfl aG.gl aG.fn.kp aG.bd .nil pass0 (pa_cons (pv 1) pa_nil)) po_none (po_some (pe_callB call_len_str (by rfl) b.len PySem.boot_len (pa_cons (pv 0) pa_nil)))) (pv 0) (nomark _)))
      (fun _ _ _ _ _ => pv 1))), ?_⟩
    refine ⟨32, rfl, by decide, by decide, fun D hD => ?_⟩
    refine lc_range (lo := 0) (n := 32) (fun i H' => Same H H' ∧ H' D = some (.lst ((((List.range i).filter fun w => decide (tk (fig w) z.length = z)).map Int.ofNat).map V.int))) ⟨same_new hD, upd_same⟩ ?_ ?_
    · rintro i H2 hi ⟨s2, h2⟩
      refine ⟨rfl, ?_⟩
      have e0 : (0 : Int) + (i : Int) = ((i : Nat) : Int) := Int.zero_add _
      refine ⟨_, rfl, i, congrArg (fun t : Int => [V.int t]) e0, _, rfl, z, rfl, lz', _, rfl, _, rfl, by rw [fig, figLow_len]; decide, _, rfl, rfl, _, rfl, ?_⟩
      rw [cut_any]
      by_cases e : tk (fig i) z.length = z
      · rw [decide_eq_true (congrArg V.str e)]
        refine iteT ⟨_, rfl, _, h2, ?_, ?_, ?_⟩
        · rw [List.length_map, List.length_map]
          exact Nat.lt_of_le_of_lt (List.length_filter_le _ _) (by rw [List.length_range]; exact Nat.lt_of_lt_of_le hi (by decide))
        · intro q o y
          have nq : q ≠ D := fun x => by
            rw [x, hD] at y
            cases y
          rw [upd_ne nq]
          exact s2 _ _ y
        · have f1 : [i].filter (fun w => decide (tk (fig w) z.length = z)) = [i] := by rw [List.filter_cons, if_pos (decide_eq_true e)] <;> rfl
          rw [upd_same, List.range_succ, List.filter_append, f1, e0, List.map_append, List.map_append]
          rfl
      · rw [decide_eq_false (fun q => e (V.str.inj q))]
        refine iteF ⟨s2, ?_⟩
        have f1 : [i].filter (fun w => decide (tk (fig w) z.length = z)) = [] := by rw [List.filter_cons, if_neg (by simpa using e)] <;> rfl
        rw [h2, List.range_succ, List.filter_append, f1, List.append_nil]
    · rintro H2 ⟨s2, h2⟩
      exact k D H2 hD s2 h2
end
end VQ
namespace VQ
open PySem L2 LamX
/-! ### what the laws' own bodies share -/
theorem Tabs.keep {T : List (Addr × Str)} {H H' : Hp} {b : Addr} (t : Tabs T H) (B : Bag H b) (k : Keep b H H') : Tabs T H' := fun p hp => by
  obtain ⟨l, ns, i, r, x, n, nl, h1, _⟩ := B
  obtain ⟨ps, a1, a2, a3⟩ := t p hp
  refine ⟨ps, k.1 _ _ (fun z => ?_) a1, a2, fun pos cv hc => ?_⟩
  · rw [z, h1] at a1
    cases a1
  · obtain ⟨c, e1, e2⟩ := a3 pos cv hc
    refine ⟨c, e1, k.1 _ _ (fun z => ?_) e2⟩
    rw [z, h1] at e2
    cases e2
theorem Bag.extN {H H' : Hp} {b : Addr} (B : Bag H b) (e : ExtN H H') : Bag H' b := by
  obtain ⟨l, ns, i, r, x, n, nl, h1, h2, h3⟩ := B
  exact ⟨l, ns, i, r, x, n, nl, e _ _ h1 (fun ps z => by cases z), e _ _ h2 (fun ps z => by cases z), h3⟩
theorem passCX {X : Cx} : Passes (L2.CX X.prog X.w) X E0 := fun _ _ _ _ _ _ _ ⟨_, _, _, _, _, _, _, _, _, _, _, _, z⟩ => z.elim
/-- law's promise: a list of at most 63 ints is handed in, True comes out; Pt: the table of its code object -/
def spLaw (K : PySem.W.Frag) (Pt : Addr) : Sp := fun vs H Q _ => ∃ (a : Addr) (ns : List Int), vs = [.ref a] ∧ SqL K H a (ns.map V.int) ∧ ns.length ≤ 63 ∧ H Pt = some (.tbl #[]) ∧ ∀ H', Q (.bl true) H'
theorem extN_same {H H' : Hp} (s : Same H H') : ExtN H H' := fun b o h _ => s b o h
end VQ
namespace VQ
open PySem L2 LamX
/-! ### data that is compared -/
def Lay (n : Nat) (d : PyData) : Prop := d.canLay0 = true ∧ d.depth ≤ n
theorem lay_all {n : Nat} : ∀ {ds : List PyData}, (∀ d ∈ ds, Lay n d) → PyData.canLayAll0 ds = true ∧ PyData.depthAll ds ≤ n
  | [], _ => by
    unfold PyData.canLayAll0 PyData.depthAll
    exact ⟨rfl, Nat.zero_le _⟩
  | d :: ds, h => by
    obtain ⟨a, c⟩ := h d List.mem_cons_self
    obtain ⟨a', c'⟩ := lay_all (ds := ds) fun e m => h e (List.mem_cons_of_mem _ m)
    unfold PyData.canLayAll0 PyData.depthAll
    exact ⟨by rw [a, a']; rfl, Nat.max_le.mpr ⟨c, c'⟩⟩
theorem Lay.list {n : Nat} {ds : List PyData} (h : ∀ d ∈ ds, Lay n d) : Lay (n + 1) (.list ds) := by
  obtain ⟨a, c⟩ := lay_all h
  unfold Lay PyData.canLay0 PyData.depth
  exact ⟨a, Nat.succ_le_succ c⟩
theorem Lay.tuple {n : Nat} {ds : List PyData} (h : ∀ d ∈ ds, Lay n d) : Lay (n + 1) (.tuple ds) := by
  obtain ⟨a, c⟩ := lay_all h
  unfold Lay PyData.canLay0 PyData.depth
  exact ⟨a, Nat.succ_le_succ c⟩
theorem Lay.int (n : Nat) (i : Int) : Lay n (.int i) := by
  unfold Lay PyData.canLay0 PyData.depth
  exact ⟨rfl, Nat.zero_le _⟩
theorem Lay.str (n : Nat) {z : Str} (h : ∀ c ∈ z.cps.toList, c < 1114112) : Lay n (.str z) := by
  unfold Lay PyData.canLay0 PyData.depth
  refine ⟨?_, Nat.zero_le _⟩
  show z.cps.all (· < 0x110000) = true
  rw [← Array.all_toList, List.all_eq_true]
  exact fun c m => decide_eq_true (h c m)
theorem Lay.shaped {n : Nat} {d : PyData} (h : Lay n d) (hn : n ≤ 64) : SeqAt.shaped d = true := by
  unfold SeqAt.shaped
  rw [h.1, decide_eq_true (Nat.le_trans h.2 hn)]
  rfl
theorem lay_ints (ks : List Int) : Lay 1 (.list (ks.map PyData.int)) := .list fun d m => by
  obtain ⟨k, _, rfl⟩ := List.mem_map.mp m
  exact .int _ _
theorem dp_ints {K : PySem.W.Frag} {H : Hp} : ∀ ks : List Int, DpAll K H (ks.map V.int) (ks.map PyData.int)
  | [] => .nil
  | k :: ks => .cons (.int k) (dp_ints ks)
theorem dp_strs {K : PySem.W.Frag} {H : Hp} : ∀ zs : List Str, DpAll K H (zs.map V.str) (zs.map PyData.str)
  | [] => .nil
  | z :: zs => .cons (.str z) (dp_strs zs)
theorem eqv_nil (ds : List PyData) : PyData.eqv (.list ds) (.list []) = ds.isEmpty := by
  cases ds with
  | nil => rfl
  | cons d ds => rfl
end VQ
namespace VQ
open PySem L2 LamX
/-! ### things, rooms, boxes -/
abbrev sIsPlaces : Stmt := top 18
abbrev sIsBox : Stmt := top 19
abbrev sNeedBox : Stmt := top 21
abbrev sBadBox : Stmt := inClass (top 5) 0
theorem scBadBox : FnScope ["self"] ["self"] (defScope sBadBox) := ⟨rfl, rfl, rfl, by decide +kernel, rfl, by decide +kernel, by decide +kernel⟩
/-- something of the plain kinds -/
def Part (K : PySem.W.Frag) (H : Hp) (x : V) : Prop := ∃ t, TyX K H x (.type t) ∧ t ∈ basics ∧ Short x
/-- a thing, and its items where it is a tuple -/
inductive Thing (K : PySem.W.Frag) (H : Hp) : V → Option (List V) → Prop
  | tup {a : Addr} {xs : List V} (h : H a = some (.tup xs)) (hp : ∀ x ∈ xs, Part K H x) (hl : xs.length ≤ 1000) : Thing K H (.ref a) (some xs)
  | oth {x : V} {t : String} (ty : TyX K H x (.type t)) (m : t ∈ basics) (nt : t ≠ "tuple") : Thing K H x none
def placesO : Option (List V) → Bool
  | none => false
  | some xs => decide (1 ≤ xs.length) && decide (xs.length ≤ 5)
def allO (p : V → Bool) : Option (List V) → Bool
  | none => false
  | some xs => placesO (some xs) && xs.all p
section
variable {P : Program} {w : World} {K : PySem.W.Frag} {mg : Str → Option Value} {base : Heap}
theorem Part.same {H H' : Hp} {x : V} (s : Same H H') (h : Part K H x) : Part K H' x := by
  obtain ⟨t, a, b, c⟩ := h
  exact ⟨t, TyX.basic_same s a b, b, c⟩
theorem Part.str {H : Hp} (z : Str) (h : z.length ≤ 1000) : Part K H (.str z) := ⟨"str", .base (.str z), by decide, h⟩
theorem Part.int {H : Hp} (i : Int) : Part K H (.int i) := ⟨"int", .base (.int i), by decide, trivial⟩
theorem Thing.same {H H' : Hp} {x : V} {o : Option (List V)} (s : Same H H') (h : Thing K H x o) : Thing K H' x o := by
  cases h with
  | tup h hp hl => exact .tup (s _ _ h) (fun x m => Part.same s (hp x m)) hl
  | oth ty m nt => exact .oth (TyX.basic_same s ty m) m nt
def spIsPlaces (K : PySem.W.Frag) : Sp := fun vs H Q _ => ∃ (x : V) (o : Option (List V)), vs = [x] ∧ Thing K H x o ∧ Q (.bl (placesO o)) H
theorem scIsPlaces : FnScope ["thing"] ["thing"] (defScope sIsPlaces) := ⟨rfl, rfl, rfl, by decide +kernel, rfl, by decide +kernel, by decide +kernel⟩
theorem ok_isplaces {f : Addr} {fd : FuncData} {tkM : Tok} (F : Fun K "is_places" "is_places" sIsPlaces f fd) (b : Blt mg) (M : mg "MOST_PLACES" = some (.int 5 tkM)) : FnOk P w K mg base CX0 1 f fd ["thing"] (spIsPlaces K) := by
  refine F.ok scIsPlaces (fun vs H Q E h => ?_) (fun cdv A outer s H vs Q E hr h => ?_)
  · obtain ⟨x, o, rfl, _⟩ := h
    rfl
  · obtain ⟨x, o, rfl, th, k⟩ := h
    refine ⟨_, pss_one (ps_ret (pe_and (pe_isi (pv 0) rfl b.isi rfl b.tuple (c := "tuple") (by decide +kernel))
      (pe_one (pe_chain op_le op_le pe_int (pe_callB call_len_seq (by rfl) b.len PySem.boot_len (pa_cons (pv 0) pa_nil)) (pe_glob (v := .int 5) rfl M ⟨_, rfl⟩))))), ?_⟩
    cases th with
    | @tup a xs h hp hl =>
      refine rd_isi rfl (.base (.tup h)) (b := true) (by decide +kernel) ⟨_, rfl, iteT ?_⟩
      refine ⟨_, rfl, a, xs, rfl, .inr (SqT.of h), 1, _, rfl, rfl, _, rfl, ?_⟩
      have k' : Q (.bl (decide (1 ≤ xs.length) && decide (xs.length ≤ 5))) H := k
      by_cases g : 1 ≤ xs.length
      · rw [if_pos (decide_eq_true (show (1 : Int) ≤ (xs.length : Int) by omega))]
        refine ⟨_, 5, rfl, rfl, ?_⟩
        have e : decide ((xs.length : Int) ≤ 5) = decide (xs.length ≤ 5) := by
          by_cases q : xs.length ≤ 5
          · rw [decide_eq_true q, decide_eq_true (by omega)]
          · rw [decide_eq_false q, decide_eq_false (by omega)]
        rw [decide_eq_true g, Bool.true_and, ← e] at k'
        exact k'
      · rw [if_neg (by simpa using (show ¬ (1 : Int) ≤ (xs.length : Int) by omega))]
        rw [decide_eq_false g, Bool.false_and] at k'
        exact k'
    | @oth x t ty m nt =>
      have k' : Q (.bl false) H := k
      have kb : kitB t "tuple" = some false := by
        have : ∀ u ∈ basics, u ≠ "tuple" → kitB u "tuple" = some false := by decide +kernel
        exact this t m nt
      exact rd_isi rfl ty (b := false) kb ⟨_, rfl, iteF k'⟩
/-- is_box, is_point -/
def spIs (K : PySem.W.Frag) (p : V → Bool) : Sp := fun vs H Q _ => ∃ (x : V) (o : Option (List V)), vs = [x] ∧ Thing K H x o ∧ ∀ H', Same H H' → Q (.bl (allO p o)) H'
theorem scIsBox : FnScope ["thing", "part"] ["thing"] (defScope sIsBox) := ⟨rfl, rfl, rfl, by decide +kernel, rfl, by decide +kernel, by decide +kernel⟩
/-- what a comprehension over a tuple that asks each item collects -/
theorem take_snoc {α β : Type} (g : α → β) {xs : List α} {i : Nat} {x : α} (h : xs[i]? = some x) : (xs.take i).map g ++ [g x] = (xs.take (i + 1)).map g := by
  rw [List.take_add_one, h, List.map_append]
  rfl
theorem ok_isbox {f fB fP : Addr} {fd fdB fdP : FuncData} {tkM tk5 : Tok} (F : Fun K "is_box" "is_box" sIsBox f fd) (b : Blt mg) (M : mg "MOST_PLACES" = some (.int 5 tkM)) (Fg : mg "FIGURES" = some (.int 5 tk5)) (aB : At K mg "is_beginning" sIsBeg ["thing"] fB fdB) (aP : At K mg "is_places" sIsPlaces ["thing"] fP fdP) :
    FnOk P w K mg base CX0 2 f fd ["thing"] (spIs K begB) := by
  have GB : FnOk P w K mg base CX0 1 fB fdB ["thing"] (spIsBeg K) := ok_isbeg aB.fn b Fg
  have GP : FnOk P w K mg base CX0 1 fP fdP ["thing"] (spIsPlaces K) := ok_isplaces aP.fn b M
  refine F.ok scIsBox (fun vs H Q E h => ?_) (fun cdv A outer s H vs Q E hr h => ?_)
  · obtain ⟨x, o, rfl, _⟩ := h
    rfl
  · obtain ⟨x, o, rfl, th, k⟩ := h
    refine ⟨_, pss_one (ps_ret (pe_and (pe_call GP hr rfl aP.gl aP.fn.kp aP.bd .nil pass0 (pa_cons (pv 0) pa_nil))
      (pe_one (pe_callB (cr_all rfl) (by rfl) b.all (by decide +kernel) (pa_cons
        (pe_lc (own := [("part", 1)]) (g := gName 1) (tt := tYes) (te := tCall (spIsBeg K) [] E0 (tCons (tVar 1) tNil)) rfl scIsBox.nd (pi_tup (pv 0))
          (blkOk_by (N := ["thing", "part"]) (sc := defScope sIsBox) (by decide +kernel)) (fun _ _ _ _ _ => pg_name (i := 1) scIsBox.nd rfl (.inl rfl)) (fun _ _ _ _ _ => pts_nil)
          (fun _ _ _ _ _ => pe_call GB hr rfl aB.gl aB.fn.kp aB.bd .nil pass0 (pa_cons (pv 1) pa_nil))) pa_nil))))), ?_⟩
    refine ⟨_, rfl, x, o, rfl, th, _, rfl, ?_⟩
    cases e : placesO o with
    | false =>
      refine iteF ?_
      have e2 : allO begB o = false := by
        cases o with
        | none => rfl
        | some xs => show (placesO (some xs) && _) = false; rw [e, Bool.false_and]
      rw [e2] at k
      exact k H (Same.refl H)
    | true =>
      refine iteT ?_
      cases th with
      | oth ty m nt => cases e
      | @tup a xs h hp hl =>
        have e2 : allO begB (some xs) = xs.all begB := by show (placesO (some xs) && _) = _; rw [e, Bool.true_and]
        rw [e2] at k
        refine ⟨_, rfl, a, rfl, ⟨xs, SqT.of h⟩, fun D hD => ?_⟩
        refine lc_tup (xs := xs) (fun i H' => Same H H' ∧ H' D = some (.lst (((xs.take i).map begB).map V.bl))) ⟨same_new hD, upd_same⟩ (fun i H' _ q => SqT.of (q.1 _ _ h)) ?_ ?_
        · rintro i x H2 hx ⟨s2, h2⟩
          refine ⟨rfl, yes_turn ?_⟩
          have hm : x ∈ xs := List.mem_of_getElem? hx
          obtain ⟨t, ty, m, sh⟩ := (hp x hm).same s2
          refine ⟨_, rfl, x, t, rfl, ty, m, sh, fun H3 s3 => ⟨_, s3 _ _ h2, ?_, ?_, ?_⟩⟩
          · rw [List.length_map, List.length_map, List.length_take]
            exact Nat.lt_of_le_of_lt (Nat.le_trans (Nat.min_le_right _ _) hl) (by decide)
          · intro q o z'
            have nq : q ≠ D := fun y => by
              rw [y, hD] at z'
              cases z'
            rw [upd_ne nq]
            exact s3 _ _ (s2 _ _ z')
          · rw [upd_same, ← take_snoc begB hx, List.map_append]
            rfl
        · rintro H2 ⟨s2, h2⟩
          refine ⟨D, _, rfl, SqL.of h2, ?_⟩
          have e3 : ((xs.take xs.length).map begB).all id = xs.all begB := by
            rw [List.take_of_length_le (Nat.le_refl _), List.all_map]
            rfl
          rw [e3]
          exact k H2 s2
/-- need_box, need_point -/
def spNeedT (K : PySem.W.Frag) (p : V → Bool) (C : Addr) (nm : Str) : Sp := fun vs H Q E => ∃ (x : V) (o : Option (List V)), vs = [x] ∧ Thing K H x o ∧
  (allO p o = true → ∀ H', Same H H' → Q .non H') ∧ (allO p o = false → ∀ H' d, Same H H' → H' d = none → E (.ref C) (some d) (upd H' d (calledAs nm)))
theorem scNeedBox : FnScope ["box"] ["box"] (defScope sNeedBox) := ⟨rfl, rfl, rfl, by decide +kernel, rfl, by decide +kernel, by decide +kernel⟩
theorem ok_needbox {f fX fB fP C fI : Addr} {fd fdX fdB fdP fdI : FuncData} {tkM tk5 : Tok} (F : Fun K "need_box" "need_box" sNeedBox f fd) (b : Blt mg) (M : mg "MOST_PLACES" = some (.int 5 tkM)) (Fg : mg "FIGURES" = some (.int 5 tk5)) (aB : At K mg "is_beginning" sIsBeg ["thing"] fB fdB) (aP : At K mg "is_places" sIsPlaces ["thing"] fP fdP)
    (aX : At K mg "is_box" sIsBox ["thing"] fX fdX) (Er : ErrC K mg "BadBox" C fI fdI "BadBox.__init__" sBadBox) : FnOk P w K mg base (L2.CX P w) 3 f fd ["box"] (spNeedT K begB C "BadBox") := by
  have GX : FnOk P w K mg base CX0 2 fX fdX ["thing"] (spIs K begB) := ok_isbox aX.fn b M Fg aB aP
  have GI : FnOk P w K mg base CX0 1 fI fdI ["self"] (spErr K C "BadBox") := ok_err Er scBadBox (.inl rfl) rfl
  refine F.okX scNeedBox (fun vs H Q E h => ?_) (fun cdv A outer s H vs Q E hr h => ?_)
  · obtain ⟨x, o, rfl, _⟩ := h
    rfl
  · obtain ⟨x, o, rfl, th, k1, k2⟩ := h
    refine ⟨_, pss_one (ps_if (pt_not (pt_val (pe_call GX hr rfl aX.gl aX.fn.kp aX.bd .nil pass0 (pa_cons (pv 0) pa_nil))))
        (pss_one (ps_raise rfl (takes_of rfl rfl rfl rfl) (pmk_oex0 Er.ox Er.it Er.ty GI hr Er.bd pass0 rfl Er.gl))) pss_nil), ?_⟩
    refine ⟨_, rfl, x, o, rfl, th, fun H1 s1 => ⟨_, rfl, ?_⟩⟩
    cases e : allO begB o with
    | false => exact raise_plain (σ := []) fun d hd => k2 e H1 d s1 hd
    | true => exact k1 e H1 s1
theorem map_get {zs : List Str} {i : Nat} {x : V} (h : (zs.map V.str)[i]? = some x) : ∃ z, zs[i]? = some z ∧ x = .str z := by
  rw [List.getElem?_map] at h
  cases e : zs[i]? with
  | none => rw [e] at h; cases h
  | some z =>
    rw [e] at h
    exact ⟨z, rfl, (Option.some.inj h).symm⟩
end
end VQ
namespace VQ
open PySem L2 LamX
/-! ### names of a comprehension that the def's own state leaves out -/
theorem Inv.more {X : Cx} {pins : List (Addr × Obj)} {σ : L2.St} {H : Hp} {s : Shared} (ys : List Str) (I : Inv X pins σ H s) : Inv { X with N := X.N ++ ys } pins (σ ++ List.replicate ys.length none) H s where
  ok := ⟨I.ok.mod, I.ok.kind, I.ok.glob, I.ok.blt, I.ok.above, I.ok.inj, I.ok.has, I.ok.cab, I.ok.hd, I.ok.frames, I.ok.stk, I.ok.exf, I.ok.bs, I.ok.bsz, I.ok.noex, I.ok.exfs, I.ok.funs, I.ok.frf⟩
  os := I.os
  bare := I.bare
  base := I.base
  loc := by
    obtain ⟨m, h1, h2⟩ := I.loc
    refine ⟨m, h1, fun i x v e1 e2 e3 => ?_⟩
    by_cases lt : i < σ.length
    · rw [List.getElem?_append_left lt] at e2
      have e1 : (X.N ++ ys)[i]? = some x := e1
      rw [List.getElem?_append_left (by rw [← I.len]; exact lt)] at e1
      exact h2 i x v e1 e2 e3
    · rw [List.getElem?_append_right (by omega), List.getElem?_replicate] at e2
      split at e2 <;> cases e2
  cell := I.cell
  free := I.free
  freeC := I.freeC
  pin := I.pin
  hok := I.hok
  len := by
    show _ = (X.N ++ ys).length
    rw [List.length_append, List.length_append, List.length_replicate, I.len]
theorem Inv.less {X : Cx} {pins : List (Addr × Obj)} {σ : L2.St} {H : Hp} {s : Shared} {ys : List Str} (len : σ.length = X.N.length) (I : Inv { X with N := X.N ++ ys } pins (σ ++ List.replicate ys.length none) H s) : Inv X pins σ H s where
  ok := ⟨I.ok.mod, I.ok.kind, I.ok.glob, I.ok.blt, I.ok.above, I.ok.inj, I.ok.has, I.ok.cab, I.ok.hd, I.ok.frames, I.ok.stk, I.ok.exf, I.ok.bs, I.ok.bsz, I.ok.noex, I.ok.exfs, I.ok.funs, I.ok.frf⟩
  os := I.os
  bare := I.bare
  base := I.base
  loc := by
    obtain ⟨m, h1, h2⟩ := I.loc
    refine ⟨m, h1, fun i x v e1 e2 e3 => h2 i x v ?_ ?_ e3⟩
    · show (X.N ++ ys)[i]? = some x
      rw [List.getElem?_append_left (List.getElem?_eq_some_iff.mp e1).1]
      exact e1
    · rw [List.getElem?_append_left (List.getElem?_eq_some_iff.mp e2).1]
      exact e2
  cell := I.cell
  free := I.free
  freeC := I.freeC
  pin := I.pin
  hok := I.hok
  len := len
def tMore (n : Nat) (t : TE) : TE := fun σ H Q => t (σ ++ List.replicate n none) H Q
theorem pe_more {X : Cx} {e : Expr} {t : TE} (ys : List Str) (h : PE { X with N := X.N ++ ys } e t) : PE X e (tMore ys.length t) := by
  refine ⟨fun pins s σ H Q I hw => ?_⟩
  refine wpAny_mono (h.run pins s _ H Q (Inv.more ys I) hw) ?_ fun _ _ z => z
  rintro v s1 ⟨x, H1, I1, r1, q1⟩
  exact ⟨x, H1, Inv.less I.len I1, r1, q1⟩
end VQ
namespace VQ
open PySem L2 LamX
abbrev sNeedAlike : Stmt := top 23
abbrev sUnlike : Stmt := inClass (top 6) 0
theorem scUnlike : FnScope ["self"] ["self"] (defScope sUnlike) := ⟨rfl, rfl, rfl, by decide +kernel, rfl, by decide +kernel, by decide +kernel⟩
section
variable {P : Program} {w : World} {K : PySem.W.Frag} {mg : Str → Option Value} {base : Heap}
def spAlikeT (K : PySem.W.Frag) (C : Addr) : Sp := fun vs H Q E => ∃ (a b : Addr) (xs ys : List V), vs = [.ref a, .ref b] ∧ H a = some (.tup xs) ∧ H b = some (.tup ys) ∧
  (xs.length = ys.length → Q .non H) ∧ (xs.length ≠ ys.length → ∀ d, H d = none → E (.ref C) (some d) (upd H d (calledAs "Unlike")))
theorem scNeedAlike : FnScope ["one", "other"] ["one", "other"] (defScope sNeedAlike) := ⟨rfl, rfl, rfl, by decide +kernel, rfl, by decide +kernel, by decide +kernel⟩
theorem ok_needalike {f C fI : Addr} {fd fdI : FuncData} (F : Fun K "need_alike" "need_alike" sNeedAlike f fd) (b : Blt mg) (Er : ErrC K mg "Unlike" C fI fdI "Unlike.__init__" sUnlike) : FnOk P w K mg base (L2.CX P w) 3 f fd ["one", "other"] (spAlikeT K C) := by
  have GI : FnOk P w K mg base CX0 1 fI fdI ["self"] (spErr K C "Unlike") := ok_err Er scUnlike (.inl rfl) rfl
  refine F.okX scNeedAlike (fun vs H Q E h => ?_) (fun cdv A outer s H vs Q E hr h => ?_)
  · obtain ⟨a, b, xs, ys, rfl, _⟩ := h
    rfl
  · obtain ⟨a, a', xs, ys, rfl, ha, hb, k1, k2⟩ := h
    refine ⟨_, pss_one (ps_if (pt_cmpR op_ne (pe_callB call_len_seq (by rfl) b.len PySem.boot_len (pa_cons (pv 0) pa_nil)) (pe_callB call_len_seq (by rfl) b.len PySem.boot_len (pa_cons (pv 1) pa_nil)) (nomark _))
        (pss_one (ps_raise rfl (takes_of rfl rfl rfl rfl) (pmk_oex0 Er.ox Er.it Er.ty GI hr Er.bd pass0 rfl Er.gl))) pss_nil), ?_⟩
    refine ⟨_, rfl, a, xs, rfl, .inr (SqT.of ha), _, rfl, a', ys, rfl, .inr (SqT.of hb), rfl, _, rfl, ?_⟩
    by_cases e : xs.length = ys.length
    · exact iteNS (congrArg (fun n : Nat => V.int (n : Int)) e) (k1 e)
    · have ne : ¬ V.int (xs.length : Int) = V.int (ys.length : Int) := fun z => by
        injection z with z
        omega
      rw [decide_eq_false ne]
      exact iteT (raise_plain (σ := []) fun d hd => k2 e d hd)
end
end VQ
namespace VQ
open PySem L2 LamX
/-! ### what two boxes are asked -/
/-- the places of a box -/
structure IsBoxS (zs : List Str) : Prop where
  beg : ∀ z ∈ zs, begB (.str z) = true
  lo : 1 ≤ zs.length
  hi : zs.length ≤ 5
theorem allO_box {o : Option (List V)} (h : allO begB o = true) : ∃ zs : List Str, o = some (zs.map V.str) ∧ IsBoxS zs := by
  cases o with
  | none => cases h
  | some xs =>
    have h' : (placesO (some xs) && xs.all begB) = true := h
    rw [Bool.and_eq_true] at h'
    obtain ⟨h1, h2⟩ := h'
    have h1' : (decide (1 ≤ xs.length) && decide (xs.length ≤ 5)) = true := h1
    rw [Bool.and_eq_true, decide_eq_true_eq, decide_eq_true_eq] at h1'
    have key : ∀ l : List V, l.all begB = true → ∃ zs : List Str, l = zs.map V.str ∧ ∀ z ∈ zs, begB (.str z) = true := by
      intro l
      induction l with
      | nil => exact fun _ => ⟨[], rfl, fun z m => by cases m⟩
      | cons x l ih =>
        intro q
        rw [List.all_cons, Bool.and_eq_true] at q
        obtain ⟨zs, e, a⟩ := ih q.2
        cases x with
        | str z =>
          refine ⟨z :: zs, by rw [e]; rfl, fun u m => ?_⟩
          rcases List.mem_cons.mp m with rfl | m
          · exact q.1
          · exact a u m
        | _ => exact absurd q.1 (by intro z; cases z)
    obtain ⟨zs, rfl, a⟩ := key xs h2
    rw [List.length_map] at h1'
    exact ⟨zs, rfl, a, h1'.1, h1'.2⟩
theorem box_allO {zs : List Str} (h : IsBoxS zs) : allO begB (some (zs.map V.str)) = true := by
  show ((decide (1 ≤ (zs.map V.str).length) && decide ((zs.map V.str).length ≤ 5)) && (zs.map V.str).all begB) = true
  rw [List.length_map, decide_eq_true h.lo, decide_eq_true h.hi, List.all_map, Bool.true_and, Bool.true_and]
  exact List.all_eq_true.mpr fun z m => h.beg z m
theorem beg_len {z : Str} (h : begB (.str z) = true) : z.length ≤ 5 := by
  have h' : (decide (z.length ≤ 5) && z.cps.toList.all signB) = true := h
  rw [Bool.and_eq_true, decide_eq_true_eq] at h'
  exact h'.1
/-- a.startswith(b) -/
def rStarts : V → List V → Hp → VK → Prop := fun x xs H Q => ∃ a b, x = .str a ∧ xs = [.str b] ∧ Q (.bl (Txt.startswith a b)) H
/-- a turn of a comprehension over zip: the lists so far -/
theorem zip_snoc {α β γ : Type} (g : α → β → γ) {zs : List α} {ws : List β} {i : Nat} {z : α} {w : β} (hz : zs[i]? = some z) (hw : ws[i]? = some w) : List.zipWith g (zs.take i) (ws.take i) ++ [g z w] = List.zipWith g (zs.take (i + 1)) (ws.take (i + 1)) := by
  have lz : i < zs.length := (List.getElem?_eq_some_iff.mp hz).1
  have lw : i < ws.length := (List.getElem?_eq_some_iff.mp hw).1
  rw [List.take_add_one, List.take_add_one, hz, hw, List.zipWith_append (by rw [List.length_take, List.length_take]; omega)]
  rfl
end VQ
namespace VQ
open PySem L2 LamX
abbrev sNeedBoxes : Stmt := top 24
abbrev sLonger : Stmt := top 29
abbrev sLongers : Stmt := top 30
/-- two things are handed in that should be boxes of one room -/
def spTwo (K : PySem.W.Frag) (CB CU : Addr) (R : List Str → List Str → Hp → VK → Prop) : Sp := fun vs H Q E => ∃ (x y : V) (o p : Option (List V)), vs = [x, y] ∧ Thing K H x o ∧ Thing K H y p ∧
  (∀ zs ws : List Str, o = some (zs.map V.str) → p = some (ws.map V.str) → IsBoxS zs → IsBoxS ws → zs.length = ws.length → R zs ws H Q) ∧
  (allO begB o = false ∨ allO begB p = false → ∀ H' d, Same H H' → H' d = none → E (.ref CB) (some d) (upd H' d (calledAs "BadBox"))) ∧
  (∀ zs ws : List Str, o = some (zs.map V.str) → p = some (ws.map V.str) → IsBoxS zs → IsBoxS ws → zs.length ≠ ws.length → ∀ H' d, Same H H' → H' d = none → E (.ref CU) (some d) (upd H' d (calledAs "Unlike")))
section
variable {P : Program} {w : World} {K : PySem.W.Frag} {mg : Str → Option Value} {base : Heap}
theorem scNeedBoxes : FnScope ["one", "other"] ["one", "other"] (defScope sNeedBoxes) := ⟨rfl, rfl, rfl, by decide +kernel, rfl, by decide +kernel, by decide +kernel⟩
theorem ok_needboxes {f fN fL fX fB fP CB fIB CU fIU : Addr} {fd fdN fdL fdX fdB fdP fdIB fdIU : FuncData} {tkM tk5 : Tok} (F : Fun K "need_boxes" "need_boxes" sNeedBoxes f fd) (b : Blt mg) (M : mg "MOST_PLACES" = some (.int 5 tkM)) (Fg : mg "FIGURES" = some (.int 5 tk5)) (aB : At K mg "is_beginning" sIsBeg ["thing"] fB fdB) (aP : At K mg "is_places" sIsPlaces ["thing"] fP fdP)
    (aX : At K mg "is_box" sIsBox ["thing"] fX fdX) (aN : At K mg "need_box" sNeedBox ["box"] fN fdN) (aL : At K mg "need_alike" sNeedAlike ["one", "other"] fL fdL) (EB : ErrC K mg "BadBox" CB fIB fdIB "BadBox.__init__" sBadBox) (EU : ErrC K mg "Unlike" CU fIU fdIU "Unlike.__init__" sUnlike) :
    FnOk P w K mg base (L2.CX P w) 4 f fd ["one", "other"] (spTwo K CB CU fun _ _ H Q => ∀ H', Same H H' → Q .non H') := by
  have GN : FnOk P w K mg base (L2.CX P w) 3 fN fdN ["box"] (spNeedT K begB CB "BadBox") := ok_needbox aN.fn b M Fg aB aP aX EB
  have GL : FnOk P w K mg base (L2.CX P w) 3 fL fdL ["one", "other"] (spAlikeT K CU) := ok_needalike aL.fn b EU
  refine F.okX scNeedBoxes (fun vs H Q E h => ?_) (fun cdv A outer s H vs Q E hr h => ?_)
  · obtain ⟨x, y, o, p, rfl, _⟩ := h
    rfl
  · obtain ⟨x, y, o, p, rfl, tx, ty, k1, k2, k3⟩ := h
    refine ⟨_, pss_cons (ps_expr (pe_call GN hr rfl aN.gl aN.fn.kp aN.bd .nil (passes_call (takes_of rfl rfl rfl rfl) (fun _ _ _ _ h => h)) (pa_cons (pv 0) pa_nil)))
      (pss_cons (ps_expr (pe_call GN hr rfl aN.gl aN.fn.kp aN.bd .nil (passes_call (takes_of rfl rfl rfl rfl) (fun _ _ _ _ h => h)) (pa_cons (pv 1) pa_nil)))
      (pss_one (ps_expr (pe_call GL hr rfl aL.gl aL.fn.kp aL.bd .nil (passes_call (takes_of rfl rfl rfl rfl) (fun _ _ _ _ h => h)) (pa_cons (pv 0) (pa_cons (pv 1) pa_nil)))))), ?_⟩
    refine ⟨_, rfl, x, o, rfl, tx, fun yx H1 s1 => ?_, fun no H1 d s1 hd => k2 (.inl no) H1 d s1 hd⟩
    refine ⟨_, rfl, y, p, rfl, ty.same s1, fun yy H2 s2 => ?_, fun no H2 d s2 hd => k2 (.inr no) H2 d (s1.trans s2) hd⟩
    have s12 := s1.trans s2
    obtain ⟨zs, rfl, bz⟩ := allO_box yx
    obtain ⟨ws, rfl, bw⟩ := allO_box yy
    cases tx with
    | @tup a _ ha _ _ =>
      cases ty with
      | @tup a' _ ha' _ _ =>
        refine ⟨_, rfl, _, rfl, a, a', _, _, rfl, s12 _ _ ha, s12 _ _ ha', fun e => ?_, fun e d hd => ?_⟩
        · rw [List.length_map, List.length_map] at e
          exact k1 zs ws rfl rfl bz bw e H2 s12
        · rw [List.length_map, List.length_map] at e
          exact k3 zs ws rfl rfl bz bw e H2 d s12 hd
/-! ### the longer one -/
def longV (a b : Str) : V := if Txt.startswith a b = true then .str a else if Txt.startswith b a = true then .str b else .non
def spLonger : Sp := fun vs H Q _ => ∃ a b : Str, vs = [.str a, .str b] ∧ Q (longV a b) H
theorem scLonger : FnScope ["one", "other"] ["one", "other"] (defScope sLonger) := ⟨rfl, rfl, rfl, by decide +kernel, rfl, by decide +kernel, by decide +kernel⟩
theorem ok_longer {f : Addr} {fd : FuncData} (F : Fun K "longer" "longer" sLonger f fd) : FnOk P w K mg base CX0 1 f fd ["one", "other"] spLonger := by
  refine F.ok scLonger (fun vs H Q E h => ?_) (fun cdv A outer s H vs Q E hr h => ?_)
  · obtain ⟨x, y, rfl, _⟩ := h
    rfl
  · obtain ⟨x, y, rfl, k⟩ := h
    refine ⟨_, pss_cons (ps_if (pt_val (pe_bm PySem.F.plainAttrs_str PySem.F.slot_str_startswith PySem.F.type_str_startswith mt_startswith (pv 0) (pa_cons (pv 1) pa_nil))) (pss_one (ps_ret (pv 0))) pss_nil)
      (pss_cons (ps_if (pt_val (pe_bm PySem.F.plainAttrs_str PySem.F.slot_str_startswith PySem.F.type_str_startswith mt_startswith (pv 1) (pa_cons (pv 0) pa_nil))) (pss_one (ps_ret (pv 1))) pss_nil)
      (pss_one (ps_ret pe_non))), ?_⟩
    refine ⟨_, rfl, rfl, _, rfl, x, y, rfl, rfl, _, rfl, ?_⟩
    unfold longV at k
    cases e : Txt.startswith x y with
    | true =>
      rw [e, if_pos rfl] at k
      exact iteT ⟨_, rfl, k⟩
    | false =>
      rw [e, if_neg (by decide)] at k
      refine iteF ⟨_, rfl, rfl, _, rfl, y, x, rfl, rfl, _, rfl, ?_⟩
      cases e2 : Txt.startswith y x with
      | true =>
        rw [e2, if_pos rfl] at k
        exact iteT ⟨_, rfl, k⟩
      | false =>
        rw [e2, if_neg (by decide)] at k
        exact iteF k
def longsL (zs ws : List Str) : List V := List.zipWith longV zs ws
def spLongers : Sp := fun vs H Q _ => ∃ (a b : Addr) (zs ws : List Str), vs = [.ref a, .ref b] ∧ H a = some (.tup (zs.map V.str)) ∧ H b = some (.tup (ws.map V.str)) ∧ zs.length = ws.length ∧ zs.length ≤ 1000 ∧
  ∀ (D : Addr) (H' : Hp), H D = none → Same H H' → H' D = some (.lst (longsL zs ws)) → Q (.ref D) H'
theorem scLongers : FnScope ["one", "other", "mine", "its"] ["one", "other"] (defScope sLongers) := ⟨rfl, rfl, rfl, by decide +kernel, rfl, by decide +kernel, by decide +kernel⟩
theorem ok_longers {f fL : Addr} {fd fdL : FuncData} (F : Fun K "longer_ones" "longer_ones" sLongers f fd) (zp : mg "zip" = none) (aL : At K mg "longer" sLonger ["one", "other"] fL fdL) : FnOk P w K mg base CX0 2 f fd ["one", "other"] spLongers := by
  have GL : FnOk P w K mg base CX0 1 fL fdL ["one", "other"] spLonger := ok_longer aL.fn
  refine F.ok scLongers (fun vs H Q E h => ?_) (fun cdv A outer s H vs Q E hr h => ?_)
  · obtain ⟨a, b, zs, ws, rfl, _⟩ := h
    rfl
  · obtain ⟨a, a', zs, ws, rfl, ha, hb, len, l1, k⟩ := h
    refine ⟨_, pss_one (ps_ret (pe_lc (own := [("mine", 2), ("its", 3)]) (g := gTup K 2 (gCons (gName 2) (gCons (gName 3) gNil))) (tt := tYes) (te := tCall spLonger [] E0 (tCons (tVar 2) (tCons (tVar 3) tNil))) rfl scLongers.nd (RZ.pi_zipA rfl zp (pa_cons (pv 0) (pa_cons (pv 1) pa_nil)))
      (blkOk_by (N := ["one", "other", "mine", "its"]) (sc := defScope sLongers) (by decide +kernel)) (fun _ _ _ _ _ => pg_tup rfl (pgs_cons (pg_name (i := 2) scLongers.nd rfl (.inl rfl)) (pgs_cons (pg_name (i := 3) scLongers.nd rfl (.inl rfl)) pgs_nil))) (fun _ _ _ _ _ => pts_nil)
      (fun _ _ _ _ _ => pe_call GL hr rfl aL.gl aL.fn.kp aL.bd .nil pass0 (pa_cons (pv 2) (pa_cons (pv 3) pa_nil))))), ?_⟩
    refine ⟨_, rfl, _, rfl, a, a', _, _, rfl, .inr ⟨SqT.of ha, SqT.of hb, fun D hD => ?_⟩⟩
    refine lc_zipT (xs := zs.map V.str) (ys := ws.map V.str) (by rw [List.length_map, List.length_map]; exact len) (fun i H' => Same H H' ∧ H' D = some (.lst (List.zipWith longV (zs.take i) (ws.take i)))) ⟨same_new hD, upd_same⟩ (fun i H' q => ⟨SqT.of (q.1 _ _ ha), SqT.of (q.1 _ _ hb)⟩) ?_ ?_
    · rintro i x y T H2 hx hy ⟨s2, h2⟩ nT
      obtain ⟨z, ez, rfl⟩ := map_get hx
      obtain ⟨w', ew, rfl⟩ := map_get hy
      have DT : D ≠ T := fun q => by
        rw [← q, h2] at nT
        cases nT
      refine ⟨T, _, rfl, SqT.of upd_same, rfl, _, _, rfl, _, _, rfl, rfl, rfl, yes_turn ?_⟩
      refine ⟨_, rfl, _, rfl, z, w', rfl, _, (upd_ne DT).trans h2, ?_, ?_, ?_⟩
      · rw [List.length_zipWith, List.length_take, List.length_take]
        exact Nat.lt_of_le_of_lt (show _ ≤ 1000 by omega) (by decide)
      · intro q o z'
        have nq : q ≠ D := fun y => by
          rw [y, hD] at z'
          cases z'
        have nq2 : q ≠ T := fun y => by
          rw [y, (s2.free nT)] at z'
          cases z'
        rw [upd_ne nq, upd_ne nq2]
        exact s2 _ _ z'
      · rw [upd_same, zip_snoc longV ez ew]
    · rintro H2 ⟨s2, h2⟩
      refine k D H2 hD s2 ?_
      rw [h2, List.length_map, List.take_of_length_le (Nat.le_refl _), List.take_of_length_le (by omega)]
      rfl
theorem longs_flat : ∀ zs ws : List Str, (longsL zs ws).all flatV = true
  | [], _ => by unfold longsL; rw [List.zipWith_nil_left]; rfl
  | _ :: _, [] => by unfold longsL; rw [List.zipWith_nil_right]; rfl
  | z :: zs, w :: ws => by
    unfold longsL
    rw [List.zipWith_cons_cons, List.all_cons, Bool.and_eq_true]
    refine ⟨?_, longs_flat zs ws⟩
    unfold longV
    split
    · rfl
    · split <;> rfl
end
end VQ
namespace VQ
open PySem L2 LamX
abbrev sMeet : Stmt := top 31
def rMeet (zs ws : List Str) (H : Hp) (Q : VK) : Prop := (inV .non (longsL zs ws) = true → ∀ H', Same H H' → Q .non H') ∧
  (inV .non (longsL zs ws) = false → ∀ (l : Addr) (H' : Hp), H l = none → Same H H' → H' l = some (.tup (longsL zs ws)) → Q (.ref l) H')
section
variable {P : Program} {w : World} {K : PySem.W.Frag} {mg : Str → Option Value} {base : Heap}
theorem scMeet : FnScope ["one", "other", "made"] ["one", "other"] (defScope sMeet) := ⟨rfl, rfl, rfl, by decide +kernel, rfl, by decide +kernel, by decide +kernel⟩
theorem ok_meet {f fN fS CB CU : Addr} {fd fdN fdS : FuncData} (F : Fun K "meet" "meet" sMeet f fd) (b : Blt mg) (aN : At K mg "need_boxes" sNeedBoxes ["one", "other"] fN fdN) (aS : At K mg "longer_ones" sLongers ["one", "other"] fS fdS)
    (GN : FnOk P w K mg base (L2.CX P w) 4 fN fdN ["one", "other"] (spTwo K CB CU fun _ _ H Q => ∀ H', Same H H' → Q .non H')) (GS : FnOk P w K mg base CX0 2 fS fdS ["one", "other"] spLongers) : FnOk P w K mg base (L2.CX P w) 5 f fd ["one", "other"] (spTwo K CB CU rMeet) := by
  refine F.okX scMeet (fun vs H Q E h => ?_) (fun cdv A outer s H vs Q E hr h => ?_)
  · obtain ⟨x, y, o, p, rfl, _⟩ := h
    rfl
  · obtain ⟨x, y, o, p, rfl, tx, ty, k1, k2, k3⟩ := h
    have hr2 : Room 2 _ := hr.mono (by decide)
    refine ⟨_, pss_cons (ps_expr (pe_call GN hr rfl aN.gl aN.fn.kp aN.bd .nil (passes_call (takes_of rfl rfl rfl rfl) (fun _ _ _ _ h => h)) (pa_cons (pv 0) (pa_cons (pv 1) pa_nil))))
      (pss_cons (ps_set (i := 2) scMeet.nd rfl (.inl rfl) (pe_call GS hr2 rfl aS.gl aS.fn.kp aS.bd .nil pass0 (pa_cons (pv 0) (pa_cons (pv 1) pa_nil))))
      (pss_cons (ps_if (pt_cmpR op_in_seq pe_non (pv 2) rfl) (pss_one (ps_ret pe_non)) pss_nil)
      (pss_one (ps_ret (pe_callTy call_tuple_of (by rfl) b.tuple (by decide +kernel) (pa_cons (pv 2) pa_nil)))))), ?_⟩
    refine ⟨_, rfl, _, rfl, x, y, o, p, rfl, tx, ty, fun zs ws ez ew bz bw len H1 s1 => ?_, k2, k3⟩
    subst ez ew
    cases tx with
    | @tup a _ ha _ _ =>
      cases ty with
      | @tup a' _ ha' _ _ =>
        obtain ⟨m1, m2⟩ := k1 zs ws rfl rfl bz bw len
        refine ⟨_, rfl, _, rfl, a, a', zs, ws, rfl, s1 _ _ ha, s1 _ _ ha', len, Nat.le_trans bz.hi (by decide), fun D H2 hD s2 h2 => ?_⟩
        refine ⟨_, rfl, D, _, rfl, .inl (SqL.of h2), rfl, longs_flat zs ws, _, rfl, ?_⟩
        have s12 := s1.trans s2
        cases e : inV .non (longsL zs ws) with
        | true =>
          exact iteT (m1 e H2 s12)
        | false =>
          refine iteF ⟨_, rfl, D, _, rfl, .inl ⟨SqL.of h2, fun l hl => ?_⟩⟩
          exact m2 e l _ (s12.free hl) (s12.trans (same_new hl)) upd_same
end
end VQ
namespace VQ
open PySem L2 LamX
abbrev sLies : Stmt := top 28
abbrev sWithin : Stmt := top 27
def insideB (zs ws : List Str) : Bool := (List.zipWith Txt.startswith zs ws).all id
def rLies (zs ws : List Str) (H : Hp) (Q : VK) : Prop := ∀ H', Same H H' → Q (.bl (insideB zs ws)) H'
section
variable {P : Program} {w : World} {K : PySem.W.Frag} {mg : Str → Option Value} {base : Heap}
/-- two tuples of as many texts -/
def spWithin : Sp := fun vs H Q _ => ∃ (a a' : Addr) (zs ws : List Str), vs = [.ref a, .ref a'] ∧ H a = some (.tup (zs.map V.str)) ∧ H a' = some (.tup (ws.map V.str)) ∧ zs.length = ws.length ∧ zs.length ≤ 1000 ∧ ∀ H', Same H H' → Q (.bl (insideB zs ws)) H'
theorem scWithin : FnScope ["one", "other", "inner", "outer"] ["one", "other"] (defScope sWithin) := ⟨rfl, rfl, rfl, by decide +kernel, rfl, by decide +kernel, by decide +kernel⟩
theorem ok_within {f : Addr} {fd : FuncData} (F : Fun K "within" "within" sWithin f fd) (b : Blt mg) (zp : mg "zip" = none) : FnOk P w K mg base CX0 1 f fd ["one", "other"] spWithin := by
  refine F.ok scWithin (fun vs H Q E h => ?_) (fun cdv A outer s H vs Q E hr h => ?_)
  · obtain ⟨x, y, zs, ws, rfl, _⟩ := h
    rfl
  · obtain ⟨a, a', zs, ws, rfl, ha, ha', len, l3, kk⟩ := h
    refine ⟨_, pss_one (ps_ret (pe_callB (cr_all rfl) (by rfl) b.all (by decide +kernel) (pa_cons
        (pe_lc (own := [("inner", 2), ("outer", 3)]) (g := gTup K 2 (gCons (gName 2) (gCons (gName 3) gNil))) (tt := tYes) (te := tBM K "str" rStarts (tVar 2) (tCons (tVar 3) tNil)) rfl scWithin.nd (RZ.pi_zipA rfl zp (pa_cons (pv 0) (pa_cons (pv 1) pa_nil)))
          (blkOk_by (N := ["one", "other", "inner", "outer"]) (sc := defScope sWithin) (by decide +kernel)) (fun _ _ _ _ _ => pg_tup rfl (pgs_cons (pg_name (i := 2) scWithin.nd rfl (.inl rfl)) (pgs_cons (pg_name (i := 3) scWithin.nd rfl (.inl rfl)) pgs_nil))) (fun _ _ _ _ _ => pts_nil)
          (fun _ _ _ _ _ => pe_bm PySem.F.plainAttrs_str PySem.F.slot_str_startswith PySem.F.type_str_startswith mt_startswith (pv 2) (pa_cons (pv 3) pa_nil))) pa_nil))), ?_⟩
    refine ⟨_, rfl, _, rfl, a, a', _, _, rfl, .inr ⟨SqT.of ha, SqT.of ha', fun D hD => ?_⟩⟩
    refine lc_zipT (xs := zs.map V.str) (ys := ws.map V.str) (by rw [List.length_map, List.length_map]; exact len) (fun i H' => Same H H' ∧ H' D = some (.lst ((List.zipWith Txt.startswith (zs.take i) (ws.take i)).map V.bl))) ⟨same_new hD, upd_same⟩ (fun i H' q => ⟨SqT.of (q.1 _ _ ha), SqT.of (q.1 _ _ ha')⟩) ?_ ?_
    · rintro i x y T H2 hx hy ⟨s2, h2⟩ nT
      obtain ⟨z, ez, rfl⟩ := map_get hx
      obtain ⟨w', ew, rfl⟩ := map_get hy
      have DT : D ≠ T := fun q => by
        rw [← q, h2] at nT
        cases nT
      refine ⟨T, _, rfl, SqT.of upd_same, rfl, _, _, rfl, _, _, rfl, rfl, rfl, yes_turn ?_⟩
      refine ⟨_, rfl, rfl, _, rfl, z, w', rfl, rfl, _, (upd_ne DT).trans h2, ?_, ?_, ?_⟩
      · rw [List.length_map, List.length_zipWith, List.length_take, List.length_take]
        exact Nat.lt_of_le_of_lt (show _ ≤ 1000 by omega) (by decide)
      · intro q o z'
        have nq : q ≠ D := fun y => by
          rw [y, hD] at z'
          cases z'
        have nq2 : q ≠ T := fun y => by
          rw [y, (s2.free nT)] at z'
          cases z'
        rw [upd_ne nq, upd_ne nq2]
        exact s2 _ _ z'
      · rw [upd_same, ← zip_snoc Txt.startswith ez ew, List.map_append]
        rfl
    · rintro H2 ⟨s2, h2⟩
      refine ⟨D, _, rfl, SqL.of h2, ?_⟩
      rw [List.length_map, List.take_of_length_le (Nat.le_refl _), List.take_of_length_le (by omega)]
      exact kk H2 s2
theorem scLies : FnScope ["one", "other"] ["one", "other"] (defScope sLies) := ⟨rfl, rfl, rfl, by decide +kernel, rfl, by decide +kernel, by decide +kernel⟩
theorem ok_lies {f fN fW CB CU : Addr} {fd fdN fdW : FuncData} (F : Fun K "lies_in" "lies_in" sLies f fd) (b : Blt mg) (zp : mg "zip" = none) (aN : At K mg "need_boxes" sNeedBoxes ["one", "other"] fN fdN) (aW : At K mg "within" sWithin ["one", "other"] fW fdW)
    (GN : FnOk P w K mg base (L2.CX P w) 4 fN fdN ["one", "other"] (spTwo K CB CU fun _ _ H Q => ∀ H', Same H H' → Q .non H')) : FnOk P w K mg base (L2.CX P w) 5 f fd ["one", "other"] (spTwo K CB CU rLies) := by
  have GW : FnOk P w K mg base CX0 1 fW fdW ["one", "other"] spWithin := ok_within aW.fn b zp
  refine F.okX scLies (fun vs H Q E h => ?_) (fun cdv A outer s H vs Q E hr h => ?_)
  · obtain ⟨x, y, o, p, rfl, _⟩ := h
    rfl
  · obtain ⟨x, y, o, p, rfl, tx, ty, k1, k2, k3⟩ := h
    refine ⟨_, pss_cons (ps_expr (pe_call GN hr rfl aN.gl aN.fn.kp aN.bd .nil (passes_call (takes_of rfl rfl rfl rfl) (fun _ _ _ _ h => h)) (pa_cons (pv 0) (pa_cons (pv 1) pa_nil))))
      (pss_one (ps_ret (pe_call GW (hr.mono (by decide)) rfl aW.gl aW.fn.kp aW.bd .nil pass0 (pa_cons (pv 0) (pa_cons (pv 1) pa_nil))))), ?_⟩
    refine ⟨_, rfl, _, rfl, x, y, o, p, rfl, tx, ty, fun zs ws ez ew bz bw len H1 s1 => ?_, k2, k3⟩
    subst ez ew
    cases tx with
    | @tup a _ ha _ _ =>
      cases ty with
      | @tup a' _ ha' _ _ =>
        have kk := k1 zs ws rfl rfl bz bw len
        exact ⟨_, rfl, _, rfl, a, a', zs, ws, rfl, s1 _ _ ha, s1 _ _ ha', len, Nat.le_trans bz.hi (by decide), fun H2 s2 => kk H2 (s1.trans s2)⟩
end
end VQ
namespace VQ
open PySem L2 LamX
abbrev sBox : Stmt := top 42
section
variable {P : Program} {w : World} {K : PySem.W.Frag} {mg : Str → Option Value} {base : Heap}
/-- a new tuple whose items are drawn -/
def spTupDraw (ok : V → Prop) : Sp := fun vs H Q _ => ∃ (b : Addr) (n : Nat), vs = [.ref b, .int (n : Int)] ∧ Bag H b ∧ n ≤ 5 ∧ ∀ (a : Addr) (xs : List V) (H' : Hp), xs.length = n → (∀ x ∈ xs, ok x) → H a = none → H' a = some (.tup xs) → Bag H' b → Keep b H H' → Q (.ref a) H'
theorem scBox : FnScope ["_law_bag_here", "_law_many", "_law_k"] ["_law_bag_here", "_law_many"] (defScope sBox) := ⟨rfl, rfl, rfl, by decide +kernel, rfl, by decide +kernel, by decide +kernel⟩
/-- is a text of begs -/
def IsBeg (x : V) : Prop := ∃ z, x = .str z ∧ z ∈ begs
theorem ok_box {f fG : Addr} {fd fdG : FuncData} (F : Fun K "_law_box" "_law_box" sBox f fd) (b : Blt mg) (aG : At K mg "_law_begin" sBegin ["_law_bag_here"] fG fdG) (GG : FnOk P w K mg base CX0 4 fG fdG ["_law_bag_here"] spBegin) :
    FnOk P w K mg base CX0 5 f fd ["_law_bag_here", "_law_many"] (spTupDraw IsBeg) := by
  refine F.ok scBox (fun vs H Q E h => ?_) (fun cdv A outer s H vs Q E hr h => ?_)
  · obtain ⟨bg, n, rfl, _⟩ := h
    rfl
  · obtain ⟨bg, n, rfl, B, hn, k⟩ := h
    refine ⟨_, pss_one (ps_ret (pe_callTy call_tuple_of (by rfl) b.tuple (by decide +kernel) (pa_cons
      (pe_lc (own := [("_law_k", 2)]) (g := gName 2) (tt := tYes) (te := tCall spBegin [] E0 (tCons (tVar 0) tNil)) rfl scBox.nd (pi_range1 rfl b.range (pa_cons (pv 1) pa_nil))
        (blkOk_by (N := ["_law_bag_here", "_law_many", "_law_k"]) (sc := defScope sBox) (by decide +kernel)) (fun _ _ _ _ _ => pg_name (i := 2) scBox.nd rfl (.inl rfl)) (fun _ _ _ _ _ => pts_nil)
        (fun _ _ _ _ _ => pe_call GG hr rfl aG.gl aG.fn.kp aG.bd .nil pass0 (pa_cons (pv 0) pa_nil))) pa_nil))), ?_⟩
    refine ⟨_, rfl, n, rfl, by omega, by omega, fun D hD => ?_⟩
    obtain ⟨B1, K1⟩ := Bag.put (o := .lst []) B hD (Keep.refl bg H) B
    refine lc_range (lo := 0) (n := n) (fun i H' => Bag H' bg ∧ Keep bg H H' ∧ ∃ xs : List V, xs.length = i ∧ (∀ x ∈ xs, IsBeg x) ∧ H' D = some (.lst xs)) ⟨B1, K1, [], rfl, (fun x m => by cases m), upd_same⟩ ?_ ?_
    · rintro i H2 hi ⟨B2, K2, xs, el, ex, h2⟩
      refine ⟨rfl, yes_turn ?_⟩
      refine ⟨_, rfl, bg, rfl, B2, fun z H3 hz B3 K3 => ?_⟩
      have Db : D ≠ bg := fun e => by
        obtain ⟨o, q⟩ := B.here
        rw [← e, hD] at q
        cases q
      obtain ⟨B4, K4⟩ := Bag.put (o := .lst (xs ++ [.str z])) B hD (K2.trans K3) B3
      refine ⟨_, K3.1 _ _ Db h2, by rw [el]; exact Nat.lt_of_lt_of_le (show i < 6 by omega) (by decide), B4, K4, _, by rw [List.length_append, el]; rfl, fun x m => ?_, upd_same⟩
      rcases List.mem_append.mp m with m | m
      · exact ex x m
      · exact ⟨z, List.mem_singleton.mp m, hz⟩
    · rintro H2 ⟨B2, K2, xs, el, ex, h2⟩
      refine ⟨D, xs, rfl, .inl ⟨SqL.of h2, fun l hl => ?_⟩⟩
      have hl0 : H l = none := K2.free B B2 hl
      obtain ⟨B3, K3⟩ := Bag.put (o := .tup xs) B hl0 K2 B2
      exact k l xs _ el ex hl0 upd_same B3 K3
end
end VQ
namespace VQ
open PySem L2 LamX
/-- a tuple of begs -/
def BoxAt (H : Hp) (a : Addr) (zs : List Str) : Prop := H a = some (.tup (zs.map V.str)) ∧ (∀ z ∈ zs, z ∈ begs) ∧ zs.length ≤ 5
theorem begs_of : ∀ {xs : List V}, (∀ x ∈ xs, IsBeg x) → ∃ zs : List Str, xs = zs.map V.str ∧ ∀ z ∈ zs, z ∈ begs
  | [], _ => ⟨[], rfl, fun z m => by cases m⟩
  | x :: xs, h => by
    obtain ⟨z, rfl, hz⟩ := h x List.mem_cons_self
    obtain ⟨zs, rfl, a⟩ := begs_of (xs := xs) fun y m => h y (List.mem_cons_of_mem _ m)
    refine ⟨z :: zs, rfl, fun u m => ?_⟩
    rcases List.mem_cons.mp m with rfl | m
    · exact hz
    · exact a u m
section
variable {K : PySem.W.Frag} {H H' : Hp}
theorem BoxAt.same {a : Addr} {zs : List Str} (h : BoxAt H a zs) (s : Same H H') : BoxAt H' a zs := ⟨s _ _ h.1, h.2⟩
theorem BoxAt.keep {a b : Addr} {zs : List Str} (h : BoxAt H a zs) (B : Bag H b) (k : Keep b H H') : BoxAt H' a zs := ⟨k.tup B h.1, h.2⟩
theorem BoxAt.extN {a : Addr} {zs : List Str} (h : BoxAt H a zs) (e : ExtN H H') : BoxAt H' a zs := ⟨e _ _ h.1 (fun ps z => by cases z), h.2⟩
theorem BoxAt.thing {a : Addr} {zs : List Str} (h : BoxAt H a zs) : Thing K H (.ref a) (some (zs.map V.str)) := by
  refine .tup h.1 (fun x m => ?_) (by rw [List.length_map]; exact Nat.le_trans h.2.2 (by decide))
  obtain ⟨z, mz, rfl⟩ := List.mem_map.mp m
  exact Part.str z (Nat.le_trans (begs_len z (h.2.1 z mz)) (by decide))
theorem BoxAt.is {a : Addr} {zs : List Str} (h : BoxAt H a zs) (h1 : 1 ≤ zs.length) : IsBoxS zs := ⟨fun z m => begs_yes z (h.2.1 z m), h1, h.2.2⟩
theorem strs_inj : ∀ {zs ws : List Str}, zs.map V.str = ws.map V.str → zs = ws
  | [], [], _ => rfl
  | [], _ :: _, h => by cases h
  | _ :: _, [], h => by cases h
  | z :: zs, w :: ws, h => by
    rw [List.map_cons, List.map_cons] at h
    injection h with h1 h2
    injection h1 with h1
    rw [h1, strs_inj h2]
/-! ### likeness -/
inductive Alikes (H : Hp) (n : Nat) : List V → List V → Prop
  | nil : Alikes H n [] []
  | cons {x y : V} {xs ys : List V} (h : Alike H n x y) (t : Alikes H n xs ys) : Alikes H n (x :: xs) (y :: ys)
theorem alike_strs {n : Nat} {a b : Addr} {us : List Str} (ha : H a = some (.tup (us.map V.str))) (hb : H b = some (.tup (us.map V.str))) (hl : us.length ≤ 1000) : Alike H (n + 1) (.ref a) (.ref b) := by
  refine .tup ha hb rfl (by rw [List.length_map]; exact hl) fun i x y hx hy => ?_
  rw [hx] at hy
  cases hy
  obtain ⟨z, _, rfl⟩ := map_get hx
  exact .str n z
theorem alike_list {n : Nat} {a b : Addr} {xs ys : List V} (ha : H a = some (.lst xs)) (hb : H b = some (.lst ys)) (hl : ys.length ≤ 1000) (h : Alikes H n xs ys) : Alike H (n + 1) (.ref a) (.ref b) := by
  have key : ∀ {xs ys : List V}, Alikes H n xs ys → xs.length = ys.length ∧ ∀ (i : Nat) (x y : V), xs[i]? = some x → ys[i]? = some y → Alike H n x y := by
    intro xs ys h
    induction h with
    | nil => exact ⟨rfl, fun i x y hx => by cases hx⟩
    | cons r _ ih =>
      refine ⟨by rw [List.length_cons, List.length_cons, ih.1], fun i x y hx hy => ?_⟩
      cases i with
      | zero =>
        cases hx
        cases hy
        exact r
      | succ i => exact ih.2 i x y hx hy
  obtain ⟨e, g⟩ := key h
  exact .lst ha hb e hl g
/-! ### a tuple from a place on -/
theorem cut_from (xs : List V) {k : Nat} (h : k ≤ xs.length) : cutV xs (some (k : Int)) none = xs.drop k := by
  unfold cutV
  rw [HT.sIx_nat, HT.sIx_none, Nat.min_eq_left h]
  exact List.take_of_length_le (by rw [List.length_drop]; omega)
theorem from_part {n k : Nat} (h1 : 1 ≤ k) (h2 : k ≤ n) : ¬ (HT.sIx n 0 (some (k : Int)) = 0 ∧ HT.sIx n n none = n) := fun z => by
  rw [HT.sIx_nat, Nat.min_eq_left h2] at z
  omega
end
end VQ
namespace VQ
open PySem L2 LamX
/-! ### boxes handed in, told ones compared -/
section
variable {K : PySem.W.Frag} {H H' : Hp} {CB CU : Addr}
theorem two_ok {R : List Str → List Str → Hp → VK → Prop} {Q : VK} {E : XK} {a b : Addr} {zs ws : List Str} (ha : BoxAt H a zs) (hb : BoxAt H b ws) (h1 : 1 ≤ zs.length) (len : zs.length = ws.length) (r : R zs ws H Q) : spTwo K CB CU R [.ref a, .ref b] H Q E := by
  refine ⟨_, _, _, _, rfl, ha.thing, hb.thing, fun zs' ws' ez ew _ _ _ => ?_, fun no => ?_, fun zs' ws' ez ew _ _ ne => ?_⟩
  · rw [← strs_inj (Option.some.inj ez), ← strs_inj (Option.some.inj ew)]
    exact r
  · rw [box_allO (ha.is h1), box_allO (hb.is (by omega))] at no
    rcases no with q | q <;> cases q
  · rw [← strs_inj (Option.some.inj ez), ← strs_inj (Option.some.inj ew)] at ne
    exact absurd len ne
theorem two_bad {R : List Str → List Str → Hp → VK → Prop} {Q : VK} {E : XK} {x y : V} {o p : Option (List V)} (tx : Thing K H x o) (ty : Thing K H y p) (no : allO begB o = false ∨ allO begB p = false)
    (k : ∀ H' d, Same H H' → H' d = none → E (.ref CB) (some d) (upd H' d (calledAs "BadBox"))) : spTwo K CB CU R [x, y] H Q E := by
  have nono : ∀ {X : Prop} {zs ws : List Str}, o = some (zs.map V.str) → p = some (ws.map V.str) → IsBoxS zs → IsBoxS ws → X := fun ez ew bz bw => by
    rw [ez, ew, box_allO bz, box_allO bw] at no
    rcases no with q | q <;> cases q
  exact ⟨x, y, o, p, rfl, tx, ty, fun zs ws ez ew bz bw _ => nono ez ew bz bw, fun _ => k, fun zs ws ez ew bz bw _ => nono ez ew bz bw⟩
theorem two_unlike {R : List Str → List Str → Hp → VK → Prop} {Q : VK} {E : XK} {a b : Addr} {zs ws : List Str} (ha : BoxAt H a zs) (hb : BoxAt H b ws) (h1 : 1 ≤ zs.length) (h2 : 1 ≤ ws.length) (ne : zs.length ≠ ws.length)
    (k : ∀ H' d, Same H H' → H' d = none → E (.ref CU) (some d) (upd H' d (calledAs "Unlike"))) : spTwo K CB CU R [.ref a, .ref b] H Q E := by
  refine ⟨_, _, _, _, rfl, ha.thing, hb.thing, fun zs' ws' ez ew _ _ e => ?_, fun no => ?_, fun zs' ws' ez ew _ _ _ => k⟩
  · rw [← strs_inj (Option.some.inj ez), ← strs_inj (Option.some.inj ew)] at e
    exact absurd e ne
  · rw [box_allO (ha.is h1), box_allO (hb.is h2)] at no
    rcases no with q | q <;> cases q
/-! ### what two boxes' meeting tells -/
def MeetV (H : Hp) (xs : List V) (v : V) : Prop := (inV .non xs = true ∧ v = .non) ∨ (inV .non xs = false ∧ ∃ l, v = .ref l ∧ H l = some (.tup xs))
theorem MeetV.same {xs : List V} {v : V} (h : MeetV H xs v) (s : Same H H') : MeetV H' xs v := by
  rcases h with h | ⟨h1, l, e, h2⟩
  · exact .inl h
  · exact .inr ⟨h1, l, e, s _ _ h2⟩
end
end VQ
namespace VQ
open PySem L2 LamX
/-- a worth -/
def IsW (x : V) : Prop := ∃ n : Nat, x = .int (n : Int) ∧ n < 32
abbrev numV (n : Nat) : V := .int (n : Int)
theorem worths_of : ∀ {xs : List V}, (∀ x ∈ xs, IsW x) → ∃ ns : List Nat, xs = ns.map numV ∧ ∀ n ∈ ns, n < 32
  | [], _ => ⟨[], rfl, fun z m => by cases m⟩
  | x :: xs, h => by
    obtain ⟨n, rfl, hn⟩ := h x List.mem_cons_self
    obtain ⟨ns, rfl, a⟩ := worths_of (xs := xs) fun y m => h y (List.mem_cons_of_mem _ m)
    refine ⟨n :: ns, rfl, fun u m => ?_⟩
    rcases List.mem_cons.mp m with rfl | m
    · exact hn
    · exact a u m
theorem num_get {ns : List Nat} {i : Nat} {x : V} (h : (ns.map numV)[i]? = some x) : ∃ n, ns[i]? = some n ∧ x = numV n := by
  rw [List.getElem?_map] at h
  cases e : ns[i]? with
  | none => rw [e] at h; cases h
  | some z =>
    rw [e] at h
    exact ⟨z, rfl, (Option.some.inj h).symm⟩
end VQ
namespace VQ
open PySem L2 LamX
/-! ### two boxes put together: the mathematics -/
/-- brothers, by the law -/
def seamB (a b : Str) : Bool := decide (a ≠ ("" : Str)) && (decide (dropL a = dropL b) && (decide (a.length = b.length) && decide (a ≠ b)))
def jItem (a b : Str) : Option (Nat × Str) := if seamB a b = true then some (1, dropL a) else if beginsB a b = true then some (0, a) else if beginsB b a = true then some (0, b) else none
def jAdd : Option (Nat × Str) → Option (Nat × List Str) → Option (Nat × List Str)
  | some (n, u), some (m, us) => some (n + m, u :: us)
  | _, _ => none
def joinL : List Str → List Str → Option (Nat × List Str)
  | a :: zs, b :: ws => jAdd (jItem a b) (joinL zs ws)
  | _, _ => some (0, [])
def joinM (zs ws : List Str) : Option (List Str) := match joinL zs ws with
  | some (1, us) => some us
  | _ => none
def isNon (x : V) : Bool := eqV x .non
def cntN (zs ws : List Str) : Nat := (longsL zs ws).countP isNon
theorem longV_non {a b : Str} : longV a b = .non ↔ beginsB a b = false ∧ beginsB b a = false := by
  unfold longV
  rw [st_eq, st_eq]
  cases beginsB a b <;> cases beginsB b a <;> simp
theorem longV_cases (a b : Str) : (longV a b = .non ∧ beginsB a b = false ∧ beginsB b a = false) ∨ ∃ u, longV a b = .str u ∧ isNon (longV a b) = false ∧ jItem a b = some (0, u) := by
  unfold longV jItem
  rw [st_eq, st_eq]
  cases e1 : beginsB a b with
  | true =>
    have ns : seamB a b = false := by
      unfold seamB
      by_cases l : a.length = b.length
      · rw [begins_eq e1 (by omega)]
        simp
      · rw [decide_eq_false l]
        simp
    exact .inr ⟨a, rfl, rfl, by rw [ns]; rfl⟩
  | false =>
    cases e2 : beginsB b a with
    | true =>
      have ns : seamB a b = false := by
        unfold seamB
        by_cases l : a.length = b.length
        · rw [begins_eq e2 (by omega)]
          simp
        · rw [decide_eq_false l]
          simp
      exact .inr ⟨b, rfl, rfl, by rw [ns]; rfl⟩
    | false => exact .inl ⟨rfl, rfl, rfl⟩
theorem app_empty (a : Str) : beginsB a ("" : Str) = true := decide_eq_true rfl
theorem non_ne {a b : Str} (h : longV a b = .non) : a ≠ ("" : Str) ∧ b ≠ ("" : Str) := by
  obtain ⟨e1, e2⟩ := longV_non.mp h
  refine ⟨fun e => ?_, fun e => ?_⟩
  · rw [e, app_empty] at e2
    cases e2
  · rw [e, app_empty] at e1
    cases e1
theorem bro_facts : ∀ b ∈ begs, b ≠ ("" : Str) → dropL (bro b) = dropL b ∧ (bro b).length = b.length ∧ bro b ≠ b := by decide +kernel
theorem drop_two {a b : Str} (ha : a ∈ begs) (hb : b ∈ begs) (na : a ≠ ("" : Str)) (nb : b ≠ ("" : Str)) (e : dropL a = dropL b) (ne : a ≠ b) : a = bro b := by
  have back : ∀ z : Str, z ∈ begs → z ≠ ("" : Str) → z = dropL z ++ (⟨#[lastC z]⟩ : Str) := by decide +kernel
  have ea := back a ha na
  have eb := back b hb nb
  obtain ⟨_, _, _, la⟩ := bro_cut a ha na
  obtain ⟨_, _, _, lb⟩ := bro_cut b hb nb
  have ln : lastC a ≠ lastC b := fun q => ne (by rw [ea, eb, e, q])
  unfold bro
  rw [ea, e]
  rcases la with la | la <;> rcases lb with lb | lb
  · exact absurd (la.trans lb.symm) ln
  · rw [la, lb]
    rfl
  · rw [la, lb]
    rfl
  · exact absurd (la.trans lb.symm) ln
/-- where two beginnings part: brothers by the law, or nothing -/
theorem part_item {a b : Str} (ha : a ∈ begs) (hb : b ∈ begs) (h : longV a b = .non) : (a = bro b → jItem a b = some (1, dropL a)) ∧ (a ≠ bro b → jItem a b = none) := by
  obtain ⟨na, nb⟩ := non_ne h
  obtain ⟨e1, e2⟩ := longV_non.mp h
  have ne : a ≠ b := fun q => by
    rw [q, begins_self] at e1
    cases e1
  unfold jItem
  refine ⟨fun e => ?_, fun e => ?_⟩
  · obtain ⟨b1, b2, b3⟩ := bro_facts b hb nb
    have s : seamB a b = true := by
      unfold seamB
      rw [e]
      rw [decide_eq_true (by rw [← e]; exact na), decide_eq_true b1, decide_eq_true b2, decide_eq_true b3]
      rfl
    rw [s, if_pos rfl]
  · have s : seamB a b = false := by
      unfold seamB
      by_cases q : dropL a = dropL b
      · exact absurd (drop_two ha hb na nb q ne) e
      · rw [decide_eq_false q]
        simp
    rw [s, e1, e2]
    rfl
theorem join_none : ∀ {zs ws : List Str}, cntN zs ws = 0 → zs.length = ws.length → ∃ us : List Str, joinL zs ws = some (0, us) ∧ longsL zs ws = us.map V.str
  | [], ws, _, _ => by
    cases ws <;> exact ⟨[], rfl, rfl⟩
  | _ :: _, [], _, l => by cases l
  | z :: zs, w :: ws, h, l => by
    have el : longsL (z :: zs) (w :: ws) = longV z w :: longsL zs ws := rfl
    unfold cntN at h
    rw [el, List.countP_cons] at h
    obtain ⟨us, e1, e2⟩ := join_none (zs := zs) (ws := ws) (by unfold cntN; omega) (by simpa using l)
    rcases longV_cases z w with ⟨q, _⟩ | ⟨u, q1, q2, q3⟩
    · rw [q, show isNon .non = true from rfl, if_pos rfl] at h
      omega
    · refine ⟨u :: us, ?_, by rw [el, q1, e2]; rfl⟩
      show jAdd (jItem z w) (joinL zs ws) = _
      rw [q3, e1]
      rfl
theorem join_count : ∀ {zs ws : List Str} {n : Nat} {us : List Str}, (∀ z ∈ zs, z ∈ begs) → (∀ z ∈ ws, z ∈ begs) → joinL zs ws = some (n, us) → n = cntN zs ws ∧ us.length = min zs.length ws.length
  | [], ws, n, us, _, _, h => by
    cases ws <;> (cases h; exact ⟨rfl, by simp⟩)
  | _ :: _, [], n, us, _, _, h => by cases h; exact ⟨rfl, rfl⟩
  | z :: zs, w :: ws, n, us, hz, hw, h => by
    have h : jAdd (jItem z w) (joinL zs ws) = some (n, us) := h
    have el : longsL (z :: zs) (w :: ws) = longV z w :: longsL zs ws := rfl
    cases e : joinL zs ws with
    | none =>
      rw [e] at h
      cases q : jItem z w <;> rw [q] at h <;> cases h
    | some p =>
      obtain ⟨m, vs⟩ := p
      obtain ⟨i1, i2⟩ := join_count (fun u mu => hz u (List.mem_cons_of_mem _ mu)) (fun u mu => hw u (List.mem_cons_of_mem _ mu)) e
      rw [e] at h
      unfold cntN
      rw [el, List.countP_cons]
      have i1 : m = (longsL zs ws).countP isNon := i1
      rcases longV_cases z w with ⟨q, _⟩ | ⟨u, q1, q2, q3⟩
      · obtain ⟨p1, p2⟩ := part_item (hz z List.mem_cons_self) (hw w List.mem_cons_self) q
        by_cases b : z = bro w
        · rw [p1 b] at h
          cases h
          rw [q, show isNon .non = true from rfl, if_pos rfl]
          exact ⟨by omega, by simp [i2, Nat.succ_min_succ]⟩
        · rw [p2 b] at h
          cases h
      · rw [q3] at h
        cases h
        rw [q2]
        exact ⟨by simp; omega, by simp [i2, Nat.succ_min_succ]⟩
theorem join_one : ∀ {zs ws : List Str}, (∀ z ∈ zs, z ∈ begs) → (∀ z ∈ ws, z ∈ begs) → cntN zs ws = 1 → zs.length = ws.length →
    ∃ (k : Nat) (z w : Str), zs[k]? = some z ∧ ws[k]? = some w ∧ longV z w = .non ∧ (longsL zs ws)[k]? = some .non ∧ (∀ (j : Nat) (x : V), j < k → (longsL zs ws)[j]? = some x → eqV x .non = false) ∧
      (z = bro w → ∃ us, joinL zs ws = some (1, us) ∧ (longsL zs ws).set k (.str (dropL z)) = us.map V.str) ∧ (z ≠ bro w → joinL zs ws = none)
  | [], ws, _, _, h, _ => by
    cases ws <;> cases h
  | _ :: _, [], _, _, h, _ => by cases h
  | z :: zs, w :: ws, hz, hw, h, l => by
    have el : longsL (z :: zs) (w :: ws) = longV z w :: longsL zs ws := rfl
    have ej : joinL (z :: zs) (w :: ws) = jAdd (jItem z w) (joinL zs ws) := rfl
    unfold cntN at h
    rw [el, List.countP_cons] at h
    have hz' : ∀ u ∈ zs, u ∈ begs := fun u mu => hz u (List.mem_cons_of_mem _ mu)
    have hw' : ∀ u ∈ ws, u ∈ begs := fun u mu => hw u (List.mem_cons_of_mem _ mu)
    have l' : zs.length = ws.length := by simpa using l
    rcases longV_cases z w with ⟨q, _⟩ | ⟨u, q1, q2, q3⟩
    · rw [q, show isNon .non = true from rfl, if_pos rfl] at h
      obtain ⟨us, e1, e2⟩ := join_none (zs := zs) (ws := ws) (by unfold cntN; omega) l'
      obtain ⟨p1, p2⟩ := part_item (hz z List.mem_cons_self) (hw w List.mem_cons_self) q
      refine ⟨0, z, w, rfl, rfl, q, by rw [el, q]; rfl, fun j x hj => absurd hj (Nat.not_lt_zero _), fun b => ?_, fun b => ?_⟩
      · refine ⟨dropL z :: us, ?_, ?_⟩
        · rw [ej, p1 b, e1]
          rfl
        · rw [el, e2]
          rfl
      · rw [ej, p2 b]
        cases joinL zs ws <;> rfl
    · rw [q2] at h
      obtain ⟨k, z', w', a1, a2, a3, a4, a5, a6, a7⟩ := join_one (zs := zs) (ws := ws) hz' hw' (by unfold cntN; simpa using h) l'
      refine ⟨k + 1, z', w', a1, a2, a3, by rw [el]; exact a4, fun j x hj e => ?_, fun b => ?_, fun b => ?_⟩
      · rw [el] at e
        cases j with
        | zero =>
          cases e
          exact q2
        | succ j => exact a5 j x (by omega) e
      · obtain ⟨us, e1, e2⟩ := a6 b
        refine ⟨u :: us, ?_, ?_⟩
        · rw [ej, q3, e1]
          rfl
        · rw [el, List.set_cons_succ, e2, q1]
          rfl
      · rw [ej, a7 b]
        cases jItem z w <;> rfl
/-- either way about -/
theorem item_comm {a b : Str} (ha : a ∈ begs) (hb : b ∈ begs) : jItem b a = jItem a b := by
  unfold jItem
  have sc : seamB b a = seamB a b := by
    unfold seamB
    by_cases e : dropL a = dropL b
    · by_cases l : a.length = b.length
      · have l0 : ∀ z : Str, z = ("" : Str) ↔ z.length = 0 := fun z => by
          constructor
          · intro q; rw [q]; rfl
          · intro q
            have q' : z.cps.size = 0 := q
            exact Str.ext' (Array.eq_empty_of_size_eq_zero q')
        have ea : (a ≠ ("" : Str)) = (b ≠ ("" : Str)) := by
          rw [ne_eq, ne_eq, l0, l0, l]
        simp only [ea, e, l, ne_comm (a := a) (b := b)]
      · rw [decide_eq_false l, decide_eq_false (show ¬ b.length = a.length from fun q => l q.symm)]
        simp
    · rw [decide_eq_false e, decide_eq_false (show ¬ dropL b = dropL a from fun q => e q.symm)]
      simp
  rw [sc]
  cases s : seamB a b with
  | true =>
    unfold seamB at s
    simp only [Bool.and_eq_true, decide_eq_true_eq] at s
    rw [if_pos rfl, if_pos rfl, s.2.1]
  | false =>
    cases e1 : beginsB a b with
    | true =>
      cases e2 : beginsB b a with
      | true =>
        rw [begins_eq e1 (begins_len e2)]
      | false => rfl
    | false =>
      cases e2 : beginsB b a <;> rfl
theorem joinL_comm : ∀ {zs ws : List Str}, (∀ z ∈ zs, z ∈ begs) → (∀ z ∈ ws, z ∈ begs) → joinL ws zs = joinL zs ws
  | [], ws, _, _ => by cases ws <;> rfl
  | _ :: _, [], _, _ => rfl
  | z :: zs, w :: ws, hz, hw => by
    show jAdd (jItem w z) (joinL ws zs) = jAdd (jItem z w) (joinL zs ws)
    rw [item_comm (hz z List.mem_cons_self) (hw w List.mem_cons_self), joinL_comm (fun u mu => hz u (List.mem_cons_of_mem _ mu)) (fun u mu => hw u (List.mem_cons_of_mem _ mu))]
theorem joinM_comm {zs ws : List Str} (hz : ∀ z ∈ zs, z ∈ begs) (hw : ∀ z ∈ ws, z ∈ begs) : joinM ws zs = joinM zs ws := by
  unfold joinM
  rw [joinL_comm hz hw]
theorem cnt_self : ∀ zs : List Str, cntN zs zs = 0
  | [] => rfl
  | z :: zs => by
    have el : longsL (z :: zs) (z :: zs) = longV z z :: longsL zs zs := rfl
    have ih := cnt_self zs
    unfold cntN at ih ⊢
    rw [el, List.countP_cons, ih]
    rcases longV_cases z z with ⟨q, e, _⟩ | ⟨u, q1, q2, q3⟩
    · rw [begins_self] at e
      cases e
    · rw [q2]
      rfl
theorem joinM_self {zs : List Str} (hz : ∀ z ∈ zs, z ∈ begs) : joinM zs zs = none := by
  unfold joinM
  cases e : joinL zs zs with
  | none => rfl
  | some p =>
    obtain ⟨n, us⟩ := p
    have := (join_count hz hz e).1
    rw [cnt_self] at this
    subst this
    rfl
end VQ
namespace VQ
open PySem L2 LamX
section
variable {K : PySem.W.Frag}
/-! ### tuples put together, cut -/
theorem rd_cat {H : Hp} {a b : Addr} {xs ys : List V} {Q : VK} (ha : H a = some (.tup xs)) (hb : H b = some (.tup ys)) (hl : xs.length + ys.length ≤ 1000)
    (k : ∀ (p : Addr) (H' : Hp), Same H H' → H' p = some (.tup (xs ++ ys)) → Q (.ref p) H') : rCatA K (.ref a) (.ref b) H Q := by
  refine ⟨a, b, xs, ys, rfl, rfl, SqT.of ha, SqT.of hb, Nat.le_trans hl (by decide), fun e => ?_, fun _ e => ?_, fun _ _ p hp => k p _ (same_new hp) upd_same⟩
  · subst e
    exact k b H (Same.refl H) hb
  · subst e
    exact k a H (Same.refl H) (by rw [List.append_nil]; exact ha)
theorem rd_cut {H : Hp} {a : Addr} {xs : List V} {lo hi : Option Int} {Q : VK} (ha : H a = some (.tup xs)) (k : ∀ (p : Addr) (H' : Hp), Same H H' → H' p = some (.tup (cutV xs lo hi)) → Q (.ref p) H') : rSlA K (.ref a) lo hi H Q := by
  refine ⟨a, xs, rfl, SqT.of ha, fun e => k a H (Same.refl H) ?_, fun _ p hp => k p _ (same_new hp) upd_same⟩
  have q : cutV xs lo hi = xs := by
    unfold cutV
    rw [e.1, e.2, List.drop_zero, Nat.sub_zero, List.take_length]
  rw [q]
  exact ha
theorem cut_upto (xs : List V) {k : Nat} (h : k ≤ xs.length) : cutV xs none (some (k : Int)) = xs.take k := by
  unfold cutV
  rw [HT.sIx_nat, HT.sIx_none, Nat.min_eq_left h, List.drop_zero, Nat.sub_zero]
theorem cut_behind (xs : List V) {k : Nat} (h : k ≤ xs.length) : cutV xs (some (k : Int)) none = xs.drop k := by
  unfold cutV
  rw [HT.sIx_nat, HT.sIx_none, Nat.min_eq_left h]
  exact List.take_of_length_le (by rw [List.length_drop]; omega)
end
end VQ
namespace VQ
open PySem L2 LamX
abbrev sHalves : Stmt := top 33
section
variable {P : Program} {w : World} {K : PySem.W.Frag} {mg : Str → Option Value} {base : Heap}
/-! ### halves -/
/-- a box's half: c behind the k-th beginning, z -/
def halfL (zs : List Str) (k : Nat) (z c : Str) : List Str := (zs.take k ++ [z ++ c]) ++ zs.drop (k + 1)
theorem half_eq {zs : List Str} {k : Nat} {z c : Str} : ((zs.map V.str).take k ++ [V.str (z ++ c)]) ++ (zs.map V.str).drop (k + 1) = (halfL zs k z c).map V.str := by
  unfold halfL
  rw [List.map_append, List.map_append, List.map_take, List.map_drop]
  rfl
/-- the first of the beginnings that isn't whole -/
def FirstOpen (zs : List Str) (k : Nat) (z : Str) : Prop := zs[k]? = some z ∧ z.length < 5 ∧ ∀ j u, j < k → zs[j]? = some u → ¬ u.length < 5
/-- what halves tells -/
def HalvesAt (H : Hp) (D : Addr) (zs : List Str) : Prop := (H D = some (.lst []) ∧ ∀ u ∈ zs, ¬ u.length < 5) ∨
  ∃ (k : Nat) (z : Str) (p q : Addr), FirstOpen zs k z ∧ H D = some (.lst [.ref p, .ref q]) ∧ H p = some (.tup ((halfL zs k z "0").map V.str)) ∧ H q = some (.tup ((halfL zs k z "1").map V.str))
def spHalves (K : PySem.W.Frag) (CB : Addr) : Sp := fun vs H Q E => ∃ (x : V) (o : Option (List V)), vs = [x] ∧ Thing K H x o ∧
  (∀ zs : List Str, o = some (zs.map V.str) → IsBoxS zs → ∀ (D : Addr) (H' : Hp), H D = none → Same H H' → HalvesAt H' D zs → Q (.ref D) H') ∧
  (allO begB o = false → ∀ H' d, Same H H' → H' d = none → E (.ref CB) (some d) (upd H' d (calledAs "BadBox")))
abbrev nHalves : List Str := ["box", "at", "beginning", "sign"]
theorem scHalves : FnScope nHalves ["box"] (defScope sHalves) := ⟨rfl, rfl, rfl, by decide +kernel, rfl, by decide +kernel, by decide +kernel⟩
abbrev rAddS : R2 := fun x y H Q => ∃ i j, x = .str i ∧ y = .str j ∧ i.length + j.length ≤ sizeLine ∧ Q (.str (i ++ j)) H
theorem ok_halves {f fN CB : Addr} {fd fdN : FuncData} {tk5 : Tok} (F : Fun K "halves" "halves" sHalves f fd) (b : Blt mg) (en : mg "enumerate" = none) (Fg : mg "FIGURES" = some (.int 5 tk5)) (aN : At K mg "need_box" sNeedBox ["box"] fN fdN)
    (GN : FnOk P w K mg base (L2.CX P w) 3 fN fdN ["box"] (spNeedT K begB CB "BadBox")) : FnOk P w K mg base (L2.CX P w) 4 f fd ["box"] (spHalves K CB) := by
  refine F.okX scHalves (fun vs H Q E h => ?_) (fun cdv A outer s H vs Q E hr h => ?_)
  · obtain ⟨x, o, rfl, _⟩ := h
    rfl
  · obtain ⟨x, o, rfl, tx, k1, k2⟩ := h
    refine ⟨_, pss_cons (ps_expr (pe_call GN hr rfl aN.gl aN.fn.kp aN.bd .nil (passes_call (takes_of rfl rfl rfl rfl) (fun _ _ _ _ h => h)) (pa_cons (pv 0) pa_nil)))
      (PSs.nox (pss_cons (ps_for PassesOwn.never rfl (pi_enumT rfl en (pa_cons (pv 0) pa_nil)) (pg_tup rfl (pgs_cons (pg_name (i := 1) scHalves.nd rfl (.inr rfl)) (pgs_cons (pg_name (i := 2) scHalves.nd rfl (.inr rfl)) pgs_nil)))
        (pss_one (ps_if (pt_cmpR op_lt (pe_callB call_len_str (by rfl) b.len PySem.boot_len (pa_cons (pv 2) pa_nil)) (pe_glob (v := .int 5) rfl Fg ⟨_, rfl⟩) (nomark _))
          (pss_one (ps_ret (pe_lc (own := [("sign", 3)]) (g := gName 3) (tt := tYes) (te := tOp (rCatA K) (tOp (rCatA K) (tSl (rSlA K) (tVar 0) tNoPart (tPart (tVar 1))) (tTup (tCons (tOp rAddS (tVar 2) (tVar 3)) tNil))) (tSl (rSlA K) (tVar 0) (tPart (tOp (rI0 fun i j => .int (i + j)) (tVar 1) (tC (.int 1)))) tNoPart))
            rfl scHalves.nd (pi_str pe_str) (blkOk_by (N := nHalves) (sc := defScope sHalves) (by decide +kernel)) (fun _ _ _ _ _ => pg_name (i := 3) scHalves.nd rfl (.inl rfl)) (fun _ _ _ _ _ => pts_nil)
            (fun _ _ _ _ _ => pe_op op_catA (pe_op op_catA (pe_slice sl_tupA (pv 0) po_none (po_some (pv 1))) (pe_tup (pa_cons (pe_op op_add_str (pv 2) (pv 3)) pa_nil))) (pe_slice sl_tupA (pv 0) (po_some (pe_op op_add (pv 1) pe_int)) po_none)))))
          pss_nil)))
      (pss_one (ps_ret (pe_lst pa_nil))))), ?_⟩
    refine ⟨_, rfl, x, o, rfl, tx, fun yx H1 s1 => ?_, fun no H1 d s1 hd => k2 no H1 d s1 hd⟩
    obtain ⟨zs, rfl, bz⟩ := allO_box yx
    cases tx with
    | @tup a _ ha _ _ =>
      have kk := k1 zs rfl bz
      have h5 := bz.hi
      refine ⟨_, rfl, a, _, rfl, SqT.of (s1 _ _ ha), ?_⟩
      refine for_enumT (xs := zs.map V.str) (fun i σ H' => Same H H' ∧ (∀ j u, j < i → zs[j]? = some u → ¬ u.length < 5) ∧ ∃ v1 v2 v3 : Option V, σ = [some (.ref a), v1, v2, v3]) ⟨s1, (fun j u hj => absurd hj (Nat.not_lt_zero _)), none, none, none, rfl⟩ (fun i σ H' q => SqT.of (q.1 _ _ ha)) ?_ ?_
      · rintro i x T σ H2 hx ⟨s2, hw, v1, v2, v3, rfl⟩ nT
        obtain ⟨z, ez, rfl⟩ := map_get hx
        have li : i < zs.length := (List.getElem?_eq_some_iff.mp ez).1
        have lz : z.length ≤ 5 := beg_len (bz.beg z (List.mem_of_getElem? ez))
        have s3 := s2.trans (same_new (o := .tup [.int (i : Nat), .str z]) nT)
        refine ⟨T, _, rfl, SqT.of upd_same, rfl, _, _, rfl, _, _, rfl, rfl, ?_⟩
        refine ⟨_, rfl, z, rfl, Nat.le_trans lz (by decide), _, 5, rfl, rfl, _, rfl, ?_⟩
        by_cases lt : z.length < 5
        · rw [decide_eq_true (show ((z.length : Nat) : Int) < 5 by omega)]
          refine iteT ?_
          refine ⟨_, rfl, fun D hD => ?_⟩
          have hD0 : H D = none := s3.free hD
          refine lc_text (z := "01") (fun j H' => Same H H' ∧ ∃ ps : List V, H' D = some (.lst ps) ∧ ps.length = j ∧ (∀ p, ps[0]? = some p → ∃ q, p = .ref q ∧ H' q = some (.tup ((halfL zs i z "0").map V.str))) ∧ (∀ p, ps[1]? = some p → ∃ q, p = .ref q ∧ H' q = some (.tup ((halfL zs i z "1").map V.str)))) ⟨s3.trans (same_new hD), [], upd_same, rfl, (fun p e => by cases e), (fun p e => by cases e)⟩ ?_ ?_
          · rintro j c H4 hc ⟨s4, ps, h4, lp, p0, p1⟩
            refine ⟨rfl, yes_turn ?_⟩
            have a4 : H4 a = some (.tup (zs.map V.str)) := s4 _ _ ha
            have lm : (zs.map V.str).length = zs.length := List.length_map ..
            refine ⟨_, rfl, _, rfl, _, rfl, rd_cut a4 fun q1 H5 t5 g1 => ?_⟩
            rw [cut_upto _ (by omega)] at g1
            refine ⟨_, rfl, _, rfl, z, _, rfl, rfl, Nat.le_trans (show z.length + 1 ≤ 6 by omega) (by decide), by show 1 ≤ sizeLine; decide, fun q2 f2 => ?_⟩
            have t6 := same_new (o := HO.tup [.str (z ++ ⟨#[c]⟩)]) f2
            refine rd_cat (t6 _ _ g1) upd_same (by rw [List.length_take]; show _ + 1 ≤ 1000; omega) fun q3 H6 t7 g3 => ?_
            have t47 := t5.trans (t6.trans t7)
            refine ⟨_, rfl, _, rfl, _, _, rfl, rfl, _, rfl, ?_⟩
            dsimp only [tNoPart]
            refine rd_cut (t47 _ _ a4) fun q4 H7 t8 g4 => ?_
            rw [show ((i : Nat) : Int) + 1 = ((i + 1 : Nat) : Int) from rfl, cut_behind _ (by omega)] at g4
            refine rd_cat (t8 _ _ g3) g4 (by rw [List.length_append, List.length_take, List.length_drop]; show _ + 1 + _ ≤ 1000; omega) fun q5 H8 t9 g5 => ?_
            rw [half_eq] at g5
            have t48 := (t47.trans t8).trans t9
            have h8 := t48 _ _ h4
            have nD : ∀ {q : Addr} {xs : List V}, H8 q = some (.tup xs) → q ≠ D := fun {q xs} e z' => by
              rw [z', h8] at e
              cases e
            have up : ∀ {q : Addr} {xs : List V} {l : List V}, H8 q = some (.tup xs) → upd H8 D (.lst l) q = some (.tup xs) := fun {q xs l} e => by
              rw [upd_ne (nD e)]
              exact e
            have j2 : j < 2 := by
              have := (Array.getElem?_eq_some_iff.mp hc).1
              exact Nat.lt_of_lt_of_le this (by decide +kernel)
            refine ⟨ps, h8, by rw [lp]; exact Nat.lt_of_lt_of_le (show j < 3 by omega) (by decide), fun q o z' => ?_, _, upd_same, by rw [List.length_append, lp]; rfl, fun p e => ?_, fun p e => ?_⟩
            · rw [upd_ne (fun y => by rw [y, hD0] at z'; cases z')]
              exact t48 _ _ (s4 _ _ z')
            · match ps, lp with
              | [], lp =>
                have : j = 0 := lp.symm
                subst this
                cases hc
                cases e
                exact ⟨q5, rfl, up g5⟩
              | p' :: r, lp =>
                obtain ⟨q, e1, e2⟩ := p0 p e
                exact ⟨q, e1, up (t48 _ _ e2)⟩
            · match ps, lp with
              | [], lp => cases e
              | [p'], lp =>
                have : j = 1 := lp.symm
                subst this
                cases hc
                cases e
                exact ⟨q5, rfl, up g5⟩
              | p' :: p2 :: r, lp =>
                rw [List.length_cons, List.length_cons] at lp
                omega
          · rintro H4 ⟨s4, ps, h4, lp, p0, p1⟩
            have lp2 : ps.length = 2 := lp
            match ps, lp2 with
            | [p, q], _ =>
              obtain ⟨p', rfl, e1⟩ := p0 p rfl
              obtain ⟨q', rfl, e2⟩ := p1 q rfl
              exact kk D H4 hD0 s4 (.inr ⟨i, z, p', q', ⟨ez, lt, hw⟩, h4, e1, e2⟩)
        · rw [decide_eq_false (show ¬ ((z.length : Nat) : Int) < 5 by omega)]
          refine iteF ⟨s3, fun j u hj eu => ?_, _, _, _, rfl⟩
          by_cases e : j = i
          · subst e
            rw [ez] at eu
            cases eu
            exact lt
          · exact hw j u (by omega) eu
      · rintro σ H2 ⟨s2, hw, v1, v2, v3, rfl⟩
        rw [List.length_map] at hw
        refine ⟨by show 0 ≤ sizeLine; decide, fun D hD => ?_⟩
        refine kk D _ (s2.free hD) (s2.trans (same_new hD)) (.inl ⟨upd_same, fun u m => ?_⟩)
        obtain ⟨j, lj, e⟩ := List.getElem_of_mem m
        exact hw j u lj (by rw [← e]; exact List.getElem?_eq_getElem lj)
end
end VQ
namespace VQ
open PySem L2 LamX
abbrev sJoined : Stmt := top 32
/-- what putting together tells -/
def JoinV (H : Hp) : Option (List Str) → V → Prop
  | none, v => v = .non
  | some us, v => ∃ l, v = .ref l ∧ H l = some (.tup (us.map V.str))
theorem JoinV.same {H H' : Hp} {o : Option (List Str)} {v : V} (h : JoinV H o v) (s : Same H H') : JoinV H' o v := by
  cases o with
  | none => exact h
  | some us =>
    obtain ⟨l, e, hl⟩ := h
    exact ⟨l, e, s _ _ hl⟩
def rJoin (zs ws : List Str) (H : Hp) (Q : VK) : Prop := ∀ (v : V) (H' : Hp), Same H H' → JoinV H' (joinM zs ws) v → Q v H'
theorem box_begs {zs : List Str} (h : IsBoxS zs) : ∀ z ∈ zs, z ∈ begs := fun z m => let q := begB_iff.mp (h.beg z m); beg_mem q.1 q.2
theorem ixN_at {n k : Nat} (h : k < n) : ixN n (k : Int) = some k := by
  unfold ixN
  rw [if_pos (by omega), if_pos (by omega)]
  rfl
section
variable {P : Program} {w : World} {K : PySem.W.Frag} {mg : Str → Option Value} {base : Heap}
theorem scJoined : FnScope ["one", "other", "made", "at"] ["one", "other"] (defScope sJoined) := ⟨rfl, rfl, rfl, by decide +kernel, rfl, by decide +kernel, by decide +kernel⟩
theorem ok_joined {f fN fS fR CB CU CG : Addr} {fd fdN fdS fdR : FuncData} (F : Fun K "joined" "joined" sJoined f fd) (b : Blt mg) (aN : At K mg "need_boxes" sNeedBoxes ["one", "other"] fN fdN) (aS : At K mg "longer_ones" sLongers ["one", "other"] fS fdS) (aR : At K mg "brother" sBrother ["beginning"] fR fdR)
    (GN : FnOk P w K mg base (L2.CX P w) 4 fN fdN ["one", "other"] (spTwo K CB CU fun _ _ H Q => ∀ H', Same H H' → Q .non H')) (GS : FnOk P w K mg base CX0 2 fS fdS ["one", "other"] spLongers) (GR : FnOk P w K mg base (L2.CX P w) 4 fR fdR ["beginning"] (spBrother K CG)) :
    FnOk P w K mg base (L2.CX P w) 5 f fd ["one", "other"] (spTwo K CB CU rJoin) := by
  refine F.okX scJoined (fun vs H Q E h => ?_) (fun cdv A outer s H vs Q E hr h => ?_)
  · obtain ⟨x, y, o, p, rfl, _⟩ := h
    rfl
  · obtain ⟨x, y, o, p, rfl, tx, ty, k1, k2, k3⟩ := h
    have hr2 : Room 2 _ := hr.mono (by decide)
    refine ⟨_, pss_cons (ps_expr (pe_call GN hr rfl aN.gl aN.fn.kp aN.bd .nil (passes_call (takes_of rfl rfl rfl rfl) (fun _ _ _ _ h => h)) (pa_cons (pv 0) (pa_cons (pv 1) pa_nil))))
      (pss_cons (ps_set (i := 2) scJoined.nd rfl (.inl rfl) (pe_call GS hr2 rfl aS.gl aS.fn.kp aS.bd .nil pass0 (pa_cons (pv 0) (pa_cons (pv 1) pa_nil))))
      (pss_cons (ps_if (pt_cmpR op_ne (pe_bm PySem.F.plainAttrs_list PySem.F.slot_list_count PySem.F.type_list_count mt_countF (pv 2) (pa_cons pe_non pa_nil)) pe_int (nomark _)) (pss_one (ps_ret pe_non)) pss_nil)
      (pss_cons (ps_set (i := 3) scJoined.nd rfl (.inl rfl) (pe_bm PySem.F.plainAttrs_list PySem.F.slot_list_index PySem.F.type_list_index mt_index (pv 2) (pa_cons pe_non pa_nil)))
      (pss_cons (ps_if (pt_cmpR op_ne (pe_ix ix_tup (pv 0) (pv 3) fun _ _ => rfl) (pe_call GR hr rfl aR.gl aR.fn.kp aR.bd .nil (passes_call (takes_of rfl rfl rfl rfl) (fun _ _ _ _ h => h)) (pa_cons (pe_ix ix_tup (pv 1) (pv 3) fun _ _ => rfl) pa_nil)) (nomark _)) (pss_one (ps_ret pe_non)) pss_nil)
      (pss_cons (ps_asg (pe_slice sl_str (pe_ix ix_tup (pv 0) (pv 3) fun _ _ => rfl) po_none (po_some (pe_un un_neg pe_int))) (pg_sub (pv 2) (pv 3) set_list))
      (pss_one (ps_ret (pe_callTy call_tuple_of (by rfl) b.tuple (by decide +kernel) (pa_cons (pv 2) pa_nil))))))))), ?_⟩
    refine ⟨_, rfl, _, rfl, x, y, o, p, rfl, tx, ty, fun zs ws ez ew bz bw len H1 s1 => ?_, k2, k3⟩
    subst ez ew
    cases tx with
    | @tup a _ ha _ _ =>
      cases ty with
      | @tup a' _ ha' _ _ =>
        have kk : rJoin zs ws H Q := k1 zs ws rfl rfl bz bw len
        have hz := box_begs bz
        have hw := box_begs bw
        refine ⟨_, rfl, _, rfl, a, a', zs, ws, rfl, s1 _ _ ha, s1 _ _ ha', len, Nat.le_trans bz.hi (by decide), fun D H2 hD s2 h2 => ?_⟩
        have s12 := s1.trans s2
        refine ⟨_, rfl, .inl ⟨rfl, _, SqL.of h2⟩, D, _, .non, rfl, rfl, SqL.of h2, rfl, longs_flat zs ws, rfl, _, rfl, ?_⟩
        by_cases e : cntN zs ws = 1
        · refine iteNS (congrArg (fun n : Nat => V.int (n : Int)) e) ?_
          obtain ⟨j, z, u, z1, u1, non, l1, first, yes, no⟩ := join_one hz hw e len
          have zb := hz z (List.mem_of_getElem? z1)
          have ub := hw u (List.mem_of_getElem? u1)
          obtain ⟨nz, nu⟩ := non_ne non
          refine ⟨_, rfl, .inl ⟨rfl, _, SqL.of h2⟩, D, _, .non, j, .non, rfl, rfl, SqL.of h2, rfl, longs_flat zs ws, l1, rfl, first, ?_⟩
          have atz : atI (zs.map V.str) (j : Int) = some (.str z) := atI_nat (by rw [List.getElem?_map, z1]; rfl)
          have atu : atI (ws.map V.str) (j : Int) = some (.str u) := atI_nat (by rw [List.getElem?_map, u1]; rfl)
          refine ⟨_, rfl, _, rfl, a, _, _, _, rfl, rfl, SqT.of (s12 _ _ ha), atz, _, rfl, _, rfl, a', _, _, _, rfl, rfl, SqT.of (s12 _ _ ha'), atu, ?_⟩
          refine ⟨.str u, "str", rfl, .base (.str u), by decide, Nat.le_trans (begs_len u ub) (by decide), fun v ev _ _ H3 s3 => ?_, fun bad => ?_, .inl ⟨u, rfl, ub⟩⟩
          · cases ev
            have s13 := s12.trans s3
            refine ⟨rfl, _, rfl, ?_⟩
            by_cases br : z = bro u
            · refine iteNS (congrArg V.str br) ?_
              obtain ⟨us, j1, j2⟩ := yes br
              have lz : z.length ≤ sizeLine := Nat.le_trans (begs_len z zb) (by decide)
              refine ⟨_, rfl, _, rfl, a, _, _, _, rfl, rfl, SqT.of (s13 _ _ ha), atz, 1, rfl, _, rfl, z, rfl, lz, _, rfl, _, rfl, D, _, j, j, rfl, rfl, s3 _ _ h2, ixN_at (List.getElem?_eq_some_iff.mp l1).1, ?_⟩
              rw [(bro_cut z zb nz).2.1, j2]
              refine ⟨_, rfl, D, _, rfl, .inl ⟨SqL.of upd_same, fun l hl => ?_⟩⟩
              have ss : Same H (upd H3 D (.lst (us.map V.str))) := fun q o z' => by
                rw [upd_ne (fun y => by rw [y, s1.free hD] at z'; cases z')]
                exact s13 _ _ z'
              refine kk _ _ (ss.trans (same_new hl)) ?_
              have ej : joinM zs ws = some us := by
                unfold joinM
                rw [j1]
                rfl
              rw [ej]
              exact ⟨l, rfl, upd_same⟩
            · rw [decide_eq_false (show ¬ V.str z = V.str (bro u) from fun q => br (V.str.inj q))]
              refine iteT ?_
              refine kk _ _ s13 ?_
              have ej : joinM zs ws = none := by
                unfold joinM
                rw [no br]
              rw [ej]
              exact rfl
          · rcases bad with q | q
            · exact absurd (V.str.inj q) nu
            · rw [begs_yes u ub] at q
              cases q
        · have ne : ¬ V.int ((longsL zs ws).countP (fun z => eqV z .non) : Nat) = V.int 1 := fun q => by
            injection q with q
            exact e (by unfold cntN; exact Int.ofNat.inj q)
          rw [decide_eq_false ne]
          refine iteT ?_
          refine kk _ _ s12 ?_
          have ej : joinM zs ws = none := by
            unfold joinM
            cases q : joinL zs ws with
            | none => rfl
            | some t =>
              obtain ⟨n, us⟩ := t
              have c1 := (join_count hz hw q).1
              match n, c1 with
              | 0, _ => rfl
              | 1, c1 => exact absurd c1.symm e
              | n + 2, _ => rfl
          rw [ej]
          exact rfl
end
end VQ
namespace VQ
open PySem L2 LamX
/-! ### points -/
abbrev sIsPoint : Stmt := top 20
abbrev sNeedPoint : Stmt := top 22
abbrev sBadPoint : Stmt := inClass (top 4) 0
abbrev sHolds : Stmt := top 26
theorem scBadPoint : FnScope ["self"] ["self"] (defScope sBadPoint) := ⟨rfl, rfl, rfl, by decide +kernel, rfl, by decide +kernel, by decide +kernel⟩
/-- the places of a point -/
structure IsPtS (ns : List Nat) : Prop where
  lt : ∀ n ∈ ns, n < 32
  lo : 1 ≤ ns.length
  hi : ns.length ≤ 5
theorem worthB_num {x : V} (h : worthB x = true) : ∃ n : Nat, x = numV n ∧ n < 32 := by
  cases x with
  | int i =>
    have e : (decide (0 ≤ i) && decide (i < 32)) = true := h
    have hi : 0 ≤ i ∧ i < 32 := by simpa using e
    obtain ⟨n, rfl⟩ := Int.eq_ofNat_of_zero_le hi.1
    exact ⟨n, rfl, by omega⟩
  | _ => cases h
theorem num_worthB {n : Nat} (h : n < 32) : worthB (numV n) = true := by
  show (decide (0 ≤ (n : Int)) && decide ((n : Int) < 32)) = true
  rw [decide_eq_true (by omega), decide_eq_true (by omega)]
  rfl
theorem allO_point {o : Option (List V)} (h : allO worthB o = true) : ∃ ns : List Nat, o = some (ns.map numV) ∧ IsPtS ns := by
  cases o with
  | none => cases h
  | some xs =>
    have h' : (placesO (some xs) && xs.all worthB) = true := h
    rw [Bool.and_eq_true] at h'
    obtain ⟨h1, h2⟩ := h'
    have h1' : (decide (1 ≤ xs.length) && decide (xs.length ≤ 5)) = true := h1
    rw [Bool.and_eq_true, decide_eq_true_eq, decide_eq_true_eq] at h1'
    obtain ⟨ns, rfl, hn⟩ := worths_of (xs := xs) fun x m => worthB_num (List.all_eq_true.mp h2 x m)
    rw [List.length_map] at h1'
    exact ⟨ns, rfl, hn, h1'.1, h1'.2⟩
theorem point_allO {ns : List Nat} (h : IsPtS ns) : allO worthB (some (ns.map numV)) = true := by
  show ((decide (1 ≤ (ns.map numV).length) && decide ((ns.map numV).length ≤ 5)) && (ns.map numV).all worthB) = true
  rw [List.length_map, decide_eq_true h.lo, decide_eq_true h.hi, List.all_map, Bool.true_and, Bool.true_and]
  exact List.all_eq_true.mpr fun n m => num_worthB (h.lt n m)
section
variable {P : Program} {w : World} {K : PySem.W.Frag} {mg : Str → Option Value} {base : Heap}
theorem scIsPoint : FnScope ["thing", "part"] ["thing"] (defScope sIsPoint) := ⟨rfl, rfl, rfl, by decide +kernel, rfl, by decide +kernel, by decide +kernel⟩
theorem ok_ispoint {f fB fP : Addr} {fd fdB fdP : FuncData} {tkM tkW : Tok} (F : Fun K "is_point" "is_point" sIsPoint f fd) (b : Blt mg) (M : mg "MOST_PLACES" = some (.int 5 tkM)) (W : mg "WORTHS" = some (.int 32 tkW)) (aB : AtW K mg "is_worth" sIsWorth ["thing"] fB fdB) (aP : At K mg "is_places" sIsPlaces ["thing"] fP fdP) :
    FnOk P w K mg base CX0 3 f fd ["thing"] (spIs K worthB) := by
  have GB : FnOk P w K mg base CX0 2 fB fdB ["thing"] (spIsWorth K) := ok_isworth aB b W
  have GP : FnOk P w K mg base CX0 1 fP fdP ["thing"] (spIsPlaces K) := ok_isplaces aP.fn b M
  refine F.ok scIsPoint (fun vs H Q E h => ?_) (fun cdv A outer s H vs Q E hr h => ?_)
  · obtain ⟨x, o, rfl, _⟩ := h
    rfl
  · obtain ⟨x, o, rfl, th, k⟩ := h
    refine ⟨_, pss_one (ps_ret (pe_and (pe_call GP (hr.mono (by decide)) rfl aP.gl aP.fn.kp aP.bd .nil pass0 (pa_cons (pv 0) pa_nil))
      (pe_one (pe_callB (cr_all rfl) (by rfl) b.all (by decide +kernel) (pa_cons
        (pe_lc (own := [("part", 1)]) (g := gName 1) (tt := tYes) (te := tCall (spIsWorth K) [] E0 (tCons (tVar 1) tNil)) rfl scIsPoint.nd (pi_tup (pv 0))
          (blkOk_by (N := ["thing", "part"]) (sc := defScope sIsPoint) (by decide +kernel)) (fun _ _ _ _ _ => pg_name (i := 1) scIsPoint.nd rfl (.inl rfl)) (fun _ _ _ _ _ => pts_nil)
          (fun _ _ _ _ _ => pe_call GB hr rfl aB.gl aB.fn.kp aB.bd .nil pass0 (pa_cons (pv 1) pa_nil))) pa_nil))))), ?_⟩
    refine ⟨_, rfl, x, o, rfl, th, _, rfl, ?_⟩
    cases e : placesO o with
    | false =>
      refine iteF ?_
      have e2 : allO worthB o = false := by
        cases o with
        | none => rfl
        | some xs => show (placesO (some xs) && _) = false; rw [e, Bool.false_and]
      rw [e2] at k
      exact k H (Same.refl H)
    | true =>
      refine iteT ?_
      cases th with
      | oth ty m nt => cases e
      | @tup a xs h hp hl =>
        have e2 : allO worthB (some xs) = xs.all worthB := by show (placesO (some xs) && _) = _; rw [e, Bool.true_and]
        rw [e2] at k
        refine ⟨_, rfl, a, rfl, ⟨xs, SqT.of h⟩, fun D hD => ?_⟩
        refine lc_tup (xs := xs) (fun i H' => Same H H' ∧ H' D = some (.lst (((xs.take i).map worthB).map V.bl))) ⟨same_new hD, upd_same⟩ (fun i H' _ q => SqT.of (q.1 _ _ h)) ?_ ?_
        · rintro i x H2 hx ⟨s2, h2⟩
          refine ⟨rfl, yes_turn ?_⟩
          have hm : x ∈ xs := List.mem_of_getElem? hx
          obtain ⟨t, ty, m, sh⟩ := (hp x hm).same s2
          refine ⟨_, rfl, x, t, rfl, ty, m, _, h2, ?_, ?_, ?_⟩
          · rw [List.length_map, List.length_map, List.length_take]
            exact Nat.lt_of_le_of_lt (Nat.le_trans (Nat.min_le_right _ _) hl) (by decide)
          · intro q o z'
            rw [upd_ne (fun y => by rw [y, hD] at z'; cases z')]
            exact s2 _ _ z'
          · rw [upd_same, ← take_snoc worthB hx, List.map_append]
            rfl
        · rintro H2 ⟨s2, h2⟩
          refine ⟨D, _, rfl, SqL.of h2, ?_⟩
          have e3 : ((xs.take xs.length).map worthB).all id = xs.all worthB := by
            rw [List.take_of_length_le (Nat.le_refl _), List.all_map]
            rfl
          rw [e3]
          exact k H2 s2
theorem scNeedPoint : FnScope ["point"] ["point"] (defScope sNeedPoint) := ⟨rfl, rfl, rfl, by decide +kernel, rfl, by decide +kernel, by decide +kernel⟩
theorem ok_needpoint {f fX C fI : Addr} {fd fdX fdI : FuncData} (F : Fun K "need_point" "need_point" sNeedPoint f fd) (aX : At K mg "is_point" sIsPoint ["thing"] fX fdX) (GX : FnOk P w K mg base CX0 3 fX fdX ["thing"] (spIs K worthB)) (Er : ErrC K mg "BadPoint" C fI fdI "BadPoint.__init__" sBadPoint) :
    FnOk P w K mg base (L2.CX P w) 4 f fd ["point"] (spNeedT K worthB C "BadPoint") := by
  have GI : FnOk P w K mg base CX0 1 fI fdI ["self"] (spErr K C "BadPoint") := ok_err Er scBadPoint (.inl rfl) rfl
  refine F.okX scNeedPoint (fun vs H Q E h => ?_) (fun cdv A outer s H vs Q E hr h => ?_)
  · obtain ⟨x, o, rfl, _⟩ := h
    rfl
  · obtain ⟨x, o, rfl, th, k1, k2⟩ := h
    refine ⟨_, pss_one (ps_if (pt_not (pt_val (pe_call GX hr rfl aX.gl aX.fn.kp aX.bd .nil pass0 (pa_cons (pv 0) pa_nil))))
        (pss_one (ps_raise rfl (takes_of rfl rfl rfl rfl) (pmk_oex0 Er.ox Er.it Er.ty GI (hr.mono (by decide)) Er.bd pass0 rfl Er.gl))) pss_nil), ?_⟩
    refine ⟨_, rfl, x, o, rfl, th, fun H1 s1 => ⟨_, rfl, ?_⟩⟩
    cases e : allO worthB o with
    | false => exact raise_plain (σ := []) fun d hd => k2 e H1 d s1 hd
    | true => exact k1 e H1 s1
/-! ### whether a box holds a point -/
def holdsB (zs : List Str) (ns : List Nat) : Bool := (List.zipWith (fun n z => beginsB (fig n) z) ns zs).all id
def spHolds (K : PySem.W.Frag) (CB CP CU : Addr) : Sp := fun vs H Q E => ∃ (x y : V) (o p : Option (List V)), vs = [x, y] ∧ Thing K H x o ∧ Thing K H y p ∧
  (∀ (zs : List Str) (ns : List Nat), o = some (zs.map V.str) → p = some (ns.map numV) → IsBoxS zs → IsPtS ns → zs.length = ns.length → ∀ H', Same H H' → Q (.bl (holdsB zs ns)) H') ∧
  (allO begB o = false → ∀ H' d, Same H H' → H' d = none → E (.ref CB) (some d) (upd H' d (calledAs "BadBox"))) ∧
  (allO begB o = true → allO worthB p = false → ∀ H' d, Same H H' → H' d = none → E (.ref CP) (some d) (upd H' d (calledAs "BadPoint"))) ∧
  (∀ (zs : List Str) (ns : List Nat), o = some (zs.map V.str) → p = some (ns.map numV) → IsBoxS zs → IsPtS ns → zs.length ≠ ns.length → ∀ H' d, Same H H' → H' d = none → E (.ref CU) (some d) (upd H' d (calledAs "Unlike")))
theorem scHolds : FnScope ["box", "point", "worth", "beginning"] ["box", "point"] (defScope sHolds) := ⟨rfl, rfl, rfl, by decide +kernel, rfl, by decide +kernel, by decide +kernel⟩
theorem ok_holds {f fN fQ fL fF CB CP CU CW : Addr} {fd fdN fdQ fdL fdF : FuncData} (F : Fun K "holds" "holds" sHolds f fd) (b : Blt mg) (zp : mg "zip" = none) (aN : At K mg "need_box" sNeedBox ["box"] fN fdN) (aQ : At K mg "need_point" sNeedPoint ["point"] fQ fdQ) (aL : At K mg "need_alike" sNeedAlike ["one", "other"] fL fdL) (aF : At K mg "figures" sFigures ["worth"] fF fdF)
    (GN : FnOk P w K mg base (L2.CX P w) 3 fN fdN ["box"] (spNeedT K begB CB "BadBox")) (GQ : FnOk P w K mg base (L2.CX P w) 4 fQ fdQ ["point"] (spNeedT K worthB CP "BadPoint")) (GL : FnOk P w K mg base (L2.CX P w) 3 fL fdL ["one", "other"] (spAlikeT K CU))
    (GF : FnOk P w K mg base (L2.CX P w) 3 fF fdF ["worth"] (spFigures K CW)) : FnOk P w K mg base (L2.CX P w) 5 f fd ["box", "point"] (spHolds K CB CP CU) := by
  refine F.okX scHolds (fun vs H Q E h => ?_) (fun cdv A outer s H vs Q E hr h => ?_)
  · obtain ⟨x, y, o, p, rfl, _⟩ := h
    rfl
  · obtain ⟨x, y, o, p, rfl, tx, ty, k1, k2, k3, k4⟩ := h
    refine ⟨_, pss_cons (ps_expr (pe_call GN (hr.mono (by decide)) rfl aN.gl aN.fn.kp aN.bd .nil (passes_call (takes_of rfl rfl rfl rfl) (fun _ _ _ _ h => h)) (pa_cons (pv 0) pa_nil)))
      (pss_cons (ps_expr (pe_call GQ hr rfl aQ.gl aQ.fn.kp aQ.bd .nil (passes_call (takes_of rfl rfl rfl rfl) (fun _ _ _ _ h => h)) (pa_cons (pv 1) pa_nil)))
      (pss_cons (ps_expr (pe_call GL (hr.mono (by decide)) rfl aL.gl aL.fn.kp aL.bd .nil (passes_call (takes_of rfl rfl rfl rfl) (fun _ _ _ _ h => h)) (pa_cons (pv 0) (pa_cons (pv 1) pa_nil))))
      (PSs.nox (pss_one (ps_ret (pe_callB (cr_all rfl) (by rfl) b.all (by decide +kernel) (pa_cons
        (pe_lc (own := [("worth", 2), ("beginning", 3)]) (g := gTup K 2 (gCons (gName 2) (gCons (gName 3) gNil))) (tt := tYes) (te := tBM K "str" rStarts (tCall (spFigures K CW) [] E0 (tCons (tVar 2) tNil)) (tCons (tVar 3) tNil)) rfl scHolds.nd (RZ.pi_zipA rfl zp (pa_cons (pv 1) (pa_cons (pv 0) pa_nil)))
          (blkOk_by (N := ["box", "point", "worth", "beginning"]) (sc := defScope sHolds) (by decide +kernel)) (fun _ _ _ _ _ => pg_tup rfl (pgs_cons (pg_name (i := 2) scHolds.nd rfl (.inl rfl)) (pgs_cons (pg_name (i := 3) scHolds.nd rfl (.inl rfl)) pgs_nil))) (fun _ _ _ _ _ => pts_nil)
          (fun _ _ _ _ _ => pe_bm PySem.F.plainAttrs_str PySem.F.slot_str_startswith PySem.F.type_str_startswith mt_startswith (pe_call GF (hr.mono (by decide)) rfl aF.gl aF.fn.kp aF.bd .nil passCX (pa_cons (pv 2) pa_nil)) (pa_cons (pv 3) pa_nil))) pa_nil))))))), ?_⟩
    refine ⟨_, rfl, x, o, rfl, tx, fun yx H1 s1 => ?_, fun no H1 d s1 hd => k2 no H1 d s1 hd⟩
    refine ⟨_, rfl, y, p, rfl, ty.same s1, fun yy H2 s2 => ?_, fun no H2 d s2 hd => k3 yx no H2 d (s1.trans s2) hd⟩
    have s12 := s1.trans s2
    obtain ⟨zs, rfl, bz⟩ := allO_box yx
    obtain ⟨ns, rfl, bn⟩ := allO_point yy
    cases tx with
    | @tup a _ ha _ _ =>
      cases ty with
      | @tup a' _ ha' _ _ =>
        refine ⟨_, rfl, _, rfl, a, a', _, _, rfl, s12 _ _ ha, s12 _ _ ha', fun e => ?_, fun e d hd => ?_⟩
        · rw [List.length_map, List.length_map] at e
          have kk := k1 zs ns rfl rfl bz bn e
          have l5 := bz.hi
          refine ⟨_, rfl, _, rfl, a', a, _, _, rfl, .inr ⟨SqT.of (s12 _ _ ha'), SqT.of (s12 _ _ ha), fun D hD => ?_⟩⟩
          refine lc_zipT (xs := ns.map numV) (ys := zs.map V.str) (by rw [List.length_map, List.length_map]; exact e.symm) (fun i H' => Same H H' ∧ H' D = some (.lst ((List.zipWith (fun n z => beginsB (fig n) z) (ns.take i) (zs.take i)).map V.bl))) ⟨s12.trans (same_new hD), upd_same⟩ (fun i H' q => ⟨SqT.of (q.1 _ _ ha'), SqT.of (q.1 _ _ ha)⟩) ?_ ?_
          · rintro i x y T H3 hx hy ⟨s3, h3⟩ nT
            obtain ⟨n, en, rfl⟩ := num_get hx
            obtain ⟨z, ez, rfl⟩ := map_get hy
            have DT : D ≠ T := fun q => by
              rw [← q, h3] at nT
              cases nT
            have ln := bn.lt n (List.mem_of_getElem? en)
            refine ⟨T, _, rfl, SqT.of upd_same, rfl, _, _, rfl, _, _, rfl, rfl, rfl, yes_turn ?_⟩
            refine ⟨_, rfl, numV n, "int", rfl, .base (.int _), by decide, fun n' _ e' => ?_, fun no => ?_⟩
            · have en' : n = n' := by
                have q : V.int (n : Int) = V.int (n' : Int) := e'
                injection q with q
                exact Int.ofNat.inj q
              subst en'
              refine ⟨rfl, _, rfl, fig n, z, rfl, rfl, _, (upd_ne DT).trans h3, ?_, ?_, ?_⟩
              · rw [List.length_map, List.length_zipWith, List.length_take, List.length_take]
                exact Nat.lt_of_le_of_lt (show _ ≤ 1000 by omega) (by decide)
              · intro q o z'
                have nq : q ≠ D := fun y => by
                  rw [y, s12.free hD] at z'
                  cases z'
                have nq2 : q ≠ T := fun y => by
                  rw [y, s3.free nT] at z'
                  cases z'
                rw [upd_ne nq, upd_ne nq2]
                exact s3 _ _ z'
              · rw [upd_same, ← zip_snoc (fun n z => beginsB (fig n) z) en ez, List.map_append, st_eq]
                rfl
            · rw [num_worthB ln] at no
              cases no
          · rintro H3 ⟨s3, h3⟩
            refine ⟨D, _, rfl, SqL.of h3, ?_⟩
            rw [List.length_map, List.take_of_length_le (Nat.le_refl _), List.take_of_length_le (by omega)]
            exact kk H3 s3
        · rw [List.length_map, List.length_map] at e
          exact k4 zs ns rfl rfl bz bn e H2 d s12 hd
end
end VQ
namespace VQ
open PySem L2 LamX
abbrev sVolume : Stmt := top 25
/-! ### how many points -/
def volN (zs : List Str) : Nat := zs.foldl (fun h z => h * (32 / 2 ^ z.length)) 1
theorem vol_take {zs : List Str} {i : Nat} {z : Str} (h : zs[i]? = some z) : volN (zs.take (i + 1)) = volN (zs.take i) * (32 / 2 ^ z.length) := by
  unfold volN
  rw [List.take_add_one, h, List.foldl_append]
  rfl
theorem vol_le : ∀ zs : List Str, zs.foldl (fun h z => h * (32 / 2 ^ z.length)) 1 ≤ 32 ^ zs.length := by
  have key : ∀ (zs : List Str) (h : Nat), zs.foldl (fun h z => h * (32 / 2 ^ z.length)) h ≤ h * 32 ^ zs.length := by
    intro zs
    induction zs with
    | nil => intro h; simp
    | cons z zs ih =>
      intro h
      rw [List.foldl_cons, List.length_cons]
      refine Nat.le_trans (ih _) ?_
      rw [Nat.pow_succ, Nat.mul_assoc, Nat.mul_comm (32 ^ zs.length)]
      exact Nat.mul_le_mul_left _ (Nat.mul_le_mul_right _ (Nat.div_le_self _ _))
  intro zs
  simpa using key zs 1
section
variable {P : Program} {w : World} {K : PySem.W.Frag} {mg : Str → Option Value} {base : Heap}
def spVolume (K : PySem.W.Frag) (CB : Addr) : Sp := fun vs H Q E => ∃ (x : V) (o : Option (List V)), vs = [x] ∧ Thing K H x o ∧
  (∀ zs : List Str, o = some (zs.map V.str) → IsBoxS zs → ∀ H', Same H H' → Q (.int ((volN zs : Nat) : Int)) H') ∧
  (allO begB o = false → ∀ H' d, Same H H' → H' d = none → E (.ref CB) (some d) (upd H' d (calledAs "BadBox")))
theorem scVolume : FnScope ["box", "held", "beginning"] ["box"] (defScope sVolume) := ⟨rfl, rfl, rfl, by decide +kernel, rfl, by decide +kernel, by decide +kernel⟩
theorem ok_volume {f fN CB : Addr} {fd fdN : FuncData} {tkW : Tok} (F : Fun K "volume" "volume" sVolume f fd) (b : Blt mg) (W : mg "WORTHS" = some (.int 32 tkW)) (aN : At K mg "need_box" sNeedBox ["box"] fN fdN)
    (GN : FnOk P w K mg base (L2.CX P w) 3 fN fdN ["box"] (spNeedT K begB CB "BadBox")) : FnOk P w K mg base (L2.CX P w) 4 f fd ["box"] (spVolume K CB) := by
  refine F.okX scVolume (fun vs H Q E h => ?_) (fun cdv A outer s H vs Q E hr h => ?_)
  · obtain ⟨x, o, rfl, _⟩ := h
    rfl
  · obtain ⟨x, o, rfl, tx, k1, k2⟩ := h
    refine ⟨_, pss_cons (ps_expr (pe_call GN hr rfl aN.gl aN.fn.kp aN.bd .nil (passes_call (takes_of rfl rfl rfl rfl) (fun _ _ _ _ h => h)) (pa_cons (pv 0) pa_nil)))
      (PSs.nox (pss_cons (ps_set (i := 1) scVolume.nd rfl (.inl rfl) pe_int)
      (pss_cons (ps_for PassesOwn.never rfl (pi_tup (pv 0)) (pg_name (i := 2) scVolume.nd rfl (.inl rfl))
        (pss_one (ps_aug (i := 1) scVolume.nd rfl (.inl rfl) (pe_op op_shr (pe_glob (v := .int 32) rfl W ⟨_, rfl⟩) (pe_callB call_len_str (by rfl) b.len PySem.boot_len (pa_cons (pv 2) pa_nil))) iop_mul)))
      (pss_one (ps_ret (pv 1)))))), ?_⟩
    refine ⟨_, rfl, x, o, rfl, tx, fun yx H1 s1 => ?_, fun no H1 d s1 hd => k2 no H1 d s1 hd⟩
    obtain ⟨zs, rfl, bz⟩ := allO_box yx
    cases tx with
    | @tup a _ ha _ _ =>
      refine ⟨_, rfl, a, rfl, ⟨_, SqT.of (s1 _ _ ha)⟩, ?_⟩
      refine for_tup (xs := zs.map V.str) (fun i σ H' => H' = H1 ∧ ∃ v : Option V, σ = [some (.ref a), some (.int ((volN (zs.take i) : Nat) : Int)), v]) ⟨rfl, none, rfl⟩ (fun i σ H' _ q => by rw [q.1]; exact SqT.of (s1 _ _ ha)) ?_ ?_
      · rintro i x σ H2 hx ⟨rfl, v, rfl⟩
        obtain ⟨z, ez, rfl⟩ := map_get hx
        have lz := beg_len (bz.beg z (List.mem_of_getElem? ez))
        refine ⟨_, rfl, _, rfl, z, rfl, Nat.le_trans lz (by decide), 32, _, rfl, rfl, by omega, ?_⟩
        have e : (32 : Int) / 2 ^ (((z.length : Nat) : Int)).toNat = ((32 / 2 ^ z.length : Nat) : Int) := by
          rw [Int.toNat_natCast]
          norm_cast
        dsimp only
        rw [e]
        have vt := vol_take ez
        have small : 32 / 2 ^ z.length ≤ 32 := Nat.div_le_self _ _
        generalize 32 / 2 ^ z.length = part at small vt ⊢
        refine ⟨_, _, rfl, rfl, .inr ⟨by omega, by omega⟩, rfl, some (.str z), ?_⟩
        rw [vt, Int.natCast_mul]
        rfl
      · rintro σ H2 ⟨rfl, v, rfl⟩
        rw [List.length_map, List.take_of_length_le (Nat.le_refl _)]
        exact ⟨_, rfl, k1 zs rfl bz _ s1⟩
end
end VQ
namespace VQ
open PySem L2 LamX
abbrev sLongerL : Stmt := top 44
abbrev sSeam : Stmt := top 43
section
variable {P : Program} {w : World} {K : PySem.W.Frag} {mg : Str → Option Value} {base : Heap}
/-- a beginning drawn from a beginning -/
def spLongerL : Sp := fun vs H Q _ => ∃ (b : Addr) (z : Str), vs = [.ref b, .str z] ∧ Bag H b ∧ z ∈ begs ∧ ∀ (u : Str) (H' : Hp), u ∈ begs → Bag H' b → Keep b H H' → Q (.str u) H'
theorem scLongerL : FnScope ["_law_bag_here", "_law_one", "_law_more"] ["_law_bag_here", "_law_one"] (defScope sLongerL) := ⟨rfl, rfl, rfl, by decide +kernel, rfl, by decide +kernel, by decide +kernel⟩
theorem ok_longerL {f fP fW fF : Addr} {fd fdP fdW fdF : FuncData} (F : Fun K "_law_longer" "_law_longer" sLongerL f fd) (b : Blt mg) (aP : At K mg "_law_pull" sPull ["_law_bag_here", "_law_size"] fP fdP) (aW : At K mg "_law_worth" sWorth ["_law_bag_here"] fW fdW) (aF : At K mg "_law_figs" sFigs ["_law_worth_here"] fF fdF)
    (GW : FnOk P w K mg base CX0 3 fW fdW ["_law_bag_here"] (spDraw fun i => 0 ≤ i ∧ i < 32)) : FnOk P w K mg base CX0 4 f fd ["_law_bag_here", "_law_one"] spLongerL := by
  have GP : FnOk P w K mg base CX0 1 fP fdP ["_law_bag_here", "_law_size"] spPull := ok_pull aP.fn b.len
  have GF : FnOk P w K mg base CX0 1 fF fdF ["_law_worth_here"] spFigs := ok_figs aF.fn b.range b.str
  refine F.ok scLongerL (fun vs H Q E h => ?_) (fun cdv A outer s H vs Q E hr h => ?_)
  · obtain ⟨bg, z, rfl, _⟩ := h
    rfl
  · obtain ⟨bg, z, rfl, B, hz, k⟩ := h
    have hr1 : Room 1 _ := hr.mono (by decide)
    refine ⟨_, pss_cons (ps_set (i := 2) scLongerL.nd rfl (.inl rfl) (pe_op op_add_str (pv 1) (pe_call GF hr1 rfl aF.gl aF.fn.kp aF.bd .nil pass0 (pa_cons (pe_call GW hr rfl aW.gl aW.fn.kp aW.bd .nil pass0 (pa_cons (pv 0) pa_nil)) pa_nil))))
      (pss_one (ps_ret (pe_slice sl_str (pv 2) po_none (po_some (pe_op op_add (pe_callB call_len_str (by rfl) b.len PySem.boot_len (pa_cons (pv 1) pa_nil))
        (pe_call GP hr1 rfl aP.gl aP.fn.kp aP.bd .nil pass0 (pa_cons (pv 0) (pa_cons (pe_op op_sub pe_int (pe_callB call_len_str (by rfl) b.len PySem.boot_len (pa_cons (pv 1) pa_nil))) pa_nil)))))))), ?_⟩
    have lz := begs_len z hz
    have lzs : z.length ≤ sizeLine := Nat.le_trans lz (by decide)
    refine ⟨_, rfl, _, rfl, bg, rfl, B, fun d H1 hd B1 k1 => ?_⟩
    obtain ⟨wt, rfl⟩ := Int.eq_ofNat_of_zero_le hd.1
    have ll : (z ++ fig wt).length ≤ 10 := (m_more z hz wt (by omega)).2
    refine ⟨wt, rfl, z, fig wt, rfl, rfl, by rw [fig_len]; exact Nat.le_trans (show z.length + 5 ≤ 10 by omega) (by decide), ?_⟩
    refine ⟨_, rfl, _, rfl, z, rfl, lzs, _, rfl, _, rfl, z, rfl, lzs, _, _, rfl, rfl, bg, _, rfl, B1, by omega, by omega, fun d H2 d0 d1 B2 k2 => ?_⟩
    obtain ⟨j, rfl⟩ := Int.eq_ofNat_of_zero_le d0
    refine ⟨_, _, rfl, rfl, _, rfl, _, rfl, Nat.le_trans ll (by decide), ?_⟩
    rw [show ((z.length : Nat) : Int) + (j : Int) = ((z.length + j : Nat) : Int) by omega, cut_to]
    exact k _ H2 (tk_beg (app_signs (beg_signs hz) (fig_signs wt)) (by omega)) B2 (k1.trans k2)
/-- a box drawn from a box: as many beginnings -/
def spSeam : Sp := fun vs H Q _ => ∃ (b a : Addr) (zs : List Str), vs = [.ref b, .ref a] ∧ Bag H b ∧ BoxAt H a zs ∧ 1 ≤ zs.length ∧ ∀ (p : Addr) (us : List Str) (H' : Hp), us.length = zs.length → (∀ u ∈ us, u ∈ begs) → H p = none → H' p = some (.tup (us.map V.str)) → Bag H' b → Keep b H H' → Q (.ref p) H'
abbrev nSeam : List Str := ["_law_bag_here", "_law_box_here", "_law_at", "_law_found", "_law_k", "_law_one"]
theorem scSeam : FnScope nSeam ["_law_bag_here", "_law_box_here"] (defScope sSeam) := ⟨rfl, rfl, rfl, by decide +kernel, rfl, by decide +kernel, by decide +kernel⟩
theorem ok_seam {f fP fL : Addr} {fd fdP fdL : FuncData} (F : Fun K "_law_seam_box" "_law_seam_box" sSeam f fd) (b : Blt mg) (en : mg "enumerate" = none) (aP : At K mg "_law_pull" sPull ["_law_bag_here", "_law_size"] fP fdP) (aL : At K mg "_law_longer" sLongerL ["_law_bag_here", "_law_one"] fL fdL)
    (GL : FnOk P w K mg base CX0 4 fL fdL ["_law_bag_here", "_law_one"] spLongerL) : FnOk P w K mg base CX0 5 f fd ["_law_bag_here", "_law_box_here"] spSeam := by
  have GP : FnOk P w K mg base CX0 1 fP fdP ["_law_bag_here", "_law_size"] spPull := ok_pull aP.fn b.len
  refine F.ok scSeam (fun vs H Q E h => ?_) (fun cdv A outer s H vs Q E hr h => ?_)
  · obtain ⟨bg, a, zs, rfl, _⟩ := h
    rfl
  · obtain ⟨bg, a, zs, rfl, B, ⟨ha, hz, hl⟩, l1, k⟩ := h
    have hr1 : Room 1 _ := hr.mono (by decide)
    refine ⟨_, pss_cons (ps_set (i := 2) scSeam.nd rfl (.inl rfl) (pe_call GP hr1 rfl aP.gl aP.fn.kp aP.bd .nil pass0 (pa_cons (pv 0) (pa_cons (pe_callB call_len_seq (by rfl) b.len PySem.boot_len (pa_cons (pv 1) pa_nil)) pa_nil))))
      (pss_cons (ps_set (i := 3) scSeam.nd rfl (.inl rfl) (pe_lst pa_nil))
      (pss_cons (ps_for PassesOwn.never rfl (pi_enumT rfl en (pa_cons (pv 1) pa_nil)) (pg_tup rfl (pgs_cons (pg_name (i := 4) scSeam.nd rfl (.inl rfl)) (pgs_cons (pg_name (i := 5) scSeam.nd rfl (.inl rfl)) pgs_nil)))
        (pss_one (ps_if (PW.pt (pw_and (pt_cmpR op_eq (pv 4) (pv 2) (nomark _)) (pw_and1 (pt_cmpR op_ne (pv 5) pe_str (nomark _)))))
          (pss_one (ps_expr (pe_bm PySem.F.plainAttrs_list PySem.F.slot_list_append PySem.F.type_list_append mt_append (pv 3) (pa_cons
            (pe_op op_add_str (pe_slice sl_str (pv 5) po_none (po_some (pe_un un_neg pe_int))) (pe_ifExp (pt_cmpR op_eq (pe_ix ix_str (pv 5) (pe_un un_neg pe_int) fun _ _ => rfl) pe_str (nomark _)) pe_str pe_str)) pa_nil))))
          (pss_one (ps_if (pt_cmpR op_eq (pe_call GP hr1 rfl aP.gl aP.fn.kp aP.bd .nil pass0 (pa_cons (pv 0) (pa_cons pe_int pa_nil))) pe_int (nomark _))
            (pss_one (ps_expr (pe_bm PySem.F.plainAttrs_list PySem.F.slot_list_append PySem.F.type_list_append mt_append (pv 3) (pa_cons
              (pe_slice sl_str (pv 5) po_none (po_some (pe_call GP hr1 rfl aP.gl aP.fn.kp aP.bd .nil pass0 (pa_cons (pv 0) (pa_cons (pe_op op_add (pe_callB call_len_str (by rfl) b.len PySem.boot_len (pa_cons (pv 5) pa_nil)) pe_int) pa_nil))))) pa_nil))))
            (pss_one (ps_expr (pe_bm PySem.F.plainAttrs_list PySem.F.slot_list_append PySem.F.type_list_append mt_append (pv 3) (pa_cons
              (pe_call GL hr rfl aL.gl aL.fn.kp aL.bd .nil pass0 (pa_cons (pv 0) (pa_cons (pv 5) pa_nil))) pa_nil)))))))))
      (pss_one (ps_ret (pe_callTy call_tuple_of (by rfl) b.tuple (by decide +kernel) (pa_cons (pv 3) pa_nil)))))), ?_⟩
    have lm : (zs.map V.str).length = zs.length := List.length_map ..
    refine ⟨_, rfl, _, rfl, a, _, rfl, .inr (SqT.of ha), bg, _, rfl, B, by omega, by omega, fun pl H1 p0 p1 B1 k1 => ?_⟩
    refine ⟨by show 0 ≤ sizeLine; decide, fun D hD => ?_⟩
    have hD0 : H D = none := k1.free B B1 hD
    obtain ⟨B2, K2⟩ := Bag.put (o := .lst []) B hD0 k1 B1
    have Db : D ≠ bg := B.ne hD0
    refine ⟨_, rfl, a, _, rfl, SqT.of (K2.tup B ha), ?_⟩
    refine for_enumT (xs := zs.map V.str) (fun i σ H' => Bag H' bg ∧ Keep bg H H' ∧ ∃ (v4 v5 : Option V) (us : List Str), σ = [some (.ref bg), some (.ref a), some (.int pl), some (.ref D), v4, v5] ∧ us.length = i ∧ (∀ u ∈ us, u ∈ begs) ∧ H' D = some (.lst (us.map V.str)))
      ⟨B2, K2, none, none, [], rfl, rfl, (fun u m => by cases m), upd_same⟩ (fun i σ H' q => SqT.of (q.2.1.tup B ha)) ?_ ?_
    · rintro i x T σ H3 hx ⟨B3, K3, v4, v5, us, rfl, lu, hu, h3⟩ nT
      obtain ⟨z, ez, rfl⟩ := map_get hx
      have li : i < zs.length := (List.getElem?_eq_some_iff.mp ez).1
      have zb := hz z (List.mem_of_getElem? ez)
      have lz := begs_len z zb
      have lzs : z.length ≤ sizeLine := Nat.le_trans lz (by decide)
      have hT0 : H T = none := K3.free B B3 nT
      obtain ⟨B4, K4⟩ := Bag.put (o := .tup [.int (i : Nat), .str z]) B hT0 K3 B3
      have DT : D ≠ T := fun q => by
        rw [← q, h3] at nT
        cases nT
      have h4 : upd H3 T (.tup [.int (i : Nat), .str z]) D = some (.lst (us.map V.str)) := (upd_ne DT).trans h3
      have fin : ∀ (u : Str) (H' : Hp) (v4 v5 : Option V), u ∈ begs → Bag H' bg → Keep bg H H' → Bag (upd H' D (.lst (us.map V.str ++ [.str u]))) bg ∧ Keep bg H (upd H' D (.lst (us.map V.str ++ [.str u]))) ∧ ∃ (v4' v5' : Option V) (us' : List Str), [some (V.ref bg), some (.ref a), some (.int pl), some (.ref D), v4, v5] = [some (.ref bg), some (.ref a), some (.int pl), some (.ref D), v4', v5'] ∧ us'.length = i + 1 ∧ (∀ u ∈ us', u ∈ begs) ∧ upd H' D (.lst (us.map V.str ++ [.str u])) D = some (.lst (us'.map V.str)) := fun u H' v4 v5 ub B' K' => by
        obtain ⟨B5, K5⟩ := Bag.put (o := .lst (us.map V.str ++ [.str u])) B hD0 K' B'
        refine ⟨B5, K5, v4, v5, us ++ [u], rfl, by rw [List.length_append, lu]; rfl, fun t m => ?_, ?_⟩
        · rcases List.mem_append.mp m with m | m
          · exact hu t m
          · rw [List.mem_singleton.mp m]
            exact ub
        · rw [upd_same, List.map_append]
          rfl
      have room : (us.map V.str).length < sizeLine := by
        rw [List.length_map, lu]
        exact Nat.lt_of_lt_of_le (show i < 6 by omega) (by decide)
      refine ⟨T, _, rfl, SqT.of upd_same, rfl, _, _, rfl, _, _, rfl, rfl, ?_⟩
      refine ⟨_, rfl, _, rfl, rfl, _, rfl, ?_⟩
      refine ite2 (fun _ => ?_) (fun _ => ?_)
      · refine ⟨_, rfl, rfl, _, rfl, ?_⟩
        by_cases e : z = ("" : Str)
        · refine iteNS (congrArg V.str e) ?_
          refine ⟨_, rfl, bg, 2, rfl, B4, by decide, by decide, fun d H5 d0 d1 B5 K5 => ⟨rfl, _, rfl, ?_⟩⟩
          have K45 := K4.trans K5
          have h5 := K5.1 _ _ Db h4
          refine ite2 (fun _ => ?_) (fun _ => ?_)
          · refine ⟨_, rfl, .inl ⟨rfl, _, SqL.of h5⟩, _, rfl, _, rfl, _, rfl, z, rfl, lzs, _, _, rfl, rfl, bg, _, rfl, B5, by omega, by omega, fun d H6 d0 d1 B6 K6 => ?_⟩
            obtain ⟨j, rfl⟩ := Int.eq_ofNat_of_zero_le d0
            refine ⟨_, rfl, z, rfl, lzs, D, _, _, rfl, rfl, K6.1 _ _ Db h5, room, ?_⟩
            rw [cut_to]
            exact fin _ H6 _ _ (m_tk z zb j (by omega)) B6 (K45.trans K6)
          · refine ⟨_, rfl, .inl ⟨rfl, _, SqL.of h5⟩, _, rfl, _, rfl, bg, z, rfl, B5, zb, fun u H6 hu6 B6 K6 => ?_⟩
            refine ⟨D, _, _, rfl, rfl, K6.1 _ _ Db h5, room, ?_⟩
            exact fin u H6 _ _ hu6 B6 (K45.trans K6)
        · have e' : ¬ V.str z = V.str "" := fun q => e (V.str.inj q)
          rw [decide_eq_false e']
          refine iteT ?_
          obtain ⟨c1, c2, c3, c4⟩ := bro_cut z zb e
          have short : ∀ t : Str, t.length = 1 → (cutS z none (some (-1))).length + t.length ≤ sizeLine := fun t el => by
            rw [c2, el]
            exact Nat.le_trans (by omega : (dropL z).length + 1 ≤ 6) (by decide)
          have key : ∀ t : Str, t = flip (lastC z) → (cutS z none (some (-1)) ++ t) = bro z := fun t et => by
            rw [c2, et]
            rfl
          refine ⟨_, rfl, .inl ⟨rfl, _, SqL.of h4⟩, _, rfl, 1, rfl, _, rfl, z, rfl, lzs, _, rfl, 1, rfl, z, -1, lastC z, rfl, rfl, lzs, c1, rfl, _, rfl, ?_⟩
          by_cases el : lastC z = 48
          · rw [el, show decide (V.str ⟨#[48]⟩ = V.str "0") = true by decide +kernel]
            have ef : ("1" : Str) = flip (lastC z) := by rw [el]; rfl
            refine iteT ⟨_, _, rfl, rfl, short _ (by decide +kernel), D, _, _, rfl, rfl, h4, room, ?_⟩
            rw [key _ ef]
            exact fin _ _ _ _ (bro_in z zb e).1 B4 K4
          · have el' : lastC z = 49 := by omega
            rw [el', show decide (V.str ⟨#[49]⟩ = V.str "0") = false by decide +kernel]
            have ef : ("0" : Str) = flip (lastC z) := by rw [el']; rfl
            refine iteF ⟨_, _, rfl, rfl, short _ (by decide +kernel), D, _, _, rfl, rfl, h4, room, ?_⟩
            rw [key _ ef]
            exact fin _ _ _ _ (bro_in z zb e).1 B4 K4
      · refine ⟨_, rfl, bg, 2, rfl, B4, by decide, by decide, fun d H5 d0 d1 B5 K5 => ⟨rfl, _, rfl, ?_⟩⟩
        have K45 := K4.trans K5
        have h5 := K5.1 _ _ Db h4
        refine ite2 (fun _ => ?_) (fun _ => ?_)
        · refine ⟨_, rfl, .inl ⟨rfl, _, SqL.of h5⟩, _, rfl, _, rfl, _, rfl, z, rfl, lzs, _, _, rfl, rfl, bg, _, rfl, B5, by omega, by omega, fun d H6 d0 d1 B6 K6 => ?_⟩
          obtain ⟨j, rfl⟩ := Int.eq_ofNat_of_zero_le d0
          refine ⟨_, rfl, z, rfl, lzs, D, _, _, rfl, rfl, K6.1 _ _ Db h5, room, ?_⟩
          rw [cut_to]
          exact fin _ H6 _ _ (m_tk z zb j (by omega)) B6 (K45.trans K6)
        · refine ⟨_, rfl, .inl ⟨rfl, _, SqL.of h5⟩, _, rfl, _, rfl, bg, z, rfl, B5, zb, fun u H6 hu6 B6 K6 => ?_⟩
          refine ⟨D, _, _, rfl, rfl, K6.1 _ _ Db h5, room, ?_⟩
          exact fin u H6 _ _ hu6 B6 (K45.trans K6)
    · rintro σ H3 ⟨B3, K3, v4, v5, us, rfl, lu, hu, h3⟩
      rw [lm] at lu
      refine ⟨_, rfl, D, _, rfl, .inl ⟨SqL.of h3, fun l hl' => ?_⟩⟩
      have hl0 : H l = none := K3.free B B3 hl'
      obtain ⟨B4, K4⟩ := Bag.put (o := .tup (us.map V.str)) B hl0 K3 B3
      exact k l us _ lu hu hl0 upd_same B4 K4
end
end VQ
namespace VQ
open PySem L2 LamX
/-! ### boxes put together cover, halves are put together again: the mathematics -/
abbrev volF (z : Str) : Nat := 32 / 2 ^ z.length
theorem vol_foldl : ∀ (zs : List Str) (h : Nat), zs.foldl (fun h z => h * (32 / 2 ^ z.length)) h = h * volN zs
  | [], h => by
    show h = h * 1
    rw [Nat.mul_one]
  | z :: zs, h => by
    unfold volN
    rw [List.foldl_cons, List.foldl_cons, vol_foldl zs, vol_foldl zs (1 * _), Nat.one_mul, Nat.mul_assoc]
theorem vol_cons (z : Str) (zs : List Str) : volN (z :: zs) = volF z * volN zs := by
  unfold volN
  rw [List.foldl_cons, vol_foldl, Nat.one_mul]
  rfl
theorem vol_app (xs ys : List Str) : volN (xs ++ ys) = volN xs * volN ys := by
  unfold volN
  rw [List.foldl_append, vol_foldl]
  rfl
theorem volF_le {a b : Str} (h : b.length ≤ a.length) : volF a ≤ volF b := Nat.div_le_div_left (Nat.pow_le_pow_right (by decide) h) (Nat.pow_pos (by decide))
theorem half_pow : ∀ l, l < 5 → 32 / 2 ^ l = 32 / 2 ^ (l + 1) + 32 / 2 ^ (l + 1) := by decide
theorem drop_len {z : Str} (hz : z ≠ ("" : Str)) : (dropL z).length + 1 = z.length := by
  have p : 0 < z.cps.toList.length := by
    rcases Nat.eq_zero_or_pos z.cps.toList.length with q | q
    · have q' : z.cps.size = 0 := by simpa using q
      exact absurd (Str.ext' (Array.eq_empty_of_size_eq_zero q')) hz
    · exact q
  have l1 : (dropL z).length = z.cps.toList.length - 1 := by simp [dropL, Str.length]
  have l2 : z.length = z.cps.toList.length := by simp [Str.length]
  omega
/-- a place's item, for what follows -/
theorem item_cases {a b : Str} {n : Nat} {u : Str} (ha : a ∈ begs) (hb : b ∈ begs) (h : jItem a b = some (n, u)) :
    (n = 0 ∧ ((u = a ∧ beginsB a b = true) ∨ (u = b ∧ beginsB b a = true))) ∨ (n = 1 ∧ u = dropL a ∧ a = bro b ∧ a ≠ ("" : Str) ∧ b ≠ ("" : Str) ∧ dropL a = dropL b ∧ a.length = b.length) := by
  unfold jItem at h
  cases s : seamB a b with
  | true =>
    rw [s, if_pos rfl] at h
    cases h
    unfold seamB at s
    simp only [Bool.and_eq_true, decide_eq_true_eq] at s
    obtain ⟨s1, s2, s3, s4⟩ := s
    have nb : b ≠ ("" : Str) := fun q => by
      have l := drop_len s1
      rw [s3, q] at l
      exact absurd l (Nat.succ_ne_zero _)
    exact .inr ⟨rfl, rfl, drop_two ha hb s1 nb s2 s4, s1, nb, s2, s3⟩
  | false =>
    rw [s, if_neg (by decide)] at h
    cases e1 : beginsB a b with
    | true =>
      rw [e1, if_pos rfl] at h
      cases h
      exact .inl ⟨rfl, .inl ⟨rfl, rfl⟩⟩
    | false =>
      rw [e1, if_neg (by decide)] at h
      cases e2 : beginsB b a with
      | true =>
        rw [e2, if_pos rfl] at h
        cases h
        exact .inl ⟨rfl, .inr ⟨rfl, rfl⟩⟩
      | false =>
        rw [e2, if_neg (by decide)] at h
        cases h
theorem jAdd_some {x : Option (Nat × Str)} {y : Option (Nat × List Str)} {n : Nat} {us : List Str} (h : jAdd x y = some (n, us)) : ∃ n1 u n2 vs, x = some (n1, u) ∧ y = some (n2, vs) ∧ n = n1 + n2 ∧ us = u :: vs := by
  match x, y, h with
  | some (n1, u), some (n2, vs), h =>
    cases h
    exact ⟨n1, u, n2, vs, rfl, rfl, rfl, rfl⟩
theorem join_vol : ∀ {zs ws us : List Str} {n : Nat}, (∀ z ∈ zs, z ∈ begs) → (∀ z ∈ ws, z ∈ begs) → zs.length = ws.length → joinL zs ws = some (n, us) → (n = 0 → volN us ≤ volN zs ∧ volN us ≤ volN ws) ∧ (n = 1 → volN us ≤ volN zs + volN ws)
  | [], [], us, n, _, _, _, h => by
    cases h
    exact ⟨fun _ => ⟨Nat.le_refl _, Nat.le_refl _⟩, fun e => by cases e⟩
  | [], _ :: _, _, _, _, _, l, _ => by cases l
  | _ :: _, [], _, _, _, _, l, _ => by cases l
  | z :: zs, w :: ws, us, n, hz, hw, l, h => by
    obtain ⟨n1, u, n2, vs, e1, e2, rfl, rfl⟩ := jAdd_some h
    obtain ⟨i0, i1⟩ := join_vol (fun x m => hz x (List.mem_cons_of_mem _ m)) (fun x m => hw x (List.mem_cons_of_mem _ m)) (by simpa using l) e2
    have zb := hz z List.mem_cons_self
    have wb := hw w List.mem_cons_self
    rw [vol_cons, vol_cons, vol_cons]
    rcases item_cases zb wb e1 with ⟨rfl, c⟩ | ⟨rfl, rfl, c1, c2, c3, c4, c5⟩
    · have lz : volF u ≤ volF z ∧ volF u ≤ volF w := by
        rcases c with ⟨rfl, q⟩ | ⟨rfl, q⟩
        · exact ⟨Nat.le_refl _, volF_le (begins_len q)⟩
        · exact ⟨volF_le (begins_len q), Nat.le_refl _⟩
      refine ⟨fun e => ?_, fun e => ?_⟩
      · obtain ⟨a, b⟩ := i0 (by omega)
        exact ⟨Nat.mul_le_mul lz.1 a, Nat.mul_le_mul lz.2 b⟩
      · have a := i1 (by omega)
        refine Nat.le_trans (Nat.mul_le_mul_left _ a) ?_
        rw [Nat.mul_add]
        exact Nat.add_le_add (Nat.mul_le_mul_right _ lz.1) (Nat.mul_le_mul_right _ lz.2)
    · refine ⟨fun e => by omega, fun e => ?_⟩
      obtain ⟨a, b⟩ := i0 (by omega)
      have dl := drop_len c2
      have l5 := begs_len z zb
      have two : volF (dropL z) = volF z + volF w := by
        show 32 / 2 ^ (dropL z).length = 32 / 2 ^ z.length + 32 / 2 ^ w.length
        rw [← c5, ← dl]
        exact half_pow _ (by omega)
      rw [two, Nat.add_mul]
      exact Nat.add_le_add (Nat.mul_le_mul_left _ a) (Nat.mul_le_mul_left _ b)
theorem begins_trans {a b c : Str} (h1 : beginsB a b = true) (h2 : beginsB b c = true) : beginsB a c = true := by
  have l := begins_len h2
  have e1 := of_decide_eq_true h1
  have e2 := of_decide_eq_true h2
  refine decide_eq_true ?_
  have q : (tk (tk a b.length) c.length).cps.toList = (tk a c.length).cps.toList := by
    rw [tk_list, tk_list, tk_list, List.take_take, Nat.min_eq_left l]
  rw [e1, e2] at q
  exact (Str.ext' (Array.toList_inj.mp q)).symm
theorem m_xor : ∀ z ∈ begs, z ≠ ("" : Str) → ∀ n, n < 32 → beginsB (fig n) (dropL z) = true → beginsB (fig n) (bro z) = !(beginsB (fig n) z) := by decide +kernel
theorem holds_cons (z : Str) (zs : List Str) (n : Nat) (ns : List Nat) : holdsB (z :: zs) (n :: ns) = (beginsB (fig n) z && holdsB zs ns) := by
  unfold holdsB
  rw [List.zipWith_cons_cons, List.all_cons]
  rfl
theorem join_cover : ∀ {zs ws us : List Str} {ns : List Nat} {n : Nat}, (∀ z ∈ zs, z ∈ begs) → (∀ z ∈ ws, z ∈ begs) → (∀ m ∈ ns, m < 32) → zs.length = ws.length → ns.length = zs.length → joinL zs ws = some (n, us) → holdsB us ns = true →
    (n = 0 → holdsB zs ns = true ∧ holdsB ws ns = true) ∧ (n = 1 → holdsB zs ns = !(holdsB ws ns))
  | [], [], us, [], n, _, _, _, _, _, h, _ => by
    cases h
    exact ⟨fun _ => ⟨rfl, rfl⟩, fun e => by cases e⟩
  | [], _ :: _, _, _, _, _, _, _, l, _, _, _ => by cases l
  | _ :: _, [], _, _, _, _, _, _, l, _, _, _ => by cases l
  | [], [], _, _ :: _, _, _, _, _, _, l, _, _ => by cases l
  | _ :: _, _ :: _, _, [], _, _, _, _, _, l, _, _ => by cases l
  | z :: zs, w :: ws, us, m :: ns, n, hz, hw, hn, l, l', h, hh => by
    obtain ⟨n1, u, n2, vs, e1, e2, rfl, rfl⟩ := jAdd_some h
    rw [holds_cons, Bool.and_eq_true] at hh
    obtain ⟨i0, i1⟩ := join_cover (fun x mx => hz x (List.mem_cons_of_mem _ mx)) (fun x mx => hw x (List.mem_cons_of_mem _ mx)) (fun x mx => hn x (List.mem_cons_of_mem _ mx)) (by simpa using l) (by simpa using l') e2 hh.2
    have zb := hz z List.mem_cons_self
    have wb := hw w List.mem_cons_self
    rw [holds_cons, holds_cons]
    rcases item_cases zb wb e1 with ⟨rfl, c⟩ | ⟨rfl, rfl, c1, c2, c3, c4, c5⟩
    · have both : beginsB (fig m) z = true ∧ beginsB (fig m) w = true := by
        rcases c with ⟨rfl, q⟩ | ⟨rfl, q⟩
        · exact ⟨hh.1, begins_trans hh.1 q⟩
        · exact ⟨begins_trans hh.1 q, hh.1⟩
      rw [both.1, both.2, Bool.true_and, Bool.true_and]
      exact ⟨fun e => i0 (by omega), fun e => i1 (by omega)⟩
    · refine ⟨fun e => by omega, fun e => ?_⟩
      obtain ⟨a, b⟩ := i0 (by omega)
      rw [a, b, Bool.and_true, Bool.and_true]
      have x := m_xor w wb c3 m (hn m List.mem_cons_self) (by rw [← c4]; exact hh.1)
      rw [← c1] at x
      exact x
theorem joinM_some {zs ws us : List Str} (h : joinM zs ws = some us) : joinL zs ws = some (1, us) := by
  unfold joinM at h
  cases e : joinL zs ws with
  | none => rw [e] at h; cases h
  | some p =>
    obtain ⟨n, vs⟩ := p
    rw [e] at h
    match n, h with
    | 1, h =>
      cases h
      rfl
theorem join_begs : ∀ {zs ws us : List Str} {n : Nat}, (∀ z ∈ zs, z ∈ begs) → (∀ z ∈ ws, z ∈ begs) → joinL zs ws = some (n, us) → ∀ u ∈ us, u ∈ begs
  | [], ws, us, n, _, _, h => by
    cases ws <;> (cases h; exact fun u m => by cases m)
  | _ :: _, [], us, n, _, _, h => by
    cases h
    exact fun u m => by cases m
  | z :: zs, w :: ws, us, n, hz, hw, h => by
    obtain ⟨n1, u, n2, vs, e1, e2, rfl, rfl⟩ := jAdd_some h
    have ih := join_begs (fun x m => hz x (List.mem_cons_of_mem _ m)) (fun x m => hw x (List.mem_cons_of_mem _ m)) e2
    have zb := hz z List.mem_cons_self
    have wb := hw w List.mem_cons_self
    intro x mx
    rcases List.mem_cons.mp mx with rfl | mx
    · rcases item_cases zb wb e1 with ⟨_, ⟨rfl, _⟩ | ⟨rfl, _⟩⟩ | ⟨_, rfl, _, c2, _⟩
      · exact zb
      · exact wb
      · refine beg_mem ?_ fun c mc => ?_
        · have := drop_len c2
          have := begs_len z zb
          omega
        · have mc' : c ∈ z.cps.toList.dropLast := by simpa [dropL] using mc
          exact beg_signs zb c ((List.dropLast_sublist _).subset mc')
    · exact ih x mx
/-- boxes that are put together don't meet -/
theorem join_apart {zs ws us : List Str} (hz : ∀ z ∈ zs, z ∈ begs) (hw : ∀ z ∈ ws, z ∈ begs) (h : joinL zs ws = some (1, us)) : inV .non (longsL zs ws) = true := by
  have c := (join_count hz hw h).1
  have p : 0 < (longsL zs ws).countP isNon := by
    have : cntN zs ws = (longsL zs ws).countP isNon := rfl
    omega
  obtain ⟨x, mx, ex⟩ := List.countP_pos_iff.mp p
  exact List.any_eq_true.mpr ⟨x, mx, ex⟩
/-! ### halves -/
def jBoth : Option (Nat × List Str) → Option (Nat × List Str) → Option (Nat × List Str)
  | some (n, us), some (m, vs) => some (n + m, us ++ vs)
  | _, _ => none
theorem join_app : ∀ {xs ys xs' ys' : List Str}, xs.length = ys.length → joinL (xs ++ xs') (ys ++ ys') = jBoth (joinL xs ys) (joinL xs' ys')
  | [], [], xs', ys', _ => by
    show joinL xs' ys' = jBoth (some (0, [])) (joinL xs' ys')
    cases joinL xs' ys' with
    | none => rfl
    | some p =>
      obtain ⟨n, us⟩ := p
      show some (n, us) = some (0 + n, us)
      rw [Nat.zero_add]
  | [], _ :: _, _, _, l => by cases l
  | _ :: _, [], _, _, l => by cases l
  | x :: xs, y :: ys, xs', ys', l => by
    show jAdd (jItem x y) (joinL (xs ++ xs') (ys ++ ys')) = jBoth (jAdd (jItem x y) (joinL xs ys)) (joinL xs' ys')
    rw [join_app (by simpa using l)]
    match jItem x y, joinL xs ys, joinL xs' ys' with
    | none, none, none => rfl
    | none, none, some _ => rfl
    | none, some _, none => rfl
    | none, some _, some _ => rfl
    | some _, none, none => rfl
    | some _, none, some _ => rfl
    | some _, some _, none => rfl
    | some (n, u), some (m, us), some (o, vs) =>
      show some (n + (m + o), _) = some (n + m + o, _)
      rw [Nat.add_assoc]
      rfl
theorem item_self (a : Str) : jItem a a = some (0, a) := by
  unfold jItem
  have s : seamB a a = false := by
    unfold seamB
    simp
  rw [s, begins_self]
  rfl
theorem join_self : ∀ zs : List Str, joinL zs zs = some (0, zs)
  | [] => rfl
  | z :: zs => by
    show jAdd (jItem z z) (joinL zs zs) = _
    rw [item_self, join_self zs]
    rfl
theorem m_half : ∀ z ∈ begs, z.length < 5 → jItem (z ++ ("0" : Str)) (z ++ ("1" : Str)) = some (1, z) ∧ beginsB (z ++ ("0" : Str)) z = true ∧ beginsB (z ++ ("1" : Str)) z = true := by decide +kernel
theorem half_beg {z : Str} (h : z ∈ begs) (l : z.length < 5) (c : Str) (hc : c = ("0" : Str) ∨ c = ("1" : Str)) : z ++ c ∈ begs := by
  rcases hc with rfl | rfl
  · exact beg_mem (by rw [Str.length_append]; show z.length + 1 ≤ 5; omega) (app_signs (beg_signs h) (by decide +kernel))
  · exact beg_mem (by rw [Str.length_append]; show z.length + 1 ≤ 5; omega) (app_signs (beg_signs h) (by decide +kernel))
theorem split_at {zs : List Str} {k : Nat} {z : Str} (h : zs[k]? = some z) : (zs.take k ++ [z]) ++ zs.drop (k + 1) = zs := by
  have lk : k < zs.length := (List.getElem?_eq_some_iff.mp h).1
  have e : zs.take k ++ [z] = zs.take (k + 1) := by
    rw [List.take_add_one, h]
    rfl
  rw [e, List.take_append_drop]
theorem half_len' {zs : List Str} {k : Nat} {z c : Str} (h : zs[k]? = some z) : (halfL zs k z c).length = zs.length := by
  have lk : k < zs.length := (List.getElem?_eq_some_iff.mp h).1
  unfold halfL
  rw [List.length_append, List.length_append, List.length_take, List.length_drop]
  show min k zs.length + 1 + _ = _
  omega
theorem half_begs {zs : List Str} {k : Nat} {z c : Str} (hz : ∀ z ∈ zs, z ∈ begs) (h : FirstOpen zs k z) (hc : c = ("0" : Str) ∨ c = ("1" : Str)) : ∀ u ∈ halfL zs k z c, u ∈ begs := fun u m => by
  unfold halfL at m
  rcases List.mem_append.mp m with m | m
  · rcases List.mem_append.mp m with m | m
    · exact hz u (List.mem_of_mem_take m)
    · rw [List.mem_singleton.mp m]
      exact half_beg (hz z (List.mem_of_getElem? h.1)) h.2.1 c hc
  · exact hz u (List.mem_of_mem_drop m)
theorem half_join {zs : List Str} {k : Nat} {z : Str} (hz : ∀ z ∈ zs, z ∈ begs) (h : FirstOpen zs k z) : joinM (halfL zs k z "0") (halfL zs k z "1") = some zs := by
  have e : joinL (halfL zs k z "0") (halfL zs k z "1") = some (1, zs) := by
    unfold halfL
    rw [join_app (by rw [List.length_append, List.length_append]; rfl), join_app rfl, join_self, join_self]
    have s : joinL [z ++ ("0" : Str)] [z ++ ("1" : Str)] = some (1, [z]) := by
      show jAdd (jItem (z ++ ("0" : Str)) (z ++ ("1" : Str))) (some (0, [])) = _
      rw [(m_half z (hz z (List.mem_of_getElem? h.1)) h.2.1).1]
      rfl
    rw [s]
    show some (0 + 1 + 0, (zs.take k ++ [z]) ++ zs.drop (k + 1)) = _
    rw [split_at h.1]
  unfold joinM
  rw [e]
  rfl
theorem half_vol {zs : List Str} {k : Nat} {z : Str} (h : FirstOpen zs k z) : volN (halfL zs k z "0") + volN (halfL zs k z "1") = volN zs := by
  have one : ∀ c : Str, c.length = 1 → volN (halfL zs k z c) = volN (zs.take k) * (32 / 2 ^ (z.length + 1)) * volN (zs.drop (k + 1)) := fun c lc => by
    unfold halfL
    rw [vol_app, vol_app, vol_cons]
    show _ * ((32 / 2 ^ (z ++ c).length) * volN []) * _ = _
    rw [Str.length_append, lc, show volN [] = 1 from rfl, Nat.mul_one]
  rw [one "0" (by decide +kernel), one "1" (by decide +kernel)]
  have e : volN zs = volN (zs.take k) * (32 / 2 ^ z.length) * volN (zs.drop (k + 1)) := by
    conv => lhs; rw [← split_at h.1]
    rw [vol_app, vol_app, vol_cons, show volN [] = 1 from rfl, Nat.mul_one]
  rw [e, half_pow _ h.2.1, Nat.mul_add, Nat.add_mul]
theorem inside_self : ∀ zs : List Str, insideB zs zs = true
  | [] => rfl
  | z :: zs => by
    show (Txt.startswith z z && insideB zs zs) = true
    rw [st_eq, begins_self, inside_self zs]
    rfl
theorem inside_app {xs ys xs' ys' : List Str} (l : xs.length = ys.length) : insideB (xs ++ xs') (ys ++ ys') = (insideB xs ys && insideB xs' ys') := by
  unfold insideB
  rw [List.zipWith_append l, List.all_append]
theorem half_inside {zs : List Str} {k : Nat} {z c : Str} (hz : ∀ z ∈ zs, z ∈ begs) (h : FirstOpen zs k z) (hc : c = ("0" : Str) ∨ c = ("1" : Str)) : insideB (halfL zs k z c) zs = true := by
  have e : insideB (halfL zs k z c) ((zs.take k ++ [z]) ++ zs.drop (k + 1)) = true := by
    unfold halfL
    rw [inside_app (by rw [List.length_append, List.length_append]; rfl), inside_app rfl, inside_self, inside_self]
    have m := m_half z (hz z (List.mem_of_getElem? h.1)) h.2.1
    have s : insideB [z ++ c] [z] = true := by
      show (Txt.startswith (z ++ c) z && true) = true
      rw [st_eq, Bool.and_true]
      rcases hc with rfl | rfl
      · exact m.2.1
      · exact m.2.2
    rw [s]
    rfl
  rw [split_at h.1] at e
  exact e
theorem vol_one : ∀ {zs : List Str}, volN zs = 1 → ∀ u ∈ zs, ¬ u.length < 5
  | [], _, u, m => by cases m
  | z :: zs, h, u, m => by
    rw [vol_cons] at h
    have a : volF z = 1 := Nat.eq_one_of_dvd_one ⟨_, h.symm⟩
    have b : volN zs = 1 := Nat.eq_one_of_dvd_one ⟨volF z, by rw [Nat.mul_comm]; exact h.symm⟩
    rcases List.mem_cons.mp m with rfl | m
    · intro lt
      have : ∀ l, l < 5 → 32 / 2 ^ l ≠ 1 := by decide
      exact this _ lt a
    · exact vol_one b u m
end VQ
namespace VQ
open PySem L2 LamX
theorem m_vol : ∀ z ∈ begs, (underN z).length = 32 / 2 ^ z.length := by decide +kernel
theorem under_worth {z : Str} {v : V} (h : v ∈ (underL z).map V.int) : IsW v := by
  obtain ⟨i, m, rfl⟩ := List.mem_map.mp h
  obtain ⟨n, m', rfl⟩ := List.mem_map.mp m
  unfold underN at m'
  have := (List.mem_filter.mp m').1
  exact ⟨n, rfl, List.mem_range.mp this⟩
theorem under_len {z : Str} (h : z ∈ begs) : 1 ≤ ((underL z).map V.int).length ∧ ((underL z).map V.int).length < 1000 := by
  unfold underL
  rw [List.length_map, List.length_map, m_vol z h]
  have l := begs_len z h
  have a : 2 ^ z.length ≤ 32 := Nat.le_trans (Nat.pow_le_pow_right (by decide) l) (by decide)
  have p : 0 < 2 ^ z.length := Nat.pow_pos (by decide)
  refine ⟨Nat.div_pos a p, ?_⟩
  exact Nat.lt_of_le_of_lt (Nat.div_le_self _ _) (by decide)
end VQ
namespace VQ
open PySem L2 LamX
/-! ### points handed in -/
def PtAt (H : Hp) (a : Addr) (ns : List Nat) : Prop := H a = some (.tup (ns.map numV)) ∧ (∀ n ∈ ns, n < 32) ∧ ns.length ≤ 5
theorem nums_inj : ∀ {ns ms : List Nat}, ns.map numV = ms.map numV → ns = ms
  | [], [], _ => rfl
  | [], _ :: _, h => by cases h
  | _ :: _, [], h => by cases h
  | n :: ns, m :: ms, h => by
    rw [List.map_cons, List.map_cons] at h
    injection h with h1 h2
    injection h1 with h1
    rw [Int.ofNat.inj h1, nums_inj h2]
section
variable {K : PySem.W.Frag} {H H' : Hp}
theorem PtAt.same {a : Addr} {ns : List Nat} (h : PtAt H a ns) (s : Same H H') : PtAt H' a ns := ⟨s _ _ h.1, h.2⟩
theorem PtAt.keep {a b : Addr} {ns : List Nat} (h : PtAt H a ns) (B : Bag H b) (k : Keep b H H') : PtAt H' a ns := ⟨k.tup B h.1, h.2⟩
theorem PtAt.extN {a : Addr} {ns : List Nat} (h : PtAt H a ns) (e : ExtN H H') : PtAt H' a ns := ⟨e _ _ h.1 (fun ps z => by cases z), h.2⟩
theorem PtAt.thing {a : Addr} {ns : List Nat} (h : PtAt H a ns) : Thing K H (.ref a) (some (ns.map numV)) := by
  refine .tup h.1 (fun x m => ?_) (by rw [List.length_map]; exact Nat.le_trans h.2.2 (by decide))
  obtain ⟨n, _, rfl⟩ := List.mem_map.mp m
  exact Part.int _
theorem PtAt.is {a : Addr} {ns : List Nat} (h : PtAt H a ns) (h1 : 1 ≤ ns.length) : IsPtS ns := ⟨h.2.1, h1, h.2.2⟩
end
end VQ
namespace VQ
open PySem L2 LamX
abbrev sLaw : Stmt := top 45
abbrev nLaw : List Str := ["_law_script", "_law_bag_here", "_law_turn", "_law_many", "_law_one", "_law_other", "_law_both", "_law_k", "_law_point", "_law_box_here", "_law_parts"]
abbrev nLaw2 : List Str := ["_law_script", "_law_bag_here", "_law_turn", "_law_many", "_law_one", "_law_other", "_law_both", "_law_k", "_law_point", "_law_box_here", "_law_parts", "_law_beginning"]
/-- law's promise, where it makes no lambdas -/
def spLawN (K : PySem.W.Frag) : Sp := fun vs H Q _ => ∃ (a : Addr) (ns : List Int), vs = [.ref a] ∧ SqL K H a (ns.map V.int) ∧ ns.length ≤ 63 ∧ ∀ H', Q (.bl true) H'
theorem holds_snoc {zs : List Str} {ns : List Nat} {z : Str} {n : Nat} (l : ns.length = zs.length) : holdsB (zs ++ [z]) (ns ++ [n]) = (holdsB zs ns && beginsB (fig n) z) := by
  unfold holdsB
  rw [List.zipWith_append l, List.all_append]
  show (_ && (beginsB (fig n) z && true)) = _
  rw [Bool.and_true]
theorem under_begins {z : Str} {v : V} (h : v ∈ (underL z).map V.int) : ∃ n : Nat, v = numV n ∧ n < 32 ∧ beginsB (fig n) z = true := by
  obtain ⟨i, m, rfl⟩ := List.mem_map.mp h
  obtain ⟨n, m', rfl⟩ := List.mem_map.mp m
  unfold underN at m'
  obtain ⟨a, b⟩ := List.mem_filter.mp m'
  exact ⟨n, rfl, List.mem_range.mp a, b⟩
theorem lay_box {zs : List Str} (h : ∀ z ∈ zs, z ∈ begs) : Lay 1 (.tuple (zs.map PyData.str)) := .tuple fun d m => by
  obtain ⟨z, mz, rfl⟩ := List.mem_map.mp m
  refine .str _ fun c mc => ?_
  rcases sign_two (beg_signs (h z mz) c mc) with rfl | rfl <;> decide
section
variable {P : Program} {w : World} {K : PySem.W.Frag} {mg : Str → Option Value} {base : Heap}
theorem scLaw : FnScope nLaw ["_law_script"] (defScope sLaw) := ⟨rfl, rfl, rfl, by decide +kernel, rfl, by decide +kernel, by decide +kernel⟩
theorem ndLaw : nLaw2.Nodup := by decide +kernel
theorem ok_law {f : Addr} {fd : FuncData} {fB fP fO fW fG fBg fUn fBx fSe fLl fIw fIb fNe fFi fBr fIp fIx fIq fNb fNp fNa fNs fVo fHo fLi fWi fLo fLs fMe fJo fHa CB fIB CU fIU CP fIP CW fIW CG fIG : Addr}
    {fdB fdP fdO fdW fdG fdBg fdUn fdBx fdSe fdLl fdIw fdIb fdNe fdFi fdBr fdIp fdIx fdIq fdNb fdNp fdNa fdNs fdVo fdHo fdLi fdWi fdLo fdLs fdMe fdJo fdHa fdIB fdIU fdIP fdIW fdIG : FuncData} {tk5 tkM tkW : Tok} (F : Fun K "law" "law" sLaw f fd)
    (b : Blt mg) (zp : mg "zip" = none) (en : mg "enumerate" = none) (Wo : mg "WORTHS" = some (.int 32 tkW)) (Fg : mg "FIGURES" = some (.int 5 tk5)) (M : mg "MOST_PLACES" = some (.int 5 tkM))
    (aB : At K mg "_law_bag" sBag ["_law_script"] fB fdB) (aP : At K mg "_law_pull" sPull ["_law_bag_here", "_law_size"] fP fdP) (aO : At K mg "_law_of" sOf ["_law_bag_here", "_law_some"] fO fdO)
    (aW : At K mg "_law_worth" sWorth ["_law_bag_here"] fW fdW) (aG : At K mg "_law_figs" sFigs ["_law_worth_here"] fG fdG) (aBg : At K mg "_law_begin" sBegin ["_law_bag_here"] fBg fdBg) (aUn : At K mg "_law_under" sUnder ["_law_beginning"] fUn fdUn)
    (aBx : At K mg "_law_box" sBox ["_law_bag_here", "_law_many"] fBx fdBx) (aSe : At K mg "_law_seam_box" sSeam ["_law_bag_here", "_law_box_here"] fSe fdSe) (aLl : At K mg "_law_longer" sLongerL ["_law_bag_here", "_law_one"] fLl fdLl)
    (aIw : AtW K mg "is_worth" sIsWorth ["thing"] fIw fdIw) (aIb : At K mg "is_beginning" sIsBeg ["thing"] fIb fdIb) (aNe : At K mg "need_beginning" sNeedBeg ["beginning"] fNe fdNe) (aFi : At K mg "figures" sFigures ["worth"] fFi fdFi) (aBr : At K mg "brother" sBrother ["beginning"] fBr fdBr)
    (aIp : At K mg "is_places" sIsPlaces ["thing"] fIp fdIp) (aIx : At K mg "is_box" sIsBox ["thing"] fIx fdIx) (aIq : At K mg "is_point" sIsPoint ["thing"] fIq fdIq) (aNb : At K mg "need_box" sNeedBox ["box"] fNb fdNb) (aNp : At K mg "need_point" sNeedPoint ["point"] fNp fdNp) (aNa : At K mg "need_alike" sNeedAlike ["one", "other"] fNa fdNa) (aNs : At K mg "need_boxes" sNeedBoxes ["one", "other"] fNs fdNs)
    (aVo : At K mg "volume" sVolume ["box"] fVo fdVo) (aHo : At K mg "holds" sHolds ["box", "point"] fHo fdHo) (aLi : At K mg "lies_in" sLies ["one", "other"] fLi fdLi) (aWi : At K mg "within" sWithin ["one", "other"] fWi fdWi) (aLo : At K mg "longer" sLonger ["one", "other"] fLo fdLo) (aLs : At K mg "longer_ones" sLongers ["one", "other"] fLs fdLs)
    (aMe : At K mg "meet" sMeet ["one", "other"] fMe fdMe) (aJo : At K mg "joined" sJoined ["one", "other"] fJo fdJo) (aHa : At K mg "halves" sHalves ["box"] fHa fdHa)
    (EB : ErrC K mg "BadBox" CB fIB fdIB "BadBox.__init__" sBadBox) (EU : ErrC K mg "Unlike" CU fIU fdIU "Unlike.__init__" sUnlike) (EP : ErrC K mg "BadPoint" CP fIP fdIP "BadPoint.__init__" sBadPoint) (EW : ErrC K mg "BadWorth" CW fIW fdIW "BadWorth.__init__" sBadWorth) (EG : ErrC K mg "BadBeginning" CG fIG fdIG "BadBeginning.__init__" sBadBeg) :
    FnOk P w K mg base CX0 7 f fd ["_law_script"] (spLawN K) := by
  have GB : FnOk P w K mg base CX0 1 fB fdB ["_law_script"] (spBag K) := ok_bag aB.fn b.list
  have GP : FnOk P w K mg base CX0 1 fP fdP ["_law_bag_here", "_law_size"] spPull := ok_pull aP.fn b.len
  have GO : FnOk P w K mg base CX0 2 fO fdO ["_law_bag_here", "_law_some"] (spOf K) := ok_of aO.fn b.len aP
  have GW : FnOk P w K mg base CX0 3 fW fdW ["_law_bag_here"] (spDraw fun i => 0 ≤ i ∧ i < 32) := ok_worth aW.fn b.len aP aO
  have GBg : FnOk P w K mg base CX0 4 fBg fdBg ["_law_bag_here"] spBegin := ok_begin aBg.fn b aP aO aW aG
  have GUn : FnOk P w K mg base CX0 2 fUn fdUn ["_law_beginning"] spUnder := ok_under aUn.fn b aG
  have GBx : FnOk P w K mg base CX0 5 fBx fdBx ["_law_bag_here", "_law_many"] (spTupDraw IsBeg) := ok_box aBx.fn b aBg GBg
  have GLl : FnOk P w K mg base CX0 4 fLl fdLl ["_law_bag_here", "_law_one"] spLongerL := ok_longerL aLl.fn b aP aW aG GW
  have GSe : FnOk P w K mg base CX0 5 fSe fdSe ["_law_bag_here", "_law_box_here"] spSeam := ok_seam aSe.fn b en aP aLl GLl
  have GIq : FnOk P w K mg base CX0 3 fIq fdIq ["thing"] (spIs K worthB) := ok_ispoint aIq.fn b M Wo aIw aIp
  have GNb : FnOk P w K mg base (L2.CX P w) 3 fNb fdNb ["box"] (spNeedT K begB CB "BadBox") := ok_needbox aNb.fn b M Fg aIb aIp aIx EB
  have GNp : FnOk P w K mg base (L2.CX P w) 4 fNp fdNp ["point"] (spNeedT K worthB CP "BadPoint") := ok_needpoint aNp.fn aIq GIq EP
  have GNa : FnOk P w K mg base (L2.CX P w) 3 fNa fdNa ["one", "other"] (spAlikeT K CU) := ok_needalike aNa.fn b EU
  have GNs : FnOk P w K mg base (L2.CX P w) 4 fNs fdNs ["one", "other"] (spTwo K CB CU fun _ _ H Q => ∀ H', Same H H' → Q .non H') := ok_needboxes aNs.fn b M Fg aIb aIp aIx aNb aNa EB EU
  have GFi : FnOk P w K mg base (L2.CX P w) 3 fFi fdFi ["worth"] (spFigures K CW) := ok_figures aFi.fn b Wo Fg aIw EW
  have GVo : FnOk P w K mg base (L2.CX P w) 4 fVo fdVo ["box"] (spVolume K CB) := ok_volume aVo.fn b Wo aNb GNb
  have GHo : FnOk P w K mg base (L2.CX P w) 5 fHo fdHo ["box", "point"] (spHolds K CB CP CU) := ok_holds aHo.fn b zp aNb aNp aNa aFi GNb GNp GNa GFi
  have GLs : FnOk P w K mg base CX0 2 fLs fdLs ["one", "other"] spLongers := ok_longers aLs.fn zp aLo
  have GMe : FnOk P w K mg base (L2.CX P w) 5 fMe fdMe ["one", "other"] (spTwo K CB CU rMeet) := ok_meet aMe.fn b aNs aLs GNs GLs
  have GLi : FnOk P w K mg base (L2.CX P w) 5 fLi fdLi ["one", "other"] (spTwo K CB CU rLies) := ok_lies aLi.fn b zp aNs aWi GNs
  have GBr : FnOk P w K mg base (L2.CX P w) 4 fBr fdBr ["beginning"] (spBrother K CG) := ok_brother aBr.fn b Fg aIb aNe EG
  have GJ : FnOk P w K mg base (L2.CX P w) 5 fJo fdJo ["one", "other"] (spTwo K CB CU rJoin) := ok_joined aJo.fn b aNs aLs aBr GNs GLs GBr
  have GHa : FnOk P w K mg base (L2.CX P w) 4 fHa fdHa ["box"] (spHalves K CB) := ok_halves aHa.fn b en Fg aNb GNb
  refine F.ok scLaw (fun vs H Q E h => ?_) (fun cdv A outer s H vs Q E hr h => ?_)
  · obtain ⟨a, ns, rfl, _⟩ := h
    rfl
  · obtain ⟨a, ns, rfl, hS, hlen, k⟩ := h
    have hr1 : Room 1 _ := hr.mono (by decide)
    have hr2 : Room 2 _ := hr.mono (by decide)
    have hr4 : Room 4 _ := hr.mono (by decide)
    have hr5 : Room 5 _ := hr.mono (by decide)
    have hu : (A.deeper (PyProof.Rows.envOfC "law" (defScope sLaw) s.heap.objs.size f cdv)).units + 64 < cLine := hr.units
    refine ⟨_, PSs.nox (pss_cons (ps_set (i := 1) scLaw.nd rfl (.inr rfl) (pe_call GB hr1 rfl aB.gl aB.fn.kp aB.bd .nil pass0 (pa_cons (pv 0) pa_nil)))
      (pss_cons (ps_for PassesOwn.never rfl (pi_range1 rfl b.range (pa_cons pe_int pa_nil)) (pg_name (i := 2) scLaw.nd rfl (.inl rfl))
        (pss_cons (ps_set (i := 3) scLaw.nd rfl (.inl rfl) (pe_op op_add pe_int (pe_call GP hr1 rfl aP.gl aP.fn.kp aP.bd .nil pass0 (pa_cons (pv 1) (pa_cons pe_int pa_nil)))))
        (pss_cons (ps_set (i := 4) scLaw.nd rfl (.inl rfl) (pe_call GBx hr5 rfl aBx.gl aBx.fn.kp aBx.bd .nil pass0 (pa_cons (pv 1) (pa_cons (pv 3) pa_nil))))
        (pss_cons (ps_set (i := 5) scLaw.nd rfl (.inl rfl) (pe_call GSe hr5 rfl aSe.gl aSe.fn.kp aSe.bd .nil pass0 (pa_cons (pv 1) (pa_cons (pv 4) pa_nil))))
        (pss_cons (ps_set (i := 6) scLaw.nd rfl (.inl rfl) (pe_call GJ hr5 rfl aJo.gl aJo.fn.kp aJo.bd .nil passCX (pa_cons (pv 4) (pa_cons (pv 5) pa_nil))))
        (C8.pss_cut (ps_if (pt_cmpR op_notN (pv 6) pe_non (nomark _))
          (pss_cons (ps_if (PW.pt (pw_or (pt_cmpR op_notN (pe_call GMe hr5 rfl aMe.gl aMe.fn.kp aMe.bd .nil passCX (pa_cons (pv 4) (pa_cons (pv 5) pa_nil))) pe_non (nomark _))
              (pw_or1 (pt_cmpR op_gt (pe_call GVo hr4 rfl aVo.gl aVo.fn.kp aVo.bd .nil passCX (pa_cons (pv 6) pa_nil)) (pe_op op_add (pe_call GVo hr4 rfl aVo.gl aVo.fn.kp aVo.bd .nil passCX (pa_cons (pv 4) pa_nil)) (pe_call GVo hr4 rfl aVo.gl aVo.fn.kp aVo.bd .nil passCX (pa_cons (pv 5) pa_nil))) (nomark _))))) (pss_one (ps_ret pe_bl)) pss_nil)
          (pss_one (ps_for PassesOwn.never rfl (pi_range1 rfl b.range (pa_cons pe_int pa_nil)) (pg_name (i := 7) scLaw.nd rfl (.inl rfl))
            (pss_cons (ps_set (i := 8) scLaw.nd rfl (.inl rfl) (pe_callTy call_tuple_of (by rfl) b.tuple (by decide +kernel) (pa_cons
              (pe_more ["_law_beginning"] (pe_lc (own := [("_law_beginning", 11)]) (g := gName 11) (tt := tYes) (te := tCall (spOf K) [] E0 (tCons (tVar 1) (tCons (tCall spUnder [] E0 (tCons (tVar 11) tNil)) tNil))) rfl ndLaw (pi_tup (pv 6))
                (blkOk_by (N := nLaw2) (sc := defScope sLaw) (by decide +kernel)) (fun _ _ _ _ _ => pg_name (i := 11) ndLaw rfl (.inl rfl)) (fun _ _ _ _ _ => pts_nil)
                (fun _ _ _ _ _ => pe_call GO hr2 rfl aO.gl aO.fn.kp aO.bd .nil pass0 (pa_cons (pv 1) (pa_cons (pe_call GUn hr2 rfl aUn.gl aUn.fn.kp aUn.bd .nil pass0 (pa_cons (pv 11) pa_nil)) pa_nil))))) pa_nil)))
            (pss_one (ps_if (PW.pt (pw_or (pt_cmpR op_eq (pe_call GHo hr5 rfl aHo.gl aHo.fn.kp aHo.bd .nil passCX (pa_cons (pv 4) (pa_cons (pv 8) pa_nil))) (pe_call GHo hr5 rfl aHo.gl aHo.fn.kp aHo.bd .nil passCX (pa_cons (pv 5) (pa_cons (pv 8) pa_nil))) (nomark _))
              (pw_or1 (pt_not (pt_val (pe_call GHo hr5 rfl aHo.gl aHo.fn.kp aHo.bd .nil passCX (pa_cons (pv 6) (pa_cons (pv 8) pa_nil)))))))) (pss_one (ps_ret pe_bl)) pss_nil)))))) pss_nil)
        (pss_cons (ps_set (i := 9) scLaw.nd rfl (.inl rfl) (pv 4))
        (C8.pss_cut (ps_for PassesOwn.never rfl (pi_range1 rfl b.range (pa_cons pe_int pa_nil)) (pg_name (i := 7) scLaw.nd rfl (.inl rfl))
          (pss_cons (ps_set (i := 10) scLaw.nd rfl (.inl rfl) (pe_call GHa hr4 rfl aHa.gl aHa.fn.kp aHa.bd .nil passCX (pa_cons (pv 9) pa_nil)))
          (pss_cons (ps_if (pt_cmpR (op_eqD hu) (pv 10) (pe_lst pa_nil) (nomark _)) (pss_one ps_break) pss_nil)
          (pss_cons (ps_if (PW.pt (pw_or (pt_cmpR (op_neD hu) (pe_call GJ hr5 rfl aJo.gl aJo.fn.kp aJo.bd .nil passCX (pa_cons (pe_ix ix_list (pv 10) pe_int fun _ _ => rfl) (pa_cons (pe_ix ix_list (pv 10) pe_int fun _ _ => rfl) pa_nil))) (pv 9) (nomark _))
              (pw_or1 (pt_cmpR op_ne (pe_op op_add (pe_call GVo hr4 rfl aVo.gl aVo.fn.kp aVo.bd .nil passCX (pa_cons (pe_ix ix_list (pv 10) pe_int fun _ _ => rfl) pa_nil)) (pe_call GVo hr4 rfl aVo.gl aVo.fn.kp aVo.bd .nil passCX (pa_cons (pe_ix ix_list (pv 10) pe_int fun _ _ => rfl) pa_nil))) (pe_call GVo hr4 rfl aVo.gl aVo.fn.kp aVo.bd .nil passCX (pa_cons (pv 9) pa_nil)) (nomark _))))) (pss_one (ps_ret pe_bl)) pss_nil)
          (pss_cons (ps_if (PW.pt (pw_or (pt_not (pt_val (pe_call GLi hr5 rfl aLi.gl aLi.fn.kp aLi.bd .nil passCX (pa_cons (pe_ix ix_list (pv 10) pe_int fun _ _ => rfl) (pa_cons (pv 9) pa_nil)))))
              (pw_or1 (pt_not (pt_val (pe_call GLi hr5 rfl aLi.gl aLi.fn.kp aLi.bd .nil passCX (pa_cons (pe_ix ix_list (pv 10) pe_int fun _ _ => rfl) (pa_cons (pv 9) pa_nil)))))))) (pss_one (ps_ret pe_bl)) pss_nil)
          (pss_one (ps_set (i := 9) scLaw.nd rfl (.inl rfl) (pe_call GO hr2 rfl aO.gl aO.fn.kp aO.bd .nil pass0 (pa_cons (pv 1) (pa_cons (pv 10) pa_nil))))))))))
        (pss_one (ps_if (PW.pt (pw_and (pt_cmpR op_eq (pe_call GVo hr4 rfl aVo.gl aVo.fn.kp aVo.bd .nil passCX (pa_cons (pv 9) pa_nil)) pe_int (nomark _)) (pw_and1 (pt_cmpR (op_neD hu) (pe_call GHa hr4 rfl aHa.gl aHa.fn.kp aHa.bd .nil passCX (pa_cons (pv 9) pa_nil)) (pe_lst pa_nil) (nomark _))))) (pss_one (ps_ret pe_bl)) pss_nil))))))))))
      (pss_one (ps_ret pe_bl)))), ?_⟩
    refine ⟨_, rfl, a, ns, rfl, hS, hlen, fun bg H1 nb B1 s1 => ?_⟩
    refine ⟨5, rfl, by decide, by decide, for_range (lo := 0) (n := 5) (fun i σ H' => Bag H' bg ∧ ∃ v2 v3 v4 v5 v6 v7 v8 v9 v10 : Option V, σ = [some (.ref a), some (.ref bg), v2, v3, v4, v5, v6, v7, v8, v9, v10]) ⟨B1, none, none, none, none, none, none, none, none, none, rfl⟩ ?_ ?_⟩
    · rintro i σ H2 hi ⟨B2, v2, v3, v4, v5, v6, v7, v8, v9, v10, rfl⟩
      refine ⟨_, rfl, bg, 5, rfl, B2, by decide, by decide, fun d H3 d0 d5 B3 k3 => ⟨1, d, rfl, rfl, ?_⟩⟩
      obtain ⟨m, rfl⟩ := Int.eq_ofNat_of_zero_le d0
      have em : (1 : Int) + (m : Int) = ((m + 1 : Nat) : Int) := by omega
      refine ⟨_, rfl, _, rfl, bg, m + 1, congrArg (fun t : Int => [V.ref bg, V.int t]) em, B3, by omega, fun q1 xs H4 lx ex n1 h4 B4 k4 => ?_⟩
      obtain ⟨zs, rfl, hzs⟩ := begs_of ex
      rw [List.length_map] at lx
      have x4 : BoxAt H4 q1 zs := ⟨h4, hzs, by omega⟩
      have z1 : 1 ≤ zs.length := by omega
      refine ⟨_, rfl, _, rfl, bg, q1, zs, rfl, B4, x4, z1, fun q2 ws H5 lw hws n2 h5 B5 k5 => ?_⟩
      have x1 := x4.keep B4 k5
      have x2 : BoxAt H5 q2 ws := ⟨h5, hws, by omega⟩
      have w1 : 1 ≤ ws.length := by omega
      refine ⟨_, rfl, _, rfl, two_ok x1 x2 z1 lw.symm fun both H6 s6 hj => ?_⟩
      have B6 := B5.same s6
      have y1 := x1.same s6
      have y2 := x2.same s6
      -- where they make a box
      refine ⟨fun σ' H' => Bag H' bg ∧ BoxAt H' q1 zs ∧ ∃ v7' v8' : Option V, σ' = [some (.ref a), some (.ref bg), some (.int (0 + (i : Int))), some (.int (1 + (m : Int))), some (.ref q1), some (.ref q2), some both, v7', v8', v9, v10], ?_, ?_⟩
      · refine ⟨_, rfl, rfl, _, rfl, ?_⟩
        cases ej : joinM zs ws with
        | none =>
          rw [ej] at hj
          have bn : both = .non := hj
          subst bn
          exact ⟨B6, y1, _, _, rfl⟩
        | some us =>
          rw [ej] at hj
          obtain ⟨l, rfl, hl⟩ := hj
          have jl := joinM_some ej
          have hus := join_begs hzs hws jl
          have lus : us.length = zs.length := by
            have := (join_count hzs hws jl).2
            omega
          have y3 : BoxAt H6 l us := ⟨hl, hus, by omega⟩
          have nb' : ∀ {H' : Hp} {q : Addr} {vs : List Str}, BoxAt H' q vs → 1 ≤ vs.length → ¬ allO begB (some (vs.map V.str)) = false := fun h h1 => by rw [box_allO (h.is h1)]; decide
          show _
          refine ⟨_, rfl, _, rfl, two_ok y1 y2 z1 lw.symm ⟨fun _ H7 s7 => ?_, fun no => ?_⟩⟩
          · refine ⟨rfl, _, rfl, ?_⟩
            refine ⟨_, rfl, .ref l, _, rfl, (y3.same s7).thing, fun zs' ez _ H8 s8 => ?_, fun no => absurd no (nb' y3 (by omega))⟩
            have ez := strs_inj (Option.some.inj ez)
            subst ez
            have s78 := s7.trans s8
            refine ⟨_, rfl, .ref q1, _, rfl, (y1.same s78).thing, fun zs' ez _ H9 s9 => ?_, fun no => absurd no (nb' y1 z1)⟩
            have ez := strs_inj (Option.some.inj ez)
            subst ez
            have s79 := s78.trans s9
            refine ⟨_, rfl, .ref q2, _, rfl, (y2.same s79).thing, fun zs' ez _ H10 s10 => ?_, fun no => absurd no (nb' y2 w1)⟩
            have ez := strs_inj (Option.some.inj ez)
            subst ez
            have vle := (join_vol hzs hws lw.symm jl).2 rfl
            refine ⟨_, _, rfl, rfl, _, _, rfl, rfl, _, rfl, ?_⟩
            rw [decide_eq_false (show ¬ ((volN zs : Nat) : Int) + ((volN ws : Nat) : Int) < ((volN us : Nat) : Int) by omega)]
            refine iteF ?_
            have s610 := s79.trans s10
            refine ⟨6, rfl, by decide, by decide, for_range (lo := 0) (n := 6) (fun j σ H' => Bag H' bg ∧ BoxAt H' q1 zs ∧ BoxAt H' q2 ws ∧ BoxAt H' l us ∧ ∃ v7' v8' : Option V, σ = [some (.ref a), some (.ref bg), some (.int (0 + (i : Int))), some (.int (1 + (m : Int))), some (.ref q1), some (.ref q2), some (.ref l), v7', v8', v9, v10]) ⟨B6.same s610, y1.same s610, y2.same s610, y3.same s610, _, _, rfl⟩ ?_ ?_⟩
            · rintro j σ H11 hj ⟨B11, o1, o2, o3, v7', v8', rfl⟩
              refine ⟨_, rfl, l, rfl, ⟨_, SqT.of o3.1⟩, fun D hD => ?_⟩
              obtain ⟨B12, K12⟩ := Bag.put (o := .lst []) B11 hD (Keep.refl bg H11) B11
              have Db : D ≠ bg := B11.ne hD
              refine lc_tup (xs := us.map V.str) (fun t H' => Bag H' bg ∧ Keep bg H11 H' ∧ ∃ ps : List Nat, ps.length = t ∧ (∀ n ∈ ps, n < 32) ∧ holdsB (us.take t) ps = true ∧ H' D = some (.lst (ps.map numV))) ⟨B12, K12, [], rfl, (fun n m => by cases m), rfl, upd_same⟩ (fun t H' _ q => SqT.of (q.2.1.tup B11 o3.1)) ?_ ?_
              · rintro t x H13 hx ⟨B13, K13, ps, lp, hps, hh, h13⟩
                obtain ⟨z, ez, rfl⟩ := map_get hx
                have lt : t < us.length := (List.getElem?_eq_some_iff.mp ez).1
                have zb := hus z (List.mem_of_getElem? ez)
                refine ⟨rfl, yes_turn ?_⟩
                refine ⟨_, rfl, _, rfl, z, rfl, Nat.le_trans (begs_len z zb) (by decide), fun p H14 n14 s14 h14 => ?_⟩
                obtain ⟨u1, u2⟩ := under_len zb
                refine ⟨bg, p, _, rfl, B13.same s14, B13.ne n14, SqL.of h14, u1, u2, fun v H15 mv B15 K15 => ?_⟩
                obtain ⟨n, rfl, ln, bn⟩ := under_begins mv
                have K1115 := (K13.trans (Same.keep s14)).trans K15
                obtain ⟨B16, K16⟩ := Bag.put (o := .lst (ps.map numV ++ [numV n])) B11 hD K1115 B15
                refine ⟨_, K15.1 _ _ Db (s14 _ _ h13), by rw [List.length_map, lp]; exact Nat.lt_of_lt_of_le (show t < 6 by omega) (by decide), B16, K16, ps ++ [n], by rw [List.length_append, lp]; rfl, fun x mx => ?_, ?_, by rw [upd_same, List.map_append]; rfl⟩
                · rcases List.mem_append.mp mx with mx | mx
                  · exact hps x mx
                  · rw [List.mem_singleton.mp mx]
                    exact ln
                · rw [List.take_add_one, ez]
                  show holdsB (us.take t ++ [z]) (ps ++ [n]) = true
                  rw [holds_snoc (by rw [List.length_take]; omega), hh, bn]
                  rfl
              · rintro H13 ⟨B13, K13, ps, lp, hps, hh, h13⟩
                rw [List.length_map] at lp hh
                rw [List.take_of_length_le (Nat.le_refl _)] at hh
                refine ⟨D, _, rfl, .inl ⟨SqL.of h13, fun q hq => ?_⟩⟩
                have s14 := same_new (o := HO.tup (ps.map numV)) hq
                have pt : PtAt (upd H13 q (.tup (ps.map numV))) q ps := ⟨upd_same, hps, by omega⟩
                have r1 := (o1.keep B11 K13).same s14
                have r2 := (o2.keep B11 K13).same s14
                have r3 := (o3.keep B11 K13).same s14
                have nop : ¬ allO worthB (some (ps.map numV)) = false := by rw [point_allO (pt.is (by omega))]; decide
                have cov := (join_cover hzs hws hps lw.symm (by omega) jl hh).2 rfl
                -- the one
                refine ⟨_, rfl, _, rfl, .ref q1, .ref q, _, _, rfl, r1.thing, pt.thing, fun zs' ns' ez en' _ _ _ H15 s15 => ?_, fun no => absurd no (nb' r1 z1), fun _ no => absurd no nop, fun zs' ns' ez en' _ _ ne => absurd (by rw [← strs_inj (Option.some.inj ez), ← nums_inj (Option.some.inj en')]; omega) ne⟩
                have ez := strs_inj (Option.some.inj ez)
                have en' := nums_inj (Option.some.inj en')
                subst ez en'
                refine ⟨_, rfl, _, rfl, .ref q2, .ref q, _, _, rfl, (r2.same s15).thing, (pt.same s15).thing, fun zs' ns' ez en' _ _ _ H16 s16 => ?_, fun no => absurd no (nb' r2 w1), fun _ no => absurd no nop, fun zs' ns' ez en' _ _ ne => absurd (by rw [← strs_inj (Option.some.inj ez), ← nums_inj (Option.some.inj en')]; omega) ne⟩
                have ez := strs_inj (Option.some.inj ez)
                have en' := nums_inj (Option.some.inj en')
                subst ez en'
                have s1416 := s15.trans s16
                refine ⟨rfl, _, rfl, ?_⟩
                rw [decide_eq_false (show ¬ V.bl (holdsB zs ps) = V.bl (holdsB ws ps) from fun e => by
                  injection e with e
                  rw [e] at cov
                  cases q : holdsB ws ps <;> rw [q] at cov <;> cases cov)]
                refine iteF ⟨_, rfl, _, rfl, .ref l, .ref q, _, _, rfl, (r3.same s1416).thing, (pt.same s1416).thing, fun zs' ns' ez en' _ _ _ H17 s17 => ?_, fun no => absurd no (nb' r3 (by omega)), fun _ no => absurd no nop, fun zs' ns' ez en' _ _ ne => absurd (by rw [← strs_inj (Option.some.inj ez), ← nums_inj (Option.some.inj en')]; omega) ne⟩
                have ez := strs_inj (Option.some.inj ez)
                have en' := nums_inj (Option.some.inj en')
                subst ez en'
                rw [hh]
                refine ⟨_, rfl, iteF ?_⟩
                have s1417 := s1416.trans s17
                exact ⟨(B13.same s14).same s1417, r1.same s1417, r2.same s1417, r3.same s1417, _, _, rfl⟩
            · rintro σ H11 ⟨B11, o1, o2, o3, v7', v8', rfl⟩
              exact ⟨B11, o1, _, _, rfl⟩
          · rw [join_apart hzs hws jl] at no
            cases no
      rintro σ' H7 ⟨B7, x7, v7', v8', rfl⟩
      refine ⟨_, rfl, ?_⟩
      -- halved to its points
      refine ⟨fun σ' H' => Bag H' bg ∧ ∃ (q : Addr) (us : List Str) (v7'' v10' : Option V), σ' = [some (.ref a), some (.ref bg), some (.int (0 + (i : Int))), some (.int (1 + (m : Int))), some (.ref q1), some (.ref q2), some both, v7'', v8', some (.ref q), v10'] ∧ BoxAt H' q us ∧ 1 ≤ us.length, ?_, ?_⟩
      · refine ⟨25, rfl, by decide, by decide, for_range (lo := 0) (n := 25) (fun j σ H' => Bag H' bg ∧ ∃ (q : Addr) (us : List Str) (v7'' v10' : Option V), σ = [some (.ref a), some (.ref bg), some (.int (0 + (i : Int))), some (.int (1 + (m : Int))), some (.ref q1), some (.ref q2), some both, v7'', v8', some (.ref q), v10'] ∧ BoxAt H' q us ∧ 1 ≤ us.length) ⟨B7, q1, zs, _, _, rfl, x7, z1⟩ ?_ ?_⟩
        · rintro j σ H8 hj' ⟨B8, q, us, v7'', v10', rfl, o8, u1⟩
          have nbx : ¬ allO begB (some (us.map V.str)) = false := by rw [box_allO (o8.is u1)]; decide
          have hus := o8.2.1
          refine ⟨_, rfl, .ref q, _, rfl, o8.thing, fun zs' ez _ D H9 n9 s9 hv => ?_, fun no => absurd no nbx⟩
          have ez := strs_inj (Option.some.inj ez)
          subst ez
          have B9 := B8.same s9
          have o9 := o8.same s9
          rcases hv with ⟨h9, _⟩ | ⟨kf, z, pa, pb, fo, h9, ha9, hb9⟩
          · refine ⟨_, rfl, by show 0 ≤ sizeLine; decide, fun p fp => ?_⟩
            have s10 := same_new (o := HO.lst []) fp
            refine ⟨.list [], .list [], .lst (SqL.of (s10 _ _ h9)) .nil, .lst (SqL.of upd_same) .nil, by decide +kernel, by decide +kernel, _, rfl, ?_⟩
            rw [eqv_nil]
            exact ⟨B9.same s10, q, us, _, _, rfl, o9.same s10, u1⟩
          · refine ⟨_, rfl, by show 0 ≤ sizeLine; decide, fun p fp => ?_⟩
            have s10 := same_new (o := HO.lst []) fp
            have l5 := o8.2.2
            have b0 := half_begs hus fo (.inl rfl)
            have b1 := half_begs hus fo (.inr rfl)
            have e0 : (halfL us kf z "0").length = us.length := half_len' fo.1
            have e1 : (halfL us kf z "1").length = us.length := half_len' fo.1
            have two : Lay 2 (.list [.tuple ((halfL us kf z "0").map PyData.str), .tuple ((halfL us kf z "1").map PyData.str)]) := .list fun d md => by
              rcases List.mem_cons.mp md with rfl | md
              · exact lay_box b0
              · rw [List.mem_singleton.mp md]
                exact lay_box b1
            refine ⟨_, .list [], .lst (SqL.of (s10 _ _ h9)) (.cons (.tup (SqT.of (s10 _ _ ha9)) (dp_strs _)) (.cons (.tup (SqT.of (s10 _ _ hb9)) (dp_strs _)) .nil)), .lst (SqL.of upd_same) .nil, two.shaped (by decide), by decide +kernel, _, rfl, ?_⟩
            rw [eqv_nil]
            have B10 := B9.same s10
            have o10 := o9.same s10
            have h10 := s10 _ _ h9
            have pa10 : BoxAt (upd H9 p (.lst [])) pa (halfL us kf z "0") := ⟨s10 _ _ ha9, b0, by omega⟩
            have pb10 : BoxAt (upd H9 p (.lst [])) pb (halfL us kf z "1") := ⟨s10 _ _ hb9, b1, by omega⟩
            have i0 : atI [V.ref pa, V.ref pb] 0 = some (.ref pa) := atI_nat (j := 0) rfl
            have i1 : atI [V.ref pa, V.ref pb] 1 = some (.ref pb) := atI_nat (j := 1) rfl
            show _
            -- put together
            refine ⟨_, rfl, D, _, _, _, rfl, rfl, SqL.of h10, i0, _, rfl, D, _, _, _, rfl, rfl, SqL.of h10, i1, ?_⟩
            refine two_ok pa10 pb10 (by omega) (by omega) fun v H11 s11 hv => ?_
            rw [half_join hus fo] at hv
            obtain ⟨l, rfl, hl⟩ := hv
            have o11 := o10.same s11
            refine ⟨_, rfl, .tuple (us.map PyData.str), .tuple (us.map PyData.str), .tup (SqT.of hl) (dp_strs _), .tup (SqT.of o11.1) (dp_strs _), (lay_box hus).shaped (by decide), (lay_box hus).shaped (by decide), _, rfl, ?_⟩
            rw [SeqAt.eqv_refl _ (lay_box hus).1]
            have pa11 := pa10.same s11
            have pb11 := pb10.same s11
            have h11 := s11 _ _ h10
            have nb0 : ¬ allO begB (some ((halfL us kf z "0").map V.str)) = false := by rw [box_allO (pa10.is (by omega))]; decide
            have nb1 : ¬ allO begB (some ((halfL us kf z "1").map V.str)) = false := by rw [box_allO (pb10.is (by omega))]; decide
            -- volumes
            refine ⟨_, rfl, D, _, _, _, rfl, rfl, SqL.of h11, i0, .ref pa, _, rfl, pa11.thing, fun zs' ez _ H12 s12 => ?_, fun no => absurd no nb0⟩
            rw [← strs_inj (Option.some.inj ez)]
            refine ⟨_, rfl, D, _, _, _, rfl, rfl, SqL.of (s12 _ _ h11), i1, .ref pb, _, rfl, (pb11.same s12).thing, fun zs' ez _ H13 s13 => ?_, fun no => absurd no nb1⟩
            rw [← strs_inj (Option.some.inj ez)]
            have s1113 := s12.trans s13
            refine ⟨_, _, rfl, rfl, _, rfl, .ref q, _, rfl, (o11.same s1113).thing, fun zs' ez _ H14 s14 => ?_, fun no => absurd no nbx⟩
            rw [← strs_inj (Option.some.inj ez)]
            have s1114 := s1113.trans s14
            refine ⟨rfl, _, rfl, ?_⟩
            have vs : V.int (((volN (halfL us kf z "0") : Nat) : Int) + ((volN (halfL us kf z "1") : Nat) : Int)) = V.int ((volN us : Nat) : Int) := by
              rw [← half_vol fo, Int.natCast_add]
            refine iteNS vs ?_
            -- lie in it
            have h14 := s1114 _ _ h11
            have pa14 := pa11.same s1114
            have pb14 := pb11.same s1114
            have o14 := o11.same s1114
            refine ⟨_, rfl, D, _, _, _, rfl, rfl, SqL.of h14, i0, _, rfl, two_ok pa14 o14 (by omega) (by omega) fun H15 s15 => ?_⟩
            rw [half_inside hus fo (.inl rfl)]
            refine ⟨_, rfl, ?_⟩
            refine ⟨_, rfl, D, _, _, _, rfl, rfl, SqL.of (s15 _ _ h14), i1, _, rfl, two_ok (pb14.same s15) (o14.same s15) (by omega) (by omega) fun H16 s16 => ?_⟩
            rw [half_inside hus fo (.inr rfl)]
            refine ⟨_, rfl, ?_⟩
            have s1016 := (s11.trans s1114).trans (s15.trans s16)
            have B16 := B10.same s1016
            have D16 : D ≠ bg := B8.ne n9
            refine ⟨_, rfl, _, rfl, bg, D, _, rfl, B16, D16, SqL.of (s1016 _ _ h10), by show 1 ≤ 2; decide, by show 2 < 1000; decide, fun v H17 mv B17 k17 => ?_⟩
            rcases List.mem_cons.mp mv with rfl | mv
            · exact ⟨B17, pa, _, _, _, rfl, (pa10.same s1016).keep B16 k17, by omega⟩
            · rw [List.mem_singleton.mp mv]
              exact ⟨B17, pb, _, _, _, rfl, (pb10.same s1016).keep B16 k17, by omega⟩
        · rintro σ H8 q
          exact q
      rintro σ' H8 ⟨B8, q, us, v7'', v10', rfl, o8, u1⟩
      have nbx : ¬ allO begB (some (us.map V.str)) = false := by rw [box_allO (o8.is u1)]; decide
      refine ⟨_, rfl, .ref q, _, rfl, o8.thing, fun zs' ez _ H9 s9 => ?_, fun no => absurd no nbx⟩
      rw [← strs_inj (Option.some.inj ez)]
      refine ⟨rfl, _, rfl, ?_⟩
      refine ite2 (fun one => ?_) (fun _ => ?_)
      · have v1 : volN us = 1 := by
          have e := of_decide_eq_true one
          injection e with e
          exact Int.ofNat.inj e
        refine ⟨_, rfl, .ref q, _, rfl, (o8.same s9).thing, fun zs' ez _ D H10 n10 s10 hv => ?_, fun no => absurd no nbx⟩
        have ez := strs_inj (Option.some.inj ez)
        subst ez
        rcases hv with ⟨h10, _⟩ | ⟨kf, z, pa, pb, fo, _⟩
        · refine ⟨by show 0 ≤ sizeLine; decide, fun p fp => ?_⟩
          have s11 := same_new (o := HO.lst []) fp
          refine ⟨.list [], .list [], .lst (SqL.of (s11 _ _ h10)) .nil, .lst (SqL.of upd_same) .nil, by decide +kernel, by decide +kernel, _, rfl, ?_⟩
          rw [eqv_nil]
          exact ⟨B8.same ((s9.trans s10).trans s11), _, _, _, _, _, _, _, _, _, rfl⟩
        · exact absurd fo.2.1 (vol_one v1 z (List.mem_of_getElem? fo.1))
      · exact ⟨B8.same s9, _, _, _, _, _, _, _, _, _, rfl⟩
    · rintro σ H2 _
      exact k _
end
end VQ
namespace VQ
open PySem L2 LamX
/-! ### what the top has left -/
def oexB (K : PySem.W.Frag) (C : Addr) : Bool := match K.lookup C with
  | some ⟨cl, _, .cls cd, sl⟩ => decide (cl = .type "type") && (match cd.mro with
    | top :: bm => decide (top = .ref C) && PySem.HandSPX.refsVE bm
    | [] => false) && decide (sl.size = 6) && decide (sl[4]? = some (some (.builtin "ValueError.__new__"))) && cd.hasDict && !cd.hasDel
  | _ => false
theorem six {sl : Array (Option Value)} {v : Option Value} (h : sl.size = 6) (e : sl[4]? = some v) : ∃ k0 k1 k2 k3 k5, sl = #[k0, k1, k2, k3, v, k5] := by
  obtain ⟨l⟩ := sl
  match l, h, e with
  | [k0, k1, k2, k3, k4, k5], _, e =>
    cases e
    exact ⟨k0, k1, k2, k3, k5, rfl⟩
theorem oexB_ok {K : PySem.W.Frag} {C : Addr} (q : oexB K C = true) : ∃ nm q N bs bm sn sub ab col dd k0 k1 k2 k3 k5, K.lookup C = some (excClassObj nm q C N bs bm true sn sub ab col dd k0 k1 k2 k3 k5 "ValueError.__new__") ∧ PySem.HandSPX.refsVE bm = true := by
  unfold oexB at q
  cases here : K.lookup C with
  | none => rw [here] at q; cases q
  | some o =>
    obtain ⟨cl, dc, dt, sl⟩ := o
    rw [here] at q
    cases dt with
    | cls cd =>
      obtain ⟨nm, bs, mro, ns, qn, hasD, sn, sub, ab, col, del⟩ := cd
      cases mro with
      | nil => simp at q
      | cons first bm =>
        simp only [Bool.and_eq_true, decide_eq_true_eq, Bool.not_eq_true'] at q
        obtain ⟨⟨⟨⟨⟨q1, q2, q3⟩, q4⟩, q5⟩, q6⟩, q7⟩ := q
        obtain ⟨k0, k1, k2, k3, k5, rfl⟩ := six q4 q5
        subst q1 q2 q6 q7
        exact ⟨nm, qn, ns, bs, bm, sn, sub, ab, col, dc, k0, k1, k2, k3, k5, rfl, q3⟩
    | _ => cases q
/-- an error class of the program: made by its own __init__, its field called -/
def errB (K : PySem.W.Frag) (x : Str) : Bool := oexB K (He.ga K x) && (decide (PySem.W.findIn K (.ref (He.ga K x)) "__setattr__" = some (some (.builtin "object.__setattr__"))) &&
  (decide (PySem.W.subIn K (.ref (He.ga K x)) (.type "BaseException") = some true) && (decide (PySem.W.typeIn K (.ref (He.ga K x)) = some (.type "type")) && (PySem.W.keepIn K (.ref (He.ga K x)) &&
  (decide (PySem.W.findIn K (.ref (He.ga K x)) "__init__" = some (some (.ref (He.ma K (He.ga K x) "__init__")))) && (decide (PySem.W.typeIn K (.ref (He.ma K (He.ga K x) "__init__")) = some (.type "function")) &&
  decide (PySem.W.findIn K (.ref (He.ga K x)) "called" = some none)))))))
theorem errB_ok {K : PySem.W.Frag} {mg : Str → Option Value} {x qual : Str} {st : Stmt} {fd : FuncData} (h : errB K x = true) (gl : mg x = some (.ref (He.ga K x))) (fn : Fun K "__init__" qual st (He.ma K (He.ga K x) "__init__") fd) (bd : Binds K fd ["self"] []) :
    ErrC K mg x (He.ga K x) (He.ma K (He.ga K x) "__init__") fd qual st := by
  obtain ⟨h1, h⟩ := He.ba h
  obtain ⟨h2, h⟩ := He.ba h
  obtain ⟨h3, h⟩ := He.ba h
  obtain ⟨h4, h⟩ := He.ba h
  obtain ⟨h5, h⟩ := He.ba h
  obtain ⟨h6, h⟩ := He.ba h
  obtain ⟨h7, h8⟩ := He.ba h
  exact ⟨gl, ⟨oexB_ok h1, of_decide_eq_true h2, of_decide_eq_true h3, of_decide_eq_true h4, h5⟩, of_decide_eq_true h6, of_decide_eq_true h7, of_decide_eq_true h8, fn, bd⟩
theorem fun_of_D {K : PySem.W.Frag} {x qual : Str} {st : Stmt} {f : Addr} {fd : FuncData} (F : FunD K x qual (defArgs st) (defBody st) (defScope st) [] [] f fd) : Fun K x qual st f fd := by
  obtain ⟨oc, od, dV, kV, doc, pm, an, cdv, ct, osl, e, lk, cd, dv, kw⟩ := F.ex
  rcases dv with ⟨_, rfl⟩ | ⟨z, _⟩
  · exact ⟨⟨oc, od, kV, doc, pm, an, cdv, ct, osl, e, lk, cd⟩, F.kp⟩
  · exact absurd rfl z
/-- a def of the top -/
def dd (x : Str) (st : Stmt) : He.DefD := ⟨(x, none), x, x, defArgs st, defBody st, defScope st, [], []⟩
def dm (c m q : Str) (st : Stmt) : He.DefD := ⟨(c, some m), m, q, defArgs st, defBody st, defScope st, [], []⟩
end VQ
/-! ### the head: what the top has left, by names -/
namespace VQ
open PySem L2 LamX
def fn : List He.DefD := [dd "_law_bag" sBag, dd "_law_pull" sPull, dd "_law_of" sOf, dd "_law_worth" sWorth, dd "_law_figs" sFigs, dd "_law_begin" sBegin, dd "_law_under" sUnder, dd "_law_box" sBox, dd "_law_seam_box" sSeam, dd "_law_longer" sLongerL, dd "is_number" sIsNumber, dd "is_worth" sIsWorth, dd "is_beginning" sIsBeg, dd "need_beginning" sNeedBeg, dd "figures" sFigures, dd "brother" sBrother, dd "is_places" sIsPlaces, dd "is_box" sIsBox, dd "is_point" sIsPoint, dd "need_box" sNeedBox, dd "need_point" sNeedPoint, dd "need_alike" sNeedAlike, dd "need_boxes" sNeedBoxes, dd "volume" sVolume, dd "holds" sHolds, dd "lies_in" sLies, dd "within" sWithin, dd "longer" sLonger, dd "longer_ones" sLongers, dd "meet" sMeet, dd "joined" sJoined, dd "halves" sHalves, dm "BadBox" "__init__" "BadBox.__init__" sBadBox, dm "Unlike" "__init__" "Unlike.__init__" sUnlike, dm "BadPoint" "__init__" "BadPoint.__init__" sBadPoint, dm "BadWorth" "__init__" "BadWorth.__init__" sBadWorth, dm "BadBeginning" "__init__" "BadBeginning.__init__" sBadBeg, dd "law" sLaw]
def fa : List He.Fa := [.free "isinstance", .free "int", .free "bool", .free "str", .free "list", .free "tuple", .free "len", .free "all", .free "range", .free "zip", .free "enumerate", .int "WORTHS" 32, .int "FIGURES" 5, .int "MOST_PLACES" 5, .glo "_law_bag", .glo "_law_pull", .glo "_law_of", .glo "_law_worth", .glo "_law_figs", .glo "_law_begin", .glo "_law_under", .glo "_law_box", .glo "_law_seam_box", .glo "_law_longer", .glo "is_number", .glo "is_worth", .glo "is_beginning", .glo "need_beginning", .glo "figures", .glo "brother", .glo "is_places", .glo "is_box", .glo "is_point", .glo "need_box", .glo "need_point", .glo "need_alike", .glo "need_boxes", .glo "volume", .glo "holds", .glo "lies_in", .glo "within", .glo "longer", .glo "longer_ones", .glo "meet", .glo "joined", .glo "halves", .glo "BadBox", .glo "Unlike", .glo "BadPoint", .glo "BadWorth", .glo "BadBeginning", .glo "law"]
def ex (K : PySem.W.Frag) : Bool := (errB K "BadBox") && (errB K "Unlike") && (errB K "BadPoint") && (errB K "BadWorth") && (errB K "BadBeginning")
abbrev Rw : PySem.W.OpenRow := PySem.W.OpenLaw.row PySem.Challenge.rw_voidquilt_k07_whole_put_together_boxes_c
abbrev hk : PySem.W.Hook := He.hookX 6 fa fn [] [] ex
def ob (s : PySem.W.SharedT) : He.AlX := He.obsX 6 fa fn [] [] ex (HandSHeadRun.getT s)
theorem ob_eq (s : PySem.W.SharedT) : ob s = hk.obs s.abs := He.obsX_eq (HandSHeadRun.getT_eq s)
def loose : List PySem.Str := (["QuiltError", "BadWorth", "BadBeginning", "BadPoint", "BadBox", "Unlike", "WORTHS", "FIGURES", "is_number", "is_worth", "is_beginning", "need_beginning", "figures", "brother", "MOST_PLACES", "is_places", "is_box", "is_point", "need_box", "need_point", "need_alike", "need_boxes", "volume", "holds", "within", "lies_in", "longer", "longer_ones", "meet", "joined"] : List PySem.Str) ++ (["halves", "_law_bag", "_law_pull", "_law_of", "_law_worth", "_law_figs", "_law_begin", "_law_under", "_law_box", "_law_seam_box", "_law_longer"] : List PySem.Str)
theorem run (w : World) : HandSHeadRun.RunEq Rw (PySem.W.view Rw.prog [45]) hk ob 40000 loose w := by
  intro os
  kernel_rfl
theorem at_of {K : PySem.W.Frag} {h : Heap} {mg : Str → Option Value} (X : K.In h) (G : h.Ns mainGlobals mg) {x : Str} {st : Stmt} {ps : List Str} (c : He.SaysD fa fn K) (m : dd x st ∈ fn) (g : He.Fa.glo x ∈ fa)
    (hb : ∀ (kV doc pm : Value) (an : Option Addr) (cdv ct : Value) (us : List Value), us.length = ps.length → bindArgs (PySem.W.fnOf x x (defArgs st) (defBody st) (defScope st) .none kV doc pm an cdv ct) ⟨us, []⟩ = pure (ps.zip us)) : ∃ fd, At K mg x st ps (He.ga K x) fd := by
  obtain ⟨fd, F⟩ := c.defs m
  have F' : Fun K x x st (He.ga K x) fd := fun_of_D F
  exact ⟨fd, F', He.glo_ok X G (c.facts g), F'.binds hb⟩
theorem facts {l : PySem.W.OpenLaw} {w : World} {K : PySem.W.Frag} {h : Heap} {mg : Str → Option Value} {f : Addr} (X : K.In h) (G : h.Ns mainGlobals mg) (hfa : mg ("law" : Str) = some (.ref f)) (S : He.SaysX fa fn [] [] ex w h K) : LawAtS l w K CX0 7 63 "_law_script" mg f h := by
  have c : He.SaysD fa fn K := S.t.d
  have gl : ∀ {x : Str}, He.Fa.glo x ∈ fa → mg x = some (.ref (He.ga K x)) := fun m => He.glo_ok X G (c.facts m)
  have fr : ∀ {x : Str}, He.Fa.free x ∈ fa → mg x = none := fun m => He.free_ok X G (c.facts m)
  obtain ⟨tkWORTHS, iWORTHS⟩ := He.int_ok X G (x := "WORTHS") (i := 32) (c.facts (by simp [fa]))
  obtain ⟨tkFIGURES, iFIGURES⟩ := He.int_ok X G (x := "FIGURES") (i := 5) (c.facts (by simp [fa]))
  obtain ⟨tkMOST_PLACES, iMOST_PLACES⟩ := He.int_ok X G (x := "MOST_PLACES") (i := 5) (c.facts (by simp [fa]))
  have b : Blt mg := ⟨fr (by simp [fa]), fr (by simp [fa]), fr (by simp [fa]), fr (by simp [fa]), fr (by simp [fa]), fr (by simp [fa]), fr (by simp [fa]), fr (by simp [fa]), fr (by simp [fa])⟩
  have fzip : mg "zip" = none := fr (by simp [fa])
  have fenumerate : mg "enumerate" = none := fr (by simp [fa])
  have more : ex K = true := S.more
  unfold ex at more
  simp only [Bool.and_eq_true] at more
  obtain ⟨⟨⟨⟨r0, r1⟩, r2⟩, r3⟩, r4⟩ := more
  obtain ⟨fdIBadBox, FIBadBox⟩ := c.defs (d := dm "BadBox" "__init__" "BadBox.__init__" sBadBox) (by simp [fn])
  have FJBadBox : Fun K "__init__" "BadBox.__init__" sBadBox (He.ma K (He.ga K "BadBox") "__init__") fdIBadBox := fun_of_D FIBadBox
  have bIBadBox : Binds K fdIBadBox ["self"] [] := FJBadBox.binds fun _ _ _ _ _ _ us hl => match us, hl with | [_], _ => rfl
  have EBadBox := errB_ok (qual := "BadBox.__init__") (st := sBadBox) r0 (gl (x := "BadBox") (by simp [fa])) FJBadBox bIBadBox
  obtain ⟨fdIUnlike, FIUnlike⟩ := c.defs (d := dm "Unlike" "__init__" "Unlike.__init__" sUnlike) (by simp [fn])
  have FJUnlike : Fun K "__init__" "Unlike.__init__" sUnlike (He.ma K (He.ga K "Unlike") "__init__") fdIUnlike := fun_of_D FIUnlike
  have bIUnlike : Binds K fdIUnlike ["self"] [] := FJUnlike.binds fun _ _ _ _ _ _ us hl => match us, hl with | [_], _ => rfl
  have EUnlike := errB_ok (qual := "Unlike.__init__") (st := sUnlike) r1 (gl (x := "Unlike") (by simp [fa])) FJUnlike bIUnlike
  obtain ⟨fdIBadPoint, FIBadPoint⟩ := c.defs (d := dm "BadPoint" "__init__" "BadPoint.__init__" sBadPoint) (by simp [fn])
  have FJBadPoint : Fun K "__init__" "BadPoint.__init__" sBadPoint (He.ma K (He.ga K "BadPoint") "__init__") fdIBadPoint := fun_of_D FIBadPoint
  have bIBadPoint : Binds K fdIBadPoint ["self"] [] := FJBadPoint.binds fun _ _ _ _ _ _ us hl => match us, hl with | [_], _ => rfl
  have EBadPoint := errB_ok (qual := "BadPoint.__init__") (st := sBadPoint) r2 (gl (x := "BadPoint") (by simp [fa])) FJBadPoint bIBadPoint
  obtain ⟨fdIBadWorth, FIBadWorth⟩ := c.defs (d := dm "BadWorth" "__init__" "BadWorth.__init__" sBadWorth) (by simp [fn])
  have FJBadWorth : Fun K "__init__" "BadWorth.__init__" sBadWorth (He.ma K (He.ga K "BadWorth") "__init__") fdIBadWorth := fun_of_D FIBadWorth
  have bIBadWorth : Binds K fdIBadWorth ["self"] [] := FJBadWorth.binds fun _ _ _ _ _ _ us hl => match us, hl with | [_], _ => rfl
  have EBadWorth := errB_ok (qual := "BadWorth.__init__") (st := sBadWorth) r3 (gl (x := "BadWorth") (by simp [fa])) FJBadWorth bIBadWorth
  obtain ⟨fdIBadBeginning, FIBadBeginning⟩ := c.defs (d := dm "BadBeginning" "__init__" "BadBeginning.__init__" sBadBeg) (by simp [fn])
  have FJBadBeginning : Fun K "__init__" "BadBeginning.__init__" sBadBeg (He.ma K (He.ga K "BadBeginning") "__init__") fdIBadBeginning := fun_of_D FIBadBeginning
  have bIBadBeginning : Binds K fdIBadBeginning ["self"] [] := FJBadBeginning.binds fun _ _ _ _ _ _ us hl => match us, hl with | [_], _ => rfl
  have EBadBeginning := errB_ok (qual := "BadBeginning.__init__") (st := sBadBeg) r4 (gl (x := "BadBeginning") (by simp [fa])) FJBadBeginning bIBadBeginning
  obtain ⟨fd_law_bag, a_law_bag⟩ := at_of (x := "_law_bag") (st := sBag) (ps := ["_law_script"]) X G c (by simp [fn]) (by simp [fa]) fun _ _ _ _ _ _ us hl => match us, hl with | [_], _ => rfl
  obtain ⟨fd_law_pull, a_law_pull⟩ := at_of (x := "_law_pull") (st := sPull) (ps := ["_law_bag_here", "_law_size"]) X G c (by simp [fn]) (by simp [fa]) fun _ _ _ _ _ _ us hl => match us, hl with | [_, _], _ => rfl
  obtain ⟨fd_law_of, a_law_of⟩ := at_of (x := "_law_of") (st := sOf) (ps := ["_law_bag_here", "_law_some"]) X G c (by simp [fn]) (by simp [fa]) fun _ _ _ _ _ _ us hl => match us, hl with | [_, _], _ => rfl
  obtain ⟨fd_law_worth, a_law_worth⟩ := at_of (x := "_law_worth") (st := sWorth) (ps := ["_law_bag_here"]) X G c (by simp [fn]) (by simp [fa]) fun _ _ _ _ _ _ us hl => match us, hl with | [_], _ => rfl
  obtain ⟨fd_law_figs, a_law_figs⟩ := at_of (x := "_law_figs") (st := sFigs) (ps := ["_law_worth_here"]) X G c (by simp [fn]) (by simp [fa]) fun _ _ _ _ _ _ us hl => match us, hl with | [_], _ => rfl
  obtain ⟨fd_law_begin, a_law_begin⟩ := at_of (x := "_law_begin") (st := sBegin) (ps := ["_law_bag_here"]) X G c (by simp [fn]) (by simp [fa]) fun _ _ _ _ _ _ us hl => match us, hl with | [_], _ => rfl
  obtain ⟨fd_law_under, a_law_under⟩ := at_of (x := "_law_under") (st := sUnder) (ps := ["_law_beginning"]) X G c (by simp [fn]) (by simp [fa]) fun _ _ _ _ _ _ us hl => match us, hl with | [_], _ => rfl
  obtain ⟨fd_law_box, a_law_box⟩ := at_of (x := "_law_box") (st := sBox) (ps := ["_law_bag_here", "_law_many"]) X G c (by simp [fn]) (by simp [fa]) fun _ _ _ _ _ _ us hl => match us, hl with | [_, _], _ => rfl
  obtain ⟨fd_law_seam_box, a_law_seam_box⟩ := at_of (x := "_law_seam_box") (st := sSeam) (ps := ["_law_bag_here", "_law_box_here"]) X G c (by simp [fn]) (by simp [fa]) fun _ _ _ _ _ _ us hl => match us, hl with | [_, _], _ => rfl
  obtain ⟨fd_law_longer, a_law_longer⟩ := at_of (x := "_law_longer") (st := sLongerL) (ps := ["_law_bag_here", "_law_one"]) X G c (by simp [fn]) (by simp [fa]) fun _ _ _ _ _ _ us hl => match us, hl with | [_, _], _ => rfl
  obtain ⟨fdis_number, ais_number⟩ := at_of (x := "is_number") (st := sIsNumber) (ps := ["thing", "low", "behind"]) X G c (by simp [fn]) (by simp [fa]) fun _ _ _ _ _ _ us hl => match us, hl with | [_, _, _], _ => rfl
  obtain ⟨fdis_worth, ais_worth⟩ := at_of (x := "is_worth") (st := sIsWorth) (ps := ["thing"]) X G c (by simp [fn]) (by simp [fa]) fun _ _ _ _ _ _ us hl => match us, hl with | [_], _ => rfl
  obtain ⟨fdis_beginning, ais_beginning⟩ := at_of (x := "is_beginning") (st := sIsBeg) (ps := ["thing"]) X G c (by simp [fn]) (by simp [fa]) fun _ _ _ _ _ _ us hl => match us, hl with | [_], _ => rfl
  obtain ⟨fdneed_beginning, aneed_beginning⟩ := at_of (x := "need_beginning") (st := sNeedBeg) (ps := ["beginning"]) X G c (by simp [fn]) (by simp [fa]) fun _ _ _ _ _ _ us hl => match us, hl with | [_], _ => rfl
  obtain ⟨fdfigures, afigures⟩ := at_of (x := "figures") (st := sFigures) (ps := ["worth"]) X G c (by simp [fn]) (by simp [fa]) fun _ _ _ _ _ _ us hl => match us, hl with | [_], _ => rfl
  obtain ⟨fdbrother, abrother⟩ := at_of (x := "brother") (st := sBrother) (ps := ["beginning"]) X G c (by simp [fn]) (by simp [fa]) fun _ _ _ _ _ _ us hl => match us, hl with | [_], _ => rfl
  obtain ⟨fdis_places, ais_places⟩ := at_of (x := "is_places") (st := sIsPlaces) (ps := ["thing"]) X G c (by simp [fn]) (by simp [fa]) fun _ _ _ _ _ _ us hl => match us, hl with | [_], _ => rfl
  obtain ⟨fdis_box, ais_box⟩ := at_of (x := "is_box") (st := sIsBox) (ps := ["thing"]) X G c (by simp [fn]) (by simp [fa]) fun _ _ _ _ _ _ us hl => match us, hl with | [_], _ => rfl
  obtain ⟨fdis_point, ais_point⟩ := at_of (x := "is_point") (st := sIsPoint) (ps := ["thing"]) X G c (by simp [fn]) (by simp [fa]) fun _ _ _ _ _ _ us hl => match us, hl with | [_], _ => rfl
  obtain ⟨fdneed_box, aneed_box⟩ := at_of (x := "need_box") (st := sNeedBox) (ps := ["box"]) X G c (by simp [fn]) (by simp [fa]) fun _ _ _ _ _ _ us hl => match us, hl with | [_], _ => rfl
  obtain ⟨fdneed_point, aneed_point⟩ := at_of (x := "need_point") (st := sNeedPoint) (ps := ["point"]) X G c (by simp [fn]) (by simp [fa]) fun _ _ _ _ _ _ us hl => match us, hl with | [_], _ => rfl
  obtain ⟨fdneed_alike, aneed_alike⟩ := at_of (x := "need_alike") (st := sNeedAlike) (ps := ["one", "other"]) X G c (by simp [fn]) (by simp [fa]) fun _ _ _ _ _ _ us hl => match us, hl with | [_, _], _ => rfl
  obtain ⟨fdneed_boxes, aneed_boxes⟩ := at_of (x := "need_boxes") (st := sNeedBoxes) (ps := ["one", "other"]) X G c (by simp [fn]) (by simp [fa]) fun _ _ _ _ _ _ us hl => match us, hl with | [_, _], _ => rfl
  obtain ⟨fdvolume, avolume⟩ := at_of (x := "volume") (st := sVolume) (ps := ["box"]) X G c (by simp [fn]) (by simp [fa]) fun _ _ _ _ _ _ us hl => match us, hl with | [_], _ => rfl
  obtain ⟨fdholds, aholds⟩ := at_of (x := "holds") (st := sHolds) (ps := ["box", "point"]) X G c (by simp [fn]) (by simp [fa]) fun _ _ _ _ _ _ us hl => match us, hl with | [_, _], _ => rfl
  obtain ⟨fdlies_in, alies_in⟩ := at_of (x := "lies_in") (st := sLies) (ps := ["one", "other"]) X G c (by simp [fn]) (by simp [fa]) fun _ _ _ _ _ _ us hl => match us, hl with | [_, _], _ => rfl
  obtain ⟨fdwithin, awithin⟩ := at_of (x := "within") (st := sWithin) (ps := ["one", "other"]) X G c (by simp [fn]) (by simp [fa]) fun _ _ _ _ _ _ us hl => match us, hl with | [_, _], _ => rfl
  obtain ⟨fdlonger, alonger⟩ := at_of (x := "longer") (st := sLonger) (ps := ["one", "other"]) X G c (by simp [fn]) (by simp [fa]) fun _ _ _ _ _ _ us hl => match us, hl with | [_, _], _ => rfl
  obtain ⟨fdlonger_ones, alonger_ones⟩ := at_of (x := "longer_ones") (st := sLongers) (ps := ["one", "other"]) X G c (by simp [fn]) (by simp [fa]) fun _ _ _ _ _ _ us hl => match us, hl with | [_, _], _ => rfl
  obtain ⟨fdmeet, ameet⟩ := at_of (x := "meet") (st := sMeet) (ps := ["one", "other"]) X G c (by simp [fn]) (by simp [fa]) fun _ _ _ _ _ _ us hl => match us, hl with | [_, _], _ => rfl
  obtain ⟨fdjoined, ajoined⟩ := at_of (x := "joined") (st := sJoined) (ps := ["one", "other"]) X G c (by simp [fn]) (by simp [fa]) fun _ _ _ _ _ _ us hl => match us, hl with | [_, _], _ => rfl
  obtain ⟨fdhalves, ahalves⟩ := at_of (x := "halves") (st := sHalves) (ps := ["box"]) X G c (by simp [fn]) (by simp [fa]) fun _ _ _ _ _ _ us hl => match us, hl with | [_], _ => rfl
  obtain ⟨fd, F⟩ := c.defs (d := dd "law" sLaw) (by simp [fn])
  have ef : f = He.ga K "law" := by
    have e := hfa.symm.trans (gl (x := "law") (by simp [fa]))
    injection e with e
    injection e
  subst ef
  have F' : Fun K "law" "law" sLaw (He.ga K "law") fd := fun_of_D F
  obtain ⟨oc, od, kV, doc, pm, an, cdv, ct, osl, efd, lk, hcd⟩ := F'.ex
  refine ⟨fd, [], spLawN K, fun p hp => absurd hp (by simp), fun p hp => absurd hp (by simp), fun p hp => absurd hp (by simp), fun s u => ?_, fun H a ns hn _ hT hS => ?_, fun base KB GB TB => ?_⟩
  · rw [efd]
    exact .of_eq rfl
  · exact ⟨a, ns, rfl, hS, hn, fun _ => rfl⟩
  · exact ok_law F' b fzip fenumerate iWORTHS iFIGURES iMOST_PLACES a_law_bag a_law_pull a_law_of a_law_worth a_law_figs a_law_begin a_law_under a_law_box a_law_seam_box a_law_longer ⟨ais_worth, _, _, ais_number⟩ ais_beginning aneed_beginning afigures abrother ais_places ais_box ais_point aneed_box aneed_point aneed_alike aneed_boxes avolume aholds alies_in awithin alonger alonger_ones ameet ajoined ahalves EBadBox EUnlike EBadPoint EBadWorth EBadBeginning
end VQ
open PySem PySem.W PySem.Calls PyProof.Rows
set_option maxRecDepth 100000 in
set_option maxHeartbeats 0 in
theorem PySem.Challenge.cw_voidquilt_k07_whole_put_together_boxes_c_holds : PySem.Challenge.rw_voidquilt_k07_whole_put_together_boxes_c.Holds := by
  w_on; o_law
  refine HandSHeadRun.head_any (r := PySem.W.OpenLaw.row PySem.Challenge.rw_voidquilt_k07_whole_put_together_boxes_c) (q := view (PySem.W.OpenLaw.row PySem.Challenge.rw_voidquilt_k07_whole_put_together_boxes_c).prog [45]) (H := VQ.hk) (ob := VQ.ob) (M := 40000) (loose := VQ.loose) (d := HandSHeadRun.topDef (PySem.W.OpenLaw.row PySem.Challenge.rw_voidquilt_k07_whole_put_together_boxes_c).prog 45) (kwd := []) VQ.ob_eq
    (by kernel_rfl) (fun s => by kernel_rfl) VQ.run (by kernel_rfl) (by kernel_rfl) (by kernel_rfl) (by rfl) (by first | assumption | decide +kernel) (by decide +kernel) ⟨rfl, rfl, rfl, rfl, rfl, by decide +kernel⟩ ?hw ?hc
  case hw => w_witness2
  case hc =>
    refine LamX.walk_ofTsE (l := PySem.Challenge.rw_voidquilt_k07_whole_put_together_boxes_c) (n := 63) (k := 7) (x := "_law_script") (CX := fun _ => L2.CX0) rfl (by decide) (by kernel_rfl) ⟨rfl, by decide, by decide⟩ ?F (fun _ _ _ _ _ z => z)
    intro w mg fa h Y G hmg0
    obtain ⟨K, KX, S⟩ := Y
    have hmg : mg ("law" : PySem.Str) = some (.ref fa) := by
      have e : (HandSHeadRun.topDef (PySem.W.OpenLaw.row PySem.Challenge.rw_voidquilt_k07_whole_put_together_boxes_c).prog 45).name = ("law" : PySem.Str) := by kernel_rfl
      rw [← e]
      exact hmg0
    exact ⟨K, KX, VQ.facts KX G hmg S⟩
