import PyProof.Rows.All
import Wide.All
import OpenK.AllK
import Wide.FinOn
import HandS.Base
import HandS.Call
import HandS.List
import HandS.Words
import HandS.WordsList
import HandS.Codes
import HandS.FStr
import PyProof.FString3
import PyProof.Rows.StrIntSpec
import PyProof.FactsAll.int_2
import KE.KxField
import HandS.Ends
import HandS.Exc
import HandS.ExcInit
import HandS.ExcField
import HandS.TryMany
import KE.KTryMore
import HandS.Lambda
import HandS.Defaults
import PyProof.DefMake
import PyProof.DefCall
import HandS.TupMul
import HandS.TupAny
import HandS.Zip
import HandS.Comp
import HandS.Iter
import KE.GoesMore
import HandS.SetFor
import HandS.Strs
import PyProof.CompFree
import PyProof.RaisesMany
import HandS.IsInst
import HandS.StrMore
import HandS.WordsExc
import HandS.Text
import PyProof.StrLaws
import PyProof.StrLawsAffix
import HandS.EndTab
import HandS.HeadWalk
import HandS.Deep
import HandS.Head0
import HandS.Head1
import HandS.Head2
import HandS.HeadEnd
import HandS.HeadHook1
import HandS.HeadHook2
import HandS.HeadHook3
import HandS.HeadHook4
import PySem.Challenge.RW_voidquilt_k14_gaps_about_points
set_option Elab.async false
set_option linter.all false
set_option maxRecDepth 100000
set_option maxHeartbeats 3000000
namespace VQ
open PySem L2
def top (i : Nat) : Stmt := PySem.Challenge.pw_voidquilt_k14_gaps_about_points.main.body.getD i (.Pass ⟨0, 0, 0, 0⟩)
abbrev sBag : Stmt := top 21
abbrev sPull : Stmt := top 22
abbrev sOf : Stmt := top 23
/-- a drawing bag stands at b -/
def Bag (H : Hp) (b : Addr) : Prop := ∃ (l : Addr) (ns : List Int) (i r x n : Int), l ≠ b ∧ H b = some (.lst [.ref l, .int i, .int r, .int x, .int n]) ∧ H l = some (.lst (ns.map V.int)) ∧ 0 ≤ i ∧ 0 ≤ x ∧ x < 2147483629
/-- all but b is as it was, and the list in b's first place is the same one -/
def Keep (b : Addr) (H H' : Hp) : Prop := (∀ a o, a ≠ b → H a = some o → H' a = some o) ∧ ∀ l r, H b = some (.lst (.ref l :: r)) → ∃ r', H' b = some (.lst (.ref l :: r'))
theorem Keep.refl (b : Addr) (H : Hp) : Keep b H H := ⟨fun _ _ _ h => h, fun _ r h => ⟨r, h⟩⟩
theorem Keep.trans {b : Addr} {H H1 H2 : Hp} (h1 : Keep b H H1) (h2 : Keep b H1 H2) : Keep b H H2 := ⟨fun a o n h => h2.1 a o n (h1.1 a o n h), fun l r h => let ⟨r1, e⟩ := h1.2 l r h; h2.2 l r1 e⟩
theorem Keep.upd {b l : Addr} {H : Hp} {r r' : List V} (h : H b = some (.lst (.ref l :: r))) : Keep b H (upd H b (.lst (.ref l :: r'))) := ⟨fun a u n h => by rw [upd_ne n]; exact h, fun l' r1 e => by
  rw [h] at e
  cases e
  exact ⟨r', upd_same⟩⟩
theorem Same.keep {b : Addr} {H H' : Hp} (h : Same H H') : Keep b H H' := ⟨fun a o _ e => h a o e, fun l r e => ⟨r, h _ _ e⟩⟩
theorem same_new {H : Hp} {p : Addr} {o : HO} (h : H p = none) : Same H (upd H p o) := fun a u e => by rw [upd_ne (ne_of_none e h)]; exact e
theorem Bag.here {H : Hp} {b : Addr} (h : Bag H b) : ∃ o, H b = some o := by
  obtain ⟨l, ns, i, r, x, n, _, h1, _⟩ := h
  exact ⟨_, h1⟩
theorem Bag.same {H H' : Hp} {b : Addr} (h : Bag H b) (s : Same H H') : Bag H' b := by
  obtain ⟨l, ns, i, r, x, n, nl, h1, h2, h3⟩ := h
  exact ⟨l, ns, i, r, x, n, nl, s _ _ h1, s _ _ h2, h3⟩
theorem Keep.free {b p : Addr} {H H' : Hp} (k : Keep b H H') (h : Bag H b) (h' : Bag H' b) (hp : H' p = none) : H p = none := by
  cases q : H p with
  | none => rfl
  | some o =>
    by_cases e : p = b
    · obtain ⟨o', z⟩ := h'.here
      rw [e, z] at hp
      cases hp
    · rw [k.1 p o e q] at hp
      cases hp
/-- something new is written while the bag is kept -/
theorem Bag.put {b D : Addr} {H0 H : Hp} {o : HO} (B0 : Bag H0 b) (hD : H0 D = none) (k : Keep b H0 H) (B : Bag H b) : Bag (upd H D o) b ∧ Keep b H0 (upd H D o) := by
  obtain ⟨l, ns, i, r, x, n, nl, h1, h2, h3⟩ := B0
  obtain ⟨l', ns', i', r', x', n', nl', g1, g2, g3⟩ := B
  obtain ⟨rr, e⟩ := k.2 l _ h1
  rw [g1] at e
  cases e
  have bD : b ≠ D := ne_of_none h1 hD
  have lD : l ≠ D := ne_of_none h2 hD
  refine ⟨⟨l, ns', i', r', x', n', nl', (upd_ne bD).trans g1, (upd_ne lD).trans g2, g3⟩, fun a u ne e => ?_, fun l2 r2 e => ?_⟩
  · rw [upd_ne (ne_of_none e hD)]
    exact k.1 a u ne e
  · rw [upd_ne bD]
    exact k.2 l2 r2 e
theorem Keep.tup {b a : Addr} {H H' : Hp} {xs : List V} (k : Keep b H H') (B : Bag H b) (h : H a = some (.tup xs)) : H' a = some (.tup xs) := by
  refine k.1 a _ (fun e => ?_) h
  obtain ⟨l, ns, i, r, x, n, nl, h1, _⟩ := B
  rw [e, h1] at h
  cases h
def spPull : Sp := fun vs H Q _ => ∃ (b : Addr) (s : Int), vs = [.ref b, .int s] ∧ Bag H b ∧ 1 ≤ s ∧ s < 1073741824 ∧
  ∀ (d : Int) (H' : Hp), 0 ≤ d → d < s → Bag H' b → Keep b H H' → Q (.int d) H'
section
variable {P : Program} {w : World} {K : PySem.W.Frag} {mg : Str → Option Value} {base : Heap}
theorem scPull : FnScope ["_law_bag_here", "_law_size", "_law_cell", "_law_digit"] ["_law_bag_here", "_law_size"] (defScope sPull) := ⟨rfl, rfl, rfl, by decide +kernel, rfl, by decide +kernel, by decide +kernel⟩
theorem ok_pull {f : Addr} {fd : FuncData} (F : Fun K "_law_pull" "_law_pull" sPull f fd) (len : mg "len" = none) : FnOk P w K mg base CX0 1 f fd ["_law_bag_here", "_law_size"] spPull := by
  refine F.ok scPull (fun vs H Q E h => ?_) (fun cdv A outer s H vs Q E hr h => ?_)
  · obtain ⟨b, s, rfl, _⟩ := h
    rfl
  · obtain ⟨b, z, rfl, B, z1, z2, k⟩ := h
    refine ⟨_, C8.pss_cut (ps_if (PW.pt (pw_and (pt_cmpR op_lt (pe_ix ix_list (pv 0) pe_int fun _ _ => rfl) (pv 1) (nomark _)) (pw_and1 (pt_cmpR op_lt (pe_ix ix_list (pv 0) pe_int fun _ _ => rfl)
          (pe_callB call_len_seq (by rfl) len PySem.boot_len (pa_cons (pe_ix ix_list (pv 0) pe_int fun _ _ => rfl) pa_nil)) (nomark _)))))
        (pss_cons (ps_set (i := 2) scPull.nd rfl (.inl rfl) (pe_ix ix_list (pe_ix ix_list (pv 0) pe_int fun _ _ => rfl) (pe_ix ix_list (pv 0) pe_int fun _ _ => rfl) fun _ _ => rfl))
        (pss_cons (ps_asg (pe_op op_add (pe_ix ix_list (pv 0) pe_int fun _ _ => rfl) pe_int) (pg_sub (pv 0) pe_int set_list))
        (pss_cons (ps_asg (pe_ifExp (pt_cmpR op_ge (pv 2) (pe_op op_pow pe_int pe_int) (nomark _)) (pe_op op_sub (pv 2) (pe_op op_pow pe_int pe_int)) pe_int) (pg_sub (pv 0) pe_int set_list))
        (pss_one (ps_asg (pe_op op_mod (pe_op op_add (pe_op op_add (pe_op op_mul (pe_ix ix_list (pv 0) pe_int fun _ _ => rfl) pe_int) (pe_op op_mul (pv 2) pe_int)) (pe_ix ix_list (pv 0) pe_int fun _ _ => rfl)) pe_int) (pg_sub (pv 0) pe_int set_list))))))
        pss_nil)
      (pss_cons (ps_if (pt_cmpR op_ge (pe_ix ix_list (pv 0) pe_int fun _ _ => rfl) (pv 1) (nomark _))
        (pss_cons (ps_set (i := 3) scPull.nd rfl (.inl rfl) (pe_op op_mod (pe_ix ix_list (pv 0) pe_int fun _ _ => rfl) (pv 1)))
        (pss_cons (ps_asg (pe_op op_fdiv (pe_ix ix_list (pv 0) pe_int fun _ _ => rfl) (pv 1)) (pg_sub (pv 0) pe_int set_list))
        (pss_one (ps_ret (pv 3)))))
        pss_nil)
      (pss_cons (ps_asg (pe_op op_add (pe_ix ix_list (pv 0) pe_int fun _ _ => rfl) pe_int) (pg_sub (pv 0) pe_int set_list))
      (pss_cons (ps_asg (pe_op op_mod (pe_op op_add (pe_op op_add (pe_op op_add (pe_op op_pow (pe_ix ix_list (pv 0) pe_int fun _ _ => rfl) pe_int) (pe_op op_mul pe_int (pe_ix ix_list (pv 0) pe_int fun _ _ => rfl))) (pe_op op_fdiv (pe_ix ix_list (pv 0) pe_int fun _ _ => rfl) pe_int)) pe_int) pe_int) (pg_sub (pv 0) pe_int set_list))
      (pss_one (ps_ret (pe_op op_mod (pe_op op_fdiv (pe_ix ix_list (pv 0) pe_int fun _ _ => rfl) pe_int) (pv 1)))))))
      , ?_⟩
    refine ⟨fun σ' H' => ∃ (c e : Option V), σ' = [some (.ref b), some (.int z), c, e] ∧ Bag H' b ∧ Keep b H H', ?_, ?_⟩
    · obtain ⟨l, ns, i, r, x, n, nl, h1, h2, i0, x0, x1⟩ := id B
      have m53 : ∀ y : Int, 0 ≤ y % 2147483629 ∧ y % 2147483629 < 2147483629 := fun y => ⟨Int.emod_nonneg _ (by decide), Int.emod_lt_of_pos _ (by decide)⟩
      refine ⟨_, rfl, _, _, _, _, rfl, rfl, SqL.of h1, (show atI [V.ref l, .int i, .int r, .int x, .int n] 2 = some (.int r) from rfl), _, rfl, _, _, rfl, rfl, _, rfl, ?_⟩
      refine ite2 (fun _ => ?_) (fun _ => ?_)
      · refine ⟨_, rfl, _, _, _, _, rfl, rfl, SqL.of h1, (show atI [V.ref l, .int i, .int r, .int x, .int n] 1 = some (.int i) from rfl), _, rfl, _, _, _, _, rfl, rfl, SqL.of h1, (show atI [V.ref l, .int i, .int r, .int x, .int n] 0 = some (.ref l) from rfl), l, _, rfl, .inl (SqL.of h2), _, _, rfl, rfl, _, rfl, ?_⟩
        refine ite2 (fun hlt => ?_) (fun _ => ?_)
        · have hi : i < (ns.length : Int) := by
            have q := of_decide_eq_true hlt
            rw [List.length_map] at q
            exact q
          obtain ⟨j, rfl⟩ := Int.eq_ofNat_of_zero_le i0
          have hj : j < ns.length := Int.ofNat_lt.mp hi
          have at1 : atI (ns.map V.int) (j : Int) = some (V.int (ns[j]'hj)) := atI_nat (by rw [List.getElem?_map, List.getElem?_eq_getElem hj]; rfl)
          generalize ns[j]'hj = cell at at1
          refine ⟨_, rfl, _, _, _, _, rfl, rfl, SqL.of h1, (show atI [V.ref l, .int j, .int r, .int x, .int n] 0 = some (.ref l) from rfl), _, rfl, _, _, _, _, rfl, rfl, SqL.of h1, (show atI [V.ref l, .int j, .int r, .int x, .int n] 1 = some (.int j) from rfl), l, _, _, _, rfl, rfl, SqL.of h2, at1, ?_⟩
          -- bag[1] = bag[1] + 1
          refine ⟨_, rfl, _, _, _, _, rfl, rfl, SqL.of h1, (show atI [V.ref l, .int j, .int r, .int x, .int n] 1 = some (.int j) from rfl), _, _, rfl, rfl, _, rfl, b, _, 1, 1, rfl, rfl, h1, rfl, ?_⟩
          -- bag[2] = ..
          refine ⟨_, rfl, 10, 18, rfl, rfl, ⟨by decide, by decide, by decide⟩, _, _, rfl, rfl, _, rfl, ?_⟩
          refine ite2 (fun _ => ?_) (fun _ => ?_)
          · refine ⟨_, rfl, 10, 18, rfl, rfl, ⟨by decide, by decide, by decide⟩, _, _, rfl, rfl, _, rfl, b, _, 2, 2, rfl, rfl, upd_same, rfl, ?_⟩
            refine ⟨_, rfl, b, _, _, _, rfl, rfl, SqL.of upd_same, rfl, _, 69069, rfl, rfl, .inr ⟨by decide, by decide⟩, _, rfl, _, 5, rfl, rfl, .inr ⟨by decide, by decide⟩, _, _, rfl, rfl, _, rfl, b, _, _, _, rfl, rfl, SqL.of upd_same, rfl, _, _, rfl, rfl, _, 2147483629, rfl, rfl, (show (0 : Int) < 2147483629 by decide), _, rfl, b, _, 3, 3, rfl, rfl, upd_same, rfl, ?_⟩
            refine ⟨_, _, rfl, ⟨l, ns, _, _, _, _, nl, upd_same, ?_, ?_, (m53 _).1, (m53 _).2⟩, ?_⟩
            · rw [upd_ne nl, upd_ne nl, upd_ne nl]
              exact h2
            · omega
            · exact Keep.trans (Keep.trans (Keep.upd h1) (Keep.upd upd_same)) (Keep.upd upd_same)
          · refine ⟨_, rfl, b, _, 2, 2, rfl, rfl, upd_same, rfl, ?_⟩
            refine ⟨_, rfl, b, _, _, _, rfl, rfl, SqL.of upd_same, rfl, _, 69069, rfl, rfl, .inr ⟨by decide, by decide⟩, _, rfl, _, 5, rfl, rfl, .inr ⟨by decide, by decide⟩, _, _, rfl, rfl, _, rfl, b, _, _, _, rfl, rfl, SqL.of upd_same, rfl, _, _, rfl, rfl, _, 2147483629, rfl, rfl, (show (0 : Int) < 2147483629 by decide), _, rfl, b, _, 3, 3, rfl, rfl, upd_same, rfl, ?_⟩
            refine ⟨_, _, rfl, ⟨l, ns, _, _, _, _, nl, upd_same, ?_, ?_, (m53 _).1, (m53 _).2⟩, ?_⟩
            · rw [upd_ne nl, upd_ne nl, upd_ne nl]
              exact h2
            · omega
            · exact Keep.trans (Keep.trans (Keep.upd h1) (Keep.upd upd_same)) (Keep.upd upd_same)
        · exact ⟨none, none, rfl, B, Keep.refl b H⟩
      · exact ⟨none, none, rfl, B, Keep.refl b H⟩
    · rintro σ' H' ⟨c, e, rfl, B', kp⟩
      obtain ⟨l, ns, i, r, x, n, nl, h1, h2, i0, x0, x1⟩ := id B'
      refine ⟨_, rfl, _, _, _, _, rfl, rfl, SqL.of h1, (show atI [V.ref l, .int i, .int r, .int x, .int n] 2 = some (.int r) from rfl), _, rfl, _, _, rfl, rfl, _, rfl, ?_⟩
      have m53 : ∀ y : Int, 0 ≤ y % 2147483629 ∧ y % 2147483629 < 2147483629 := fun y => ⟨Int.emod_nonneg _ (by decide), Int.emod_lt_of_pos _ (by decide)⟩
      have mz : ∀ y : Int, 0 ≤ y % z ∧ y % z < z := fun y => ⟨Int.emod_nonneg _ (by omega), Int.emod_lt_of_pos _ (by omega)⟩
      refine ite2 (fun _ => ?_) (fun _ => ?_)
      · refine ⟨_, rfl, b, _, _, _, rfl, rfl, SqL.of h1, rfl, _, rfl, _, _, rfl, rfl, (show (0 : Int) < z by omega), ?_⟩
        refine ⟨_, rfl, b, _, _, _, rfl, rfl, SqL.of h1, rfl, _, rfl, _, _, rfl, rfl, ⟨(show (0 : Int) < z by omega), z2⟩, _, rfl, b, _, 2, 2, rfl, rfl, h1, rfl, ?_⟩
        refine ⟨_, rfl, ?_⟩
        exact k _ _ (mz _).1 (mz _).2 ⟨l, ns, _, _, _, _, nl, upd_same, by rw [upd_ne nl]; exact h2, i0, x0, x1⟩ (kp.trans (Keep.upd h1))
      · refine ⟨_, rfl, b, _, _, _, rfl, rfl, SqL.of h1, rfl, _, _, rfl, rfl, _, rfl, b, _, 4, 4, rfl, rfl, h1, rfl, ?_⟩
        refine ⟨_, rfl, b, _, _, _, rfl, rfl, SqL.of upd_same, rfl, _, 3, rfl, rfl, ⟨by decide, by decide, by omega⟩, _, rfl, b, _, _, _, rfl, rfl, SqL.of upd_same, rfl, 40507, _, rfl, rfl, .inl ⟨by decide, by decide⟩, _, _, rfl, rfl, _, rfl, b, _, _, _, rfl, rfl, SqL.of upd_same, rfl, _, 101, rfl, rfl, ⟨by decide, by decide⟩, _, _, rfl, rfl, _, _, rfl, rfl, _, 2147483629, rfl, rfl, (show (0 : Int) < 2147483629 by decide), _, rfl, b, _, 3, 3, rfl, rfl, upd_same, rfl, ?_⟩
        refine ⟨_, rfl, b, _, _, _, rfl, rfl, SqL.of upd_same, rfl, _, 19, rfl, rfl, ⟨by decide, by decide⟩, _, rfl, _, _, rfl, rfl, (show (0 : Int) < z by omega), ?_⟩
        exact k _ _ (mz _).1 (mz _).2 ⟨l, ns, _, _, _, _, nl, upd_same, by rw [upd_ne nl, upd_ne nl]; exact h2, i0, (m53 _).1, (m53 _).2⟩ (kp.trans (Keep.trans (Keep.upd h1) (Keep.upd upd_same)))
/-- an item of a list that is read, drawn by the bag -/
def spOf (K : PySem.W.Frag) : Sp := fun vs H Q _ => ∃ (b p : Addr) (xs : List V), vs = [.ref b, .ref p] ∧ Bag H b ∧ p ≠ b ∧ SqL K H p xs ∧ 1 ≤ xs.length ∧ xs.length < 1000 ∧
  ∀ (v : V) (H' : Hp), v ∈ xs → Bag H' b → Keep b H H' → Q v H'
theorem Keep.seq {b a : Addr} {H H' : Hp} {xs : List V} (k : Keep b H H') (n : a ≠ b) (h : SqL K H a xs) : SqL K H' a xs := by
  rcases h with (z | ⟨o, z⟩) | z
  · exact .inl (.inl (k.1 _ _ n z))
  · exact .inl (.inr ⟨o, k.1 _ _ n z⟩)
  · exact .inr z
/-- where a def stands -/
structure At (K : PySem.W.Frag) (mg : Str → Option Value) (x : Str) (st : Stmt) (ps : List Str) (f : Addr) (fd : FuncData) : Prop where
  fn : Fun K x x st f fd
  gl : mg x = some (.ref f)
  bd : Binds K fd ps []
theorem scOf : FnScope ["_law_bag_here", "_law_some"] ["_law_bag_here", "_law_some"] (defScope sOf) := ⟨rfl, rfl, rfl, by decide +kernel, rfl, by decide +kernel, by decide +kernel⟩
theorem ok_of {f fP : Addr} {fd fdP : FuncData} (F : Fun K "_law_of" "_law_of" sOf f fd) (len : mg "len" = none) (P1 : At K mg "_law_pull" sPull ["_law_bag_here", "_law_size"] fP fdP) : FnOk P w K mg base CX0 2 f fd ["_law_bag_here", "_law_some"] (spOf K) := by
  have G : FnOk P w K mg base CX0 1 fP fdP ["_law_bag_here", "_law_size"] spPull := ok_pull P1.fn len
  refine F.ok scOf (fun vs H Q E h => ?_) (fun cdv A outer s H vs Q E hr h => ?_)
  · obtain ⟨b, p, xs, rfl, _⟩ := h
    rfl
  · obtain ⟨b, p, xs, rfl, B, np, hx, l1, l2, k⟩ := h
    refine ⟨_, pss_one (ps_ret (pe_ix ix_list (pv 1) (pe_call G hr rfl P1.gl P1.fn.kp P1.bd .nil pass0 (pa_cons (pv 0) (pa_cons (pe_callB call_len_seq (by rfl) len PySem.boot_len (pa_cons (pv 1) pa_nil)) pa_nil))) fun _ _ => rfl)), ?_⟩
    refine ⟨_, rfl, _, rfl, _, rfl, p, xs, rfl, .inl hx, b, _, rfl, B, by omega, by omega, fun d H' d0 d1 B' kp => ?_⟩
    obtain ⟨j, rfl⟩ := Int.eq_ofNat_of_zero_le d0
    have hj : j < xs.length := Int.ofNat_lt.mp d1
    exact ⟨p, xs, _, _, rfl, rfl, kp.seq np hx, atI_nat (List.getElem?_eq_getElem hj), k _ H' (List.getElem_mem hj) B' kp⟩
def spBag (K : PySem.W.Frag) : Sp := fun vs H Q _ => ∃ (a : Addr) (ns : List Int), vs = [.ref a] ∧ SqL K H a (ns.map V.int) ∧ ns.length ≤ 63 ∧ ∀ (b : Addr) (H' : Hp), H b = none → Bag H' b → Same H H' → Q (.ref b) H'
theorem scBag : FnScope ["_law_script"] ["_law_script"] (defScope sBag) := ⟨rfl, rfl, rfl, by decide +kernel, rfl, by decide +kernel, by decide +kernel⟩
theorem ok_bag {f : Addr} {fd : FuncData} (F : Fun K "_law_bag" "_law_bag" sBag f fd) (lst : mg "list" = none) : FnOk P w K mg base CX0 1 f fd ["_law_script"] (spBag K) := by
  refine F.ok scBag (fun vs H Q E h => ?_) (fun cdv A outer s H vs Q E hr h => ?_)
  · obtain ⟨a, ns, rfl, _⟩ := h
    rfl
  · obtain ⟨a, ns, rfl, hx, hl, k⟩ := h
    refine ⟨_, pss_one (ps_ret (pe_lst (pa_cons (pe_callTy call_list_of (by rfl) lst (by decide +kernel) (pa_cons (pe_slice sl_list (pv 0) po_none (po_some pe_int)) pa_nil)) (pa_cons pe_int (pa_cons pe_int (pa_cons pe_int (pa_cons pe_int pa_nil))))))), ?_⟩
    refine ⟨_, rfl, _, rfl, a, _, rfl, hx, fun p hp => ?_⟩
    refine ⟨p, _, rfl, .inl (SqL.of upd_same), fun l hl' => ?_⟩
    refine ⟨by show 5 ≤ sizeLine; decide, fun b hb => ?_⟩
    have e : cutV (ns.map V.int) none (some 63) = ns.map V.int := by
      unfold cutV
      rw [HT.sIx_none]
      show ((ns.map V.int).drop 0).take (HT.sIx _ _ (some ((63 : Nat) : Int)) - 0) = _
      rw [HT.sIx_nat, List.drop_zero, Nat.sub_zero]
      exact List.take_of_length_le (by rw [List.length_map]; omega)
    have nl : l ≠ b := fun z => by
      rw [z, upd_same] at hb
      cases hb
    have s1 : Same H (upd H p (.lst (cutV (ns.map V.int) none (some 63)))) := same_new hp
    have s2 : Same H (upd (upd H p (.lst (cutV (ns.map V.int) none (some 63)))) l (.lst (cutV (ns.map V.int) none (some 63)))) := s1.trans (same_new hl')
    refine k b _ (s2.free hb) ⟨l, ns, 0, 0, 1, 0, nl, upd_same, ?_, by decide, by decide, by decide⟩ (s2.trans (same_new hb))
    rw [upd_ne nl, upd_same, e]
end
end VQ
namespace VQ
open PySem PySem.W L2 PyProof.Rows
open Builtin Builtin.Float Builtin.Int Builtin.Str
def binS (n : Nat) : PySem.Str := ⟨((Nat.toDigits 2 n).map Char.toNat).toArray⟩
theorem ret_text2 {M : Model} {A : Around} {E : Value → Shared → Prop} {s : Shared} {X T : PySem.Str} {Q : PySem.Fin → Shared → Prop} (e : X = T) (hL : T.length ≤ sizeLine) (h : ∀ t k, Q (.done (.ret (.str T t))) { s with toks := k }) : wpAny M A (retStr X) Q E s := by
  subst e
  exact wpAny_bind (wpAny_mkStr (by exact wpAny_pure (h _ _)) hL)
theorem ite_no2 {c : Prop} [Decidable c] {X Y : Prop} (hc : ¬ c) (h : Y) : if c then X else Y := by
  rw [if_neg hc]
  exact h
theorem wpAny_eqn {α : Type} {M : Model} {A : Around} {E : Value → Shared → Prop} {s : Shared} {Q : α → Shared → Prop} {t t' : Sem α} (e : t = t') (h : wpAny M A t' Q E s) : wpAny M A t Q E s := by
  rw [e]
  exact h
theorem parse_b : parseFormatSpec [98] "int" 62 = .ok ⟨32, 62, none, false, false, none, none, none, some 98⟩ := by kernel_rfl
theorem fmtb_run {prog : Program} {w : World} {A : Around} {R : PySem.Fin → Shared → Prop} {E : Value → Shared → Prop} {s : Shared} {a : Int} {t u : Tok} (h0 : 0 ≤ a) (h1 : a < 32)
    (h : ∀ t' k, R (.done (.ret (.str (binS a.toNat) t'))) { s with toks := k }) : wpAny (model prog w) A (Builtin.«int.__format__» ⟨[.int a t, .str (⟨#[98]⟩ : PySem.Str) u], []⟩) R E s := by
  simp only [Builtin.«int.__format__», selfAndOne, noKeywords, Int.intOfSelf, asInt?, asStr?, List.isEmpty_nil, if_true, pure_bind, bind_pure, bind_assoc, Bool.false_eq_true, if_false,
    show (Value.str (⟨#[98]⟩ : PySem.Str) u == Value.none) = false from rfl, show ((⟨#[98]⟩ : PySem.Str).length == 0) = false from rfl]
  refine wpAny_bind (wpAny_typeNameOf (T := "str") (typeIs_str _ _ _) (by decide) fun kind => ?_)
  rw [if_neg (by decide)]
  apply wpAny_bind
  apply wpAny_typeNameOfCut_int
  simp only [parse_b]
  rw [if_pos (by decide)]
  refine wpAny_eqn (t' := retStr (intField' ⟨32, 62, none, false, false, none, none, none, some 98⟩ (decide (a < 0)) [] ((Nat.toDigits 2 a.natAbs).map fun c => (if (98 : Nat) == 88 then c.toUpper else c).toNat) [] 4)) ?eq ?_
  case eq => kernel_rfl
  refine ret_text2 ?e ?l h
  case e =>
    obtain ⟨m, rfl⟩ := Int.eq_ofNat_of_zero_le h0
    have hm : m < 32 := by omega
    clear h h0 h1
    revert m
    decide +kernel
  case l =>
    obtain ⟨m, rfl⟩ := Int.eq_ofNat_of_zero_le h0
    have hm : m < 32 := by omega
    clear h h0 h1
    revert m
    decide +kernel
theorem fmtb_meets {a : Int} {t : Tok} (h0 : 0 ≤ a) (h1 : a < 32) : ∀ u, Meets (Builtin.«int.__format__» ⟨[.int a t, .str (⟨#[98]⟩ : PySem.Str) u], []⟩) (fun _ R s => ∀ t' k, R (.ok (.ret (.str (binS a.toNat) t'))) { s with toks := k }) :=
  fun u prog w A R s h => fmtb_run h0 h1 fun t' k => h t' k
def tFmtB (te : TE) : TE := fun σ H Q => te σ H fun x H1 => ∃ i : Int, x = .int i ∧ 0 ≤ i ∧ i < 32 ∧ Q (.str (binS i.toNat)) H1
theorem pe_fmtB {X : Cx} {e : Expr} {te : TE} {j : Nat} {p1 p2 pos : Pos} (he : PE X e te) : PE X (.FormattedValue e (-1) (some (.JoinedStr [.Constant (.str "b") j p1] p2)) pos) (tFmtB te) := by
  refine ⟨fun pins s σ H Q I h => ?_⟩
  refine wpAny_FormattedValue_spec (thn (he.run pins s σ H _ I h) fun v s1 ⟨x, H1, I1, r1, i, ex, h0, h1, q⟩ => ?_)
  subst ex
  obtain ⟨t, rfl⟩ := r1
  refine thn ((pe_joined1 (pe_str (X := X) (x := "b") (j := j) (pos := p1)) (pos := p2)).run pins s1 σ H1 (fun v H2 => v = .str "b" ∧ H2 = H1) I1 ⟨rfl, rfl⟩) fun r s2 ⟨y, H2, I2, r2, ey, eH⟩ => ?_
  subst ey
  obtain ⟨tk, rfl⟩ := r2
  rw [eH] at I2
  refine ⟨"b", tk, rfl, ?_⟩
  exact KXf.field_int (spec' := ⟨#[98]⟩) (by decide +kernel) (by decide) (by decide) (fmtb_meets h0 h1) fun t' k => ⟨.str (binS i.toNat), H1, I2.tok _, ⟨_, rfl⟩, q⟩
end VQ
namespace VQ
open PySem PyProof.Rows L2
/-! ### an error made without things: C() -/
/-- the end of C(): a is the new error, d its dict -/
def MadeEnd (H : Hp) (C a : Addr) (Q : XK) : VK := fun v H2 => v = .non ∧ ∃ (d : Addr) (fs : List (Str × V)), H2 a = some (exo a C (some d)) ∧ H2 d = some (exd d fs) ∧ H d = none ∧ Q (.ref C) (some d) (upd (del H2 a) d (.xd fs))
def tMkO0 (C : Addr) (sp : Sp) : L2.St → Hp → XK → Prop := fun _ H Q => ∀ a, H a = none → sp [.ref a] (upd H a (exo a C none)) (MadeEnd H C a Q) E00
  where E00 : XK := fun _ _ _ => False
theorem pmk_oex0 {X : Cx} {CX : CXT} {x : Str} {C g : Addr} {k : Nat} {fd : FuncData} {ps : List Str} {sp : Sp} {p pos : Pos} (cl : OexC X.K C) (ini : PySem.W.findIn X.K (.ref C) "__init__" = some (some (.ref g))) (ity : PySem.W.typeIn X.K (.ref g) = some (.type "function"))
    (ok : FnOk X.prog X.w X.K X.mg X.base CX k g fd ps sp) (room : Room (k + 1) X.A) (bnd : Binds X.K fd ps []) (out : Passes CX X (fun _ _ _ => False)) (isG : Gl X x) (atG : X.mg x = some (.ref C)) (nodb : (x == ("__debug__" : Str)) = false := by decide) :
    PMk X (.Call (.Name x p) [] [] pos) (tMkO0 C sp) := by
  intro pn st sl H Q inv want
  refine wpAny_Call_Name_kw (ld_glob inv isG atG (PySem.W.callWith_K0 inv.kIn cl.kC ?_) nodb)
  obtain ⟨_, _, _, _, mro, _, _, _, _, _, _, _, _, _, _, here, tail⟩ := cl.cls
  obtain ⟨h0, gn, dw, tk, osx⟩ := st
  -- the new error stands behind its empty tuple of things
  generalize eA : h0.objs.size + 1 = a
  have above : h0.objs.size ≤ a := by omega
  have promise := want a (inv.hok.fresh above)
  generalize eN : (h0.push (PySem.W.kdv_tup [])).push (PySem.HandSPX.excO C h0.objs.size) = h1
  have stays : ∀ b o, h0.get? b = some o → h1.get? b = some o := fun b o z => by
    rw [← eN]
    exact Heap.get?_push_of_some _ (Heap.get?_push_of_some _ z)
  have stands : h1.get? a = some (PySem.HandSPX.excO C h0.objs.size) := by
    rw [← eN, ← eA]
    heap_get
  have inv1 : Inv X pn sl (upd H a (exo a C none)) ⟨h1, gn, dw, tk, osx⟩ := inv.laid (t' := tk) stays above (exo_ok stands)
  have self1 : Vals [V.ref a] [Value.ref a] := .cons rfl .nil
  have cnt : ([Value.ref a] ++ ([] : List Value)).length = ps.length := (ok.len _ _ _ _ promise).symm ▸ rfl
  have binds1 := bnd ⟨h1, gn, dw, tk, osx⟩ [Value.ref a] inv1.kIn cnt
  have runs := ok.run _ X.stack ⟨h1, gn, dw, tk, osx⟩ _ ⟨[Value.ref a], []⟩ [Value.ref a] [V.ref a] _ _ (room.make C [] []) (inv1.env0.make C [] []) binds1 self1 promise
  subst eN eA
  refine wpAny_call (PySem.HandSPX.call_own F.excBase_ValueError (fun Y => PySem.HandSPX.refsVE_contains Y mro tail) (inv.kIn _ _ here) (PySem.W.looks_findIn inv.kIn ini) (fun self => PySem.W.bind_fn inv.kIn self ity) (Nat.zero_le _) (codeAny_mono runs ?_))
  rintro (er | (_ | _ | _ | u)) st2 z
  · exact out pn sl _ _ er st2 inv1 z
  · exact z.elim
  · exact z.elim
  · exact z.elim
  · obtain ⟨v, H2, z1, z2, z3, z4, z5, rfl, d, fs, y1, y2, y3, y4⟩ := z
    obtain ⟨_, _, _, _, _⟩ := st2
    exact ⟨z5, mk_end (raises_own cl.exC cl.tyC) inv above stays z3 z4 z1 z2 y1 y2 y3 y4⟩
/-! ### a try with several clauses, each «as n» -/
/-- what a clause names: one class, or a tuple of two or three -/
inductive Cte (X : Cx) : Expr → List Value → Prop
  | one {x : Str} {c : Value} {np : Pos} (h : Names X x c) : Cte X (.Name x np) [c]
  | two {x y : Str} {c e : Value} {p q r : Pos} {k : Nat} (h : Names X x c) (h' : Names X y e) : Cte X (.Tuple [.Name x p, .Name y q] k r) [c, e]
  | three {x y z : Str} {c e f : Value} {p q r t : Pos} {k : Nat} (h : Names X x c) (h' : Names X y e) (h'' : Names X z f) : Cte X (.Tuple [.Name x p, .Name y q, .Name z r] k t) [c, e, f]
section
variable {X : Cx} {a : Addr} {around : List (Addr × Obj)}
theorem names_read {pn : List (Addr × Obj)} {sl : L2.St} {H : Hp} {st : Shared} {x : Str} {c : Value} {np : Pos} {Q E : Value → Shared → Prop} (nm : Names X x c) (inv : Inv (X.suite a around) pn sl H st) (q : Q c st) :
    wpAny (model X.prog X.w) (X.A.mark (some (.ref a))) (eval (.Name x np) X.env) Q E st := by
  rcases nm with ⟨n1, n2, n3 | ⟨n3, n4, n5⟩⟩
  · exact ld_glob (X := X.suite a around) inv n1 n3 q n2
  · exact ld_blt (X := X.suite a around) inv n1 n3 n4 q n5 n2
theorem cte_run {pn : List (Addr × Obj)} {sl : L2.St} {H : Hp} {st : Shared} {te : Expr} {cs : List Value} {cls : Value} {oe : Obj} {b : Bool} {Q : Bool → Shared → Prop} {E1 E2 : Value → Shared → Prop} (ct : Cte X te cs) (inv : Inv (X.suite a around) pn sl H st)
    (at_ : st.heap.get? a = some oe) (hc : oe.cls = cls) (ans : PySem.W.exmAny X.K cls cs = some b) (q : ∀ h', (∀ b o, st.heap.get? b = some o → h'.get? b = some o) → Q b { st with heap := h' }) :
    wpAny (model X.prog X.w) (X.A.mark (some (.ref a))) (eval te X.env) (fun c s1 => wpAny (model X.prog X.w) (X.A.mark (some (.ref a))) (excMatches (.ref a) c) Q E1 s1) E2 st := by
  have ty : PySem.W.Looks (model X.prog X.w) st.heap (typeOf (.ref a)) cls := fun _ _ _ _ kp z => wpAny_typeOf_ref (kp _ _ at_) (hc ▸ z)
  have grown : ∀ (us : List Value) (b : Addr) (o : Obj), st.heap.get? b = some o → (st.heap.push { cls := .type "tuple", data := .seq us.toArray }).get? b = some o := fun us b o z => Heap.get?_push_of_some _ z
  have kin : ∀ us : List Value, X.K.In (st.heap.push { cls := .type "tuple", data := .seq us.toArray }) := fun us => (show X.K.In st.heap from inv.kIn).keeps (grown us)
  cases ct with
  | one n1 =>
    obtain ⟨b1, d1, x1, y1, z1⟩ := PySem.W.exmAny_cons ans
    cases (show some false = some d1 from y1)
    rw [Bool.or_false] at z1
    subst z1
    exact names_read n1 inv ((PySem.W.exm_one (M := model X.prog X.w) inv.kIn ty x1).here (q st.heap fun _ _ z => z))
  | @two x y c e p' q' r' k n1 n2 =>
    refine wpAny_Tuple_spliced ?_
    show wpAny _ _ (spliced [(false, eval (.Name x p') X.env), (false, eval (.Name y q') X.env)]) _ _ _
    refine Calls.spliced_cons (names_read n1 inv (Calls.spliced_cons (names_read n2 inv (Calls.spliced_nil ⟨by show 2 ≤ sizeLine; decide, ?_⟩))))
    exact (PySem.W.exm_tup2 (M := model X.prog X.w) (kin [c, e]) (ty.keeps (grown [c, e])) (Heap.get?_push_size _ rfl) ans).here (q _ (grown [c, e]))
  | @three x y z c e f p' q' r' t' k n1 n2 n3 =>
    refine wpAny_Tuple_spliced ?_
    show wpAny _ _ (spliced [(false, eval (.Name x p') X.env), (false, eval (.Name y q') X.env), (false, eval (.Name z r') X.env)]) _ _ _
    refine Calls.spliced_cons (names_read n1 inv (Calls.spliced_cons (names_read n2 inv (Calls.spliced_cons (names_read n3 inv (Calls.spliced_nil ⟨by show 3 ≤ sizeLine; decide, ?_⟩))))))
    exact (PySem.W.exm_tup3 (M := model X.prog X.w) (kin [c, e, f]) (ty.keeps (grown [c, e, f])) (Heap.get?_push_size _ rfl) ans).here (q _ (grown [c, e, f]))
end
theorem fly_keeps {B h h' : Heap} {l : List Env} {a : Addr} {Z : Obj → Prop} (f : HandSPX.FlyingZ B l a Z h) (k : ∀ b o, h.get? b = some o → h'.get? b = some o) : HandSPX.FlyingZ B l a Z h' := by
  rcases f with ⟨f1, f2, f3, oe, vs, T, oT, ts, e1, e2, e3, e4, e5, e6, e7, e8, e9⟩
  exact ⟨fun b o z => k b o (f1 b o z), f2, f3.of_keeps fun b o z _ => ⟨o, k b o z, rfl⟩, oe, vs, T, oT, ts, k _ _ e1, e2, e3, e4, e5, e6, k _ _ e7, e8, e9⟩
/-- the ends of a suite whose name (slot i) goes behind it -/
def offName (i : Nat) (D : Ends) : Ends := { nx := fun σ' H' => D.nx (σ'.set i none) H', rt := D.rt, bk := fun σ' H' => D.bk (σ'.set i none) H', ct := fun σ' H' => D.ct (σ'.set i none) H' }
abbrev Suite := Addr → Value → Option Addr → TS
/-- what the clauses wish of an error of the body -/
def wManyA (K : PySem.W.Frag) (i : Nat) (Wout : WX) (D : Ends) : List (List Value × Suite) → WX
  | [] => Wout
  | (cs, ts) :: r => fun cls d σ H => ∃ b, PySem.W.exmAny K cls cs = some b ∧ (b = true → ∀ a, H a = none → ts a cls d (offName i D) (σ.set i (some (.ref a))) H) ∧ (b = false → wManyA K i Wout D r cls d σ H)
/-- a suite walked, whatever error it has caught -/
def Suited (X : Cx) (body : List Stmt) (ts : Suite) : Prop := ∀ (a : Addr) (oe : Obj) (cls : Value) (d : Option Addr) (pn : List (Addr × Obj)), Zc cls d oe → (∃ vs, oe.data = .fields vs) → PSs (X.suite a ((a, oe) :: pn)) body (ts a cls d)
inductive HdsA (X : Cx) (n : Str) : List ExceptHandler → List (List Value × Suite) → Prop
  | nil : HdsA X n [] []
  | cons {te : Expr} {cs : List Value} {ts : Suite} {b₀ : Stmt} {more : List Stmt} {pos' : Pos} {hds : List ExceptHandler} {l : List (List Value × Suite)} (hc : Cte X te cs) (hsu : Suited X (b₀ :: more) ts) (r : HdsA X n hds l) :
      HdsA X n (.ExceptHandler (some te) (some n) (b₀ :: more) pos' :: hds) ((cs, ts) :: l)
section
variable {X : Cx} {n : Str} {i : Nat} {Wout : WX} {pins : List (Addr × Obj)} {D : Ends}
/-- one after the other, from where the error at a has landed -/
theorem hds_run (two : X.stack = X.env :: X.outer) (fr : X.env.frame = some X.env.locals) (nd : X.N.Nodup) (slot : X.N[i]? = some n) (loc : X.env.kindOf n = some .local) (tk : Takes X Wout) {a : Addr} {B : Heap} {sI s' : Shared} {σ' : L2.St} {H' : Hp} {cls : Value} {d : Option Addr}
    (inv : Inv X pins σ' H' sI) (ground : ∀ b o, sI.heap.get? b = some o → b ∉ frs X.stack → B.get? b = some o) (free : H' a = none) (notL : a ≠ X.env.locals) (notF : a ∉ X.fs) (sameOs : s'.os = sI.os) (bare : AllBare s'.gens)
    {hds : List ExceptHandler} {l : List (List Value × Suite)} (H : HdsA X n hds l) : wManyA X.K i Wout D l cls d σ' H' → ∀ h : Heap, HandSPX.FlyingZ B (X.env :: X.outer) a (Zc cls d) h → sI.heap.UpToSlots h →
    wpAny (model X.prog X.w) X.A (handleBy (.ref a) X.env hds) (SP X pins D) X.xe { s' with heap := h } := by
  induction H with
  | nil =>
    intro wish h fl up
    refine wpAny_handleBy_nil ?_
    have goOn : wpAny (model X.prog X.w) X.A (setFlight (.ref a) X.env.frame) (fun _ s4 => wpAny (model X.prog X.w) X.A (throw (.ref a) : Sem Flow) (SP X pins D) X.xe s4) X.xe { s' with heap := h } := by
      rw [fr]
      exact HandSPX.setFlight_upZ fl fun h4 held up4 => wpAny_throw (tk _ _ ⟨a, B, sI, pins, σ', H', cls, d, rfl, inv, ground, up.trans up4, .inr (.inr (two ▸ held)), free, sameOs, bare, wish⟩)
    obtain ⟨_, _, _, oe, vs, T, _, _, t1, _, t3, t4, _⟩ := id fl
    unfold PySem.passOn
    refine wpAny_bind (wpAny_field t1 t3 t4 ?_)
    have isRef : ¬ ((Value.ref T == Value.none) = true) := by simp
    rw [if_neg isRef]
    first
      | exact wpAny_bind goOn
      | exact wpAny_bind (wpAny_pure (by exact wpAny_bind goOn))
  | @cons te cs ts b₀ more pos' hds2 l2 named suited _ ih =>
    rintro ⟨b, ans, yes, no⟩ h fl up
    have onGround : ∀ {g : Heap}, HandSPX.FlyingZ B (X.env :: X.outer) a (Zc cls d) g → sI.heap.UpToSlots g → Inv X pins σ' H' { s' with heap := g } := fun f u => inv.landed ground f.1 u sameOs bare
    obtain ⟨oe, vs, t1, t2, t3⟩ := fl.there
    refine wpAny_handleBy_cons (codeAny_handlers_test (cte_run named ((onGround fl up).suite t1 t3 free notL notF) t1 t2.1 ans fun g kp => ?_)) (fun z => by cases z)
    have fl2 := fly_keeps fl kp
    have up2 := up.trans (Heap.UpToSlots.of_keeps kp)
    cases b with
    | false =>
      show wpAny _ X.A (handleBy _ X.env hds2) _ _ _
      exact ih (no rfl) g fl2 up2
    | true =>
      refine codeAny_handlers_suite_as (HandSPX.lands_againZ fl2 fun g4 fl4 up4 => ?_)
      obtain ⟨o4, _, u1, u2, u3⟩ := fl4.there
      have inv4 := (onGround fl4 (up2.trans up4)).suite u1 u3 free notL notF
      refine store_ok (X := X.suite a ((a, o4) :: (X.pn ++ pins))) (v := .ref a) inv4 nd slot (.inl loc) rfl (fun s5 inv5 => ?_) (.inr loc)
      refine wpAny_mono ((suited a o4 cls d (X.pn ++ pins) u2 ⟨_, u3⟩).run [] s5 _ H' (offName i D) inv5 (yes rfl a free)) ?_ (fun _ _ z => False.elim z)
      have nameGoes : ∀ {s6 : Shared} {σ6 : L2.St} {H6 : Hp} {Q : Shared → Prop}, Inv (X.suite a ((a, o4) :: (X.pn ++ pins))) [] σ6 H6 s6 → (∀ s7, Inv X pins (σ6.set i none) H6 s7 → Q s7) →
          wpAny (model X.prog X.w) X.A (do bindName X.env n .none; unbindBehindTheSuite X.env n pos') (fun _ s7 => Q s7) X.xe s6 := fun j z => gone_ok (j.unsuite inv.ok) nd slot loc z
      rintro (_ | _ | _ | v) s6 z
      · obtain ⟨_, _, j, z⟩ := z
        exact nameGoes j fun _ j7 => ⟨_, _, j7, z⟩
      · obtain ⟨_, _, j, z⟩ := z
        exact nameGoes j fun _ j7 => ⟨_, _, j7, z⟩
      · obtain ⟨_, _, j, z⟩ := z
        exact nameGoes j fun _ j7 => ⟨_, _, j7, z⟩
      · obtain ⟨_, _, _, j, r, z⟩ := z
        exact nameGoes j fun _ j7 => ⟨_, _, _, j7, r, z⟩
/-- try: body / except .. as n: ..  (several clauses) -/
theorem ps_try_manyA {body : List Stmt} {h₀ : ExceptHandler} {hds : List ExceptHandler} {l : List (List Value × Suite)} {pos : Pos} {tb : WX → TS} (two : X.stack = X.env :: X.outer) (fr : X.env.frame = some X.env.locals) (nd : X.N.Nodup) (slot : X.N[i]? = some n) (loc : X.env.kindOf n = some .local) (tk : Takes X Wout)
    (inside : ∀ (W : WX) (pn : List (Addr × Obj)) (xe : Value → Shared → Prop), Takes (X.tr pn xe) W → PassesOwn (model X.prog X.w) X.A X.env xe → PSs (X.tr pn xe) body (tb W))
    (clauses : HdsA X n (h₀ :: hds) l) : PS X (.Try body (h₀ :: hds) [] [] pos) (fun D σ H => tb (wManyA X.K i Wout D l) D σ H) := by
  refine ⟨fun pins st sl H D inv want => wpAny_Try_except (wpAny_mono ((inside (wManyA X.K i Wout D l) (X.pn ++ pins) _ (fun u s' air => ?_) PassesOwn.looking).run [] st sl H D (inv.toTry _) want) ?_ fun e s1 z => z)⟩
  · obtain ⟨a, B, sI, _, σ', H', cls, d, rfl, j0, ground, up, sky, free, sameOs, bare, wish⟩ := air
    have frames : X.A.frames = some (X.env :: X.outer) := two ▸ inv.ok.frames
    refine Sky.land Zc.steady frames fr (show Sky B (X.env :: X.outer) a (Zc cls d) X.env.locals s'.heap from two ▸ sky) fun h3 fl up3 => ?_
    obtain ⟨oe, vs, t1, _, t3⟩ := fl.there
    have noFrame : a ∉ frs (X.env :: X.outer) := fun m => by
      obtain ⟨_, o2, e2, nf⟩ := fl.2.2.1.mem m
      rw [t1] at e2
      cases e2
      exact nf _ t3
    refine hds_run two fr nd slot loc tk (j0.ofTry inv.ok) ground free (fun z => noFrame (List.mem_filterMap.mpr ⟨X.env, List.mem_cons_self, z ▸ fr⟩)) (fun m => ?_) sameOs bare clauses wish h3 fl (up.trans up3)
    obtain ⟨ev, m1, m2⟩ := List.mem_filterMap.mp m
    exact noFrame (List.mem_filterMap.mpr ⟨ev, List.mem_cons_of_mem _ m1, m2⟩)
  · rintro (_ | _ | _ | v) s1 z
    · obtain ⟨_, _, j, z⟩ := z
      exact wpAny_execs_nil ⟨_, _, j.ofTry inv.ok, z⟩
    · obtain ⟨_, _, j, z⟩ := z
      exact ⟨_, _, j.ofTry inv.ok, z⟩
    · obtain ⟨_, _, j, z⟩ := z
      exact ⟨_, _, j.ofTry inv.ok, z⟩
    · obtain ⟨_, _, _, j, r, z⟩ := z
      exact ⟨_, _, _, j.ofTry inv.ok, r, z⟩
end
end VQ
namespace VQ
open PySem PyProof.Rows L2 LamX
/-- kept by one part of the run, then by another one over more frames, all of which are new to the first -/
theorem un_comp {fs1 fs2 : List Addr} {H H1 H2 : Hp} {h h1 h2 : Heap} (u1 : Un fs1 [] H H1 h h1) (u2 : Un fs2 [] H1 H2 h1 h2) (sub : ∀ b ∈ fs2, b ∈ fs1 ∨ h.get? b = none) : Un fs1 [] H H2 h h2 where
  keep := fun b o e n hb hx => u2.keep b o (u1.keep b o e n hb hx) (u1.free b o e n hx) (fun m => (sub b m).elim hb fun z => nomatch z.symm.trans e) hx
  slot := fun b o e n hb hx => by
    obtain ⟨sl1, e1⟩ := u1.slot b o e n hb hx
    obtain ⟨sl2, e2⟩ := u2.any e1 (u1.free b o e n hx) hx
    exact ⟨sl2, e2⟩
  free := fun b o e n hx => let ⟨o', e1⟩ := u1.there b o e hx; u2.free b o' e1 (u1.free b o e n hx) hx
  there := fun b o e hx => let ⟨o', e1⟩ := u1.there b o e hx; u2.there b o' e1 hx
  tups := fun b xs e => u2.tups b xs (u1.tups b xs e)
  frzs := fun b o u e => u2.frzs b o u (u1.frzs b o u e)
  tbls := fun b ps e => by
    obtain ⟨m1, e1⟩ := u1.tbls b ps e
    obtain ⟨m2, e2⟩ := u2.tbls b _ e1
    rw [Array.append_assoc] at e2
    exact ⟨_, e2⟩
/-- a lambda's names: captured ones, globals, and names of its own that the maker does not have -/
structure LamS2 (X : Cx) (scope : Scope) : Prop where
  kind : scope.kind = .function
  co : scope.isCoroutine = false
  gen : scope.isGenerator = false
  noCell : ∀ y ∈ scope.names, y.2 ≠ .cell
  own : ∀ y ∈ scope.names, y.2 = .local → y.1 ∉ X.N
  free : ∀ y ∈ scope.names, y.2 = .free → X.env.scope.names.lookup y.1 = some .cell ∨ X.env.scope.names.lookup y.1 = some .free
def lamS2B (N : List Str) (sc scope : Scope) : Bool := decide (scope.kind = .function) && !scope.isCoroutine && !scope.isGenerator &&
  scope.names.all fun y => !decide (y.2 = .cell) && (!decide (y.2 = .local) || !N.contains y.1) && (!decide (y.2 = .free) || decide (sc.names.lookup y.1 = some .cell) || decide (sc.names.lookup y.1 = some .free))
theorem lamS2_by {X : Cx} {N : List Str} {sc scope : Scope} (h : lamS2B N sc scope = true) (eN : X.N = N) (es : X.env.scope = sc) : LamS2 X scope := by
  subst eN es
  simp only [lamS2B, Bool.and_eq_true, Bool.or_eq_true, Bool.not_eq_true', decide_eq_true_eq, decide_eq_false_iff_not, List.all_eq_true] at h
  obtain ⟨⟨⟨h1, h2⟩, h3⟩, h4⟩ := h
  refine ⟨h1, h2, h3, fun y m => (h4 y m).1.1, fun y m e z => ?_, fun y m e => ?_⟩
  · rcases (h4 y m).1.2 with q | q
    · exact q e
    · rw [List.contains_iff_mem.mpr z] at q
      cases q
  · rcases (h4 y m).2 with (q | q) | q
    · exact absurd e q
    · exact .inl q
    · exact .inr q
/-- the lambda of X's frame at the state st: its object at f, its code object at c -/
structure LamAt (X : Cx) (sl : L2.St) (H : Hp) (st : Shared) (body : Expr) (scope : Scope) (f c : Addr) : Prop where
  inv : ∃ pins, Inv X pins sl H st
  lam : LamS2 X scope
  new : H f = none
  nofr : f ∉ frs X.stack
  fn : ∃ (fd : FuncData) (binds : List (Str × Value)), st.heap.get? f = some { cls := .type "function", data := .func fd } ∧ fd.scope = scope ∧ fd.body = .expr body ∧ fd.code = .ref c ∧ fd.qualname = X.env.qual ++ "<lambda>" ∧ fd.globals = mainGlobals ∧ fd.builtins = builtinsNs ∧
    fd.closure = cloFrom X.env.cells scope.names [] ∧ (∀ y ∈ binds, scope.names.lookup y.1 = some .local) ∧ ∀ s1 : Shared, (∀ b o, st.heap.get? b = some o → H b = none → b ∉ frs X.stack → s1.heap.get? b = some o) → BindsTo s1 fd ⟨[], []⟩ binds
/-- its body as a reading, wherever it is entered -/
abbrev LamBody (X : Cx) (scope : Scope) (body : Expr) (k : Nat) (f c : Addr) (E : XK) (tb : TE) : Prop :=
  ∀ (A : Around) (outer : List Env) (s : Shared) (H : Hp), Room k (A.deeper (lamEnv X scope s.heap.objs.size f c)) → PE (lamCx X A outer s H E scope f c) body tb
section
variable {X : Cx} {sl : L2.St} {H : Hp} {st : Shared} {body : Expr} {scope : Scope} {f c : Addr} {k : Nat} {E : XK} {tb : TE}
/-- the closure's cells are the maker's -/
theorem clo_cell {y : Str} {d : Addr} (has : ∀ z ∈ scope.names, z.2 = .free → ∃ c, X.env.cells.lookup z.1 = some c) (e : (cloFrom X.env.cells scope.names []).lookup y = some d) : X.env.cells.lookup y = some d := by
  rcases cloFrom_mem (PySem.mem_of_lookup e) with m | ⟨m1, m2⟩
  · cases m
  · obtain ⟨c1, e1⟩ := has _ m1 rfl
    have e1 : X.env.cells.lookup y = some c1 := e1
    rw [m2, e1]
    rfl
theorem lam_enter {pins : List (Addr × Obj)} {A : Around} {outer : List Env} {s1 : Shared} {H1 : Hp} {h2 : Heap} {tk : Nat} {m : Str → Option Value} (inv : Inv X pins sl H st) (L : LamS2 X scope) (e0 : Env0 X.prog X.w X.K X.mg X.base A outer s1 H1) (cool : A.handled = none)
    (un : Un (frs X.stack) [] H H1 st.heap s1.heap) (ns : h2.Ns s1.heap.objs.size m) (grown : ∀ b o, s1.heap.get? b = some o → h2.get? b = some o) : Inv (lamCx X A outer s1 H1 E scope f c) [] sl H1 { s1 with heap := h2, toks := tk } := by
  have has : ∀ z ∈ scope.names, z.2 = .free → ∃ c, X.env.cells.lookup z.1 = some c := fun z m e => (L.free z m e).elim (fun q => inv.ok.has _ (.inl q)) (fun q => inv.ok.has _ (.inr q))
  have own : ∀ {y : Str}, scope.names.lookup y = some .free → ∃ d, (cloFrom X.env.cells scope.names []).lookup y = some d := fun {y} q => mem_lookup (cloFrom_has (cells := X.env.cells) (acc := []) (PySem.mem_of_lookup q))
  have cellOn : ∀ {d : Addr} {v : Option Value}, H d = none → st.heap.IsCell d v → h2.IsCell d v := fun {d v} z ⟨o, q1, q2⟩ => by
    obtain ⟨sl', q⟩ := un.any q1 z (by simp)
    exact ⟨_, grown _ _ q, q2⟩
  have noCell : ∀ {y : Str}, scope.names.lookup y ≠ some .cell := fun {y} q => L.noCell _ (PySem.mem_of_lookup q) rfl
  have none_ : ∀ b : Addr, b ∉ (lamCx X A outer s1 H1 E scope f c).ex := fun b z => by cases (show b ∈ ([] : List Addr) from z)
  exact {
    ok := {
      mod := e0.mod
      kind := L.kind
      glob := rfl
      blt := rfl
      above := Nat.le_refl _
      inj := fun y z d q1 q2 => inv.ok.inj y z d (clo_cell has q1) (clo_cell has q2)
      has := fun y q => q.elim (fun z => absurd (show scope.names.lookup y = some .cell from z) noCell) (fun z => own z)
      cab := fun y d z _ => by cases (show false = true from z)
      hd := fun _ => cool
      frames := Around.frames_deeper e0.frames
      stk := .inr ⟨rfl, rfl⟩
      exf := fun b z => absurd z (none_ b)
      bs := e0.bs
      bsz := e0.bsz
      noex := fun b _ _ => none_ b
      exfs := fun b z => absurd z (none_ b)
      funs := e0.funs
      frf := e0.frf }
    os := rfl
    bare := e0.bare
    base := Un.kept grown
    loc := ⟨m, ns, fun i y v q1 q2 q3 => by
      rcases (show Vis scope y from q3) with q | q | q
      · exact absurd (List.mem_of_getElem? q1) (L.own _ (PySem.mem_of_lookup q) rfl)
      · exact absurd q noCell
      · obtain ⟨m0, _, look⟩ := inv.loc
        have there := L.free _ (PySem.mem_of_lookup q) rfl
        obtain ⟨u, rel, at_⟩ := look i y v q1 q2 (.inr there)
        obtain ⟨d, hd⟩ := own q
        refine ⟨u, rel, .inr ⟨.inr q, d, hd, ?_⟩⟩
        have hd' := clo_cell has hd
        rcases at_ with ⟨z, _⟩ | ⟨_, d2, z1, z2⟩
        · have z : X.env.scope.names.lookup y = some .local := z
          rcases there with t | t <;> rw [t] at z <;> cases z
        · cases z1.symm.trans hd'
          exact cellOn (inv.freeC y _ hd') z2⟩
    cell := fun y d q => by
      obtain ⟨v, z⟩ := inv.cell y d (clo_cell has q)
      exact ⟨v, cellOn (inv.freeC y d (clo_cell has q)) z⟩
    free := e0.hok.fresh (Nat.le_refl _)
    freeC := fun y d q => by
      obtain ⟨v, o, z, _⟩ := inv.cell y d (clo_cell has q)
      exact un.free d o z (inv.freeC y d (clo_cell has q)) (by simp)
    pin := fun q m => by cases (show q ∈ ([] : List (Addr × Obj)) from m)
    hok := e0.hok.kept grown
    len := inv.len }
/-- called from the frames outer, at a state that has kept what st had -/
theorem lam_runs (L : LamAt X sl H st body scope f c) (bd : LamBody X scope body k f c E tb) {A : Around} {outer : List Env} {s1 : Shared} {H1 : Hp} {Q : VK} (room : Room (k + 1) A) (e0 : Env0 X.prog X.w X.K X.mg X.base A outer s1 H1)
    (un : Un (frs X.stack) [] H H1 st.heap s1.heap) (code : H1 c = some (CodeO c (X.env.qual ++ "<lambda>"))) (want : tb sl H1 Q) :
    codeAny (model X.prog X.w) A (.call (.ref f) ⟨[], []⟩) (CR (L2.CX X.prog X.w) outer X.prog X.w H1 s1 Q E) s1 := by
  obtain ⟨pins, inv⟩ := L.inv
  obtain ⟨⟨oc, vs, t, c1, c2, c3⟩, _⟩ := e0.hok c _ code
  obtain ⟨fd, binds, o1, o2, o3, o4, o5, o6, o7, o8, o9, o10⟩ := L.fn
  have stands := un.keep f _ o1 L.new L.nofr (by simp)
  have lim : s1.heap.NoLimit := e0.mod.nolimit.keeps fun b o z => (e0.bs b o z).1
  refine PySem.W.kla_callFunE room.depth stands rfl (by rw [o2]; exact L.lam.co) (by rw [o2]; exact L.lam.gen) o3 ⟨c, oc, vs, t, o4, c1, c2, by rw [o5]; exact c3⟩ (o10 s1 (fun b o z1 z2 z3 => un.keep b o z1 z2 z3 (by simp)) _ _ _ _ ?_)
  rw [o2, o4, o5, o6, o7, o8]
  refine wpAny_newFunctionEnv L.lam.noCell o9 (fun h2 ns but => ⟨lim.fresh _ but, ?_⟩) L.lam.kind
  have grown : ∀ b o, s1.heap.get? b = some o → h2.get? b = some o := fun b o z => but.extBut b o (Nat.ne_of_lt (Heap.lt_size z)) (Heap.get?_push_of_some _ z)
  have entered := lam_enter (E := E) (f := f) (c := c) (tk := s1.toks + binds.length) inv L.lam e0 room.hd un ns grown
  refine PySem.W.kla_codeExpr (wpAny_mono ((bd A outer s1 H1 (room.deeper _)).run [] _ _ H1 Q entered want) ?_ fun _ _ z => z)
  rintro v s2 ⟨v', H2, j, rel, q⟩
  exact ⟨v', H2, j.os, j.bare, j.base, j.hok, rel, q⟩
/-- y(), y in the i-th slot of a def that was handed the lambda, entered at s2 from the frames outer2 -/
theorem pe_actG {CXg : CXT} {Eg : XK} {N : List Str} {q : Str} {sg : Scope} {g : Addr} {cd : Value} {i : Nat} {y : Str} {pn : List (Addr × Obj)} {xe : Value → Shared → Prop} {W : WX} {p1 p2 : Pos} {A2 : Around} {outer2 : List Env} {s2 : Shared} {H2 : Hp}
    (L : LamAt X sl H st body scope f c) (bd : LamBody X scope body k f c E tb) (un2 : Un (frs X.stack) [] H H2 st.heap s2.heap) (sub : ∀ b ∈ frs outer2, b ∈ frs X.stack ∨ st.heap.get? b = none)
    (tk : Takes ((cxOf CXg X.prog X.w X.K X.mg X.base N q sg g cd A2 outer2 s2 H2 Eg).tr pn xe) W) (hW : ∀ cls d σ' H', σ'.length = N.length → E cls d H' → W cls d σ' H') (room : Room (k + 1) (A2.deeper (envOfC q sg s2.heap.objs.size g cd)))
    (slot : N[i]? = some y) (vis : Vis sg y) (n1 : (y == ("__debug__" : Str)) = false := by decide) (n2 : (y == ("__classdict__" : Str)) = false := by decide) :
    PE ((cxOf CXg X.prog X.w X.K X.mg X.base N q sg g cd A2 outer2 s2 H2 Eg).tr pn xe) (.Call (.Name y p1) [] [] p2)
      (fun σ' H' Q => σ'[i]? = some (some (.ref f)) ∧ H' c = some (CodeO c (X.env.qual ++ "<lambda>")) ∧ tb sl H' Q) := by
  refine ⟨fun pz sz σz Hz Q jz ⟨w1, w2, w3⟩ => ?_⟩
  refine wpAny_Call_Name_kw (thn ((pe_var (pos := p1) (i := i) slot vis n1 n2).run pz sz σz Hz (fun v H1 => v = .ref f ∧ H1 = Hz) jz ⟨_, w1, rfl, rfl⟩) ?_)
  rintro u s1 ⟨_, _, j, rel, rfl, rfl⟩
  cases (show u = Value.ref f from rel)
  have un := un_comp un2 (show Un (frs outer2) [] H2 _ s2.heap s1.heap from j.base) sub
  obtain ⟨fd, _, o1, _⟩ := L.fn
  refine PySem.W.callWith_F0 ⟨_, _, _, _, un.keep f _ o1 L.new L.nofr (by simp)⟩ ?_
  refine wpAny_call (codeAny_mono (lam_runs (Q := Q) L bd room j.env0 un w2 w3) ?_)
  rintro (er | (_ | _ | _ | u)) s3 z
  · exact tk er s3 (XE.of_call j (fun cls d H' y => hW cls d σz H' j.len y) z)
  · exact z.elim
  · exact z.elim
  · exact z.elim
  · exact j.after z
end
/-- a def that calls what it got, from wherever it is called -/
def Gives2 (P : Program) (w : World) (K : PySem.W.Frag) (mg : Str → Option Value) (base : Heap) (N : List Str) (x : Str) (sg : Scope) (g : Addr) (cd : Value) (bg : List Stmt) (y : Str) (q : Str) (TT : (XK → Hp → VK → Prop) → Hp → VK → Prop) : Prop :=
  ∀ (A2 : Around) (outer2 : List Env) (f c : Addr) (s : Shared) (H : Hp) (Q : VK) (tl : XK → Hp → VK → Prop),
    (∀ (W : WX) (pn : List (Addr × Obj)) (xe : Value → Shared → Prop) (E : XK) (p1 p2 : Pos), Takes ((cxOf C8.CX0 P w K mg base N x sg g cd A2 outer2 s H C8.E0).tr pn xe) W → (∀ cls d σ' H', σ'.length = N.length → E cls d H' → W cls d σ' H') →
      PE ((cxOf C8.CX0 P w K mg base N x sg g cd A2 outer2 s H C8.E0).tr pn xe) (.Call (.Name y p1) [] [] p2) (fun σ' H' Q => σ'[0]? = some (some (.ref f)) ∧ H' c = some (CodeO c q) ∧ tl E H' Q)) →
    H c = some (CodeO c q) → TT tl H Q → ∃ t, PSs (cxOf C8.CX0 P w K mg base N x sg g cd A2 outer2 s H C8.E0).nox bg t ∧ t { nx := fun _ H' => Q .non H', rt := Q } (L2.start N [.ref f]) H
/-- err.f in a suite, whatever the error's class is -/
def tXfA (K : PySem.W.Frag) (a : Addr) (cls : Value) (d : Option Addr) (f : Str) (te : TE) : TE := fun σ H Q => ∃ C, XfC K C ∧ PySem.W.findIn K (.ref C) f = some none ∧ tXf a cls d C f te σ H Q
theorem pe_xfA {X : Cx} {a : Addr} {oe : Obj} {cls : Value} {d : Option Addr} {pn : List (Addr × Obj)} {e : Expr} {te : TE} {pos : Pos} {n : Str} (z : Zc cls d oe) (rec_ : ∃ vs, oe.data = .fields vs) (he : PE (X.suite a ((a, oe) :: pn)) e te)
    (plain : attributeBase e n X.env (eval e X.env) = eval e X.env := by rfl) : PE (X.suite a ((a, oe) :: pn)) (.Attribute e n pos) (tXfA X.K a cls d n te) :=
  ⟨fun pins s σ H Q I ⟨_, xc, no, h⟩ => (pe_xf xc no z rec_ he plain).run pins s σ H Q I h⟩
/-! ### x1(lambda: body), x1: return x2(a1)[0]; x2 calls what it got -/
/-- a def as it stands: its parameter, names by slot, body -/
structure One (K : PySem.W.Frag) (mg : Str → Option Value) (x : Str) (g : Addr) (cd : Value) (N : List Str) (y : Str) (sg : Scope) (bg : List Stmt) : Prop where
  at_ : mg x = some (.ref g)
  kp : PySem.W.keepIn K (.ref g) = true
  ex : ∃ (oc : Value) (od : Option Addr) (pa : Arguments) (dV kV doc pm : Value) (an : Option Addr) (ct : Value) (osl : Array (Option Value)),
    K.lookup g = some ⟨oc, od, .func (PySem.W.fnOf x x pa bg sg dV kV doc pm an cd ct), osl⟩ ∧ L2.Binds K (PySem.W.fnOf x x pa bg sg dV kV doc pm an cd ct) [y] []
  code : PySem.W.codeIn K cd x = true
  sc : FnScope N [y] sg
  slot : N[0]? = some y
  vis : Vis sg y
  n1 : (x == ("__debug__" : Str)) = false
  n2 : (y == ("__debug__" : Str)) = false
  n3 : (y == ("__classdict__" : Str)) = false
theorem start_slot {N : List Str} {y : Str} {v : V} (h : N[0]? = some y) : (L2.start N [v])[0]? = some (some v) := by
  match N, h with
  | _ :: _, _ => rfl
section
variable {X : Cx} {x1 x2 y1 y2 : Str} {g1 g2 : Addr} {cd1 cd2 : Value} {N1 N2 : List Str} {sg1 sg2 : Scope} {bg2 : List Stmt} {j0 : Nat} {q1 q2 q3 q4 q5 q6 : Pos} {TT : (XK → Hp → VK → Prop) → Hp → VK → Prop}
abbrev handsOn (x2 y1 : Str) (j0 : Nat) (q1 q2 q3 q4 q5 q6 : Pos) : List Stmt := [.Return (some (.Subscript (.Call (.Name x2 q1) [.Name y1 q2] [] q3) (.Constant (.int 0) j0 q4) q5)) q6]
/-- in x1's frame, entered at s1 from X: x2(y1) -/
theorem pe_hand (D1 : One X.K X.mg x1 g1 cd1 N1 y1 sg1 (handsOn x2 y1 j0 q1 q2 q3 q4 q5 q6)) (D2 : One X.K X.mg x2 g2 cd2 N2 y2 sg2 bg2) (isG : sg1.names.lookup x2 = some .globalImplicit) (gives : Gives2 X.prog X.w X.K X.mg X.base N2 x2 sg2 g2 cd2 bg2 y2 (X.env.qual ++ "<lambda>") TT)
    {sl : L2.St} {H : Hp} {s1 : Shared} {body : Expr} {scope : Scope} {f c : Addr} {k : Nat} {t : XK → TE} (L : LamAt X sl H s1 body scope f c) (bd : ∀ E, LamBody X scope body k f c E (t E)) (room : Room (k + 2) (X.A.deeper (envOfC x1 sg1 s1.heap.objs.size g1 cd1))) :
    PE (cxOf C8.CX0 X.prog X.w X.K X.mg X.base N1 x1 sg1 g1 cd1 X.A X.stack s1 H C8.E0) (.Call (.Name x2 q1) [.Name y1 q2] [] q3)
      (fun σ' H' Q => σ'[0]? = some (some (.ref f)) ∧ H' c = some (CodeO c (X.env.qual ++ "<lambda>")) ∧ TT (fun E H2 Q2 => t E sl H2 Q2) H' Q) := by
  refine ⟨fun pz sz σz Hz Q jz ⟨w1, w2, w3⟩ => ?_⟩
  refine wpAny_Call_Name_kw (ld_glob jz (show (envOfC x1 sg1 s1.heap.objs.size g1 cd1).kindOf x2 = some .globalImplicit from isG) D2.at_ ?_ D2.n1)
  have arg : PA (cxOf C8.CX0 X.prog X.w X.K X.mg X.base N1 x1 sg1 g1 cd1 X.A X.stack s1 H C8.E0) [.Name y1 q2] (tCons (tVar 0) tNil) := pa_cons (pe_var (i := 0) D1.slot D1.vis D1.n2 D1.n3) pa_nil
  refine PySem.W.callWith_K (h₀ := X.base) jz.ok.mod.kin D2.kp (thn (arg.run q3 pz sz σz Hz (fun vs H2 => vs = [.ref f] ∧ H2 = Hz) jz ⟨_, w1, rfl, rfl⟩) ?_) (by rfl) (by rfl)
  rintro us s2 ⟨_, _, j, rel, rfl, rfl⟩
  obtain ⟨oc, od, pa, dV, kV, doc, pm2, an, ct, osl, lk, bnd⟩ := D2.ex
  match us, rel with
  | [_], .cons r .nil =>
    cases r
    refine ⟨j.kIn, ?_⟩
    have sub : ∀ b ∈ frs (envOfC x1 sg1 s1.heap.objs.size g1 cd1 :: X.stack), b ∈ frs X.stack ∨ s1.heap.get? b = none := fun b m => by
      obtain ⟨ev, m1, m2⟩ := List.mem_filterMap.mp m
      rcases List.mem_cons.mp m1 with rfl | m1
      · cases m2
        refine .inr (Option.eq_none_iff_forall_ne_some.mpr fun o z => ?_)
        exact Nat.lt_irrefl _ (Heap.lt_size z)
      · exact .inl (List.mem_filterMap.mpr ⟨ev, m1, m2⟩)
    have inner : codeAny (model X.prog X.w) (X.A.deeper (envOfC x1 sg1 s1.heap.objs.size g1 cd1)) (.call (.ref g2) ⟨[.ref f], []⟩) (CR C8.CX0 (envOfC x1 sg1 s1.heap.objs.size g1 cd1 :: X.stack) X.prog X.w _ s2 Q C8.E0) s2 :=
      run_ofS (N := N2) (ps := [y2]) (us := [.ref f]) (vs := [.ref f]) lk D2.code D2.sc room j.env0 (bnd s2 [.ref f] j.kIn rfl) (.cons rfl .nil) rfl fun room2 => by
        obtain ⟨tt, d1, d2⟩ := gives (X.A.deeper (envOfC x1 sg1 s1.heap.objs.size g1 cd1)) (envOfC x1 sg1 s1.heap.objs.size g1 cd1 :: X.stack) f c s2 _ Q (fun E H2 Q2 => t E sl H2 Q2)
          (fun W pn xe E p1 p2 tk hW => pe_actG (i := 0) L (bd E) (show Un (frs X.stack) [] H _ s1.heap s2.heap from j.base) sub tk hW room2 D2.slot D2.vis D2.n2 D2.n3) w2 w3
        exact ⟨tt, d1.nox, d2⟩
    refine wpAny_call (codeAny_mono inner ?_)
    rintro (er | (_ | _ | _ | u)) s3 z
    · exact (show False from z).elim
    · exact z.elim
    · exact z.elim
    · exact z.elim
    · exact j.after z
/-- the lambda is made, with whatever defaults -/
def LamMk (X : Cx) (T : List (Addr × Str)) (params : Arguments) (body : Expr) (scope : Scope) (lpos : Pos) : Prop :=
  ∀ {pins : List (Addr × Obj)} {sl : L2.St} {H : Hp} {st : Shared} {Q : Value → Shared → Prop} {E : Value → Shared → Prop}, Inv X pins sl H st → Tabs T H →
    (∀ (f c : Addr) (H1 : Hp) (s1 : Shared), Inv X pins sl H1 s1 → LamAt X sl H1 s1 body scope f c → ExtN H H1 → Tabs T H1 → H1 c = some (CodeO c (X.env.qual ++ "<lambda>")) → Q (.ref f) s1) →
    wpAny (model X.prog X.w) X.A (eval (.Lambda params body scope lpos) X.env) Q E st
theorem pe_word {T : List (Addr × Str)} {k : Nat} {params : Arguments} {body : Expr} {scope : Scope} {t : XK → TE} {p lpos pos : Pos} (isG : Gl X x1) (D1 : One X.K X.mg x1 g1 cd1 N1 y1 sg1 (handsOn x2 y1 j0 q1 q2 q3 q4 q5 q6)) (isG2 : sg1.names.lookup x2 = some .globalImplicit)
    (D2 : One X.K X.mg x2 g2 cd2 N2 y2 sg2 bg2) (gives : Gives2 X.prog X.w X.K X.mg X.base N2 x2 sg2 g2 cd2 bg2 y2 (X.env.qual ++ "<lambda>") TT) (mk : LamMk X T params body scope lpos) (room : Room (k + 3) X.A) (bd : ∀ f c' E, LamBody X scope body k f c' E (t E)) :
    PE X (.Call (.Name x1 p) [.Lambda params body scope lpos] [] pos) (tLam T (fun tl H Q => TT tl H fun v H1 => rIxT X.K v (.int 0) H1 Q) t) := by
  refine ⟨fun pins st sl H Q inv ⟨tabs, want⟩ => ?_⟩
  refine wpAny_Call_Name_kw (ld_glob inv isG D1.at_ (PySem.W.callWith_K (h₀ := X.base) inv.ok.mod.kin D1.kp ?_ (by rfl) (by rfl)) D1.n1)
  refine Calls.spliced_cons (rest := backTo pos (starEach [] X.env)) (mk inv tabs fun f c' H1 s1 inv1 LA ext tabs1 co => ?_)
  refine Calls.spliced_nil ⟨inv1.kIn, ?_⟩
  obtain ⟨oc, od, pa, dV, kV, doc, pm1, an, ct, osl, lk, bnd⟩ := D1.ex
  have outerRun : codeAny (model X.prog X.w) X.A (.call (.ref g1) ⟨[.ref f], []⟩) (CR C8.CX0 X.stack X.prog X.w H1 s1 Q C8.E0) s1 :=
    run_ofS (N := N1) (ps := [y1]) (us := [.ref f]) (vs := [.ref f]) lk D1.code D1.sc room inv1.env0 (bnd s1 [.ref f] inv1.kIn rfl) (.cons rfl .nil) rfl fun room1 =>
      ⟨_, pss_one (ps_ret (pe_ix ix_tup (pe_hand D1 D2 isG2 gives LA (bd f c') room1) pe_int fun _ _ => rfl)), start_slot D1.slot, co, want H1 ext tabs1⟩
  refine wpAny_call (codeAny_mono outerRun ?_)
  rintro (er | (_ | _ | _ | u)) s3 z
  · exact (show False from z).elim
  · exact z.elim
  · exact z.elim
  · exact z.elim
  · exact inv1.after z
end
section
variable {X : Cx} {T : List (Addr × Str)} {c P : Addr} {params : Arguments} {body : Expr} {scope : Scope} {lpos : Pos}
/-- without defaults -/
theorem mk_plain (TB : TabB X.base X.mg c P) (code : X.env.code = .ref c) (mem : (P, X.env.qual ++ "<lambda>") ∈ T) (only : ∀ p ∈ T, p.1 = P → p.2 = X.env.qual ++ "<lambda>") (L : LamS2 X scope) (nodef : defaultsOf params X.env = ([], []))
    (noargs : ∀ (q : Str) (cl : List (Str × Addr)) (pm cv ctv : Value), bindArgs (PySem.W.kla_fn "<lambda>" q params body scope cl pm cv ctv) ⟨[], []⟩ = pure []) : LamMk X T params body scope lpos := by
  intro pins sl H st Q E inv tabs k
  have has : ∀ z ∈ scope.names, z.2 = .free → ∃ c, X.env.cells.lookup z.1 = some c := fun z m e => (L.free z m e).elim (fun q => inv.ok.has _ (.inl q)) (fun q => inv.ok.has _ (.inr q))
  refine lam_make2 inv TB code mem only tabs nodef has fun f c' pm ctv H1 s1 inv1 ext tabs1 obj new nofr co => ?_
  exact k f c' H1 s1 inv1 ⟨⟨pins, inv1⟩, L, new, nofr, _, [], obj, rfl, rfl, rfl, rfl, rfl, rfl, rfl, (fun y m => by cases m), (fun s2 _ => BindsTo.of_eq (noargs _ _ _ _ _))⟩ ext tabs1 co
end
end VQ
namespace VQ
open PySem PyProof.Rows L2 LamX
/-! ### a lambda with a default -/
theorem ct_step {M : Model} {A : Around} {E : Value → Shared → Prop} {s : Shared} {b : Bool} {items : List Value} {jp : Value → Sem Value} {Q : Value → Shared → Prop} (k : ∀ (ct : Value) (h1 : Heap), (∀ b o, s.heap.get? b = some o → h1.get? b = some o) → s.heap.objs.size ≤ h1.objs.size → wpAny M A (jp ct) Q E { s with heap := h1 }) :
    wpAny M A (if b = true then (do let ct ← pure Value.none; jp ct) else (do let ct ← newTextTuple items; jp ct)) Q E s := by
  cases b with
  | true => exact wpAny_bind (wpAny_pure (k .none s.heap (fun _ _ z => z) (Nat.le_refl _)))
  | false => exact wpAny_bind (wpAny_newTextTuple (k _ _ (fun _ _ z => Heap.get?_push_of_some _ z) (by rw [Heap.size_push]; omega)))
abbrev fnDfl (q : Str) (params : Arguments) (body : Expr) (scope : Scope) (cl : List (Str × Addr)) (pm : Value) (c : Addr) (ctv dV : Value) : FuncData := { PySem.W.kla_fn "<lambda>" q params body scope cl pm (.ref c) ctv with defaults := dV }
section
variable {X : Cx} {T : List (Addr × Str)} {c P : Addr} {params : Arguments} {body : Expr} {scope : Scope} {lpos : Pos}
theorem tail_run {pins : List (Addr × Obj)} {sl : L2.St} {H : Hp} {st : Shared} {Q : Value → Shared → Prop} {E : Value → Shared → Prop} {dV : Value} (inv : Inv X pins sl H st) (TB : TabB X.base X.mg c P) (code : X.env.code = .ref c) (mem : (P, X.env.qual ++ "<lambda>") ∈ T) (only : ∀ p ∈ T, p.1 = P → p.2 = X.env.qual ++ "<lambda>") (tabs : Tabs T H)
    (has : ∀ z ∈ scope.names, z.2 = .free → ∃ c, X.env.cells.lookup z.1 = some c)
    (k : ∀ (f c' : Addr) (pm ctv : Value) (H1 : Hp) (s1 : Shared), Inv X pins sl H1 s1 → ExtN H H1 → Tabs T H1 → (∀ b o, st.heap.get? b = some o → H b = none → s1.heap.get? b = some o ∧ H1 b = none) →
      s1.heap.get? f = some { cls := .type "function", data := .func (fnDfl (X.env.qual ++ "<lambda>") params body scope (cloFrom X.env.cells scope.names []) pm c' ctv dV) } → H1 f = none → f ∉ frs X.stack → H1 c' = some (CodeO c' (X.env.qual ++ "<lambda>")) → Q (.ref f) s1) :
    wpAny (model X.prog X.w) X.A (makeTail "<lambda>" (X.env.qual ++ "<lambda>") params (.expr body) scope X.env dV .none none lpos lpos.line) Q E st := by
  obtain ⟨ps, atP, trip, known⟩ := tabs _ mem
  have rawP : st.heap.get? P = some { cls := .none, data := .fields ps } := inv.hok P _ atP
  obtain ⟨bm, ob, b1, b2, b3, b4, b5, b6, b7, b8⟩ := TB.bm.keeps inv.bk
  have noFrame : ∀ f, st.heap.objs.size ≤ f → f ∉ frs X.stack := fun f above z => by
    rcases List.mem_cons.mp (inv.stkSub _ z) with e | e
    · exact absurd inv.lt (by rw [← e]; exact Nat.not_lt.mpr above)
    · exact inv.nofs above e
  have nsG : st.heap.Ns mainGlobals X.mg := inv.mod.glob.keeps inv.bk
  unfold makeTail
  rw [closure_ok has, inv.ok.glob]
  refine wpAny_bind (wpAny_pure (ct_step fun ct h1 grown sz1 => ?_))
  have hd1 := (TB.code.keeps inv.bk).keeps grown
  have rawP1 := grown _ _ rawP
  cases found : codeAmong lpos ps.toList with
  | none =>
    refine wpAny_bind (wpAny_functionCodeX code (hd1.code rawP1 trip) (hd1.tab rawP1) found fun c' h2 tk but above below _ rec_ tab2 _ => ?_)
    have nsG2 := (nsG.keeps grown).extBut but TB.gP
    refine wpAny_bind (wpAny_builtinsFor nsG2 b1 b2 (but _ _ b4 (grown _ _ b5)) b6 b7 b8 (wpAny_bind (wpAny_nsGet nsG2 (wpAny_bind (wpAny_pure (wpAny_newObj_type ?_ (by size_fits)))))))
    obtain ⟨c2, oc, vs, t, ec, r1, r2, r3⟩ := rec_
    cases ec
    have newC : H c' = none := inv.hok.fresh (Nat.le_trans sz1 above)
    have szf : st.heap.objs.size ≤ h2.objs.size := Nat.le_trans (Nat.le_trans sz1 above) (Nat.le_of_lt below)
    have old : ∀ b o, b ≠ P → st.heap.get? b = some o → h2.get? b = some o := fun b o n z => but b o n (grown b o z)
    have inv2 := inv_table (t' := tk) (more := #[rawInt lpos.line, rawInt lpos.col, .ref c']) (h' := h2.push { cls := .type "function", data := .func (fnDfl (X.env.qual ++ "<lambda>") params body scope (cloFrom X.env.cells scope.names []) ((X.mg "__name__").getD .none) c' ct dV) }) inv atP
      (fun b o n z => Heap.get?_push_of_some _ (old b o n z)) (Heap.get?_push_of_some _ tab2.2) (Nat.le_trans sz1 above) ⟨oc, vs, t, Heap.get?_push_of_some _ r1, r2, r3⟩
    have nP : ∀ b, H b = none → b ≠ P := fun b z e => by
      rw [e, atP] at z
      cases z
    have ext : ExtN H (upd (upd H P (.tbl (ps ++ #[rawInt lpos.line, rawInt lpos.col, .ref c']))) c' (CodeO c' (X.env.qual ++ "<lambda>"))) := fun b o z n => by
      have bP : b ≠ P := fun e => by
        rw [e] at z
        exact n ps (Option.some.inj (z.symm.trans atP))
      rw [upd_ne (ne_of_none z newC), upd_ne bP]
      exact z
    have glue : (ps ++ #[rawInt lpos.line, rawInt lpos.col, Value.ref c']).toList = ps.toList ++ [rawInt lpos.line, rawInt lpos.col, .ref c'] := by simp
    refine k h2.objs.size c' _ ct _ _ inv2 ext (fun p m => ?_) (fun b o z n => ⟨Heap.get?_push_of_some _ (old b o (nP b n) z), ?_⟩) (Heap.get?_push_size _ rfl) ?_ (noFrame _ szf) upd_same
    · by_cases e : p.1 = P
      · rw [only p m e, e]
        refine ⟨_, by rw [upd_ne (ne_of_none atP newC), upd_same], by rw [glue]; exact PySem.TriplesOk_snoc _ _ _ _ trip, fun p' cv hit => ?_⟩
        rw [glue] at hit
        rcases among_app _ trip hit with z | z
        · obtain ⟨c0, z1, z2⟩ := known p' cv z
          exact ⟨c0, z1, ext _ _ z2 codeO_ne⟩
        · exact ⟨c', z, upd_same⟩
      · obtain ⟨ps', a1, a2, a3⟩ := tabs p m
        refine ⟨ps', by rw [upd_ne (ne_of_none a1 newC), upd_ne e]; exact a1, a2, fun p' cv hit => ?_⟩
        obtain ⟨c0, z1, z2⟩ := a3 p' cv hit
        exact ⟨c0, z1, ext _ _ z2 codeO_ne⟩
    · have nc : b ≠ c' := Nat.ne_of_lt (Nat.lt_of_lt_of_le (Heap.lt_size z) (Nat.le_trans sz1 above))
      rw [upd_ne nc, upd_ne (nP b n)]
      exact n
    · rw [upd_ne (Nat.ne_of_gt below), upd_ne (Nat.ne_of_gt (Nat.lt_of_lt_of_le (Heap.lt_size rawP) szf))]
      exact inv.hok.fresh szf
  | some cv =>
    obtain ⟨c', e, stands⟩ := known lpos cv found
    subst e
    have nsG1 := nsG.keeps grown
    refine wpAny_bind (wpAny_functionCode_hit code (hd1.code rawP1 trip) found (wpAny_bind (wpAny_builtinsFor nsG1 b1 b2 (grown _ _ b5) b6 b7 b8 (wpAny_bind (wpAny_nsGet nsG1 (wpAny_bind (wpAny_pure (wpAny_newObj_type ?_ (by size_fits)))))))))
    have stays : ∀ b o, st.heap.get? b = some o → (h1.push { cls := .type "function", data := .func (fnDfl (X.env.qual ++ "<lambda>") params body scope (cloFrom X.env.cells scope.names []) ((X.mg "__name__").getD .none) c' ct dV) }).get? b = some o := fun b o z => Heap.get?_push_of_some _ (grown b o z)
    exact k h1.objs.size c' _ ct H _ (inv.kept stays) (ExtN.refl H) tabs (fun b o z n => ⟨stays b o z, n⟩) (Heap.get?_push_size _ rfl) (inv.hok.fresh sz1) (noFrame _ sz1) stands
/-- one default, an int -/
theorem mk_dflt {i : Int} {j : Nat} {dp : Pos} {y : Str} (TB : TabB X.base X.mg c P) (code : X.env.code = .ref c) (mem : (P, X.env.qual ++ "<lambda>") ∈ T) (only : ∀ p ∈ T, p.1 = P → p.2 = X.env.qual ++ "<lambda>") (L : LamS2 X scope)
    (defs : defaultsOf params X.env = ([eval (.Constant (.int i) j dp) X.env], [])) (nokw : params.kwonlyargs = []) (loc : scope.names.lookup y = some .local)
    (args : ∀ (q : Str) (cl : List (Str × Addr)) (pm ctv u : Value) (cv T0 : Addr), ∃ k, bindArgs (fnDfl q params body scope cl pm cv ctv (.ref T0)) ⟨[], []⟩ = seqItems? (.ref T0) >>= k ∧ k (some #[u]) = pure [(y, u)]) : LamMk X T params body scope lpos := by
  intro pins sl H st Q E inv tabs k
  have has : ∀ z ∈ scope.names, z.2 = .free → ∃ c, X.env.cells.lookup z.1 = some c := fun z m e => (L.free z m e).elim (fun q => inv.ok.has _ (.inl q)) (fun q => inv.ok.has _ (.inr q))
  rw [arm_eval_Lambda, defs]
  show wpAny _ _ (do let dv ← evalAll [eval (.Constant (.int i) j dp) X.env]; let kdv ← holding dv (evalAllOpt []); makeFunction "<lambda>" (X.env.qual ++ "<lambda>") params (.expr body) scope X.env dv kdv [] lpos lpos.line) _ _ _
  refine wpAny_bind (wpAny_evalAll_cons (wpAny_Constant_int (wpAny_evalAll_nil (wpAny_bind (wpAny_holding (wpAny_pure ?_))))))
  rw [makeFunction_eq, nokw]
  simp only [List.zip_nil_left, List.filterMap_nil, List.isEmpty_nil, List.isEmpty_cons, if_true, Bool.false_eq_true, if_false, pure_bind]
  refine wpAny_bind (wpAny_newTextTuple ?_)
  have old : ∀ b o, st.heap.get? b = some o → (st.heap.push { cls := .type "tuple", data := .seq [Value.int i st.toks].toArray }).get? b = some o := fun b o z => Heap.get?_push_of_some _ z
  have atT : (st.heap.push { cls := .type "tuple", data := .seq [Value.int i st.toks].toArray }).get? st.heap.objs.size = some { cls := .type "tuple", data := .seq [Value.int i st.toks].toArray } := Heap.get?_push_size _ rfl
  have inv1 : Inv X pins sl H { st with heap := st.heap.push { cls := .type "tuple", data := .seq [Value.int i st.toks].toArray }, toks := st.toks + 1 } := inv.kept old
  have newT : H st.heap.objs.size = none := inv.hok.fresh (Nat.le_refl _)
  have noT : st.heap.objs.size ∉ frs X.stack := fun z => by
    rcases List.mem_cons.mp (inv.stkSub _ z) with e | e
    · exact absurd inv.lt (by rw [← e]; exact Nat.lt_irrefl _)
    · exact inv.nofs (Nat.le_refl _) e
  refine tail_run inv1 TB code mem only tabs has fun f c' pm ctv H1 s1 inv2 ext tabs1 keep obj new nofr co => ?_
  obtain ⟨t1, t2⟩ := keep _ _ atT newT
  refine k f c' H1 s1 inv2 ⟨⟨pins, inv2⟩, L, new, nofr, _, [(y, Value.int i st.toks)], obj, rfl, rfl, rfl, rfl, rfl, rfl, rfl, fun z m => ?_, fun s2 stays => ?_⟩ ext tabs1 co
  · rw [List.mem_singleton.mp m]
    exact loc
  · obtain ⟨kk, e1, e2⟩ := args (X.env.qual ++ "<lambda>") (cloFrom X.env.cells scope.names []) pm ctv (.int i st.toks) c' st.heap.objs.size
    refine BindsTo.of_looks fun M => ?_
    rw [e1]
    intro A' Q' E' s3 kp q
    have there := kp _ _ (stays _ _ t1 t2 noT)
    exact wpAny_bind (wpAny_seqItems there rfl ((PySem.W.Looks.of_pure e2 : PySem.W.Looks M s2.heap _ _) A' Q' E' s3 kp q))
end
end VQ
namespace VQ
open PySem PySem.Spec PyProof.Rows L2 LamX
/-! ### a tuple times a number from 1 on -/
theorem once_mul (l : Addr) (its : Array Value) (n : Nat) (dd : Option Addr) (sl : Array (Option Value)) (u : Tok) :
    Meets (Builtin.«tuple.__mul__» ⟨[.ref l, .int 1 u], []⟩) (fun _ R s => s.heap.get? l = some ⟨.type "tuple", dd, .seq its n, sl⟩ ∧ R (.ok (.ret (.ref l))) s) :=
  .of_wp fun prog w A R s h => by
    obtain ⟨hp, g, d, tk, os⟩ := s
    obtain ⟨hl, h⟩ := h
    have f1 := AutoSeq1.idx_int
    wp_walk using wpAny_loadPart' hl
    exact ⟨_, rfl, h⟩
/-- once is the tuple itself -/
def rTimes (K : PySem.W.Frag) : R2 := fun x y H Q => ∃ (l : Addr) (k : Int) (xs : List V), x = .ref l ∧ y = .int k ∧ SqT K H l xs ∧ xs ≠ [] ∧ 1 ≤ k ∧ k ≤ 1000 ∧ xs.length ≤ 1000 ∧
  (k = 1 → Q (.ref l) H) ∧ (k ≠ 1 → ∀ p, H p = none → Q (.ref p) (upd H p (.tup (List.replicate k.toNat xs).flatten)))
theorem op_times {X : Cx} : OpR X (binaryOp .Mult) (rTimes X.K) := by
  intro pins s σ H x y v u Q I rx ry h
  obtain ⟨l, k, xs, rfl, rfl, sq, ne, k1, k2, hz, q1, q2⟩ := h
  by_cases e : k = 1
  · subst e
    cases rx
    obtain ⟨t, rfl⟩ := ry
    obtain ⟨its, r, ⟨⟨cls, dd, data, sl⟩, ho, hc, n, hd⟩, hs⟩ := I.tuple sq
    simp only at hc hd
    subst hc hd
    exact wpAny_binaryOp_repeat_ref (T := "tuple") (U := "int") (by decide) ⟨_, ho, rfl⟩ (fun s' => typeIs_int s' 1 t) noFill_tuple_mul F.fills_int_mul F.slot_int_rmul repeat_tuple F.slot_int_index.lookup
      (call_meets F.slot_int_rmul (typeIs_int s 1 t) F.entry_int_rmul (F.args_int_rmul_2 _ _) (int_rmul_tuple 1 t l its.toArray n dd sl)
        ⟨ho, rfl, ⟨_, ho, rfl⟩, call_meets F.slot_tuple_mul ⟨_, ho, rfl⟩ F.entry_tuple_mul (F.args_tuple_mul_2 _ _) (once_mul l its.toArray n dd sl t) ⟨ho, .ref l, H, I, rfl, q1 rfl⟩⟩)
  · exact op_repT pins s σ H _ _ v u Q I rx ry ⟨l, k, xs, rfl, rfl, sq, ne, by omega, k2, hz, q2 e⟩
/-! ### comprehensions over zip of two tuples -/
theorem lc_zipT {K : PySem.W.Frag} {a b : Addr} {xs ys : List V} {g : TG} {tt : TT} {te : TE} {vs : List Nat} {σ : L2.St} {H1 : Hp} {D : Addr} {Qd : Hp → Prop} (len : xs.length = ys.length) (Pv : Nat → Hp → Prop) (h0 : Pv 0 (upd H1 D (.lst []))) (both : ∀ i H, Pv i H → SqT K H a xs ∧ SqT K H b ys)
    (turn : ∀ (i : Nat) (x y : V) (T : Addr) (H : Hp), xs[i]? = some x → ys[i]? = some y → Pv i H → H T = none → g (.ref T) (wipe σ vs) (upd H T (.tup [x, y])) fun σ2 H2 => wipe σ2 vs = wipe σ vs ∧ tt σ2 H2 fun b H3 => if b = true then te σ2 H3 fun y H4 => ∃ acc, H4 D = some (.lst acc) ∧ acc.length < sizeLine ∧ Pv (i + 1) (upd H4 D (.lst (acc ++ [y]))) else Pv (i + 1) H3)
    (fin : ∀ H, Pv xs.length H → Qd H) :
    ∃ W : Nat → Nat → Hp → Prop, (∃ m, W 0 m (upd H1 D (.lst []))) ∧ ∀ i m H, W i m H → ((RZ.ItzT K a b).stop i H ∧ Qd H) ∨ ((RZ.ItzT K a b).go i H ∧ ∃ Nx : Hp → Prop, (∀ H', Nx H' → ∃ m', m' < m ∧ W (i + 1) m' H') ∧
      ∀ x H', (RZ.ItzT K a b).yld i H x H' → g x (wipe σ vs) H' fun σ2 H2 => wipe σ2 vs = wipe σ vs ∧ tt σ2 H2 fun b H3 => if b = true then te σ2 H3 fun y H4 => ∃ acc, H4 D = some (.lst acc) ∧ acc.length < sizeLine ∧ Nx (upd H4 D (.lst (acc ++ [y]))) else Nx H3) := by
  refine ⟨fun i m H => m + i = xs.length ∧ Pv i H, ⟨xs.length, by simp, h0⟩, ?_⟩
  rintro i m H ⟨em, p⟩
  obtain ⟨sx, sy⟩ := both i H p
  by_cases lt : i < xs.length
  · have lt' : i < ys.length := by rw [← len]; exact lt
    refine .inr ⟨⟨xs, ys, xs[i], ys[i], sx, sy, List.getElem?_eq_getElem lt, List.getElem?_eq_getElem lt'⟩, Pv (i + 1), fun H' p' => ⟨m - 1, by omega, by omega, p'⟩, ?_⟩
    rintro v H' ⟨T, x, y, rfl, nT, rfl, e1, e2⟩
    exact turn i x y T H (e1 xs sx) (e2 ys sy) p nT
  · have e : i = xs.length := by omega
    subst e
    exact .inl ⟨⟨xs, ys, sx, sy, .inl (Nat.le_refl _)⟩, fin H p⟩
end VQ
namespace VQ
open PySem PySem.Spec PyProof.Rows L2
/-! ### enumerate of a tuple -/
abbrev tiO (l : Addr) : Obj := { cls := .type "tuple_iterator", data := .fields #[.ref l, .int 0 0] }
abbrev enO (it : Addr) : Obj := { cls := .type "enumerate", data := .fields #[.none, .bool false, .ref it, rawInt 0, .none, .none] }
theorem enum_newT (l : Addr) (its : Array Value) (n : Nat) (dd : Option Addr) (sl : Array (Option Value)) :
    Meets (Builtin.«enumerate.__new__» ⟨[.type "enumerate", .ref l], []⟩) (fun _ R s => s.heap.get? l = some ⟨.type "tuple", dd, .seq its n, sl⟩ ∧
      R (.ok (.ret (.ref (s.heap.push (tiO l)).objs.size))) { s with heap := (s.heap.push (tiO l)).push (enO s.heap.objs.size) }) :=
  .of_wp fun prog w A R s z => by
    obtain ⟨hp, g, d, tk, os⟩ := s
    obtain ⟨hl, z⟩ := z
    have isSub := sub_enumerate
    have tupL : Heap.IsTuple (Shared.heap ⟨hp, g, d, tk, os⟩) l its := ⟨_, hl, rfl, n, rfl⟩
    wp_walk using AutoSeq1.wpAny_loadPart' hl
    refine wpAny_stack_any fun _ => wpAny_pure ?_
    split
    · rename_i c _ _ _ _ _
      cases (c == Value.type "enumerate") <;>
      · wp_walk using AutoSeq1.wpAny_loadPart' hl, wpAny_pyIter_tuple tupL
        exact ⟨_, rfl, z⟩
    · wp_walk using AutoSeq1.wpAny_loadPart' hl, wpAny_pyIter_tuple tupL
      exact ⟨_, rfl, z⟩
theorem enum_callT {prog : Program} {w : World} {A : Around} {E : Value → Shared → Prop} {s : Shared} {l : Addr} {its : Array Value} {Q : Value → Shared → Prop} (tupL : s.heap.IsTuple l its)
    (k : ∀ g : Heap, IsEnum g (s.heap.objs.size + 1) s.heap.objs.size 0 .none → g.IsTupleIter s.heap.objs.size l 0 → (∀ b o, s.heap.get? b = some o → g.get? b = some o) → Q (.ref (s.heap.objs.size + 1)) { s with heap := g }) :
    wpAny (model prog w) A (call (.type "enumerate") [.ref l]) Q E s := by
  obtain ⟨⟨c, dd, dt, sl⟩, hl, c1, n, c2⟩ := tupL
  have c1 : c = .type "tuple" := c1
  have c2 : dt = .seq its n := c2
  subst c1 c2
  refine callType_new F.called_enumerate (by decide) (F.typeCall_enumerate_1 _) (F.newCall_enumerate_1 _) (fun x => F.args_object_init_2 x _) F.entry_enumerate_new (enum_newT l its n dd sl) ⟨hl, ?_⟩
  have sz : (s.heap.push (tiO l)).objs.size = s.heap.objs.size + 1 := Heap.size_push ..
  show _ ∧ _
  rw [sz]
  have en : IsEnum ((s.heap.push (tiO l)).push (enO s.heap.objs.size)) (s.heap.objs.size + 1) s.heap.objs.size 0 .none := by
    have q := Heap.get?_push_size (s.heap.push (tiO l)) (o := enO s.heap.objs.size) rfl
    rw [sz] at q
    exact q
  exact ⟨⟨_, en, rfl⟩, k _ en ⟨_, Heap.get?_push_of_some _ (Heap.get?_push_size _ rfl), rfl, rfl⟩ fun b o q => Heap.get?_push_of_some _ (Heap.get?_push_of_some _ q)⟩
/-- the tuple at a, each item in a new pair with its place -/
def IteT (K : PySem.W.Frag) (a : Addr) : It :=
  ⟨fun i H => ∃ (xs : List V) (x : V), SqT K H a xs ∧ xs[i]? = some x, fun i H v H' => ∃ T x, v = .ref T ∧ H T = none ∧ H' = upd H T (.tup [.int (i : Nat), x]) ∧ ∀ xs, SqT K H a xs → xs[i]? = some x, fun i H => ∃ xs : List V, SqT K H a xs ∧ xs.length = i⟩
theorem turn_enumT {P : Program} {w : World} {K : PySem.W.Frag} {elts : List Expr} {kk : Nat} {tpos : Pos} (a e it : Addr) :
    Turn P w K (.Tuple elts kk tpos) (IteT K a) [e, it] e (fun i h => (∃ old, IsEnum h e it ((i : Nat) : Int) old) ∧ h.IsTupleIter it a i) where
  mem := by simp
  obj := fun i h ⟨⟨old, he⟩, o, ho, hc, hd⟩ b hb => by
    have z : b = e ∨ b = it := by simpa using hb
    rcases z with rfl | rfl
    · exact ⟨_, he, fun v q => nomatch q⟩
    · exact ⟨o, ho, fun v q => by rw [hd] at q; cases q⟩
  keep := fun i h h' ⟨⟨old, he⟩, ti⟩ k => ⟨⟨old, k e (by simp) _ he⟩, ti.at fun o q => k it (by simp) o q⟩
  item := by
    rintro X rfl rfl rfl calm i pins s σ H E inv fp ⟨⟨old, he⟩, ti⟩ ⟨xs, x, sq, hx⟩
    obtain ⟨its, rv, tp, _⟩ := inv.tuple sq
    obtain ⟨u, hu, ru⟩ := rv.get hx
    have tp' : s.heap.IsTuple a its.toArray := tp
    have le : e < s.heap.objs.size := Heap.lt_size he
    have li : it < s.heap.objs.size := by obtain ⟨_, q, _⟩ := ti; exact Heap.lt_size q
    have ea : e ≠ a := fun z => by
      obtain ⟨o, ho, hc, _⟩ := tp'
      rw [← z, he] at ho
      cases ho
      injection hc with q
      exact absurd q (by decide)
    have ai : a ≠ it := fun z => by
      obtain ⟨o, ho, hc, _⟩ := tp'
      obtain ⟨o', ho', hc', _⟩ := ti
      rw [z, ho'] at ho
      cases ho
      rw [hc'] at hc
      injection hc with q
      exact absurd q (by decide)
    have ei : e ≠ it := fun z => by
      obtain ⟨o', ho', hc', _⟩ := ti
      rw [← z, he] at ho'
      cases ho'
      injection hc' with q
      exact absurd q (by decide)
    have hi : i < its.toArray.size := by
      have := (List.getElem?_eq_some_iff.mp hu).1
      simpa using this
    refine wpAny_pyNext_enum_itemD (Draws.tuple (A := X.A.in1) (inv.ok.hd calm) it a ai its.toArray) he ⟨ti, tp'⟩ hi ei (by simp [ei, ea]) fun y h1 tk py eo st hT _ kp => ?_
    have eu : y = u := by
      have q : its[i]? = some y := by simpa using py
      rw [hu] at q
      exact (Option.some.inj q).symm
    subst eu
    refine ⟨_, rfl, wpAny_letOwnedTupleGo_enum (s := { s with heap := h1, toks := tk + 1 }) eo fun h2 he2 sb => ?_⟩
    have hT2 : h2.get? s.heap.objs.size = some { cls := .type "tuple", data := .seq #[.int i tk, y] } := (sb.2 _ (Nat.ne_of_gt le)).trans hT
    have new : ObjOk X.prog X.w (upd H s.heap.objs.size (.tup [.int (i : Nat), x])) h2 s.heap.objs.size (.tup [.int (i : Nat), x]) :=
      ⟨by show 2 ≤ sizeLine; decide, [.int i tk, y], .cons ⟨_, rfl⟩ (.cons ru .nil), ⟨_, hT2, rfl, _, rfl⟩⟩
    have inv1 : Inv X pins σ (upd H s.heap.objs.size (.tup [.int (i : Nat), x])) { s with heap := h2, toks := tk + 1 } :=
      inv.turnedNew (ch := [e, it]) (fun b ob hb q => (sb.2 b (fun z => hb (by simp [z]))).trans (kp b ob (fun z => hb (by simp [z])) (fun z => hb (by simp [z])) q)) fp (Nat.le_refl _) new
    refine ⟨.ref s.heap.objs.size, _, inv1, rfl, ⟨_, x, rfl, inv.hok.fresh (Nat.le_refl _), rfl, fun ys hy => by rw [inv.tuple_inj hy sq]; exact hx⟩, ⟨⟨y, ?_⟩, st.1.at fun o q => (sb.2 it (Ne.symm ei)).trans q⟩, fun b hb => ?_⟩
    · rw [show ((i + 1 : Nat) : Int) = (i : Int) + 1 by omega]
      exact he2
    · have lb : b < s.heap.objs.size := by
        have z : b = e ∨ b = it := by simpa using hb
        rcases z with rfl | rfl
        · exact le
        · exact li
      rw [upd_ne (Nat.ne_of_lt lb)]
      exact (fp b hb).1
  done := by
    rintro X rfl rfl rfl calm i pins s σ H E inv fp ⟨⟨old, he⟩, ti⟩ ⟨xs, sq, hx⟩
    obtain ⟨its, rv, tp, _⟩ := inv.tuple sq
    obtain ⟨f0, f1, f2, f3, f4, f5⟩ := fp it (by simp)
    have tp' : s.heap.IsTuple a its.toArray := tp
    have ai : a ≠ it := fun z => by
      obtain ⟨o, ho, hc, _⟩ := tp'
      obtain ⟨o', ho', hc', _⟩ := ti
      rw [z, ho'] at ho
      cases ho
      rw [hc'] at hc
      injection hc with q
      exact absurd q (by decide)
    have sz : its.toArray.size = i := by
      have := rv.length
      simp
      omega
    refine wpAny_pyNext_enum_endD (n := its.toArray.size) (Draws.tuple (A := X.A.in1) (inv.ok.hd calm) it a ai its.toArray) he ⟨by rw [sz]; exact ti, tp'⟩ fun h1 eb => ⟨rfl, inv.turned (t' := s.toks) (fun b o hb q => eb b o hb q) f0 f1 f3 f4 f5⟩
  self := fun A i s Q E ⟨⟨_, he⟩, _⟩ h => wpAny_pyIter_enum he h
def iEnumT (K : PySem.W.Frag) (ta : TA) : TI := fun σ H R => ta σ H fun vs H1 => ∃ a xs, vs = [.ref a] ∧ SqT K H1 a xs ∧ R (IteT K a) H1
theorem pi_enumT {X : Cx} {e : Expr} {ta : TA} {p pos tpos : Pos} {elts : List Expr} {kk : Nat} (isG : Gl X "enumerate") (atG : X.mg "enumerate" = none) (ha : PA X [e] ta) (hs : starEach [e] X.env = [(false, eval e X.env)] := by rfl) :
    PI X (.Tuple elts kk tpos) (.Call (.Name "enumerate" p) [e] [] pos) (iEnumT X.K ta) := by
  refine ⟨fun pins s σ H R inv h => Call_ (ld_blt inv isG atG boot_enumerate (callWith_type1 (thn (ha.run pos pins s σ H _ inv h) fun us s1 ⟨vs, H1, I1, r1, q1⟩ => ?_) hs rfl))⟩
  obtain ⟨a, xs, rfl, sq, q⟩ := q1
  cases r1 with
  | cons r rr =>
    cases rr
    cases r
    obtain ⟨its, rv, tp, _⟩ := I1.tuple sq
    refine enum_callT tp fun g he ti kp => wpAny_pyIter_enum he ?_
    refine ⟨s1.heap.objs.size + 1, [s1.heap.objs.size + 1, s1.heap.objs.size], _, _, H1, rfl, I1.kept (t' := s1.toks) kp, turn_enumT a (s1.heap.objs.size + 1) s1.heap.objs.size, ⟨⟨.none, he⟩, ti⟩, fun b hb => ?_, q⟩
    have le : s1.heap.objs.size ≤ b := by
      have z : b = s1.heap.objs.size + 1 ∨ b = s1.heap.objs.size := by simpa using hb
      rcases z with rfl | rfl
      · exact Nat.le_succ _
      · exact Nat.le_refl _
    exact I1.fpOk le (I1.hok.fresh le)
/-- a for over enumerate of a tuple, by what holds between two turns -/
theorem for_enumT {K : PySem.W.Frag} {a : Addr} {xs : List V} {g : TG} {tb : TS} {D : Ends} {σ : L2.St} {H : Hp} (Pv : Nat → L2.St → Hp → Prop) (h0 : Pv 0 σ H) (there : ∀ i σ H, Pv i σ H → SqT K H a xs)
    (turn : ∀ (i : Nat) (x : V) (T : Addr) (σ : L2.St) (H : Hp), xs[i]? = some x → Pv i σ H → H T = none → g (.ref T) σ (upd H T (.tup [.int (i : Nat), x])) fun σ2 H2 => tb { D with nx := Pv (i + 1), ct := Pv (i + 1), bk := D.nx } σ2 H2)
    (fin : ∀ σ H, Pv xs.length σ H → D.nx σ H) :
    ∃ W : Nat → Nat → L2.St → Hp → Prop, (∃ m, W 0 m σ H) ∧ ∀ i m σ H, W i m σ H →
      ((IteT K a).stop i H ∧ D.nx σ H) ∨ ((IteT K a).go i H ∧ ∃ N : L2.St → Hp → Prop, (∀ σ' H', N σ' H' → ∃ m', m' < m ∧ W (i + 1) m' σ' H') ∧ ∀ x H', (IteT K a).yld i H x H' → g x σ H' fun σ2 H2 => tb { D with nx := N, ct := N, bk := D.nx } σ2 H2) := by
  refine ⟨fun i m σ H => m + i = xs.length ∧ Pv i σ H, ⟨xs.length, rfl, h0⟩, ?_⟩
  rintro i m σ H ⟨em, p⟩
  have sq := there i σ H p
  by_cases lt : i < xs.length
  · refine .inr ⟨⟨xs, xs[i], sq, List.getElem?_eq_getElem lt⟩, Pv (i + 1), fun σ' H' p' => ⟨m - 1, by omega, by omega, p'⟩, ?_⟩
    rintro v H' ⟨T, x, rfl, nT, rfl, ex⟩
    exact turn i x T σ H (ex xs sq) p nT
  · have e : i = xs.length := by omega
    subst e
    exact .inl ⟨⟨xs, sq, rfl⟩, fin σ H p⟩
end VQ
namespace VQ
open PySem L2 LamX
section
variable {K : PySem.W.Frag}
/-! ### tuples put together, cut -/
theorem rd_cat {H : Hp} {a b : Addr} {xs ys : List V} {Q : VK} (ha : H a = some (.tup xs)) (hb : H b = some (.tup ys)) (hl : xs.length + ys.length ≤ 1000)
    (k : ∀ (p : Addr) (H' : Hp), Same H H' → H' p = some (.tup (xs ++ ys)) → Q (.ref p) H') : rCatA K (.ref a) (.ref b) H Q := by
  refine ⟨a, b, xs, ys, rfl, rfl, SqT.of ha, SqT.of hb, Nat.le_trans hl (by decide), fun e => ?_, fun _ e => ?_, fun _ _ p hp => k p _ (same_new hp) upd_same⟩
  · subst e
    exact k b H (Same.refl H) hb
  · subst e
    exact k a H (Same.refl H) (by rw [List.append_nil]; exact ha)
theorem rd_cut {H : Hp} {a : Addr} {xs : List V} {lo hi : Option Int} {Q : VK} (ha : H a = some (.tup xs)) (k : ∀ (p : Addr) (H' : Hp), Same H H' → H' p = some (.tup (cutV xs lo hi)) → Q (.ref p) H') : rSlA K (.ref a) lo hi H Q := by
  refine ⟨a, xs, rfl, SqT.of ha, fun e => k a H (Same.refl H) ?_, fun _ p hp => k p _ (same_new hp) upd_same⟩
  have q : cutV xs lo hi = xs := by
    unfold cutV
    rw [e.1, e.2, List.drop_zero, Nat.sub_zero, List.take_length]
  rw [q]
  exact ha
theorem cut_upto (xs : List V) {k : Nat} (h : k ≤ xs.length) : cutV xs none (some (k : Int)) = xs.take k := by
  unfold cutV
  rw [HT.sIx_nat, HT.sIx_none, Nat.min_eq_left h, List.drop_zero, Nat.sub_zero]
theorem cut_behind (xs : List V) {k : Nat} (h : k ≤ xs.length) : cutV xs (some (k : Int)) none = xs.drop k := by
  unfold cutV
  rw [HT.sIx_nat, HT.sIx_none, Nat.min_eq_left h]
  exact List.take_of_length_le (by rw [List.length_drop]; omega)
end
end VQ
namespace VQ
open PySem PySem.Spec PyProof.Rows L2 LamX
/-! ### a tuple times nought -/
abbrev noneO : Obj := { cls := .type "tuple", data := .seq #[] }
theorem nought_mul (l : Addr) (its : Array Value) (n : Nat) (dd : Option Addr) (sl : Array (Option Value)) (u : Tok) (ne : its.isEmpty = false) :
    Meets (Builtin.«tuple.__mul__» ⟨[.ref l, .int 0 u], []⟩) (fun _ R s => s.heap.get? l = some ⟨.type "tuple", dd, .seq its n, sl⟩ ∧ R (.ok (.ret (.ref s.heap.objs.size))) { s with heap := s.heap.push noneO }) :=
  .of_wp fun prog w A R s h => by
    obtain ⟨hp, g, d, tk, os⟩ := s
    obtain ⟨hl, h⟩ := h
    have f1 := AutoSeq1.idx_int
    have c1 : (its.isEmpty || ((0 : Int) == 1)) = false := by rw [ne]; rfl
    wp_walk using wpAny_loadPart' hl
    repeat (first
      | (refine wpAny_ite_false (decide_eq_false (by rw [c1]; exact Bool.false_ne_true)) ?_; wp_walk using wpAny_loadPart' hl))
    exact ⟨_, rfl, h⟩
def rTimes0 (K : PySem.W.Frag) : R2 := fun x y H Q => ∃ (l : Addr) (k : Int) (xs : List V), x = .ref l ∧ y = .int k ∧ SqT K H l xs ∧ xs ≠ [] ∧ 0 ≤ k ∧ k ≤ 1000 ∧ xs.length ≤ 1000 ∧
  (k = 1 → Q (.ref l) H) ∧ (k ≠ 1 → ∀ p, H p = none → Q (.ref p) (upd H p (.tup (List.replicate k.toNat xs).flatten)))
theorem op_times0 {X : Cx} : OpR X (binaryOp .Mult) (rTimes0 X.K) := by
  intro pins s σ H x y v u Q I rx ry h
  obtain ⟨l, k, xs, rfl, rfl, sq, ne, k1, k2, hz, q1, q2⟩ := h
  by_cases e : k = 0
  · subst e
    cases rx
    obtain ⟨t, rfl⟩ := ry
    obtain ⟨its, r, ⟨⟨cls, dd, data, sl⟩, ho, hc, n, hd⟩, hs⟩ := I.tuple sq
    simp only at hc hd
    subst hc hd
    have ni : its.toArray.isEmpty = false := by
      cases its with
      | nil => exact absurd (List.eq_nil_of_length_eq_zero r.length) ne
      | cons a b => rfl
    refine wpAny_binaryOp_repeat_ref (T := "tuple") (U := "int") (by decide) ⟨_, ho, rfl⟩ (fun s' => typeIs_int s' 0 t) noFill_tuple_mul F.fills_int_mul F.slot_int_rmul repeat_tuple F.slot_int_index.lookup
      (call_meets F.slot_int_rmul (typeIs_int s 0 t) F.entry_int_rmul (F.args_int_rmul_2 _ _) (int_rmul_tuple 0 t l its.toArray n dd sl)
        ⟨ho, rfl, ⟨_, ho, rfl⟩, call_meets F.slot_tuple_mul ⟨_, ho, rfl⟩ F.entry_tuple_mul (F.args_tuple_mul_2 _ _) (nought_mul l its.toArray n dd sl t ni) ⟨ho, ?_⟩⟩)
    have q : Q (.ref s.heap.objs.size) (upd H s.heap.objs.size (.tup [])) := q2 (by decide) _ (I.hok.fresh (Nat.le_refl _))
    exact ⟨.ref s.heap.objs.size, _, I.laid (t' := s.toks) (o := .tup []) (fun b ob z => Heap.get?_push_of_some _ z) (Nat.le_refl _) ⟨Nat.zero_le _, [], .nil, IsTup.new _ _⟩, rfl, q⟩
  · exact op_times pins s σ H _ _ v u Q I rx ry ⟨l, k, xs, rfl, rfl, sq, ne, by omega, k2, hz, q1, q2⟩
end VQ
namespace VQ
open PySem PySem.Spec PyProof.Rows L2
/-! ### set(xs) of a list of numbers -/
/-- a set as it is made, without members -/
abbrev bareSet (w : World) : Obj := { cls := .type "set", dict := none, data := .set #[] 0 (.fresh 0 0 (!w.params.followText "set-order")) }
/-- what stands when the list is gone through -/
abbrev SetDone (w : World) (s : Shared) (ns : List Int) (s2 : Shared) : Prop := ∃ g tk c, s2 = { s with heap := g, toks := tk } ∧ SetR w g s.heap.objs.size (fun j => decide (j ∈ ns)) c ∧ c ≤ ns.length ∧ ∀ b o, s.heap.get? b = some o → g.get? b = some o
section
variable {P : Program} {w : World} {A : Around} {E : Value → Shared → Prop} {s : Shared}
theorem set_filled {l : Addr} {its : Array Value} {ns : List Int} {Z : PySem.Fin → Shared → Prop} (calm : A.handled = none) (isl : s.heap.IsList l its) (are : IntsAre its.toList ns) (few : ns.length + 1 < scanBound)
    (fin : ∀ s2, SetDone w s ns s2 → Z (.done (.ret .none)) s2) :
    wpAny (model P w) A.in1 (Builtin.«set.__init__» ⟨[.ref s.heap.objs.size, .ref l], []⟩) Z E { s with heap := s.heap.push (bareSet w) } := by
  obtain ⟨⟨oc, od, ot, os'⟩, at_l, e1, nl, e2⟩ := isl
  dsimp only at e1 e2
  subst e1 e2
  have cnt : its.size = ns.length := (Array.length_toList).symm.trans (IntsAre.length are)
  have here : (s.heap.push (bareSet w)).get? s.heap.objs.size = some (bareSet w) := Heap.get?_push_size _ rfl
  have tyS : Shared.TypeIs { s with heap := s.heap.push (bareSet w) } (.ref s.heap.objs.size) "set" := ⟨_, here, rfl⟩
  have at_l' := Heap.get?_push_of_some (bareSet w) at_l
  have isl' : (s.heap.push (bareSet w)).IsList l its := ⟨_, at_l', rfl, nl, rfl⟩
  have n1 := F.sub_list_set
  have n2 := F.sub_list_frozenset
  have n3 : (Value.type "list" == Value.type "dict") = false := by decide
  unfold Builtin.«set.__init__» noKeywords Builtin.Frozenset.updateFrom
  generalize itE : pyIter = it
  wp_walk
  subst itE
  refine wpAny_pyIter_list isl' ?_
  refine wpAny_bind (wpAny_runValue ?_)
  have lt_l : l < s.heap.objs.size := Heap.lt_size at_l
  have calm3 : A.in1.in1.handled = none := by simp [calm]
  have size1 : (s.heap.push (bareSet w)).objs.size = s.heap.objs.size + 1 := Heap.size_push ..
  have ne_l : l ≠ (s.heap.push (bareSet w)).objs.size := by
    rw [size1]
    exact Nat.ne_of_lt (Nat.lt_succ_of_lt lt_l)
  have out : s.heap.objs.size ∉ [(s.heap.push (bareSet w)).objs.size, l] := fun m => by
    rcases List.mem_cons.mp m with q | q
    · rw [size1] at q
      exact Nat.ne_of_lt (Nat.lt_succ_self _) q
    · exact Nat.ne_of_gt lt_l (List.mem_singleton.mp q)
  have vals : ∀ (i : Nat) (v : Value), its[i]? = some v → ∃ k t, ns[i]? = some k ∧ v = .int k t := fun i v hv => by
    have hi : i < ns.length := by
      rw [← cnt]
      exact (Array.getElem?_eq_some_iff.mp hv).1
    obtain ⟨t, ht⟩ := are.get i _ (List.getElem?_eq_getElem hi)
    rw [Array.getElem?_toList, hv] at ht
    exact ⟨_, t, List.getElem?_eq_getElem hi, Option.some.inj ht⟩
  refine set_update_ints ((Walks.list calm3 _ l ne_l its).toS) s.heap.objs.size out ns cnt few vals (its.size - 0) 0 _ (by omega) (Nat.zero_le _) ?walk
    ⟨0, Nat.le_refl 0, ?fresh⟩ fun s2 c mv hc R => ?_
  case walk => exact ⟨⟨_, Heap.get?_push_size _ rfl, rfl, rfl⟩, isl'.push _⟩
  case fresh => exact setR_new_at (w := w) (Heap.get?_push_of_some _ here)
  obtain ⟨g, ge, dr, tk, os2⟩ := s2
  have q1 : ge = s.gens := mv.gens
  have q2 : dr = s.drawn := mv.drawn
  have q3 : os2 = s.os := mv.os
  subst q1 q2 q3
  show wpAny _ _ _ _ _ _
  refine wpAny_pure ?_
  show wpAny _ _ (ret Value.none) _ _ _
  refine wpAny_pure (fin _ ⟨g, tk, c, rfl, R, by omega, fun b o z => mv.heap b o (fun m => ?_) (Heap.get?_push_of_some _ (Heap.get?_push_of_some _ z))⟩)
  have lb := Heap.lt_size z
  rcases List.mem_cons.mp m with q | q
  · exact Nat.ne_of_lt lb q
  · have q := List.mem_singleton.mp q
    rw [size1] at q
    exact Nat.ne_of_lt (Nat.lt_succ_of_lt lb) q
theorem set_call {l : Addr} {its : Array Value} {ns : List Int} {Q : Value → Shared → Prop} (calm : A.handled = none) (isl : s.heap.IsList l its) (are : IntsAre its.toList ns) (few : ns.length + 1 < scanBound)
    (fin : ∀ s2, SetDone w s ns s2 → Q (.ref s.heap.objs.size) s2) : wpAny (model P w) A (call (.type "set") [.ref l]) Q E s := by
  obtain ⟨c0, tl, mro⟩ := F.called_set.mro
  have made := F.called_set.made
  have subt := F.called_set.sub
  have nty := F.called_set.notType
  have canc := F.called_set.canCreate
  have tyc := F.typeCall_set_1 (.ref l)
  have here : (s.heap.push (bareSet w)).get? s.heap.objs.size = some (bareSet w) := Heap.get?_push_size _ rfl
  have tyS : Shared.TypeIs { s with heap := s.heap.push (bareSet w) } (.ref s.heap.objs.size) "set" := ⟨_, here, rfl⟩
  have ini := F.called_set.init.lookup
  have inb := F.called_set.init.bind (.ref s.heap.objs.size)
  refine wpAny_call (codeAny_of_tree ?_)
  show wpAny _ _ (callAny (.type "set") _) _ _ _
  refine wpAny_pure ⟨Code.quiet_builtin _ (by decide +kernel), ?go⟩
  case go =>
  refine codeAny_builtin F.entry_type_call ?_
  rw [Around.under_plain (weight_type_call_type "set" [.ref l] []) rfl]
  repeat (any_goals (first | assumption | wp_step))
  refine codeAny_mono (code_set_led1 (w := w) (.ref l) (E := E) (Q₁ := fun v t => v = .ref s.heap.objs.size ∧ t = { s with heap := s.heap.push (bareSet w) }) ⟨rfl, rfl⟩) fun r t z => ?_
  match r, z with
  | .error e, z => exact z
  | .ok (.ret v), z =>
    obtain ⟨rfl, rfl⟩ := z
    repeat (any_goals (first | assumption | wp_step))
    refine codeAny_mono (codeAny_call_builtin (R := wants (fun v t => v = .none ∧ SetDone w s ns t) E) F.called_set.init.plain F.entry_set_init (check_set_init_1 tyS (set_filled (A := A.in1) (by simp [calm]) isl are few fun s2 d => ⟨rfl, d⟩))) fun r t z => ?_
    match r, z with
    | .error e, z => exact z
    | .ok (.ret v), z =>
      obtain ⟨rfl, d⟩ := z
      obtain ⟨g, tk, c, rfl, d'⟩ := id d
      repeat (any_goals (first | assumption | wp_step))
      exact fin _ d
end
/-- set(xs), xs a list of numbers -/
def rSetI (K : PySem.W.Frag) (w : World) : List V → Hp → VK → Prop := fun xs H Q => ∃ (l : Addr) (ns : List Int), xs = [V.ref l] ∧ SqL K H l (ns.map V.int) ∧ ns.length < 1000 ∧
  ∀ (a : Addr) (c : Nat), H a = none → c ≤ ns.length → Q (.ref a) (upd H a (SetO w a (fun j => decide (j ∈ ns)) c))
theorem cr_setI {X : Cx} (hc : X.calm = true) : CallR X (.type "set") (rSetI X.K X.w) := by
  intro pins s σ H xs us Q I r h
  obtain ⟨l, ns, rfl, hl, few, q⟩ := h
  rw [Vals.ref1 r]
  obtain ⟨its, rv, pl, hz⟩ := I.list hl
  have hn : H s.heap.objs.size = none := I.hok.fresh (Nat.le_refl _)
  refine set_call (P := X.prog) (w := X.w) (I.ok.hd hc) pl.isList (by simpa using ints_of_vals rv) (Nat.lt_of_lt_of_le (show ns.length + 1 < 1001 by omega) (by decide)) fun s2 d => ?_
  obtain ⟨g, tk, c, rfl, R, lc, k⟩ := d
  exact ⟨.ref s.heap.objs.size, _, I.laid (t' := tk) k (Nat.le_refl _) (setO_new R), rfl, q _ c hn lc⟩
end VQ
namespace VQ
open PySem PyProof.Rows L2
/-! ### a comprehension out of whose element an exception may fly -/
theorem note_frame {x : Value} {env env' : Env} (h : env'.frame = env.frame) : noteFrame x env' = noteFrame x env := by
  unfold noteFrame PySem.frameOf
  rw [h]
/-- as compPost, but that the frame which the exception is handed on from is told -/
def cPost (M : Model) (A : Around) (E : Value → Shared → Prop) (use : Option (Value → Sem Unit)) (Q : Value → Shared → Prop) (acc : Value) (C : Addr) (fr : Option Addr) (r : Result) (s' : Shared) : Prop :=
  match r with
  | .ok f => compPost M A E use Q acc C (.ok f) s'
  | .error x => ∃ m, s'.heap.Ns C m ∧ ∀ h', Heap.SameBut C s'.heap h' → ∀ ev : Env, ev.frame = fr → wpAny M A (passOn "comprehension.variables-let-go" x ev : Sem Value) (fun _ _ => False) E { s' with heap := h' }
theorem comp_freeX {M : Model} {A : Around} {E : Value → Shared → Prop} {s : Shared} {env : Env} {e : Expr} {scope : Scope} {pos : Pos} {newAcc first : Sem Value} {g : Comprehension} {gs : List Comprehension} {cl : List (Str × Addr)} {use : Option (Value → Sem Unit)} {Q : Value → Shared → Prop}
    (clauses : clausesOf e = g :: gs) (folded : ∀ x, foldedSetIterable g.iter env x = pure x) (closes : closureFor scope env = pure cl) (kind : scope.kind = .function) (locals : ∀ x ∈ scope.names, x.2 = .local → scope.names.lookup x.1 = some .local)
    (h : wpAny M A first (fun x t1 => wpAny M A (pyIter x) (fun it t2 => wpAny M A newAcc (fun acc t3 => wpAny M A (newFunctionEnv scope env.globals cl [] env.qual none .none (some env)) (fun ev t4 =>
        codeAny M A (.compStart e 0 it acc { ev with scope := relabel scope env }) (cPost M A E use Q acc ev.locals ev.frame) t4) E t3) E t2) E t1) E s) : wpAny M A (comprehension e scope env pos newAcc false first use) Q E s := by
  unfold comprehension
  rw [closes, clauses]
  refine wpAny_bind (wpAny_mono h (fun x t1 g1 => wpAny_bind (wpAny_standAt (wpAny_bind (wpAny_of_eq (folded x) (wpAny_bind (wpAny_holding (wpAny_mono g1 (fun it t2 g2 =>
    wpAny_standIf (wpAny_bind (wpAny_mono g2 (fun acc t3 g3 => wpAny_bind (wpAny_pure (wpAny_bind (wpAny_mono g3 (fun ev t4 g4 => ?_) fun _ _ y => y)))) fun _ _ y => y))) fun _ _ y => y))))))) fun _ _ y => y)
  dsimp only
  have own : ∀ x ∈ (scope.names.filter fun x => (x.2 == .local || x.2 == .cell) && x.1 != (".0" : Str)).reverse, x.2 = .local → Env.kindOf { ev with scope := relabel scope env } x.1 = some .local := fun x m l => lookup_relabel_local (locals x (List.mem_filter.mp (List.mem_reverse.mp m)).1 l)
  have own2 : ∀ x ∈ (scope.names.filter fun x => (x.2 == .local || x.2 == .cell) && x.1 != (".0" : Str)).reverse.drop 1 ++ (scope.names.filter fun x => (x.2 == .local || x.2 == .cell) && x.1 != (".0" : Str)).reverse.take 1, x.2 = .local → Env.kindOf { ev with scope := relabel scope env } x.1 = some .local := fun x m l => by
    rcases List.mem_append.mp m with m | m
    · exact own x (List.mem_of_mem_drop m) l
    · exact own x (List.mem_of_mem_take m) l
  refine wpAny_holding (wpAny_bind (wpAny_attempt (wpAny_holding (wpAny_run (codeAny_mono g4 fun r t5 g5 => ?_)))))
  cases r with
  | ok f =>
    cases use with
    | none =>
      obtain ⟨m, ns, g6⟩ := g5
      exact wpAny_bind (wpAny_holding (wpAny_comp_letGo (cenv := { ev with scope := relabel scope env }) kind _ t5 m own ns fun k _ _ sb => wpAny_pure (g6 k sb)))
    | some u =>
      refine wpAny_bind (wpAny_rule (wpAny_bind (wpAny_holding (wpAny_mono g5 (fun _ t6 g6 => ?_) fun _ _ y => y))))
      obtain ⟨m, ns, g7⟩ := g6
      exact wpAny_bind (wpAny_comp_letGo (cenv := { ev with scope := relabel scope env }) kind _ t6 m own2 ns fun k _ _ sb => wpAny_pure (g7 k sb))
  | error x =>
    obtain ⟨m, ns, g6⟩ := g5
    exact wpAny_bind (wpAny_holding (wpAny_comp_letGo (cenv := { ev with scope := relabel scope env }) kind _ t5 m own ns fun k _ _ sb => wpAny_mono (g6 k sb _ rfl) (fun _ _ z => z.elim) fun _ _ y => y))
theorem frames_on {h h' B B' : Heap} (k : ∀ L o, B.get? L = none → h.get? L = some o → h'.get? L = some o ∧ B'.get? L = none) : ∀ {l : List Env}, h.FunFrames B l → h'.FunFrames B' l
  | [], _ => trivial
  | _ :: _, ⟨a1, ⟨L, o, a2, a3, a4, a5⟩, a6⟩ => ⟨a1, ⟨L, o, a2, (k L o a3 a4).2, (k L o a3 a4).1, a5⟩, frames_on k a6⟩
/-- the exception of a call within the block, led to the def's own air -/
theorem comp_air {X : Cx} {pins : List (Addr × Obj)} {σ : L2.St} {H3 H9 H' : Hp} {s3 s9 s10 : Shared} {ce : Env} {fp : List Addr} {C a : Addr} {B : Heap} {cls : Value} {d : Option Addr} {W : WX} {use : Option (Value → Sem Unit)} {Qf : Value → Shared → Prop} {acc : Value} {m9 : Str → Option Value}
    (two : X.stack = X.env :: X.outer) (fr : X.env.frame = some X.env.locals) (tk : Takes X W) (eF : ce.frame = X.env.frame) (I3 : Inv X pins σ H3 s3) (newC : s3.heap.get? C = none) (okC : FpOk X pins H9 C) (okF : ∀ b ∈ fp, FpOk X pins H3 b)
    (un : Un (frs X.stack) fp H3 H9 s3.heap s9.heap) (os9 : s9.os = s3.os) (ns9 : s9.heap.Ns C m9) (fl : HandSPX.FlyingZ B X.stack a (Zc cls d) s10.heap) (hok : HOk X.prog X.w H' B) (ub : UB (frs X.stack) H9 H' s9.heap B s10.heap) (na : H' a = none) (os10 : s10.os = s9.os) (ag : AllBare s10.gens)
    (w : W cls d σ H') : notedBy (model X.prog X.w) X.A ce (fun e s' => cPost (model X.prog X.w) X.A X.xe use Qf acc C ce.frame (.error e) s') (.ref a) s10 := by
  have frames : X.A.frames = some (X.env :: X.outer) := by rw [I3.ok.frames, two]
  obtain ⟨oC, es, ep, atC, dC, keysC, findC⟩ := ns9
  have offC : C ∉ frs X.stack := fun z => by
    rcases List.mem_cons.mp (I3.stkSub C z) with q | q
    · exact okC.2.1 q
    · exact okC.2.2.1 q
  have inB : B.get? C = some oC := ub.keep C oC atC okC.1 offC
  have freeC : H' C = none := ub.free C oC atC okC.1
  unfold notedBy
  rw [note_frame eF]
  refine HandSPX.looks_onZ Zc.steady frames fr (two ▸ fl) fun h11 held up => ?_
  have at11 : h11.get? C = some oC := held.1 C oC inB
  refine ⟨m9, ⟨oC, es, ep, at11, dC, keysC, findC⟩, fun h12 sb ev efr => ?_⟩
  obtain ⟨B2, b1, b2⟩ := L2.restrict B fun b => decide (b ≠ C)
  have inB2 : ∀ b o, B2.get? b = some o → b ≠ C ∧ B.get? b = some o := fun b o e => by
    by_cases q : b = C
    · rw [b2 b (by simp [q])] at e
      cases e
    · rw [b1 b (by simp [q])] at e
      exact ⟨q, e⟩
  have toB2 : ∀ b o, b ≠ C → B.get? b = some o → B2.get? b = some o := fun b o q e => by
    rw [b1 b (by simp [q])]
    exact e
  have noB2 : ∀ b, B.get? b = none → B2.get? b = none := fun b e => by
    by_cases q : b = C
    · exact b2 b (by simp [q])
    · rw [b1 b (by simp [q])]
      exact e
  have stay2 : B2.StaysIn h12 := fun b o e => by
    obtain ⟨q, e⟩ := inB2 b o e
    exact (sb.2 b q).trans (held.1 b o e)
  have neC : ∀ (b : Addr) (o : Obj) (vs : Array Value), h11.get? b = some o → o.data = .fields vs → b ≠ C := fun b o vs e dd q => by
    rw [q, at11] at e
    cases e
    rw [dC] at dd
    cases dd
  obtain ⟨k1, k2, k3, oe, vs, T, oT, ts, t1, t2, t3, t4, t5, t6, t7, t8, t9⟩ := id held
  have aC := neC a oe vs t1 t3
  have TC := neC T oT ts t7 t8
  have e12 : h12.get? a = some oe := (sb.2 a aC).trans t1
  have held2 : HandSPX.HeldZ B2 (X.env :: X.outer) a (Zc cls d) X.env.locals h12 := by
    refine ⟨stay2, noB2 a k2, frames_on (fun L o e1 e2 => ⟨(sb.2 L fun q => by rw [q, inB] at e1; cases e1).trans e2, noB2 L e1⟩) k3, oe, vs, T, oT, ts, e12, t2, t3, t4, noB2 T t5, t6, (sb.2 T TC).trans t7, t8, t9⟩
  unfold PySem.passOn
  refine wpAny_bind (wpAny_field e12 t3 t4 ?_)
  have isRef : ¬ ((Value.ref T == Value.none) = true) := by simp
  rw [if_neg isRef, efr, eF, fr]
  refine wpAny_bind (HandSPX.setFlight_onZ held2 fun h13 held3 up3 => wpAny_throw (tk _ _ ?_))
  obtain ⟨G, g1, g2⟩ := L2.restrict h13 fun b => (B2.get? b).isSome || decide (b ∈ frs X.stack)
  have gB : ∀ b o, B2.get? b = some o → G.get? b = some o := fun b o e => by
    rw [g1 b (by simp [e])]
    exact held3.1 b o e
  have gF : ∀ b, b ∈ frs X.stack → G.get? b = h13.get? b := fun b hb => g1 b (by simp [hb])
  have gO : ∀ b o, G.get? b = some o → h13.get? b = some o ∧ ((B2.get? b).isSome = true ∨ b ∈ frs X.stack) := fun b o e => by
    cases q : ((B2.get? b).isSome || decide (b ∈ frs X.stack)) with
    | false =>
      rw [g2 b q] at e
      cases e
    | true =>
      rw [g1 b q] at e
      exact ⟨e, by simpa [Bool.or_eq_true] using q⟩
  have old : ∀ b o, s3.heap.get? b = some o → b ≠ C := fun b o e q => by
    rw [q, newC] at e
    cases e
  have hok2 : HOk X.prog X.w H' B2 := fun b o q => (hok b o q).stay (fun c u hc r => toB2 c u (fun z => by
    rcases hc with hc | hc
    · rw [← hc, z, freeC] at q
      cases q
    · rw [z, freeC] at hc
      cases hc) r) (fun _ r => r) fun _ _ r => r
  have slots : ∀ b o, s3.heap.get? b = some o → b ∈ frs X.stack → b ∉ fp → ∃ sl, G.get? b = some { o with slots := sl } := fun b o e hb hx => by
    obtain ⟨_, o', e', nf⟩ := I3.stack.mem hb
    rw [e] at e'
    cases e'
    obtain ⟨sl1, e1⟩ := un.slot b o e (I3.stkFree b hb) hb hx
    obtain ⟨sl2, e2⟩ := ub.slot b _ e1 hb
    obtain ⟨sl3, e3⟩ := up b _ e2 nf
    obtain ⟨sl4, e4⟩ := up3 b _ ((sb.2 b (old b o e)).trans e3) nf
    exact ⟨sl4, by rw [gF b hb]; exact e4⟩
  refine ⟨a, B2, { s3 with heap := G, gens := s10.gens, drawn := s10.drawn, toks := s10.toks }, pins, σ, H', cls, d, rfl, ?_, fun b o e hb => ?_, Heap.UpToSlots.of_keeps fun b o e => (gO b o e).1, .inr (.inr (two ▸ held3)), na, os10.trans os9, ag, w⟩
  · refine I3.call (ch := fp) ⟨fun b o e n hb hx => gB b o (toB2 b o (old b o e) (ub.keep b o (un.keep b o e n hb hx) (un.free b o e n hx) hb)), fun b o e n hb hx => slots b o e hb hx, fun b o e n hx => ?_, fun b o e hx => ?_, fun b xs e => ub.tups b xs (un.tups b xs e), fun b o u e => ub.frzs b o u (un.frzs b o u e), fun b ps e => ?_⟩ (hok2.kept gB) ag fun b hb => ?_
    · obtain ⟨o', e'⟩ := un.there b o e hx
      exact ub.free b o' e' (un.free b o e n hx)
    · by_cases hb : b ∈ frs X.stack
      · obtain ⟨sl, q⟩ := slots b o e hb hx
        exact ⟨_, q⟩
      · obtain ⟨o', e'⟩ := un.there b o e hx
        obtain ⟨o2, q⟩ := ub.there b o' e' hb
        exact ⟨o2, gB b o2 (toB2 b o2 (old b o e) q)⟩
    · obtain ⟨m1, e1⟩ := un.tbls b ps e
      obtain ⟨m2, e2⟩ := ub.tbls b _ e1
      rw [Array.append_assoc] at e2
      exact ⟨_, e2⟩
    · have z := okF b hb
      exact ⟨z.2.2.2.1, z.2.1, z.2.2.2.2.1, z.2.2.2.2.2⟩
  · obtain ⟨e', q⟩ := gO b o e
    rcases q with q | q
    · obtain ⟨o', q⟩ := Option.isSome_iff_exists.mp q
      have z := held3.1 b o' q
      rw [e'] at z
      cases z
      exact q
    · exact absurd q hb
theorem Inv.air {X : Cx} {pins : List (Addr × Obj)} {σ : L2.St} {H : Hp} {s : Shared} (xe : Value → Shared → Prop) (I : Inv X pins σ H s) : Inv { X with xe := xe } pins σ H s where
  ok := ⟨I.ok.mod, I.ok.kind, I.ok.glob, I.ok.blt, I.ok.above, I.ok.inj, I.ok.has, I.ok.cab, I.ok.hd, I.ok.frames, I.ok.stk, I.ok.exf, I.ok.bs, I.ok.bsz, I.ok.noex, I.ok.exfs, I.ok.funs, I.ok.frf⟩
  os := I.os
  bare := I.bare
  base := I.base
  loc := I.loc
  cell := I.cell
  free := I.free
  freeC := I.freeC
  pin := I.pin
  hok := I.hok
  len := I.len
/-- the element, wherever the block stands: what its calls let out is taken -/
abbrev EltX (X : Cx) (scope : Scope) (elt : Expr) (te : TE) (E : XK) : Prop := ∀ (s : Shared) (H : Hp) (C : Addr) (cl : List (Str × Addr)) (fp : List Addr) (xe : Value → Shared → Prop), Passes (L2.CX X.prog X.w) { X.blk s H scope (compEnvC scope cl C X.env) fp with xe := xe } E → PE { X.blk s H scope (compEnvC scope cl C X.env) fp with xe := xe } elt te
theorem lcX_core {X : Cx} {pins : List (Addr × Obj)} {s : Shared} {σ : L2.St} {H : Hp} {Q : VK} {elt tg iter : Expr} {ifs : List Expr} {scope : Scope} {own : List (Str × Nat)} {pos pos' : Pos} {wi : TI} {g : TG} {tt : TT} {te : TE} {use : Option (Value → Sem Unit)} {Qf : Value → Shared → Prop} {W : WX} {E : XK}
    (two : X.stack = X.env :: X.outer) (fr : X.env.frame = some X.env.locals) (tk : Takes X W) (wish : ∀ cls d H', E cls d H' → W cls d σ H') (calm : X.calm = true) (nd : X.N.Nodup) (inv : Inv X pins σ H s) (hi : PI X tg iter wi) (ok : BlkOk X.N X.env.scope scope own)
    (hg : ∀ (s : Shared) (H : Hp) (C : Addr) (cl : List (Str × Addr)) (fp : List Addr), PG (X.blk s H scope (compEnvC scope cl C X.env) fp) tg g) (ht : ∀ (s : Shared) (H : Hp) (C : Addr) (cl : List (Str × Addr)) (fp : List Addr), PTs (X.blk s H scope (compEnvC scope cl C X.env) fp) ifs tt)
    (he : EltX X scope elt te E) (folded : ∀ x, foldedSetIterable iter X.env x = pure x) (want : tLc wi g tt te (own.map (·.2)) σ H Q)
    (ends : ∀ D C s' m H', Inv X pins σ H' s' → Q (.ref D) H' → s'.heap.Ns C m → FpOk X pins H' C → compPost (model X.prog X.w) X.A X.xe use Qf (.ref D) C (.ok .next) s') :
    wpAny (model X.prog X.w) X.A (comprehension (.ListComp elt [⟨tg, iter, ifs, 0⟩] scope pos) scope X.env pos' (newList []) false (eval iter X.env) use) Qf X.xe s := by
  have frees : ∀ y ∈ scope.names, y.2 = .free → ∃ c, X.env.cells.lookup y.1 = some c := fun y m e => by
    rcases ok.free y m e with k | k
    · exact inv.ok.has _ (.inl k)
    · exact inv.ok.has _ (.inr k)
  refine comp_freeX (use := use) rfl folded (closure_ok frees) ok.kind (fun y m e => by rw [ok.uniq y m, e]) (thn (hi.run pins s σ H _ inv want) fun xv t1 hx => thn hx fun itv t2 h2 => ?_)
  obtain ⟨it, fp, tn, J, H2, e, J2, T, st2, f2, q⟩ := h2
  subst e
  refine wpAny_newObj_type (newEnv_comp ?_) (by show 0 ≤ sizeLine; decide)
  generalize eD : t2.heap.objs.size = D
  have newD : H2 D = none := J2.hok.fresh (Nat.le_of_eq eD)
  obtain ⟨Wt, ⟨m0, w0⟩, turn⟩ := q D newD
  generalize e3 : ({ t2 with heap := t2.heap.push { cls := .type "list", data := .seq ([] : List Value).toArray } } : Shared) = t3
  have J3 : Inv X pins σ (upd H2 D (.lst [])) t3 := by
    rw [← e3]
    refine J2.laid (t' := t2.toks) (fun b o z => Heap.get?_push_of_some _ z) (Nat.le_of_eq eD) ⟨Nat.zero_le _, [], 0, .nil, ?_⟩
    rw [← eD]
    exact Heap.get?_push_size _ rfl
  have p3 : t3.heap = t2.heap.push { cls := .type "list", data := .seq ([] : List Value).toArray } := by rw [← e3]
  have below : ∀ b ∈ fp, b < t2.heap.objs.size := fun b hb => by
    obtain ⟨o, z, _⟩ := T.obj _ _ st2 b hb
    exact Heap.lt_size z
  have f3 : ∀ b ∈ fp, FpOk X pins (upd H2 D (.lst [])) b ∧ b < t3.heap.objs.size := fun b hb => by
    have lt := below b hb
    refine ⟨⟨?_, (f2 b hb).2⟩, by rw [p3, Heap.size_push]; exact Nat.lt_succ_of_lt lt⟩
    rw [upd_ne (by rw [← eD]; exact Nat.ne_of_lt lt)]
    exact (f2 b hb).1
  have st3 : tn 0 t3.heap := T.keep _ _ _ st2 fun b _ o z => by rw [p3]; exact Heap.get?_push_of_some _ z
  have J4 := block_start J3 ok nd f3
  have pg := hg t3 (upd H2 D (.lst [])) t3.heap.objs.size (cellsFrom (t3.heap.objs.size + 1) scope.names (cloFrom X.env.cells scope.names [])) fp
  have pt := ht t3 (upd H2 D (.lst [])) t3.heap.objs.size (cellsFrom (t3.heap.objs.size + 1) scope.names (cloFrom X.env.cells scope.names [])) fp
  have pe := he t3 (upd H2 D (.lst [])) t3.heap.objs.size (cellsFrom (t3.heap.objs.size + 1) scope.names (cloFrom X.env.cells scope.names [])) fp
  show codeAny _ _ (.compStart (.ListComp elt [⟨tg, iter, ifs, 0⟩] scope pos) 0 (.ref it) (.ref D) (compEnvC scope (cellsFrom (t3.heap.objs.size + 1) scope.names (cloFrom X.env.cells scope.names [])) t3.heap.objs.size X.env)) (cPost (model X.prog X.w) X.A X.xe use Qf (.ref D) t3.heap.objs.size X.env.frame) { t3 with heap := pushCells (t3.heap.push { cls := .type "dict", data := .dict #[] }) scope.names }
  have nfp : ∀ b ∈ fp, (upd H2 D (.lst [])) b = none := fun b hb => (f3 b hb).1.1
  generalize ece : compEnvC scope (cellsFrom (t3.heap.objs.size + 1) scope.names (cloFrom X.env.cells scope.names [])) t3.heap.objs.size X.env = ce at J4 pg pt pe ⊢
  have cL : ce.locals = t3.heap.objs.size := by subst ece; rfl
  have cF : ce.frame = X.env.frame := by subst ece; rfl
  generalize eH3 : upd H2 D (.lst []) = H3 at J3 J4 pg pt pe w0 nfp f3
  generalize e4 : ({ t3 with heap := pushCells (t3.heap.push { cls := .type "dict", data := .dict #[] }) scope.names } : Shared) = t4 at J4 ⊢
  have st4 : tn 0 t4.heap := T.keep _ _ _ st3 fun b _ o z => by rw [← e4]; exact pushCells_keeps _ _ _ _ (Heap.get?_push_of_some _ z)
  have newC : t3.heap.get? t3.heap.objs.size = none := by
    cases z : t3.heap.get? t3.heap.objs.size with
    | none => rfl
    | some o => exact absurd (Heap.lt_size z) (Nat.lt_irrefl _)
  -- what flies out of the element
  have passes : Passes (L2.CX X.prog X.w) { X.blk t3 H3 scope ce fp with xe := notedBy (model X.prog X.w) X.A ce (fun e s' => cPost (model X.prog X.w) X.A X.xe use Qf (.ref D) t3.heap.objs.size X.env.frame (.error e) s') } E := by
    intro pz σz Hz sz u sz' Ix cx
    obtain ⟨a, B, H', cls, d, rfl, fl, hok, ub, na, os, ag, hE⟩ := cx
    have Ib : Inv (X.blk t3 H3 scope ce fp) pz σz Hz sz := Inv.air (fun _ _ => False) Ix
    have nC : Hz t3.heap.objs.size = none := by
      have z : Hz ce.locals = none := Ib.free
      rw [cL] at z
      exact z
    obtain ⟨m, hn, _⟩ := Ib.loc
    have hn : sz.heap.Ns ce.locals m := hn
    rw [cL] at hn
    have z := comp_air (use := use) (Qf := Qf) (acc := .ref D) (ce := ce) two fr tk cF J3 newC (J3.fpOk (Nat.le_refl _) nC) (fun b hb => (f3 b hb).1) Ib.base Ib.os hn fl hok ub na os ag (wish cls d H' hE)
    rw [cF] at z
    exact z
  have pe := pe _ passes
  have stat : ∀ {σ' : L2.St} {H' : Hp} {s' : Shared}, Inv (X.blk t3 H3 scope ce fp) [] σ' H' s' → (∀ b ∈ fp, H' b = none) → ∀ b ∈ fp, FpOk (X.blk t3 H3 scope ce fp) [] H' b := fun {σ' H' s'} I' none_ b hb =>
    ⟨none_ b hb, (I'.ok.exf b hb).1, I'.ok.exfs b hb, .inl hb, fun x c z => (I'.ok.exf b hb).2 x c z, fun p hp => absurd (show p ∈ ([] : List (Addr × Obj)) ++ [] from hp) (by simp)⟩
  have loop : codeAny (model X.prog X.w) X.A (.compLoop (.ListComp elt [⟨tg, iter, ifs, 0⟩] scope pos) 0 (.ref it) (.ref D) ce) (cPost (model X.prog X.w) X.A X.xe use Qf (.ref D) t3.heap.objs.size X.env.frame) t4 := by
    refine compLoop_any (fun n s' => ∃ i H', Inv (X.blk t3 H3 scope ce fp) [] (wipe σ (own.map (·.2))) H' s' ∧ tn i s'.heap ∧ (∀ b ∈ fp, H' b = none) ∧ Wt i n H') ?_ m0 ⟨0, H3, J4, st4, nfp, w0⟩
    rintro n t5 ⟨i, H5, J5, st5, n5, w5⟩
    rcases turn i n H5 w5 with ⟨stop, qq⟩ | ⟨go, Nx, less, step⟩
    · have over := T.done (X.blk t3 H3 scope ce fp) rfl rfl rfl calm i [] t5 _ H5 (fun _ _ => False) J5 (stat J5 n5) st5 stop
      refine thnF over fun r t6 ⟨er, J6⟩ => ?_
      subst er
      have J7 : Inv X pins σ H5 t6 := J3.call' (ch := fp) J6.os J6.base J6.hok J6.bare fun b hb => ⟨(f3 b hb).1.2.2.2.1, (f3 b hb).1.2.1, (f3 b hb).1.2.2.2.2.1, (f3 b hb).1.2.2.2.2.2⟩
      have nC : H5 t3.heap.objs.size = none := by
        have z : H5 ce.locals = none := J6.free
        rw [cL] at z
        exact z
      obtain ⟨m, hn, _⟩ := J6.loc
      have hn : t6.heap.Ns ce.locals m := hn
      rw [cL] at hn
      exact ends D t3.heap.objs.size t6 m H5 J7 qq hn (J3.fpOk (Nat.le_refl _) nC)
    · have next := T.item (X.blk t3 H3 scope ce fp) rfl rfl rfl calm i [] t5 _ H5 (fun _ _ => False) J5 (stat J5 n5) st5 go
      refine thnF next fun r t6 ⟨u, er, h6⟩ => ?_
      subst er
      refine thnF h6 fun _ t7 ⟨x, H7, J7, r7, y7, st7, n7⟩ => ?_
      have J7' := J7.pinned (stat J7 n7) (T.obj _ _ st7)
      refine thnF (pg.run _ t7 _ H7 x u _ J7' r7 (step x H7 y7)) fun _ t8 ⟨σ8, H8, J8, hw8, q8⟩ => ?_
      refine thnF (pt.run _ t8 σ8 H8 _ J8 q8) fun b t9 ⟨H9, J9, q9⟩ => ?_
      have fin : ∀ {s' : Shared} {H' : Hp}, Inv (X.blk t3 H3 scope ce fp) ([] ++ pinsAt fp t7.heap) σ8 H' s' → Nx H' → ∃ m, m < n ∧ ∃ i H', Inv (X.blk t3 H3 scope ce fp) [] (wipe σ (own.map (·.2))) H' s' ∧ tn i s'.heap ∧ (∀ b ∈ fp, H' b = none) ∧ Wt i m H' := fun {s' H'} I' nx => by
        obtain ⟨m', lm, w'⟩ := less H' nx
        have pinned : ∀ b ∈ fp, ∀ o, t7.heap.get? b = some o → s'.heap.get? b = some o ∧ H' b = none := fun b hb o z =>
          let y := I'.pin (b, o) (List.mem_append_right _ (List.mem_append_right _ (mem_pinsAt hb z)))
          ⟨y.1, y.2.1⟩
        have el : (wipe σ (own.map (·.2))).length = σ8.length := by rw [← hw8, wipe_length]
        refine ⟨m', lm, i + 1, H', (I'.unpinned (pins := [])).weak el (fun j v z => ?_), T.keep _ _ _ st7 fun b hb o z => (pinned b hb o z).1, fun b hb => ?_, w'⟩
        · rw [← hw8] at z
          exact (wipe_some z).1
        · obtain ⟨o, z, _⟩ := T.obj _ _ st7 b hb
          exact (pinned b hb o z).2
      cases b with
      | false =>
        simp only [Bool.false_eq_true, if_false] at q9 ⊢
        exact fin J9 q9
      | true =>
        simp only [if_true] at q9 ⊢
        refine wpAny_mono (pe.run _ t9 σ8 H9 _ (Inv.air _ J9) q9) (fun z t10 ⟨yv, H10, J10, r10, acc, d10, z10, nx⟩ => ?_) fun _ _ y => y
        have J10' : Inv (X.blk t3 H3 scope ce fp) ([] ++ pinsAt fp t7.heap) σ8 H10 t10 := Inv.air (fun _ _ => False) J10
        exact app_ok (X := X.blk t3 H3 scope ce fp) J10' d10 z10 r10 fun t11 J11 => fin J11 nx
  exact codeAny_compStart_list loop (T.self X.A 0 _ _ _ st4 loop)
/-- name = [..] on one line, the name a local; the element's calls may refuse -/
theorem ps_setLcX {X : Cx} {i : Nat} {y : Str} {py : Pos} {elt tg iter : Expr} {ifs : List Expr} {scope : Scope} {own : List (Str × Nat)} {pos spos : Pos} {wi : TI} {g : TG} {tt : TT} {te : TE} {E : XK} (two : X.stack = X.env :: X.outer) (fr : X.env.frame = some X.env.locals) (tk : Takes X (fun cls d _ H => E cls d H))
    (calm : X.calm = true) (nd : X.N.Nodup) (slot : X.N[i]? = some y) (loc : X.env.scope.names.lookup y = some .local) (sw : swapsWith (.ListComp elt [⟨tg, iter, ifs, 0⟩] scope pos) (some (.Name y py)) spos.line X.env = pure true) (hi : PI X tg iter wi) (ok : BlkOk X.N X.env.scope scope own)
    (hg : ∀ (s : Shared) (H : Hp) (C : Addr) (cl : List (Str × Addr)) (fp : List Addr), PG (X.blk s H scope (compEnvC scope cl C X.env) fp) tg g) (ht : ∀ (s : Shared) (H : Hp) (C : Addr) (cl : List (Str × Addr)) (fp : List Addr), PTs (X.blk s H scope (compEnvC scope cl C X.env) fp) ifs tt)
    (he : EltX X scope elt te E) (folded : ∀ x, foldedSetIterable iter X.env x = pure x := by intro _; rfl) : PS X (.Assign [.Name y py] (.ListComp elt [⟨tg, iter, ifs, 0⟩] scope pos) spos) (tAsg (tLc wi g tt te (own.map (·.2))) (gName i)) := by
  refine ⟨fun pins s σ H D inv want => ?_⟩
  rw [exec_Assign_Name_used _ _ _ _ sw]
  refine wpAny_bind (wpAny_standAt (wpAny_bind ?_))
  show wpAny _ X.A (do let _ ← comprehension (.ListComp elt [⟨tg, iter, ifs, 0⟩] scope pos) scope X.env (firstIterPos [⟨tg, iter, ifs, 0⟩] pos) (newList []) false (eval iter X.env) (some (assign (.Name y py) X.env))) _ _ s
  have want : tLc wi g tt te (own.map (·.2)) σ H (fun x H1 => gName i x σ H1 D.nx) := want
  refine wpAny_bind (thn (lcX_core (Qf := fun _ s' => SP X pins D .next s') two fr tk (fun _ _ _ z => z) calm nd inv hi ok hg ht he folded want fun L C s' m H' I' q hn f => ?_) fun _ s' z => wpAny_pure (wpAny_pure z))
  show wpAny _ _ (assign (.Name y py) X.env (.ref L)) _ _ _
  refine wpAny_assign_Name (store_ok2 (v := V.ref L) I' nd slot (.inl loc) rfl (fun s2 J2 ⟨a, sb, ha⟩ => ?_) (.inr loc))
  obtain ⟨f0, f1, f2, f3, f4, f5⟩ := f
  have aC : C ≠ a := by
    rcases ha with z | z
    · rw [z]
      exact f1
    · exact fun e => f4 y a z e.symm
  exact ⟨m, hn.sameBut sb aC, fun h3 sb3 => ⟨_, H', J2.turned (t' := s2.toks) (fun b o hb e => (sb3.2 b hb).trans e) f0 f1 f3 f4 f5, q⟩⟩
end VQ
namespace VQ
open PySem L2 LamX
abbrev sWorth : Stmt := top 26
abbrev sFigs : Stmt := top 27
/-! ### figures -/
def figLow (w : Nat) : Nat → Str
  | 0 => ⟨#[]⟩
  | i + 1 => (⟨#[48 + w / 2 ^ i % 2]⟩ : Str) ++ figLow w i
def fig (w : Nat) : Str := figLow w 5
theorem figLow_len (w : Nat) : ∀ i, (figLow w i).length = i
  | 0 => rfl
  | i + 1 => by
    show ((⟨#[48 + w / 2 ^ i % 2]⟩ : Str) ++ figLow w i).length = i + 1
    show (#[48 + w / 2 ^ i % 2] ++ (figLow w i).cps).size = i + 1
    rw [Array.size_append]
    have := figLow_len w i
    show 1 + (figLow w i).length = i + 1
    omega
theorem str_bit (n : Nat) : (toString ((n % 2 : Nat) : Int) : Str) = ⟨#[48 + n % 2]⟩ := by
  rcases Nat.mod_two_eq_zero_or_one n with h | h
  · rw [h]; decide +kernel
  · rw [h]; decide +kernel
section
variable {P : Program} {w : World} {K : PySem.W.Frag} {mg : Str → Option Value} {base : Heap}
def spFigs : Sp := fun vs H Q _ => ∃ (n : Nat), vs = [.int (n : Int)] ∧ Q (.str (fig n)) H
theorem scFigs : FnScope ["_law_worth_here", "_law_found", "_law_at"] ["_law_worth_here"] (defScope sFigs) := ⟨rfl, rfl, rfl, by decide +kernel, rfl, by decide +kernel, by decide +kernel⟩
theorem ok_figs {f : Addr} {fd : FuncData} (F : Fun K "_law_figs" "_law_figs" sFigs f fd) (rng : mg "range" = none) (str : mg "str" = none) : FnOk P w K mg base CX0 1 f fd ["_law_worth_here"] spFigs := by
  refine F.ok scFigs (fun vs H Q E h => ?_) (fun cdv A outer s H vs Q E hr h => ?_)
  · obtain ⟨n, rfl, _⟩ := h
    rfl
  · obtain ⟨n, rfl, k⟩ := h
    refine ⟨_, pss_cons (ps_set (i := 1) scFigs.nd rfl (.inl rfl) pe_str)
      (pss_cons (ps_for PassesOwn.never rfl (pi_range1 rfl rng (pa_cons pe_int pa_nil)) (pg_name (i := 2) scFigs.nd rfl (.inl rfl))
        (pss_cons (ps_set (i := 1) scFigs.nd rfl (.inl rfl) (pe_op op_add_str (pe_callTy call_str_int (by rfl) str (by decide +kernel) (pa_cons (pe_op op_mod (pv 0) pe_int) pa_nil)) (pv 1)))
        (pss_one (ps_set (i := 0) scFigs.nd rfl (.inl rfl) (pe_op op_fdiv (pv 0) pe_int)))))
      (pss_one (ps_ret (pv 1)))), ?_⟩
    refine ⟨5, rfl, by decide, by decide, for_range (lo := 0) (n := 5) (fun i σ H' => H' = H ∧ ∃ v : Option V, σ = [some (.int ((n / 2 ^ i : Nat) : Int)), some (.str (figLow n i)), v]) ?_ ?_ ?_⟩
    · refine ⟨rfl, none, ?_⟩
      show [some (V.int (n : Int)), some (V.str (Str.ofString "")), none] = _
      rw [Nat.pow_zero, Nat.div_one, show Str.ofString "" = figLow n 0 from (show Str.ofString "" = (⟨#[]⟩ : Str) by decide +kernel)]
    · rintro i σ H' hi ⟨rfl, v, rfl⟩
      have e1 : ((n / 2 ^ i : Nat) : Int) % 2 = ((n / 2 ^ i % 2 : Nat) : Int) := by omega
      have e2 : ((n / 2 ^ i : Nat) : Int) / 2 = ((n / 2 ^ (i + 1) : Nat) : Int) := by
        rw [Nat.pow_succ, ← Nat.div_div_eq_div_mul]; omega
      refine ⟨_, rfl, _, 2, rfl, rfl, (by show (0 : Int) < 2; decide), _, rfl, ?_, _, rfl, _, _, rfl, rfl, ?_, ?_⟩
      · rw [e1]
        rcases Nat.mod_two_eq_zero_or_one (n / 2 ^ i) with h | h <;> rw [h] <;> decide
      · rw [e1, str_bit, figLow_len]
        show 1 + i ≤ sizeLine
        have : i < 5 := hi
        exact Nat.le_trans (by omega : 1 + i ≤ 6) (by decide)
      · refine ⟨_, rfl, _, 2, rfl, rfl, ⟨by decide, by decide⟩, rfl, some (.int (0 + (i : Int))), ?_⟩
        show [some (V.int (((n / 2 ^ i : Nat) : Int) / 2)), some (V.str (Str.ofString (toString (((n / 2 ^ i : Nat) : Int) % 2)) ++ figLow n i)), some (V.int (0 + (i : Int)))] = _
        rw [e2, e1, str_bit]
        rfl
    · rintro σ H' ⟨rfl, v, rfl⟩
      exact ⟨_, rfl, k⟩
/-! ### drawn worths -/
/-- a number drawn by the bag, of which R is true -/
def spDraw (R : Int → Prop) : Sp := fun vs H Q _ => ∃ (b : Addr), vs = [.ref b] ∧ Bag H b ∧ ∀ (i : Int) (H' : Hp), R i → Bag H' b → Keep b H H' → Q (.int i) H'
theorem scWorth : FnScope ["_law_bag_here"] ["_law_bag_here"] (defScope sWorth) := ⟨rfl, rfl, rfl, by decide +kernel, rfl, by decide +kernel, by decide +kernel⟩
theorem Bag.ne {H : Hp} {b p : Addr} (h : Bag H b) (n : H p = none) : p ≠ b := fun e => by
  obtain ⟨o, z⟩ := h.here
  rw [e, z] at n
  cases n
theorem ok_worth {f fO fP : Addr} {fd fdO fdP : FuncData} (F : Fun K "_law_worth" "_law_worth" sWorth f fd) (len : mg "len" = none) (P1 : At K mg "_law_pull" sPull ["_law_bag_here", "_law_size"] fP fdP) (P2 : At K mg "_law_of" sOf ["_law_bag_here", "_law_some"] fO fdO) :
    FnOk P w K mg base CX0 3 f fd ["_law_bag_here"] (spDraw fun i => 0 ≤ i ∧ i < 32) := by
  have G1 : FnOk P w K mg base CX0 1 fP fdP ["_law_bag_here", "_law_size"] spPull := ok_pull P1.fn len
  have G2 : FnOk P w K mg base CX0 2 fO fdO ["_law_bag_here", "_law_some"] (spOf K) := ok_of P2.fn len P1
  refine F.ok scWorth (fun vs H Q E h => ?_) (fun cdv A outer s H vs Q E hr h => ?_)
  · obtain ⟨b, rfl, _⟩ := h
    rfl
  · obtain ⟨b, rfl, B, k⟩ := h
    have hr1 : Room 1 _ := hr.mono (by decide)
    refine ⟨_, pss_one (ps_ret (pe_call G2 hr rfl P2.gl P2.fn.kp P2.bd .nil pass0 (pa_cons (pv 0) (pa_cons (pe_lst
      (pa_cons (pe_call G1 hr1 rfl P1.gl P1.fn.kp P1.bd .nil pass0 (pa_cons (pv 0) (pa_cons pe_int pa_nil)))
      (pa_cons (pe_call G1 hr1 rfl P1.gl P1.fn.kp P1.bd .nil pass0 (pa_cons (pv 0) (pa_cons pe_int pa_nil)))
      (pa_cons (pe_call G1 hr1 rfl P1.gl P1.fn.kp P1.bd .nil pass0 (pa_cons (pv 0) (pa_cons pe_int pa_nil)))
      (pa_cons pe_int (pa_cons pe_int pa_nil)))))) pa_nil)))), ?_⟩
    refine ⟨_, rfl, _, rfl, b, 32, rfl, B, by decide, by decide, fun d1 H1 a1 c1 B1 k1 => ?_⟩
    refine ⟨_, rfl, b, 32, rfl, B1, by decide, by decide, fun d2 H2 a2 c2 B2 k2 => ?_⟩
    refine ⟨_, rfl, b, 4, rfl, B2, by decide, by decide, fun d3 H3 a3 c3 B3 k3 => ?_⟩
    refine ⟨by show 5 ≤ sizeLine; decide, fun p hp => ?_⟩
    have sm := same_new (o := HO.lst [.int d1, .int d2, .int d3, .int 0, .int 31]) hp
    refine ⟨b, p, _, rfl, B3.same sm, B3.ne hp, SqL.of upd_same, by show 1 ≤ 5; decide, by show 5 < 1000; decide, fun v H' mem B' k' => ?_⟩
    have kk : Keep b H H' := ((k1.trans k2).trans k3).trans (Keep.trans (Same.keep sm) k')
    rcases List.mem_cons.mp mem with rfl | mem
    · exact k _ _ ⟨a1, c1⟩ B' kk
    rcases List.mem_cons.mp mem with rfl | mem
    · exact k _ _ ⟨a2, c2⟩ B' kk
    rcases List.mem_cons.mp mem with rfl | mem
    · exact k _ _ ⟨a3, by omega⟩ B' kk
    rcases List.mem_cons.mp mem with rfl | mem
    · exact k _ _ ⟨by decide, by decide⟩ B' kk
    rcases List.mem_cons.mp mem with rfl | mem
    · exact k _ _ ⟨by decide, by decide⟩ B' kk
    · cases mem
end
end VQ
namespace VQ
open PySem L2 LamX
/-! ### things of the plain kinds -/
def worthB : V → Bool
  | .int i => decide (0 ≤ i) && decide (i < 32)
  | _ => false
def basics : List String := ["NoneType", "bool", "int", "str", "list", "tuple"]
theorem basic_cases {K : PySem.W.Frag} {H : Hp} {x : V} {t : String} (h : TyX K H x (.type t)) (m : t ∈ basics) :
    (x = .non ∧ t = "NoneType") ∨ (∃ b, x = .bl b ∧ t = "bool") ∨ (∃ i, x = .int i ∧ t = "int") ∨ (∃ z, x = .str z ∧ t = "str") ∨ (∃ a, x = .ref a ∧ (t = "list" ∨ t = "tuple")) := by
  generalize e : Value.type t = tv at h
  cases h with
  | base b =>
    cases b with
    | non => cases e; exact .inl ⟨rfl, rfl⟩
    | bl y => cases e; exact .inr (.inl ⟨y, rfl, rfl⟩)
    | int i => cases e; exact .inr (.inr (.inl ⟨i, rfl, rfl⟩))
    | str y => cases e; exact .inr (.inr (.inr (.inl ⟨y, rfl, rfl⟩)))
    | flt y => cases e; exact absurd m (by decide)
    | lst _ => cases e; exact .inr (.inr (.inr (.inr ⟨_, rfl, .inl rfl⟩)))
    | frz _ => cases e; exact .inr (.inr (.inr (.inr ⟨_, rfl, .inl rfl⟩)))
    | tup _ => cases e; exact .inr (.inr (.inr (.inr ⟨_, rfl, .inr rfl⟩)))
    | dK _ => cases e; exact absurd m (by decide)
    | dT _ => cases e; exact absurd m (by decide)
    | ins _ _ _ _ _ _ => cases e
  | byt _ => cases e; exact absurd m (by decide)
  | set _ => cases e; exact absurd m (by decide)
  | kList _ _ => cases e; exact .inr (.inr (.inr (.inr ⟨_, rfl, .inl rfl⟩)))
  | kTuple _ _ => cases e; exact .inr (.inr (.inr (.inr ⟨_, rfl, .inr rfl⟩)))
  | kDict _ _ => cases e; exact absurd m (by decide)
  | fTuple _ => cases e; exact .inr (.inr (.inr (.inr ⟨_, rfl, .inr rfl⟩)))
  | fDict _ => cases e; exact absurd m (by decide)
section
variable {P : Program} {w : World} {K : PySem.W.Frag} {mg : Str → Option Value} {base : Heap}
/-- what the program's own modules ask of the names -/
structure Blt (mg : Str → Option Value) : Prop where
  isi : mg "isinstance" = none
  int : mg "int" = none
  bool : mg "bool" = none
  str : mg "str" = none
  list : mg "list" = none
  tuple : mg "tuple" = none
  len : mg "len" = none
  all : mg "all" = none
  range : mg "range" = none
/-! ### a refusal without a field -/
def spErr (K : PySem.W.Frag) (C : Addr) (nm : Str) : Sp := fun vs H Q _ => ∃ a : Addr, vs = [.ref a] ∧ H a = some (exo a C none) ∧ ∀ d, H d = none → d ≠ a → Q .non (upd (upd H d (exd d [(("called" : Str), .str nm)])) a (exo a C (some d)))
/-- the class at C, its __init__ at fI -/
structure ErrC (K : PySem.W.Frag) (mg : Str → Option Value) (x : Str) (C fI : Addr) (fd : FuncData) (qual : Str) (st : Stmt) : Prop where
  gl : mg x = some (.ref C)
  ox : OexC K C
  it : PySem.W.findIn K (.ref C) "__init__" = some (some (.ref fI))
  ty : PySem.W.typeIn K (.ref fI) = some (.type "function")
  nc : PySem.W.findIn K (.ref C) "called" = some none
  fn : Fun K "__init__" qual st fI fd
  bd : Binds K fd ["self"] []
theorem ok_err {x qual nm : Str} {st : Stmt} {C fI : Addr} {fd : FuncData} {p1 p2 p3 p4 : Pos} {j : Nat} (Er : ErrC K mg x C fI fd qual st) (sc : FnScope ["self"] ["self"] (defScope st)) (v : Vis (defScope st) "self")
    (hb : defBody st = [.Assign [.Attribute (.Name "self" p1) "called" p2] (.Constant (.str nm) j p3) p4]) : FnOk P w K mg base CX0 1 fI fd ["self"] (spErr K C nm) := by
  refine Er.fn.ok sc (fun vs H Q E h => ?_) (fun cdv A outer s H vs Q E' hr h => ?_)
  · obtain ⟨a, rfl, _⟩ := h
    rfl
  · obtain ⟨a, rfl, ha, k⟩ := h
    rw [hb]
    refine ⟨_, pss_one (ps_ost (pe_var (i := 0) rfl v) pe_str), ?_⟩
    exact ⟨_, rfl, a, C, rfl, Er.ox, Er.nc, .inl ⟨ha, fun dx hd ne => k dx hd ne⟩⟩
theorem raise_plain {C : Addr} {nm : Str} {σ : L2.St} {H : Hp} {W : XK} (h : ∀ d, H d = none → W (.ref C) (some d) (upd H d (.xd [(("called" : Str), .str nm)]))) : tMkO0 C (spErr K C nm) σ H W := by
  intro a ha
  refine ⟨a, rfl, upd_same, fun d hd ne => ⟨rfl, d, [(("called" : Str), V.str nm)], upd_same, ?_, ?_, ?_⟩⟩
  · rw [upd_ne ne, upd_same]
  · rw [upd_ne ne] at hd
    exact hd
  · have hd' : H d = none := by
      rw [upd_ne ne] at hd
      exact hd
    have e : upd (del (upd (upd (upd H a (exo a C none)) d (exd d [(("called" : Str), V.str nm)])) a (exo a C (some d))) a) d (.xd [(("called" : Str), V.str nm)]) = upd H d (.xd [(("called" : Str), V.str nm)]) := by
      funext b
      by_cases hb : b = d
      · rw [hb, upd_same, upd_same]
      · rw [upd_ne hb, upd_ne hb]
        by_cases hba : b = a
        · rw [hba, del_same, ha]
        · rw [del_ne hba, upd_ne hba, upd_ne hb, upd_ne hba]
    rw [e]
    exact h d hd'
end
end VQ
namespace VQ
open PySem L2 LamX
abbrev sIsNumber : Stmt := top 7
abbrev sIsWorth : Stmt := top 8
abbrev sFigures : Stmt := top 9
abbrev sBadWorth : Stmt := inClass (top 2) 0
theorem zfill_bin : ∀ n, n < 32 → Txt.zfill (binS n) 5 = fig n := by decide +kernel
section
variable {P : Program} {w : World} {K : PySem.W.Frag} {mg : Str → Option Value} {base : Heap}
def numB (lo hi : Int) : V → Bool
  | .int i => decide (lo ≤ i) && decide (i < hi)
  | _ => false
/-- whether a thing is a number from one bound to below another -/
def spIsNumber (K : PySem.W.Frag) : Sp := fun vs H Q _ => ∃ (x : V) (t : String) (lo hi : Int), vs = [x, .int lo, .int hi] ∧ TyX K H x (.type t) ∧ t ∈ basics ∧ Q (.bl (numB lo hi x)) H
theorem scIsNumber : FnScope ["thing", "low", "behind"] ["thing", "low", "behind"] (defScope sIsNumber) := ⟨rfl, rfl, rfl, by decide +kernel, rfl, by decide +kernel, by decide +kernel⟩
theorem ok_isnumber {f : Addr} {fd : FuncData} (F : Fun K "is_number" "is_number" sIsNumber f fd) (b : Blt mg) : FnOk P w K mg base CX0 1 f fd ["thing", "low", "behind"] (spIsNumber K) := by
  refine F.ok scIsNumber (fun vs H Q E h => ?_) (fun cdv A outer s H vs Q E hr h => ?_)
  · obtain ⟨x, t, lo, hi, rfl, _⟩ := h
    rfl
  · obtain ⟨x, t, lo, hi, rfl, ty, m, k⟩ := h
    refine ⟨_, pss_one (ps_ret (pe_and (pe_callB call_isi (by rfl) b.isi (by decide +kernel) (pa_cons (pv 0) (pa_cons (pe_bltn (v := .ty "int") rfl b.int (by decide +kernel) rfl) pa_nil)))
      (pe_and (pe_not (pe_callB call_isi (by rfl) b.isi (by decide +kernel) (pa_cons (pv 0) (pa_cons (pe_bltn (v := .ty "bool") rfl b.bool (by decide +kernel) rfl) pa_nil))))
      (pe_one (pe_chain op_le op_lt (pv 1) (pv 0) (pv 2)))))), ?_⟩
    rcases basic_cases ty m with ⟨rfl, rfl⟩ | ⟨c, rfl, rfl⟩ | ⟨i, rfl, rfl⟩ | ⟨z, rfl, rfl⟩ | ⟨a, rfl, rfl | rfl⟩
    · refine ⟨_, rfl, _, _, _, _, false, rfl, .ty "int", ty, kit_ty (by decide +kernel), false, rfl, iteF ?_⟩
      exact k
    · refine ⟨_, rfl, _, _, _, _, true, rfl, .ty "int", ty, kit_ty (by decide +kernel), true, rfl, iteT ?_⟩
      refine ⟨_, rfl, _, _, _, _, true, rfl, .ty "bool", ty, kit_ty (by decide +kernel), true, rfl, false, rfl, iteF ?_⟩
      exact k
    · refine ⟨_, rfl, _, _, _, _, true, rfl, .ty "int", ty, kit_ty (by decide +kernel), true, rfl, iteT ?_⟩
      refine ⟨_, rfl, _, _, _, _, false, rfl, .ty "bool", ty, kit_ty (by decide +kernel), false, rfl, true, rfl, iteT ?_⟩
      refine ⟨_, rfl, _, rfl, lo, i, rfl, rfl, _, rfl, ?_⟩
      by_cases h : lo ≤ i
      · rw [if_pos (decide_eq_true h)]
        refine ⟨_, rfl, i, hi, rfl, rfl, ?_⟩
        have e : numB lo hi (.int i) = decide (i < hi) := by
          show (decide (lo ≤ i) && decide (i < hi)) = _
          rw [decide_eq_true h, Bool.true_and]
        rw [e] at k
        exact k
      · rw [if_neg (by simpa using h)]
        have e : numB lo hi (.int i) = false := by
          show (decide (lo ≤ i) && decide (i < hi)) = _
          rw [decide_eq_false h, Bool.false_and]
        rw [e] at k
        exact k
    · refine ⟨_, rfl, _, _, _, _, false, rfl, .ty "int", ty, kit_ty (by decide +kernel), false, rfl, iteF ?_⟩
      exact k
    · refine ⟨_, rfl, _, _, _, _, false, rfl, .ty "int", ty, kit_ty (by decide +kernel), false, rfl, iteF ?_⟩
      exact k
    · refine ⟨_, rfl, _, _, _, _, false, rfl, .ty "int", ty, kit_ty (by decide +kernel), false, rfl, iteF ?_⟩
      exact k
theorem numB_worth (x : V) : numB 0 32 x = worthB x := by
  cases x <;> rfl
/-- where a def stands that asks is_number, and where that one stands -/
structure AtW (K : PySem.W.Frag) (mg : Str → Option Value) (x : Str) (st : Stmt) (ps : List Str) (f : Addr) (fd : FuncData) : Prop where
  it : At K mg x st ps f fd
  num : ∃ (fN : Addr) (fdN : FuncData), At K mg "is_number" sIsNumber ["thing", "low", "behind"] fN fdN
theorem AtW.gl {x : Str} {st : Stmt} {ps : List Str} {f : Addr} {fd : FuncData} (a : AtW K mg x st ps f fd) : mg x = some (.ref f) := a.it.gl
theorem AtW.bd {x : Str} {st : Stmt} {ps : List Str} {f : Addr} {fd : FuncData} (a : AtW K mg x st ps f fd) : Binds K fd ps [] := a.it.bd
theorem AtW.fn {x : Str} {st : Stmt} {ps : List Str} {f : Addr} {fd : FuncData} (a : AtW K mg x st ps f fd) : Fun K x x st f fd := a.it.fn
def spIsWorth (K : PySem.W.Frag) : Sp := fun vs H Q _ => ∃ (x : V) (t : String), vs = [x] ∧ TyX K H x (.type t) ∧ t ∈ basics ∧ Q (.bl (worthB x)) H
theorem scIsWorth : FnScope ["thing"] ["thing"] (defScope sIsWorth) := ⟨rfl, rfl, rfl, by decide +kernel, rfl, by decide +kernel, by decide +kernel⟩
theorem ok_isworth {f : Addr} {fd : FuncData} {tk : Tok} (F : AtW K mg "is_worth" sIsWorth ["thing"] f fd) (b : Blt mg) (W : mg "WORTHS" = some (.int 32 tk)) : FnOk P w K mg base CX0 2 f fd ["thing"] (spIsWorth K) := by
  obtain ⟨fN, fdN, aN⟩ := F.num
  have GN : FnOk P w K mg base CX0 1 fN fdN ["thing", "low", "behind"] (spIsNumber K) := ok_isnumber aN.fn b
  refine F.it.fn.ok scIsWorth (fun vs H Q E h => ?_) (fun cdv A outer s H vs Q E hr h => ?_)
  · obtain ⟨x, t, rfl, _⟩ := h
    rfl
  · obtain ⟨x, t, rfl, ty, m, k⟩ := h
    refine ⟨_, pss_one (ps_ret (pe_call GN hr rfl aN.gl aN.fn.kp aN.bd .nil pass0 (pa_cons (pv 0) (pa_cons pe_int (pa_cons (pe_glob (v := .int 32) rfl W ⟨_, rfl⟩) pa_nil))))), ?_⟩
    refine ⟨_, rfl, x, t, 0, 32, rfl, ty, m, ?_⟩
    rw [numB_worth]
    exact k
theorem scBadWorth : FnScope ["self"] ["self"] (defScope sBadWorth) := ⟨rfl, rfl, rfl, by decide +kernel, rfl, by decide +kernel, by decide +kernel⟩
def spFigures (K : PySem.W.Frag) (C : Addr) : Sp := fun vs H Q E => ∃ (x : V) (t : String), vs = [x] ∧ TyX K H x (.type t) ∧ t ∈ basics ∧
  (∀ n : Nat, n < 32 → x = .int (n : Int) → Q (.str (fig n)) H) ∧ (worthB x = false → ∀ d, H d = none → E (.ref C) (some d) (upd H d (.xd [(("called" : Str), .str "BadWorth")])))
theorem scFigures : FnScope ["worth"] ["worth"] (defScope sFigures) := ⟨rfl, rfl, rfl, by decide +kernel, rfl, by decide +kernel, by decide +kernel⟩
theorem ok_figures {f fW C fI : Addr} {fd fdW fdI : FuncData} {tk tk' : Tok} (F : Fun K "figures" "figures" sFigures f fd) (b : Blt mg) (W : mg "WORTHS" = some (.int 32 tk)) (Fg : mg "FIGURES" = some (.int 5 tk')) (P1 : AtW K mg "is_worth" sIsWorth ["thing"] fW fdW)
    (EW : ErrC K mg "BadWorth" C fI fdI "BadWorth.__init__" sBadWorth) : FnOk P w K mg base (L2.CX P w) 3 f fd ["worth"] (spFigures K C) := by
  have G1 : FnOk P w K mg base CX0 2 fW fdW ["thing"] (spIsWorth K) := ok_isworth P1 b W
  have GI : FnOk P w K mg base CX0 1 fI fdI ["self"] (spErr K C "BadWorth") := ok_err EW scBadWorth (.inl rfl) rfl
  refine F.okX scFigures (fun vs H Q E h => ?_) (fun cdv A outer s H vs Q E hr h => ?_)
  · obtain ⟨x, t, rfl, _⟩ := h
    rfl
  · obtain ⟨x, t, rfl, ty, m, k1, k2⟩ := h
    refine ⟨_, pss_cons (ps_if (pt_not (pt_val (pe_call G1 hr rfl P1.gl P1.fn.kp P1.bd .nil pass0 (pa_cons (pv 0) pa_nil))))
        (pss_one (ps_raise rfl (takes_of rfl rfl rfl rfl) (pmk_oex0 EW.ox EW.it EW.ty GI hr EW.bd pass0 rfl EW.gl))) pss_nil)
      (pss_one (ps_ret (pe_bm PySem.F.plainAttrs_str PySem.F.slot_str_zfill PySem.F.type_str_zfill mt_zfill (pe_joined1 (pe_fmtB (pv 0))) (pa_cons (pe_glob (v := .int 5) rfl Fg ⟨_, rfl⟩) pa_nil)))), ?_⟩
    refine ⟨_, rfl, x, t, rfl, ty, m, _, rfl, ?_⟩
    cases e : worthB x with
    | false => exact raise_plain (σ := []) fun d hd => k2 e d hd
    | true =>
      obtain ⟨i, rfl⟩ : ∃ i, x = .int i := by
        cases x with
        | int i => exact ⟨i, rfl⟩
        | _ => cases e
      have e' : (decide (0 ≤ i) && decide (i < 32)) = true := e
      have hi : 0 ≤ i ∧ i < 32 := by simpa using e'
      obtain ⟨n, rfl⟩ := Int.eq_ofNat_of_zero_le hi.1
      have hn : n < 32 := by omega
      refine ⟨_, rfl, _, rfl, hi.1, hi.2, rfl, _, _, rfl, rfl, by decide, ?_⟩
      show Q (.str (Txt.zfill (binS n) 5)) H
      rw [zfill_bin n hn]
      exact k1 n hn rfl
end
end VQ
namespace VQ
open PySem L2 LamX
/-- two things that are the same all through, to a depth -/
inductive Alike (H : Hp) : Nat → V → V → Prop
  | non (n : Nat) : Alike H n .non .non
  | bl (n : Nat) (b : Bool) : Alike H n (.bl b) (.bl b)
  | int (n : Nat) (i : Int) : Alike H n (.int i) (.int i)
  | str (n : Nat) (z : Str) : Alike H n (.str z) (.str z)
  | lst {n : Nat} {a b : Addr} {xs ys : List V} (ha : H a = some (.lst xs)) (hb : H b = some (.lst ys)) (hl : xs.length = ys.length) (hz : ys.length ≤ 1000) (h : ∀ (i : Nat) (x y : V), xs[i]? = some x → ys[i]? = some y → Alike H n x y) : Alike H (n + 1) (.ref a) (.ref b)
  | tup {n : Nat} {a b : Addr} {xs ys : List V} (ha : H a = some (.tup xs)) (hb : H b = some (.tup ys)) (hl : xs.length = ys.length) (hz : ys.length ≤ 1000) (h : ∀ (i : Nat) (x y : V), xs[i]? = some x → ys[i]? = some y → Alike H n x y) : Alike H (n + 1) (.ref a) (.ref b)
theorem Alike.same {H H' : Hp} (s : Same H H') {n : Nat} {x y : V} (h : Alike H n x y) : Alike H' n x y := by
  induction h with
  | non n => exact .non n
  | bl n b => exact .bl n b
  | int n i => exact .int n i
  | str n z => exact .str n z
  | lst ha hb hl hz _ ih => exact .lst (s _ _ ha) (s _ _ hb) hl hz ih
  | tup ha hb hl hz _ ih => exact .tup (s _ _ ha) (s _ _ hb) hl hz ih
def spSame (n : Nat) : Sp := fun vs H Q _ => ∃ x y, vs = [x, y] ∧ Alike H n x y ∧ ∀ H', Same H H' → Q (.bl true) H'
section
variable {P : Program} {w : World} {K : PySem.W.Frag} {mg : Str → Option Value} {base : Heap}
section
variable {X : Cx} {p p0 p1 p2 p3 pos : Pos} {i k : Nat} {y : Str}
/-- isinstance(y, n) -/
theorem pe_isi {n : Str} {c : String} (he : PE X (.Name y p0) (tVar i)) (g : Gl X "isinstance") (hm : X.mg "isinstance" = none) (gn : Gl X n) (hn : X.mg n = none) (hv : bootBuiltins n = some (.type c)) (n1 : n ≠ "__name__" := by decide) (n2 : (n == ("__debug__" : Str)) = false := by decide) :
    PE X (.Call (.Name "isinstance" p) [.Name y p0, .Name n p1] [] pos) (tCB (rIsi X.K) (tCons (tVar i) (tCons (tC (.ty c)) tNil))) :=
  pe_callB call_isi g hm (by decide +kernel) (pa_cons he (pa_cons (pe_bltn (v := .ty c) gn hn hv rfl n1 n2) pa_nil))
/-- isinstance(y, (int, str)) -/
theorem pe_isiT (he : PE X (.Name y p0) (tVar i)) (g : Gl X "isinstance") (hm : X.mg "isinstance" = none) (gi : Gl X "int") (hi : X.mg "int" = none) (gs : Gl X "str") (hs : X.mg "str" = none) :
    PE X (.Call (.Name "isinstance" p) [.Name y p0, .Tuple [.Name "int" p1, .Name "str" p2] k p3] [] pos) (tCB (rIsiT X.K) (tCons (tVar i) (tCons (tTup (tCons (tC (.ty "int")) (tCons (tC (.ty "str")) tNil))) tNil))) :=
  pe_callB call_isiT g hm (by decide +kernel) (pa_cons he (pa_cons (pe_tup (pa_cons (pe_bltn (v := .ty "int") gi hi (by decide +kernel) rfl) (pa_cons (pe_bltn (v := .ty "str") gs hs (by decide +kernel) rfl) pa_nil))) pa_nil))
end
theorem rd_isi {σ : L2.St} {H : Hp} {Q : VK} {i : Nat} {x : V} {t c : String} {b : Bool} (hx : σ[i]? = some (some x)) (ty : TyX K H x (.type t)) (kb : kitB t c = some b) (h : Q (.bl b) H) : tCB (rIsi K) (tCons (tVar i) (tCons (tC (.ty c)) tNil)) σ H Q :=
  ⟨x, hx, _, _, _, _, b, rfl, .ty c, ty, kit_ty kb, h⟩
theorem TyX.basic_same {H H' : Hp} {x : V} {t : String} (s : Same H H') (ty : TyX K H x (.type t)) (m : t ∈ basics) : TyX K H' x (.type t) := by
  generalize e : Value.type t = tv at ty
  cases ty with
  | base b =>
    cases b with
    | non => exact .base .non
    | bl y => exact .base (.bl y)
    | int i => exact .base (.int i)
    | str y => exact .base (.str y)
    | flt y => exact .base (.flt y)
    | lst q => exact .base (.lst (s _ _ q))
    | frz q => exact .base (.frz (s _ _ q))
    | tup q => exact .base (.tup (s _ _ q))
    | dK q => exact .base (.dK (s _ _ q))
    | dT q => exact .base (.dT (s _ _ q))
    | ins _ _ _ _ _ _ => cases e
  | byt y => exact .byt y
  | set q => exact .set (s _ _ q)
  | kList q c => exact .kList q c
  | kTuple q c => exact .kTuple q c
  | kDict q c => exact .kDict q c
  | fTuple q => exact .fTuple (s _ _ q)
  | fDict q => exact .fDict (s _ _ q)
end
end VQ
namespace VQ
open PySem L2 LamX
abbrev sSame : Stmt := top 25
section
variable {P : Program} {w : World} {K : PySem.W.Frag} {mg : Str → Option Value} {base : Heap}
theorem scSame : FnScope ["_law_found", "_law_due", "_law_at"] ["_law_found", "_law_due"] (defScope sSame) := ⟨rfl, rfl, rfl, by decide +kernel, rfl, by decide +kernel, by decide +kernel⟩
def anyIS (t : String) : Bool := t == "int" || t == "str" || t == "bool"
theorem rd_isiT {σ : L2.St} {H : Hp} {Q : VK} {i : Nat} {x : V} {t : String} {b : Bool} (hx : σ[i]? = some (some x)) (ty : TyX K H x (.type t)) (m : t ∈ basics) (kb : PySem.W.kitAny K (.type t) [.type "int", .type "str"] = some b) (h : ∀ H', Same H H' → Q (.bl b) H') :
    tCB (rIsiT K) (tCons (tVar i) (tCons (tTup (tCons (tC (.ty "int")) (tCons (tC (.ty "str")) tNil))) tNil)) σ H Q :=
  ⟨x, hx, (by show 2 ≤ sizeLine; decide), fun p hp => ⟨x, p, _, _, _, b, rfl, upd_same, .cons (.ty "int") (.cons (.ty "str") .nil), TyX.basic_same (same_new hp) ty m, kb, h _ (same_new hp)⟩⟩
theorem kIS {t : String} {b b' : Bool} (h1 : kitB t "int" = some b) (h2 : kitB t "str" = some b') : PySem.W.kitAny K (.type t) [.type "int", .type "str"] = some (b || b') := by
  refine kitAny_cons (kit_ty h1) (fun e => ?_) (fun e => by rw [e]; rfl)
  subst e
  refine kitAny_cons (kit_ty h2) (fun e => ?_) (fun e => by rw [e]; rfl)
  subst e
  rfl
/-- the scalars' three clauses: from the first to the third -/
theorem ok_same0 {f : Addr} {fd : FuncData} (F : Fun K "_law_same" "_law_same" sSame f fd) (b : Blt mg) : FnOk P w K mg base CX0 1 f fd ["_law_found", "_law_due"] (spSame 0) := by
  refine F.ok scSame (fun vs H Q E h => ?_) (fun cdv A outer s H vs Q E hr h => ?_)
  · obtain ⟨x, y, rfl, _⟩ := h
    rfl
  · obtain ⟨x, y, rfl, al, k⟩ := h
    refine ⟨_, pss_cons (ps_if (pt_cmp (pc_isN (pv 1))) (pss_one (ps_ret (pe_cmp (pc_isN (pv 0))))) pss_nil)
      (pss_cons (ps_if (PW.pt (pw_or (pt_val (pe_isi (pv 1) rfl b.isi rfl b.bool (c := "bool") (by decide +kernel))) (pw_or1 (pt_val (pe_isi (pv 0) rfl b.isi rfl b.bool (c := "bool") (by decide +kernel))))))
        (pss_one (ps_ret (pe_and (pe_isi (pv 1) rfl b.isi rfl b.bool (c := "bool") (by decide +kernel)) (pe_and (pe_isi (pv 0) rfl b.isi rfl b.bool (c := "bool") (by decide +kernel)) (pe_one (pe_cmpR op_eq (pv 0) (pv 1) (nomark _))))))) pss_nil)
      (pss_cons (ps_if (pt_val (pe_isiT (pv 1) rfl b.isi rfl b.int rfl b.str))
        (pss_one (ps_ret (pe_and (pe_cmpR op_eq (pe_isi (pv 0) rfl b.isi rfl b.int (c := "int") (by decide +kernel)) (pe_isi (pv 1) rfl b.isi rfl b.int (c := "int") (by decide +kernel)) (nomark _)) (pe_and (pe_isiT (pv 0) rfl b.isi rfl b.int rfl b.str) (pe_one (pe_cmpR op_eq (pv 0) (pv 1) (nomark _))))))) pss_nil)
      pss_never)), ?_⟩
    cases al with
    | non => exact ⟨_, rfl, _, rfl, iteT ⟨_, rfl, k H (Same.refl H)⟩⟩
    | bl _ c =>
      refine ⟨_, rfl, _, rfl, iteF ?_⟩
      refine rd_isi rfl (.base (.bl c)) (b := true) (by decide +kernel) ⟨_, rfl, iteT ?_⟩
      refine rd_isi rfl (.base (.bl c)) (b := true) (by decide +kernel) ⟨_, rfl, iteT ?_⟩
      refine rd_isi rfl (.base (.bl c)) (b := true) (by decide +kernel) ⟨_, rfl, iteT ?_⟩
      refine ⟨_, rfl, _, rfl, rfl, ?_⟩
      rw [decide_eq_true rfl]
      exact k H (Same.refl H)
    | int _ i =>
      refine ⟨_, rfl, _, rfl, iteF ?_⟩
      refine rd_isi rfl (.base (.int i)) (b := false) (by decide +kernel) ⟨_, rfl, iteF ?_⟩
      refine rd_isi rfl (.base (.int i)) (b := false) (by decide +kernel) ⟨_, rfl, iteF ?_⟩
      refine rd_isiT rfl (.base (.int i)) (by decide) (kIS (b := true) (b' := false) (by decide +kernel) (by decide +kernel)) fun H1 s1 => ⟨_, rfl, iteT ?_⟩
      refine rd_isi rfl (.base (.int i)) (b := true) (by decide +kernel) ?_
      refine rd_isi rfl (.base (.int i)) (b := true) (by decide +kernel) ⟨rfl, _, rfl, iteT ?_⟩
      refine rd_isiT rfl (.base (.int i)) (by decide) (kIS (b := true) (b' := false) (by decide +kernel) (by decide +kernel)) fun H2 s2 => ⟨_, rfl, iteT ?_⟩
      refine ⟨_, rfl, _, rfl, rfl, ?_⟩
      rw [decide_eq_true rfl]
      exact k H2 (s1.trans s2)
    | str _ z =>
      refine ⟨_, rfl, _, rfl, iteF ?_⟩
      refine rd_isi rfl (.base (.str z)) (b := false) (by decide +kernel) ⟨_, rfl, iteF ?_⟩
      refine rd_isi rfl (.base (.str z)) (b := false) (by decide +kernel) ⟨_, rfl, iteF ?_⟩
      refine rd_isiT rfl (.base (.str z)) (by decide) (kIS (b := false) (b' := true) (by decide +kernel) (by decide +kernel)) fun H1 s1 => ⟨_, rfl, iteT ?_⟩
      refine rd_isi rfl (.base (.str z)) (b := false) (by decide +kernel) ?_
      refine rd_isi rfl (.base (.str z)) (b := false) (by decide +kernel) ⟨rfl, _, rfl, iteT ?_⟩
      refine rd_isiT rfl (.base (.str z)) (by decide) (kIS (b := false) (b' := true) (by decide +kernel) (by decide +kernel)) fun H2 s2 => ⟨_, rfl, iteT ?_⟩
      refine ⟨_, rfl, _, rfl, rfl, ?_⟩
      rw [decide_eq_true rfl]
      exact k H2 (s1.trans s2)
theorem ok_sameS {f : Addr} {fd : FuncData} {n lv : Nat} (A1 : At K mg "_law_same" sSame ["_law_found", "_law_due"] f fd) (b : Blt mg) (G : FnOk P w K mg base CX0 lv f fd ["_law_found", "_law_due"] (spSame n)) : FnOk P w K mg base CX0 (lv + 1) f fd ["_law_found", "_law_due"] (spSame (n + 1)) := by
  have F := A1.fn
  refine F.ok scSame (fun vs H Q E h => ?_) (fun cdv A outer s H vs Q E hr h => ?_)
  · obtain ⟨x, y, rfl, _⟩ := h
    rfl
  · obtain ⟨x, y, rfl, al, k⟩ := h
    refine ⟨_, pss_cons (ps_if (pt_cmp (pc_isN (pv 1))) (pss_one (ps_ret (pe_cmp (pc_isN (pv 0))))) pss_nil)
      (pss_cons (ps_if (PW.pt (pw_or (pt_val (pe_isi (pv 1) rfl b.isi rfl b.bool (c := "bool") (by decide +kernel))) (pw_or1 (pt_val (pe_isi (pv 0) rfl b.isi rfl b.bool (c := "bool") (by decide +kernel))))))
        (pss_one (ps_ret (pe_and (pe_isi (pv 1) rfl b.isi rfl b.bool (c := "bool") (by decide +kernel)) (pe_and (pe_isi (pv 0) rfl b.isi rfl b.bool (c := "bool") (by decide +kernel)) (pe_one (pe_cmpR op_eq (pv 0) (pv 1) (nomark _))))))) pss_nil)
      (pss_cons (ps_if (pt_val (pe_isiT (pv 1) rfl b.isi rfl b.int rfl b.str))
        (pss_one (ps_ret (pe_and (pe_cmpR op_eq (pe_isi (pv 0) rfl b.isi rfl b.int (c := "int") (by decide +kernel)) (pe_isi (pv 1) rfl b.isi rfl b.int (c := "int") (by decide +kernel)) (nomark _)) (pe_and (pe_isiT (pv 0) rfl b.isi rfl b.int rfl b.str) (pe_one (pe_cmpR op_eq (pv 0) (pv 1) (nomark _))))))) pss_nil)
      (pss_cons (ps_if (PW.pt (pw_or (pt_cmpR op_ne (pe_isi (pv 0) rfl b.isi rfl b.list (c := "list") (by decide +kernel)) (pe_isi (pv 1) rfl b.isi rfl b.list (c := "list") (by decide +kernel)) (nomark _))
          (pw_or1 (pt_cmpR op_ne (pe_isi (pv 0) rfl b.isi rfl b.tuple (c := "tuple") (by decide +kernel)) (pe_isi (pv 1) rfl b.isi rfl b.tuple (c := "tuple") (by decide +kernel)) (nomark _)))))
        (pss_one (ps_ret pe_bl)) pss_nil)
      (pss_one (ps_ret (pe_and (pe_cmpR op_eq (pe_callB call_len_seq (by rfl) b.len PySem.boot_len (pa_cons (pv 0) pa_nil)) (pe_callB call_len_seq (by rfl) b.len PySem.boot_len (pa_cons (pv 1) pa_nil)) (nomark _))
        (pe_one (pe_callB (cr_all rfl) (by rfl) b.all (by decide +kernel) (pa_cons
          (pe_lc (own := [("_law_at", 2)]) (g := gName 2) (tt := tYes) (te := tCall (spSame n) [] E0 (tCons (tOp (rIx K) (tVar 0) (tVar 2)) (tCons (tOp (rIx K) (tVar 1) (tVar 2)) tNil))) rfl scSame.nd (pi_range1 rfl b.range (pa_cons (pe_callB call_len_seq (by rfl) b.len PySem.boot_len (pa_cons (pv 1) pa_nil)) pa_nil))
            (blkOk_by (N := ["_law_found", "_law_due", "_law_at"]) (sc := defScope sSame) (by decide +kernel)) (fun _ _ _ _ _ => pg_name (i := 2) scSame.nd rfl (.inl rfl)) (fun _ _ _ _ _ => pts_nil)
            (fun _ _ _ _ _ => pe_call G hr rfl A1.gl A1.fn.kp A1.bd .nil pass0 (pa_cons (pe_ix ix_seq (pv 0) (pv 2) fun _ _ => rfl) (pa_cons (pe_ix ix_seq (pv 1) (pv 2) fun _ _ => rfl) pa_nil)))) pa_nil)))))))))
      , ?_⟩
    cases al with
    | non => exact ⟨_, rfl, _, rfl, iteT ⟨_, rfl, k H (Same.refl H)⟩⟩
    | bl _ c =>
      refine ⟨_, rfl, _, rfl, iteF ?_⟩
      refine rd_isi rfl (.base (.bl c)) (b := true) (by decide +kernel) ⟨_, rfl, iteT ?_⟩
      refine rd_isi rfl (.base (.bl c)) (b := true) (by decide +kernel) ⟨_, rfl, iteT ?_⟩
      refine rd_isi rfl (.base (.bl c)) (b := true) (by decide +kernel) ⟨_, rfl, iteT ?_⟩
      refine ⟨_, rfl, _, rfl, rfl, ?_⟩
      rw [decide_eq_true rfl]
      exact k H (Same.refl H)
    | int _ i =>
      refine ⟨_, rfl, _, rfl, iteF ?_⟩
      refine rd_isi rfl (.base (.int i)) (b := false) (by decide +kernel) ⟨_, rfl, iteF ?_⟩
      refine rd_isi rfl (.base (.int i)) (b := false) (by decide +kernel) ⟨_, rfl, iteF ?_⟩
      refine rd_isiT rfl (.base (.int i)) (by decide) (kIS (b := true) (b' := false) (by decide +kernel) (by decide +kernel)) fun H1 s1 => ⟨_, rfl, iteT ?_⟩
      refine rd_isi rfl (.base (.int i)) (b := true) (by decide +kernel) ?_
      refine rd_isi rfl (.base (.int i)) (b := true) (by decide +kernel) ⟨rfl, _, rfl, iteT ?_⟩
      refine rd_isiT rfl (.base (.int i)) (by decide) (kIS (b := true) (b' := false) (by decide +kernel) (by decide +kernel)) fun H2 s2 => ⟨_, rfl, iteT ?_⟩
      refine ⟨_, rfl, _, rfl, rfl, ?_⟩
      rw [decide_eq_true rfl]
      exact k H2 (s1.trans s2)
    | str _ z =>
      refine ⟨_, rfl, _, rfl, iteF ?_⟩
      refine rd_isi rfl (.base (.str z)) (b := false) (by decide +kernel) ⟨_, rfl, iteF ?_⟩
      refine rd_isi rfl (.base (.str z)) (b := false) (by decide +kernel) ⟨_, rfl, iteF ?_⟩
      refine rd_isiT rfl (.base (.str z)) (by decide) (kIS (b := false) (b' := true) (by decide +kernel) (by decide +kernel)) fun H1 s1 => ⟨_, rfl, iteT ?_⟩
      refine rd_isi rfl (.base (.str z)) (b := false) (by decide +kernel) ?_
      refine rd_isi rfl (.base (.str z)) (b := false) (by decide +kernel) ⟨rfl, _, rfl, iteT ?_⟩
      refine rd_isiT rfl (.base (.str z)) (by decide) (kIS (b := false) (b' := true) (by decide +kernel) (by decide +kernel)) fun H2 s2 => ⟨_, rfl, iteT ?_⟩
      refine ⟨_, rfl, _, rfl, rfl, ?_⟩
      rw [decide_eq_true rfl]
      exact k H2 (s1.trans s2)
    | @lst _ a c xs ys ha hc hl hz hh =>
      have tyA : ∀ H', Same H H' → TyX K H' (.ref a) (.type "list") := fun H' s' => .base (.lst (s' _ _ ha))
      have tyC : ∀ H', Same H H' → TyX K H' (.ref c) (.type "list") := fun H' s' => .base (.lst (s' _ _ hc))
      refine ⟨_, rfl, _, rfl, iteF ?_⟩
      refine rd_isi rfl (tyC H (Same.refl H)) (b := false) (by decide +kernel) ⟨_, rfl, iteF ?_⟩
      refine rd_isi rfl (tyA H (Same.refl H)) (b := false) (by decide +kernel) ⟨_, rfl, iteF ?_⟩
      refine rd_isiT rfl (tyC H (Same.refl H)) (by decide) (kIS (b := false) (b' := false) (by decide +kernel) (by decide +kernel)) fun H1 s1 => ⟨_, rfl, iteF ?_⟩
      refine rd_isi rfl (tyA H1 s1) (b := true) (by decide +kernel) ?_
      refine rd_isi rfl (tyC H1 s1) (b := true) (by decide +kernel) ⟨rfl, _, rfl, iteF ?_⟩
      refine rd_isi rfl (tyA H1 s1) (b := false) (by decide +kernel) ?_
      refine rd_isi rfl (tyC H1 s1) (b := false) (by decide +kernel) ⟨rfl, _, rfl, iteF ?_⟩
      refine ⟨_, rfl, a, xs, rfl, .inl (SqL.of (s1 _ _ ha)), _, rfl, c, ys, rfl, .inl (SqL.of (s1 _ _ hc)), rfl, _, rfl, ?_⟩
      rw [hl, decide_eq_true rfl]
      refine iteT ?_
      refine ⟨_, rfl, c, ys, rfl, .inl (SqL.of (s1 _ _ hc)), (ys.length : Int), rfl, by omega, by omega, fun D hD => ?_⟩
      rw [Int.toNat_natCast]
      refine lc_range (lo := 0) (n := ys.length) (fun i H' => Same H1 H' ∧ H' D = some (.lst ((List.replicate i true).map V.bl))) ⟨same_new hD, upd_same⟩ ?_ ?_
      · rintro i H2 hi ⟨s2, h2⟩
        refine ⟨rfl, ?_⟩
        refine iteT (B := Same H1 H2 ∧ H2 D = some (HO.lst ((List.replicate (i + 1) true).map V.bl))) ?_
        have hx : xs[i]? = some (xs[i]'(by omega)) := List.getElem?_eq_getElem _
        have hy : ys[i]? = some (ys[i]'hi) := List.getElem?_eq_getElem _
        have e00 : (0 : Int) + (i : Int) = (i : Int) := Int.zero_add _
        refine ⟨_, rfl, _, rfl, .inl ⟨a, xs, _, _, rfl, rfl, SqL.of (s2 _ _ (s1 _ _ ha)), (by rw [e00]; exact atI_nat hx), ?_⟩⟩
        refine ⟨_, rfl, _, rfl, .inl ⟨c, ys, _, _, rfl, rfl, SqL.of (s2 _ _ (s1 _ _ hc)), (by rw [e00]; exact atI_nat hy), ?_⟩⟩
        refine ⟨_, _, rfl, (hh i _ _ hx hy).same (s1.trans s2), fun H3 s3 => ?_⟩
        refine ⟨_, s3 _ _ h2, ?_, ?_, ?_⟩
        · rw [List.length_map, List.length_replicate]
          exact Nat.lt_of_lt_of_le (by omega : i < 1001) (by decide)
        · intro q o e
          have nq : q ≠ D := fun z => by
            rw [z, hD] at e
            cases e
          rw [upd_ne nq]
          exact s3 _ _ (s2 _ _ e)
        · rw [upd_same, List.replicate_succ', List.map_append]
          rfl
      · rintro H2 ⟨s2, h2⟩
        refine ⟨D, _, rfl, SqL.of h2, ?_⟩
        rw [show (List.replicate ys.length true).all id = true by simp]
        exact k H2 (s1.trans s2)
    | @tup _ a c xs ys ha hc hl hz hh =>
      have tyA : ∀ H', Same H H' → TyX K H' (.ref a) (.type "tuple") := fun H' s' => .base (.tup (s' _ _ ha))
      have tyC : ∀ H', Same H H' → TyX K H' (.ref c) (.type "tuple") := fun H' s' => .base (.tup (s' _ _ hc))
      refine ⟨_, rfl, _, rfl, iteF ?_⟩
      refine rd_isi rfl (tyC H (Same.refl H)) (b := false) (by decide +kernel) ⟨_, rfl, iteF ?_⟩
      refine rd_isi rfl (tyA H (Same.refl H)) (b := false) (by decide +kernel) ⟨_, rfl, iteF ?_⟩
      refine rd_isiT rfl (tyC H (Same.refl H)) (by decide) (kIS (b := false) (b' := false) (by decide +kernel) (by decide +kernel)) fun H1 s1 => ⟨_, rfl, iteF ?_⟩
      refine rd_isi rfl (tyA H1 s1) (b := false) (by decide +kernel) ?_
      refine rd_isi rfl (tyC H1 s1) (b := false) (by decide +kernel) ⟨rfl, _, rfl, iteF ?_⟩
      refine rd_isi rfl (tyA H1 s1) (b := true) (by decide +kernel) ?_
      refine rd_isi rfl (tyC H1 s1) (b := true) (by decide +kernel) ⟨rfl, _, rfl, iteF ?_⟩
      refine ⟨_, rfl, a, xs, rfl, .inr (SqT.of (s1 _ _ ha)), _, rfl, c, ys, rfl, .inr (SqT.of (s1 _ _ hc)), rfl, _, rfl, ?_⟩
      rw [hl, decide_eq_true rfl]
      refine iteT ?_
      refine ⟨_, rfl, c, ys, rfl, .inr (SqT.of (s1 _ _ hc)), (ys.length : Int), rfl, by omega, by omega, fun D hD => ?_⟩
      rw [Int.toNat_natCast]
      refine lc_range (lo := 0) (n := ys.length) (fun i H' => Same H1 H' ∧ H' D = some (.lst ((List.replicate i true).map V.bl))) ⟨same_new hD, upd_same⟩ ?_ ?_
      · rintro i H2 hi ⟨s2, h2⟩
        refine ⟨rfl, ?_⟩
        refine iteT (B := Same H1 H2 ∧ H2 D = some (HO.lst ((List.replicate (i + 1) true).map V.bl))) ?_
        have hx : xs[i]? = some (xs[i]'(by omega)) := List.getElem?_eq_getElem _
        have hy : ys[i]? = some (ys[i]'hi) := List.getElem?_eq_getElem _
        have e00 : (0 : Int) + (i : Int) = (i : Int) := Int.zero_add _
        refine ⟨_, rfl, _, rfl, .inr (.inl ⟨a, xs, _, _, rfl, rfl, SqT.of (s2 _ _ (s1 _ _ ha)), (by rw [e00]; exact atI_nat hx), ?_⟩)⟩
        refine ⟨_, rfl, _, rfl, .inr (.inl ⟨c, ys, _, _, rfl, rfl, SqT.of (s2 _ _ (s1 _ _ hc)), (by rw [e00]; exact atI_nat hy), ?_⟩)⟩
        refine ⟨_, _, rfl, (hh i _ _ hx hy).same (s1.trans s2), fun H3 s3 => ?_⟩
        refine ⟨_, s3 _ _ h2, ?_, ?_, ?_⟩
        · rw [List.length_map, List.length_replicate]
          exact Nat.lt_of_lt_of_le (by omega : i < 1001) (by decide)
        · intro q o e
          have nq : q ≠ D := fun z => by
            rw [z, hD] at e
            cases e
          rw [upd_ne nq]
          exact s3 _ _ (s2 _ _ e)
        · rw [upd_same, List.replicate_succ', List.map_append]
          rfl
      · rintro H2 ⟨s2, h2⟩
        refine ⟨D, _, rfl, SqL.of h2, ?_⟩
        rw [show (List.replicate ys.length true).all id = true by simp]
        exact k H2 (s1.trans s2)
/-- to any depth -/
theorem ok_same {f : Addr} {fd : FuncData} (A1 : At K mg "_law_same" sSame ["_law_found", "_law_due"] f fd) (b : Blt mg) : ∀ n : Nat, FnOk P w K mg base CX0 (n + 1) f fd ["_law_found", "_law_due"] (spSame n)
  | 0 => ok_same0 A1.fn b
  | n + 1 => ok_sameS A1 b (ok_same A1 b n)
end
end VQ
namespace VQ
open PySem L2 LamX
/-! ### walks over a text -/
theorem lc_text {z : Str} {g : TG} {tt : TT} {te : TE} {vs : List Nat} {σ : L2.St} {H1 : Hp} {D : Addr} {Qd : Hp → Prop} (Pv : Nat → Hp → Prop) (h0 : Pv 0 (upd H1 D (.lst [])))
    (turn : ∀ (i c : Nat) (H : Hp), z.cps[i]? = some c → Pv i H → g (.str ⟨#[c]⟩) (wipe σ vs) H fun σ2 H2 => wipe σ2 vs = wipe σ vs ∧ tt σ2 H2 fun b H3 => if b = true then te σ2 H3 fun y H4 => ∃ acc, H4 D = some (.lst acc) ∧ acc.length < sizeLine ∧ Pv (i + 1) (upd H4 D (.lst (acc ++ [y]))) else Pv (i + 1) H3)
    (fin : ∀ H, Pv z.cps.size H → Qd H) :
    ∃ W : Nat → Nat → Hp → Prop, (∃ m, W 0 m (upd H1 D (.lst []))) ∧ ∀ i m H, W i m H → ((Its z).stop i H ∧ Qd H) ∨ ((Its z).go i H ∧ ∃ Nx : Hp → Prop, (∀ H', Nx H' → ∃ m', m' < m ∧ W (i + 1) m' H') ∧
      ∀ x H', (Its z).yld i H x H' → g x (wipe σ vs) H' fun σ2 H2 => wipe σ2 vs = wipe σ vs ∧ tt σ2 H2 fun b H3 => if b = true then te σ2 H3 fun y H4 => ∃ acc, H4 D = some (.lst acc) ∧ acc.length < sizeLine ∧ Nx (upd H4 D (.lst (acc ++ [y]))) else Nx H3) := by
  refine ⟨fun i m H => m + i = z.cps.size ∧ Pv i H, ⟨z.cps.size, by simp, h0⟩, ?_⟩
  rintro i m H ⟨em, p⟩
  by_cases lt : i < z.cps.size
  · refine .inr ⟨lt, Pv (i + 1), fun H' p' => ⟨m - 1, by omega, by omega, p'⟩, ?_⟩
    rintro x H' ⟨rfl, c, ec, rfl⟩
    exact turn i c H' ec p
  · have e : i = z.cps.size := by omega
    subst e
    exact .inl ⟨Nat.le_refl _, fin H p⟩
theorem for_text {z : Str} {g : TG} {tb : TS} {D : Ends} {σ : L2.St} {H : Hp} (Pv : Nat → L2.St → Hp → Prop) (h0 : Pv 0 σ H)
    (turn : ∀ (i c : Nat) σ H, z.cps[i]? = some c → Pv i σ H → g (.str ⟨#[c]⟩) σ H fun σ2 H2 => tb { D with nx := Pv (i + 1), ct := Pv (i + 1), bk := D.nx } σ2 H2) (fin : ∀ σ H, Pv z.cps.size σ H → D.nx σ H) :
    ∃ W : Nat → Nat → L2.St → Hp → Prop, (∃ m, W 0 m σ H) ∧ ∀ i m σ H, W i m σ H → ((Its z).stop i H ∧ D.nx σ H) ∨ ((Its z).go i H ∧ ∃ Nx : L2.St → Hp → Prop, (∀ σ' H', Nx σ' H' → ∃ m', m' < m ∧ W (i + 1) m' σ' H') ∧
      ∀ x H', (Its z).yld i H x H' → g x σ H' fun σ2 H2 => tb { D with nx := Nx, ct := Nx, bk := D.nx } σ2 H2) := by
  refine ⟨fun i m σ H => m + i = z.cps.size ∧ Pv i σ H, ⟨z.cps.size, by simp, h0⟩, ?_⟩
  rintro i m σ H ⟨em, p⟩
  by_cases lt : i < z.cps.size
  · refine .inr ⟨lt, Pv (i + 1), fun σ' H' p' => ⟨m - 1, by omega, by omega, p'⟩, ?_⟩
    rintro x H' ⟨rfl, c, ec, rfl⟩
    exact turn i c σ H' ec p
  · have e : i = z.cps.size := by omega
    subst e
    exact .inl ⟨Nat.le_refl _, fin σ H p⟩
/-! ### beginnings: the sixty-three of them -/
def tk (z : Str) (k : Nat) : Str := ⟨(z.cps.toList.take k).toArray⟩
def begs : List Str := (List.range 6).flatMap fun k => (List.range (2 ^ k)).map fun j => tk (fig (j * 2 ^ (5 - k))) k
theorem tk_in : ∀ w, w < 32 → ∀ k, k < 6 → tk (fig w) k ∈ begs := by decide +kernel
def signB (c : Nat) : Bool := decide (c ∈ [48, 49])
def begB : V → Bool
  | .str z => decide (z.length ≤ 5) && z.cps.toList.all signB
  | _ => false
theorem begs_yes : ∀ z ∈ begs, begB (.str z) = true := by decide +kernel
theorem begs_len : ∀ z ∈ begs, z.length ≤ 5 := by decide +kernel
abbrev calledAs (nm : Str) : HO := .xd [(("called" : Str), .str nm)]
/-- a comprehension without a test -/
theorem yes_turn {σ : L2.St} {H : Hp} {A B : Hp → Prop} (h : A H) : tYes σ H fun b H3 => if b = true then A H3 else B H3 := by
  show if true = true then A H else B H
  rw [if_pos rfl]
  exact h
end VQ
namespace VQ
open PySem L2 LamX
section
variable {P : Program} {w : World} {K : PySem.W.Frag} {mg : Str → Option Value} {base : Heap}
/-- a text is no longer than can be read -/
def Short : V → Prop
  | .str z => z.length ≤ 1000
  | _ => True
def spIsBeg (K : PySem.W.Frag) : Sp := fun vs H Q _ => ∃ (x : V) (t : String), vs = [x] ∧ TyX K H x (.type t) ∧ t ∈ basics ∧ Short x ∧ ∀ H', Same H H' → Q (.bl (begB x)) H'
end
end VQ
namespace VQ
open PySem L2 LamX
def lastC (z : Str) : Nat := z.cps.toList.getLastD 0
def dropL (z : Str) : Str := ⟨z.cps.toList.dropLast.toArray⟩
def flip (c : Nat) : Str := if c = 48 then "1" else "0"
def bro (z : Str) : Str := dropL z ++ flip (lastC z)
theorem bro_cut : ∀ z ∈ begs, z ≠ ("" : Str) → atI z.cps.toList (-1) = some (lastC z) ∧ cutS z none (some (-1)) = dropL z ∧ (dropL z).length ≤ 5 ∧ (lastC z = 48 ∨ lastC z = 49) := by decide +kernel
theorem bro_in : ∀ z ∈ begs, z ≠ ("" : Str) → bro z ∈ begs ∧ bro z ≠ ("" : Str) ∧ bro (bro z) = z := by decide +kernel
theorem cut_to (z : Str) (k : Nat) : cutS z none (some (k : Int)) = tk z k := by
  unfold cutS tk
  rw [HT.sIx_none, HT.sIx_nat, List.drop_zero, Nat.sub_zero, show z.length = z.cps.toList.length by simp [Str.length]]
  by_cases le : k ≤ z.cps.toList.length
  · rw [Nat.min_eq_left le]
  · have le' : z.cps.toList.length ≤ k := by omega
    rw [Nat.min_eq_right le', List.take_of_length_le (Nat.le_refl _), List.take_of_length_le le']
end VQ
namespace VQ
open PySem L2 LamX
/-! ### beginnings by their signs -/
theorem begB_iff {z : Str} : begB (.str z) = true ↔ z.length ≤ 5 ∧ ∀ c ∈ z.cps.toList, signB c = true := by
  show (decide (z.length ≤ 5) && z.cps.toList.all signB) = true ↔ _
  rw [Bool.and_eq_true, decide_eq_true_eq, List.all_eq_true]
theorem sign_two {c : Nat} (h : signB c = true) : c = 48 ∨ c = 49 := by
  have := of_decide_eq_true h
  simpa using this
theorem begs_list : ∀ l : List Nat, l.length ≤ 5 → (∀ c ∈ l, signB c = true) → (⟨l.toArray⟩ : Str) ∈ begs
  | [], _, _ => by decide +kernel
  | [a], _, h => by
    rcases sign_two (h a (by simp)) with rfl | rfl <;> decide +kernel
  | [a, b], _, h => by
    rcases sign_two (h a (by simp)) with rfl | rfl <;> rcases sign_two (h b (by simp)) with rfl | rfl <;> decide +kernel
  | [a, b, c], _, h => by
    rcases sign_two (h a (by simp)) with rfl | rfl <;> rcases sign_two (h b (by simp)) with rfl | rfl <;> rcases sign_two (h c (by simp)) with rfl | rfl <;> decide +kernel
  | [a, b, c, d], _, h => by
    rcases sign_two (h a (by simp)) with rfl | rfl <;> rcases sign_two (h b (by simp)) with rfl | rfl <;> rcases sign_two (h c (by simp)) with rfl | rfl <;> rcases sign_two (h d (by simp)) with rfl | rfl <;> decide +kernel
  | [a, b, c, d, e], _, h => by
    rcases sign_two (h a (by simp)) with rfl | rfl <;> rcases sign_two (h b (by simp)) with rfl | rfl <;> rcases sign_two (h c (by simp)) with rfl | rfl <;> rcases sign_two (h d (by simp)) with rfl | rfl <;> rcases sign_two (h e (by simp)) with rfl | rfl <;> decide +kernel
  | _ :: _ :: _ :: _ :: _ :: _ :: _, h, _ => absurd h (by simp)
theorem beg_mem {z : Str} (h1 : z.length ≤ 5) (h2 : ∀ c ∈ z.cps.toList, signB c = true) : z ∈ begs := by
  have e : z = ⟨z.cps.toList.toArray⟩ := StrLaws.mk_of_toList rfl
  rw [e]
  exact begs_list _ (by simpa [Str.length] using h1) h2
theorem beg_signs {z : Str} (h : z ∈ begs) : ∀ c ∈ z.cps.toList, signB c = true := (begB_iff.mp (begs_yes z h)).2
theorem sign_bit (n : Nat) : signB (48 + n % 2) = true := by
  rcases Nat.mod_two_eq_zero_or_one n with h | h <;> rw [h] <;> rfl
theorem figLow_signs (w : Nat) : ∀ i, ∀ c ∈ (figLow w i).cps.toList, signB c = true
  | 0, c, m => by cases m
  | i + 1, c, m => by
    have m' : c ∈ (#[48 + w / 2 ^ i % 2] ++ (figLow w i).cps).toList := m
    rw [Array.toList_append] at m'
    rcases List.mem_append.mp m' with m | m
    · have e : c = 48 + w / 2 ^ i % 2 := by simpa using m
      rw [e]
      exact sign_bit _
    · exact figLow_signs w i c m
theorem fig_signs (w : Nat) : ∀ c ∈ (fig w).cps.toList, signB c = true := figLow_signs w 5
theorem fig_len (w : Nat) : (fig w).length = 5 := figLow_len w 5
theorem fig_in (w : Nat) : fig w ∈ begs := beg_mem (by rw [fig_len]; decide) (fig_signs w)
theorem tk_list (z : Str) (k : Nat) : (tk z k).cps.toList = z.cps.toList.take k := by simp [tk]
theorem tk_len (z : Str) (k : Nat) : (tk z k).length = min k z.length := by simp [tk, Str.length]
theorem tk_beg {z : Str} (h : ∀ c ∈ z.cps.toList, signB c = true) {k : Nat} (hk : k ≤ 5) : tk z k ∈ begs := by
  refine beg_mem (by rw [tk_len]; omega) fun c m => ?_
  rw [tk_list] at m
  exact h c (List.mem_of_mem_take m)
theorem app_signs {a b : Str} (ha : ∀ c ∈ a.cps.toList, signB c = true) (hb : ∀ c ∈ b.cps.toList, signB c = true) : ∀ c ∈ (a ++ b).cps.toList, signB c = true := fun c m => by
  rw [Str.cps_append, Array.toList_append] at m
  rcases List.mem_append.mp m with m | m
  · exact ha c m
  · exact hb c m
theorem m_tk (z : Str) (h : z ∈ begs) (k : Nat) (hk : k < 6) : tk z k ∈ begs := tk_beg (beg_signs h) (by omega)
theorem m_more (z : Str) (h : z ∈ begs) (w : Nat) (_ : w < 32) : tk (z ++ fig w) 5 ∈ begs ∧ (z ++ fig w).length ≤ 10 := by
  refine ⟨tk_beg (app_signs (beg_signs h) (fig_signs w)) (Nat.le_refl 5), ?_⟩
  rw [Str.length_append, fig_len]
  have := begs_len z h
  omega
/-- z begins with u, by the law -/
def beginsB (z u : Str) : Bool := decide (tk z u.length = u)
theorem st_eq (a b : Str) : Txt.startswith a b = beginsB a b := by
  unfold Txt.startswith beginsB
  rw [StrLaws.subAt_eq, List.drop_zero, Bool.eq_iff_iff, Bool.and_eq_true, decide_eq_true_eq, decide_eq_true_eq, beq_iff_eq]
  constructor
  · rintro ⟨_, e⟩
    have q : (tk a b.length).cps.toList = b.cps.toList := by rw [tk_list]; exact e
    exact Str.ext' (Array.toList_inj.mp q)
  · intro e
    have q : (tk a b.length).cps.toList = b.cps.toList := by rw [e]
    rw [tk_list] at q
    refine ⟨?_, q⟩
    have l := congrArg List.length q
    rw [List.length_take] at l
    have l1 : b.cps.toList.length = b.length := by simp [Str.length]
    have l2 : a.cps.toList.length = a.length := by simp [Str.length]
    omega
theorem begins_len {a b : Str} (h : beginsB a b = true) : b.length ≤ a.length := by
  have e := congrArg Str.length (of_decide_eq_true h)
  rw [tk_len] at e
  omega
theorem tk_all (a : Str) : tk a a.length = a := by
  refine Str.ext' (Array.toList_inj.mp ?_)
  rw [tk_list]
  exact List.take_of_length_le (by simp [Str.length])
theorem begins_eq {a b : Str} (h : beginsB a b = true) (l : a.length ≤ b.length) : a = b := by
  have e := of_decide_eq_true h
  rw [show b.length = a.length by have := begins_len h; omega, tk_all] at e
  exact e
theorem begins_self (a : Str) : beginsB a a = true := decide_eq_true (tk_all a)
end VQ
namespace VQ
open PySem L2 LamX
/-- the worths under a beginning -/
def underN (z : Str) : List Nat := (List.range 32).filter fun w => decide (tk (fig w) z.length = z)
def underL (z : Str) : List Int := (underN z).map Int.ofNat
theorem cut_any (z : Str) (k : Nat) : cutS z none (some (k : Int)) = tk z k := by
  unfold cutS tk
  rw [HT.sIx_none, HT.sIx_nat, List.drop_zero, Nat.sub_zero]
  have e : z.length = z.cps.toList.length := by simp [Str.length]
  rw [e]
  by_cases le : k ≤ z.cps.toList.length
  · rw [Nat.min_eq_left le]
  · rw [Nat.min_eq_right (by omega), List.take_of_length_le (Nat.le_refl _), List.take_of_length_le (by omega)]
section
variable {P : Program} {w : World} {K : PySem.W.Frag} {mg : Str → Option Value} {base : Heap}
def spUnder : Sp := fun vs H Q _ => ∃ z : Str, vs = [.str z] ∧ z.length ≤ 1000 ∧ ∀ (p : Addr) (H' : Hp), H p = none → Same H H' → H' p = some (.lst ((underL z).map V.int)) → Q (.ref p) H'
end
end VQ
namespace VQ
open PySem L2 LamX
/-! ### what the laws' own bodies share -/
theorem Tabs.keep {T : List (Addr × Str)} {H H' : Hp} {b : Addr} (t : Tabs T H) (B : Bag H b) (k : Keep b H H') : Tabs T H' := fun p hp => by
  obtain ⟨l, ns, i, r, x, n, nl, h1, _⟩ := B
  obtain ⟨ps, a1, a2, a3⟩ := t p hp
  refine ⟨ps, k.1 _ _ (fun z => ?_) a1, a2, fun pos cv hc => ?_⟩
  · rw [z, h1] at a1
    cases a1
  · obtain ⟨c, e1, e2⟩ := a3 pos cv hc
    refine ⟨c, e1, k.1 _ _ (fun z => ?_) e2⟩
    rw [z, h1] at e2
    cases e2
theorem Bag.extN {H H' : Hp} {b : Addr} (B : Bag H b) (e : ExtN H H') : Bag H' b := by
  obtain ⟨l, ns, i, r, x, n, nl, h1, h2, h3⟩ := B
  exact ⟨l, ns, i, r, x, n, nl, e _ _ h1 (fun ps z => by cases z), e _ _ h2 (fun ps z => by cases z), h3⟩
theorem passCX {X : Cx} : Passes (L2.CX X.prog X.w) X E0 := fun _ _ _ _ _ _ _ ⟨_, _, _, _, _, _, _, _, _, _, _, _, z⟩ => z.elim
/-- law's promise: a list of at most 63 ints is handed in, True comes out; Pt: the table of its code object -/
def spLaw (K : PySem.W.Frag) (Pt : Addr) : Sp := fun vs H Q _ => ∃ (a : Addr) (ns : List Int), vs = [.ref a] ∧ SqL K H a (ns.map V.int) ∧ ns.length ≤ 63 ∧ H Pt = some (.tbl #[]) ∧ ∀ H', Q (.bl true) H'
theorem extN_same {H H' : Hp} (s : Same H H') : ExtN H H' := fun b o h _ => s b o h
end VQ
namespace VQ
open PySem L2 LamX
/-! ### data that is compared -/
def Lay (n : Nat) (d : PyData) : Prop := d.canLay0 = true ∧ d.depth ≤ n
theorem lay_all {n : Nat} : ∀ {ds : List PyData}, (∀ d ∈ ds, Lay n d) → PyData.canLayAll0 ds = true ∧ PyData.depthAll ds ≤ n
  | [], _ => by
    unfold PyData.canLayAll0 PyData.depthAll
    exact ⟨rfl, Nat.zero_le _⟩
  | d :: ds, h => by
    obtain ⟨a, c⟩ := h d List.mem_cons_self
    obtain ⟨a', c'⟩ := lay_all (ds := ds) fun e m => h e (List.mem_cons_of_mem _ m)
    unfold PyData.canLayAll0 PyData.depthAll
    exact ⟨by rw [a, a']; rfl, Nat.max_le.mpr ⟨c, c'⟩⟩
theorem Lay.list {n : Nat} {ds : List PyData} (h : ∀ d ∈ ds, Lay n d) : Lay (n + 1) (.list ds) := by
  obtain ⟨a, c⟩ := lay_all h
  unfold Lay PyData.canLay0 PyData.depth
  exact ⟨a, Nat.succ_le_succ c⟩
theorem Lay.tuple {n : Nat} {ds : List PyData} (h : ∀ d ∈ ds, Lay n d) : Lay (n + 1) (.tuple ds) := by
  obtain ⟨a, c⟩ := lay_all h
  unfold Lay PyData.canLay0 PyData.depth
  exact ⟨a, Nat.succ_le_succ c⟩
theorem Lay.int (n : Nat) (i : Int) : Lay n (.int i) := by
  unfold Lay PyData.canLay0 PyData.depth
  exact ⟨rfl, Nat.zero_le _⟩
theorem Lay.str (n : Nat) {z : Str} (h : ∀ c ∈ z.cps.toList, c < 1114112) : Lay n (.str z) := by
  unfold Lay PyData.canLay0 PyData.depth
  refine ⟨?_, Nat.zero_le _⟩
  show z.cps.all (· < 0x110000) = true
  rw [← Array.all_toList, List.all_eq_true]
  exact fun c m => decide_eq_true (h c m)
theorem Lay.shaped {n : Nat} {d : PyData} (h : Lay n d) (hn : n ≤ 64) : SeqAt.shaped d = true := by
  unfold SeqAt.shaped
  rw [h.1, decide_eq_true (Nat.le_trans h.2 hn)]
  rfl
theorem lay_ints (ks : List Int) : Lay 1 (.list (ks.map PyData.int)) := .list fun d m => by
  obtain ⟨k, _, rfl⟩ := List.mem_map.mp m
  exact .int _ _
theorem dp_ints {K : PySem.W.Frag} {H : Hp} : ∀ ks : List Int, DpAll K H (ks.map V.int) (ks.map PyData.int)
  | [] => .nil
  | k :: ks => .cons (.int k) (dp_ints ks)
theorem dp_strs {K : PySem.W.Frag} {H : Hp} : ∀ zs : List Str, DpAll K H (zs.map V.str) (zs.map PyData.str)
  | [] => .nil
  | z :: zs => .cons (.str z) (dp_strs zs)
theorem eqv_nil (ds : List PyData) : PyData.eqv (.list ds) (.list []) = ds.isEmpty := by
  cases ds with
  | nil => rfl
  | cons d ds => rfl
end VQ
namespace VQ
open PySem L2 LamX
/-! ### things, rooms, boxes -/
abbrev sIsPlaces : Stmt := top 13
/-- something of the plain kinds -/
def Part (K : PySem.W.Frag) (H : Hp) (x : V) : Prop := ∃ t, TyX K H x (.type t) ∧ t ∈ basics ∧ Short x
/-- a thing, and its items where it is a tuple -/
inductive Thing (K : PySem.W.Frag) (H : Hp) : V → Option (List V) → Prop
  | tup {a : Addr} {xs : List V} (h : H a = some (.tup xs)) (hp : ∀ x ∈ xs, Part K H x) (hl : xs.length ≤ 1000) : Thing K H (.ref a) (some xs)
  | oth {x : V} {t : String} (ty : TyX K H x (.type t)) (m : t ∈ basics) (nt : t ≠ "tuple") : Thing K H x none
def placesO : Option (List V) → Bool
  | none => false
  | some xs => decide (1 ≤ xs.length) && decide (xs.length ≤ 5)
def allO (p : V → Bool) : Option (List V) → Bool
  | none => false
  | some xs => placesO (some xs) && xs.all p
section
variable {P : Program} {w : World} {K : PySem.W.Frag} {mg : Str → Option Value} {base : Heap}
theorem Part.same {H H' : Hp} {x : V} (s : Same H H') (h : Part K H x) : Part K H' x := by
  obtain ⟨t, a, b, c⟩ := h
  exact ⟨t, TyX.basic_same s a b, b, c⟩
theorem Part.str {H : Hp} (z : Str) (h : z.length ≤ 1000) : Part K H (.str z) := ⟨"str", .base (.str z), by decide, h⟩
theorem Part.int {H : Hp} (i : Int) : Part K H (.int i) := ⟨"int", .base (.int i), by decide, trivial⟩
theorem Thing.same {H H' : Hp} {x : V} {o : Option (List V)} (s : Same H H') (h : Thing K H x o) : Thing K H' x o := by
  cases h with
  | tup h hp hl => exact .tup (s _ _ h) (fun x m => Part.same s (hp x m)) hl
  | oth ty m nt => exact .oth (TyX.basic_same s ty m) m nt
def spIsPlaces (K : PySem.W.Frag) : Sp := fun vs H Q _ => ∃ (x : V) (o : Option (List V)), vs = [x] ∧ Thing K H x o ∧ Q (.bl (placesO o)) H
theorem scIsPlaces : FnScope ["thing"] ["thing"] (defScope sIsPlaces) := ⟨rfl, rfl, rfl, by decide +kernel, rfl, by decide +kernel, by decide +kernel⟩
theorem ok_isplaces {f : Addr} {fd : FuncData} {tkM : Tok} (F : Fun K "is_places" "is_places" sIsPlaces f fd) (b : Blt mg) (M : mg "MOST_PLACES" = some (.int 5 tkM)) : FnOk P w K mg base CX0 1 f fd ["thing"] (spIsPlaces K) := by
  refine F.ok scIsPlaces (fun vs H Q E h => ?_) (fun cdv A outer s H vs Q E hr h => ?_)
  · obtain ⟨x, o, rfl, _⟩ := h
    rfl
  · obtain ⟨x, o, rfl, th, k⟩ := h
    refine ⟨_, pss_one (ps_ret (pe_and (pe_isi (pv 0) rfl b.isi rfl b.tuple (c := "tuple") (by decide +kernel))
      (pe_one (pe_chain op_le op_le pe_int (pe_callB call_len_seq (by rfl) b.len PySem.boot_len (pa_cons (pv 0) pa_nil)) (pe_glob (v := .int 5) rfl M ⟨_, rfl⟩))))), ?_⟩
    cases th with
    | @tup a xs h hp hl =>
      refine rd_isi rfl (.base (.tup h)) (b := true) (by decide +kernel) ⟨_, rfl, iteT ?_⟩
      refine ⟨_, rfl, a, xs, rfl, .inr (SqT.of h), 1, _, rfl, rfl, _, rfl, ?_⟩
      have k' : Q (.bl (decide (1 ≤ xs.length) && decide (xs.length ≤ 5))) H := k
      by_cases g : 1 ≤ xs.length
      · rw [if_pos (decide_eq_true (show (1 : Int) ≤ (xs.length : Int) by omega))]
        refine ⟨_, 5, rfl, rfl, ?_⟩
        have e : decide ((xs.length : Int) ≤ 5) = decide (xs.length ≤ 5) := by
          by_cases q : xs.length ≤ 5
          · rw [decide_eq_true q, decide_eq_true (by omega)]
          · rw [decide_eq_false q, decide_eq_false (by omega)]
        rw [decide_eq_true g, Bool.true_and, ← e] at k'
        exact k'
      · rw [if_neg (by simpa using (show ¬ (1 : Int) ≤ (xs.length : Int) by omega))]
        rw [decide_eq_false g, Bool.false_and] at k'
        exact k'
    | @oth x t ty m nt =>
      have k' : Q (.bl false) H := k
      have kb : kitB t "tuple" = some false := by
        have : ∀ u ∈ basics, u ≠ "tuple" → kitB u "tuple" = some false := by decide +kernel
        exact this t m nt
      exact rd_isi rfl ty (b := false) kb ⟨_, rfl, iteF k'⟩
/-- is_box, is_point -/
def spIs (K : PySem.W.Frag) (p : V → Bool) : Sp := fun vs H Q _ => ∃ (x : V) (o : Option (List V)), vs = [x] ∧ Thing K H x o ∧ ∀ H', Same H H' → Q (.bl (allO p o)) H'
/-- what a comprehension over a tuple that asks each item collects -/
theorem take_snoc {α β : Type} (g : α → β) {xs : List α} {i : Nat} {x : α} (h : xs[i]? = some x) : (xs.take i).map g ++ [g x] = (xs.take (i + 1)).map g := by
  rw [List.take_add_one, h, List.map_append]
  rfl
/-- need_box, need_point -/
def spNeedT (K : PySem.W.Frag) (p : V → Bool) (C : Addr) (nm : Str) : Sp := fun vs H Q E => ∃ (x : V) (o : Option (List V)), vs = [x] ∧ Thing K H x o ∧
  (allO p o = true → ∀ H', Same H H' → Q .non H') ∧ (allO p o = false → ∀ H' d, Same H H' → H' d = none → E (.ref C) (some d) (upd H' d (calledAs nm)))
theorem map_get {zs : List Str} {i : Nat} {x : V} (h : (zs.map V.str)[i]? = some x) : ∃ z, zs[i]? = some z ∧ x = .str z := by
  rw [List.getElem?_map] at h
  cases e : zs[i]? with
  | none => rw [e] at h; cases h
  | some z =>
    rw [e] at h
    exact ⟨z, rfl, (Option.some.inj h).symm⟩
end
end VQ
namespace VQ
open PySem L2 LamX
/-! ### names of a comprehension that the def's own state leaves out -/
theorem Inv.more {X : Cx} {pins : List (Addr × Obj)} {σ : L2.St} {H : Hp} {s : Shared} (ys : List Str) (I : Inv X pins σ H s) : Inv { X with N := X.N ++ ys } pins (σ ++ List.replicate ys.length none) H s where
  ok := ⟨I.ok.mod, I.ok.kind, I.ok.glob, I.ok.blt, I.ok.above, I.ok.inj, I.ok.has, I.ok.cab, I.ok.hd, I.ok.frames, I.ok.stk, I.ok.exf, I.ok.bs, I.ok.bsz, I.ok.noex, I.ok.exfs, I.ok.funs, I.ok.frf⟩
  os := I.os
  bare := I.bare
  base := I.base
  loc := by
    obtain ⟨m, h1, h2⟩ := I.loc
    refine ⟨m, h1, fun i x v e1 e2 e3 => ?_⟩
    by_cases lt : i < σ.length
    · rw [List.getElem?_append_left lt] at e2
      have e1 : (X.N ++ ys)[i]? = some x := e1
      rw [List.getElem?_append_left (by rw [← I.len]; exact lt)] at e1
      exact h2 i x v e1 e2 e3
    · rw [List.getElem?_append_right (by omega), List.getElem?_replicate] at e2
      split at e2 <;> cases e2
  cell := I.cell
  free := I.free
  freeC := I.freeC
  pin := I.pin
  hok := I.hok
  len := by
    show _ = (X.N ++ ys).length
    rw [List.length_append, List.length_append, List.length_replicate, I.len]
theorem Inv.less {X : Cx} {pins : List (Addr × Obj)} {σ : L2.St} {H : Hp} {s : Shared} {ys : List Str} (len : σ.length = X.N.length) (I : Inv { X with N := X.N ++ ys } pins (σ ++ List.replicate ys.length none) H s) : Inv X pins σ H s where
  ok := ⟨I.ok.mod, I.ok.kind, I.ok.glob, I.ok.blt, I.ok.above, I.ok.inj, I.ok.has, I.ok.cab, I.ok.hd, I.ok.frames, I.ok.stk, I.ok.exf, I.ok.bs, I.ok.bsz, I.ok.noex, I.ok.exfs, I.ok.funs, I.ok.frf⟩
  os := I.os
  bare := I.bare
  base := I.base
  loc := by
    obtain ⟨m, h1, h2⟩ := I.loc
    refine ⟨m, h1, fun i x v e1 e2 e3 => h2 i x v ?_ ?_ e3⟩
    · show (X.N ++ ys)[i]? = some x
      rw [List.getElem?_append_left (List.getElem?_eq_some_iff.mp e1).1]
      exact e1
    · rw [List.getElem?_append_left (List.getElem?_eq_some_iff.mp e2).1]
      exact e2
  cell := I.cell
  free := I.free
  freeC := I.freeC
  pin := I.pin
  hok := I.hok
  len := len
def tMore (n : Nat) (t : TE) : TE := fun σ H Q => t (σ ++ List.replicate n none) H Q
theorem pe_more {X : Cx} {e : Expr} {t : TE} (ys : List Str) (h : PE { X with N := X.N ++ ys } e t) : PE X e (tMore ys.length t) := by
  refine ⟨fun pins s σ H Q I hw => ?_⟩
  refine wpAny_mono (h.run pins s _ H Q (Inv.more ys I) hw) ?_ fun _ _ z => z
  rintro v s1 ⟨x, H1, I1, r1, q1⟩
  exact ⟨x, H1, Inv.less I.len I1, r1, q1⟩
end VQ
namespace VQ
open PySem L2 LamX
section
variable {P : Program} {w : World} {K : PySem.W.Frag} {mg : Str → Option Value} {base : Heap}
def spAlikeT (K : PySem.W.Frag) (C : Addr) : Sp := fun vs H Q E => ∃ (a b : Addr) (xs ys : List V), vs = [.ref a, .ref b] ∧ H a = some (.tup xs) ∧ H b = some (.tup ys) ∧
  (xs.length = ys.length → Q .non H) ∧ (xs.length ≠ ys.length → ∀ d, H d = none → E (.ref C) (some d) (upd H d (calledAs "Unlike")))
end
end VQ
namespace VQ
open PySem L2 LamX
/-! ### what two boxes are asked -/
/-- the places of a box -/
structure IsBoxS (zs : List Str) : Prop where
  beg : ∀ z ∈ zs, begB (.str z) = true
  lo : 1 ≤ zs.length
  hi : zs.length ≤ 5
theorem allO_box {o : Option (List V)} (h : allO begB o = true) : ∃ zs : List Str, o = some (zs.map V.str) ∧ IsBoxS zs := by
  cases o with
  | none => cases h
  | some xs =>
    have h' : (placesO (some xs) && xs.all begB) = true := h
    rw [Bool.and_eq_true] at h'
    obtain ⟨h1, h2⟩ := h'
    have h1' : (decide (1 ≤ xs.length) && decide (xs.length ≤ 5)) = true := h1
    rw [Bool.and_eq_true, decide_eq_true_eq, decide_eq_true_eq] at h1'
    have key : ∀ l : List V, l.all begB = true → ∃ zs : List Str, l = zs.map V.str ∧ ∀ z ∈ zs, begB (.str z) = true := by
      intro l
      induction l with
      | nil => exact fun _ => ⟨[], rfl, fun z m => by cases m⟩
      | cons x l ih =>
        intro q
        rw [List.all_cons, Bool.and_eq_true] at q
        obtain ⟨zs, e, a⟩ := ih q.2
        cases x with
        | str z =>
          refine ⟨z :: zs, by rw [e]; rfl, fun u m => ?_⟩
          rcases List.mem_cons.mp m with rfl | m
          · exact q.1
          · exact a u m
        | _ => exact absurd q.1 (by intro z; cases z)
    obtain ⟨zs, rfl, a⟩ := key xs h2
    rw [List.length_map] at h1'
    exact ⟨zs, rfl, a, h1'.1, h1'.2⟩
theorem box_allO {zs : List Str} (h : IsBoxS zs) : allO begB (some (zs.map V.str)) = true := by
  show ((decide (1 ≤ (zs.map V.str).length) && decide ((zs.map V.str).length ≤ 5)) && (zs.map V.str).all begB) = true
  rw [List.length_map, decide_eq_true h.lo, decide_eq_true h.hi, List.all_map, Bool.true_and, Bool.true_and]
  exact List.all_eq_true.mpr fun z m => h.beg z m
theorem beg_len {z : Str} (h : begB (.str z) = true) : z.length ≤ 5 := by
  have h' : (decide (z.length ≤ 5) && z.cps.toList.all signB) = true := h
  rw [Bool.and_eq_true, decide_eq_true_eq] at h'
  exact h'.1
/-- a.startswith(b) -/
def rStarts : V → List V → Hp → VK → Prop := fun x xs H Q => ∃ a b, x = .str a ∧ xs = [.str b] ∧ Q (.bl (Txt.startswith a b)) H
/-- a turn of a comprehension over zip: the lists so far -/
theorem zip_snoc {α β γ : Type} (g : α → β → γ) {zs : List α} {ws : List β} {i : Nat} {z : α} {w : β} (hz : zs[i]? = some z) (hw : ws[i]? = some w) : List.zipWith g (zs.take i) (ws.take i) ++ [g z w] = List.zipWith g (zs.take (i + 1)) (ws.take (i + 1)) := by
  have lz : i < zs.length := (List.getElem?_eq_some_iff.mp hz).1
  have lw : i < ws.length := (List.getElem?_eq_some_iff.mp hw).1
  rw [List.take_add_one, List.take_add_one, hz, hw, List.zipWith_append (by rw [List.length_take, List.length_take]; omega)]
  rfl
end VQ
namespace VQ
open PySem L2 LamX
section
variable {P : Program} {w : World} {K : PySem.W.Frag} {mg : Str → Option Value} {base : Heap}
/-- a new tuple whose items are drawn -/
def spTupDraw (ok : V → Prop) : Sp := fun vs H Q _ => ∃ (b : Addr) (n : Nat), vs = [.ref b, .int (n : Int)] ∧ Bag H b ∧ n ≤ 5 ∧ ∀ (a : Addr) (xs : List V) (H' : Hp), xs.length = n → (∀ x ∈ xs, ok x) → H a = none → H' a = some (.tup xs) → Bag H' b → Keep b H H' → Q (.ref a) H'
/-- is a text of begs -/
def IsBeg (x : V) : Prop := ∃ z, x = .str z ∧ z ∈ begs
end
end VQ
namespace VQ
open PySem L2 LamX
/-- a tuple of begs -/
def BoxAt (H : Hp) (a : Addr) (zs : List Str) : Prop := H a = some (.tup (zs.map V.str)) ∧ (∀ z ∈ zs, z ∈ begs) ∧ zs.length ≤ 5
theorem begs_of : ∀ {xs : List V}, (∀ x ∈ xs, IsBeg x) → ∃ zs : List Str, xs = zs.map V.str ∧ ∀ z ∈ zs, z ∈ begs
  | [], _ => ⟨[], rfl, fun z m => by cases m⟩
  | x :: xs, h => by
    obtain ⟨z, rfl, hz⟩ := h x List.mem_cons_self
    obtain ⟨zs, rfl, a⟩ := begs_of (xs := xs) fun y m => h y (List.mem_cons_of_mem _ m)
    refine ⟨z :: zs, rfl, fun u m => ?_⟩
    rcases List.mem_cons.mp m with rfl | m
    · exact hz
    · exact a u m
section
variable {K : PySem.W.Frag} {H H' : Hp}
theorem BoxAt.same {a : Addr} {zs : List Str} (h : BoxAt H a zs) (s : Same H H') : BoxAt H' a zs := ⟨s _ _ h.1, h.2⟩
theorem BoxAt.keep {a b : Addr} {zs : List Str} (h : BoxAt H a zs) (B : Bag H b) (k : Keep b H H') : BoxAt H' a zs := ⟨k.tup B h.1, h.2⟩
theorem BoxAt.extN {a : Addr} {zs : List Str} (h : BoxAt H a zs) (e : ExtN H H') : BoxAt H' a zs := ⟨e _ _ h.1 (fun ps z => by cases z), h.2⟩
theorem BoxAt.thing {a : Addr} {zs : List Str} (h : BoxAt H a zs) : Thing K H (.ref a) (some (zs.map V.str)) := by
  refine .tup h.1 (fun x m => ?_) (by rw [List.length_map]; exact Nat.le_trans h.2.2 (by decide))
  obtain ⟨z, mz, rfl⟩ := List.mem_map.mp m
  exact Part.str z (Nat.le_trans (begs_len z (h.2.1 z mz)) (by decide))
theorem BoxAt.is {a : Addr} {zs : List Str} (h : BoxAt H a zs) (h1 : 1 ≤ zs.length) : IsBoxS zs := ⟨fun z m => begs_yes z (h.2.1 z m), h1, h.2.2⟩
theorem strs_inj : ∀ {zs ws : List Str}, zs.map V.str = ws.map V.str → zs = ws
  | [], [], _ => rfl
  | [], _ :: _, h => by cases h
  | _ :: _, [], h => by cases h
  | z :: zs, w :: ws, h => by
    rw [List.map_cons, List.map_cons] at h
    injection h with h1 h2
    injection h1 with h1
    rw [h1, strs_inj h2]
/-! ### likeness -/
inductive Alikes (H : Hp) (n : Nat) : List V → List V → Prop
  | nil : Alikes H n [] []
  | cons {x y : V} {xs ys : List V} (h : Alike H n x y) (t : Alikes H n xs ys) : Alikes H n (x :: xs) (y :: ys)
theorem alike_strs {n : Nat} {a b : Addr} {us : List Str} (ha : H a = some (.tup (us.map V.str))) (hb : H b = some (.tup (us.map V.str))) (hl : us.length ≤ 1000) : Alike H (n + 1) (.ref a) (.ref b) := by
  refine .tup ha hb rfl (by rw [List.length_map]; exact hl) fun i x y hx hy => ?_
  rw [hx] at hy
  cases hy
  obtain ⟨z, _, rfl⟩ := map_get hx
  exact .str n z
theorem alike_list {n : Nat} {a b : Addr} {xs ys : List V} (ha : H a = some (.lst xs)) (hb : H b = some (.lst ys)) (hl : ys.length ≤ 1000) (h : Alikes H n xs ys) : Alike H (n + 1) (.ref a) (.ref b) := by
  have key : ∀ {xs ys : List V}, Alikes H n xs ys → xs.length = ys.length ∧ ∀ (i : Nat) (x y : V), xs[i]? = some x → ys[i]? = some y → Alike H n x y := by
    intro xs ys h
    induction h with
    | nil => exact ⟨rfl, fun i x y hx => by cases hx⟩
    | cons r _ ih =>
      refine ⟨by rw [List.length_cons, List.length_cons, ih.1], fun i x y hx hy => ?_⟩
      cases i with
      | zero =>
        cases hx
        cases hy
        exact r
      | succ i => exact ih.2 i x y hx hy
  obtain ⟨e, g⟩ := key h
  exact .lst ha hb e hl g
/-! ### a tuple from a place on -/
theorem cut_from (xs : List V) {k : Nat} (h : k ≤ xs.length) : cutV xs (some (k : Int)) none = xs.drop k := by
  unfold cutV
  rw [HT.sIx_nat, HT.sIx_none, Nat.min_eq_left h]
  exact List.take_of_length_le (by rw [List.length_drop]; omega)
theorem from_part {n k : Nat} (h1 : 1 ≤ k) (h2 : k ≤ n) : ¬ (HT.sIx n 0 (some (k : Int)) = 0 ∧ HT.sIx n n none = n) := fun z => by
  rw [HT.sIx_nat, Nat.min_eq_left h2] at z
  omega
end
end VQ
namespace VQ
open PySem L2 LamX
/-! ### things that are neither boxes nor points -/
/-- what a plain thing's kind lives on -/
def Held (H H' : Hp) : Prop := ∀ a o, H a = some o → (∀ ps, o ≠ .tbl ps) → H' a = some o ∨ ∃ xs ys, o = .lst xs ∧ H' a = some (.lst ys)
theorem Same.held {H H' : Hp} (s : Same H H') : Held H H' := fun a o h _ => .inl (s a o h)
theorem ExtN.held {H H' : Hp} (s : ExtN H H') : Held H H' := fun a o h n => .inl (s a o h n)
theorem Keep.held {b : Addr} {H H' : Hp} (k : Keep b H H') (B : Bag H b) (B' : Bag H' b) : Held H H' := fun a o h _ => by
  by_cases e : a = b
  · obtain ⟨l, ns, i, r, x, n, nl, h1, _⟩ := B
    obtain ⟨l', ns', i', r', x', n', nl', g1, _⟩ := B'
    rw [e, h1] at h
    exact .inr ⟨_, _, (Option.some.inj h).symm, by rw [e]; exact g1⟩
  · exact .inl (k.1 a o e h)
section
variable {P : Program} {w : World} {K : PySem.W.Frag} {mg : Str → Option Value} {base : Heap}
theorem TyX.basic_held {H H' : Hp} {x : V} {t : String} (s : Held H H') (ty : TyX K H x (.type t)) (m : t ∈ basics) : TyX K H' x (.type t) := by
  generalize e : Value.type t = tv at ty
  cases ty with
  | base b =>
    cases b with
    | non => exact .base .non
    | bl y => exact .base (.bl y)
    | int i => exact .base (.int i)
    | str y => exact .base (.str y)
    | flt y => exact .base (.flt y)
    | lst q =>
      rcases s _ _ q (fun ps z => by cases z) with q' | ⟨_, _, _, q'⟩
      · exact .base (.lst q')
      · exact .base (.lst q')
    | frz q =>
      rcases s _ _ q (fun ps z => by cases z) with q' | ⟨_, _, z, _⟩
      · exact .base (.frz q')
      · cases z
    | tup q =>
      rcases s _ _ q (fun ps z => by cases z) with q' | ⟨_, _, z, _⟩
      · exact .base (.tup q')
      · cases z
    | dK q => cases e; exact absurd m (by decide)
    | dT q => cases e; exact absurd m (by decide)
    | ins _ _ _ _ _ _ => cases e
  | byt y => exact .byt y
  | set q => cases e; exact absurd m (by decide)
  | kList q c => exact .kList q c
  | kTuple q c => exact .kTuple q c
  | kDict q c => exact .kDict q c
  | fTuple q =>
    rcases s _ _ q (fun ps z => by cases z) with q' | ⟨_, _, z, _⟩
    · exact .fTuple q'
    · cases z
  | fDict q => cases e; exact absurd m (by decide)
theorem Part.held {H H' : Hp} {x : V} (s : Held H H') (h : Part K H x) : Part K H' x := by
  obtain ⟨t, a, b, c⟩ := h
  exact ⟨t, TyX.basic_held s a b, b, c⟩
theorem Thing.held {H H' : Hp} {x : V} {o : Option (List V)} (s : Held H H') (h : Thing K H x o) : Thing K H' x o := by
  cases h with
  | tup h hp hl =>
    rcases s _ _ h (fun ps z => by cases z) with q' | ⟨_, _, z, _⟩
    · exact .tup q' (fun x m => Part.held s (hp x m)) hl
    · cases z
  | oth ty m nt => exact .oth (TyX.basic_held s ty m) m nt
/-- no box and no point -/
def Bad (K : PySem.W.Frag) (H : Hp) (v : V) : Prop := ∃ o, Thing K H v o ∧ allO begB o = false ∧ allO worthB o = false
theorem Bad.held {H H' : Hp} {x : V} (s : Held H H') (h : Bad K H x) : Bad K H' x := by
  obtain ⟨o, a, b, c⟩ := h
  exact ⟨o, a.held s, b, c⟩
theorem Bad.same {H H' : Hp} {x : V} (s : Same H H') (h : Bad K H x) : Bad K H' x := h.held (Same.held s)
theorem Bad.oth {H : Hp} {x : V} {t : String} (ty : TyX K H x (.type t)) (m : t ∈ basics) (nt : t ≠ "tuple") : Bad K H x := ⟨none, .oth ty m nt, rfl, rfl⟩
theorem Bad.tup {H : Hp} {a : Addr} {xs : List V} (h : H a = some (.tup xs)) (hp : ∀ x ∈ xs, Part K H x) (hl : xs.length ≤ 1000) (n1 : allO begB (some xs) = false) (n2 : allO worthB (some xs) = false) : Bad K H (.ref a) := ⟨_, .tup h hp hl, n1, n2⟩
/-- as many times the same -/
theorem allO_rep {p : V → Bool} {x : V} {n : Nat} (h : p x = false) (hn : 1 ≤ n) : allO p (some (List.replicate n x)) = false := by
  show (_ && (List.replicate n x).all p) = false
  obtain ⟨m, rfl⟩ : ∃ m, n = m + 1 := ⟨n - 1, by omega⟩
  rw [List.replicate_succ, List.all_cons, h, Bool.false_and, Bool.and_false]
theorem allO_len {p : V → Bool} {xs : List V} (h : ¬ (1 ≤ xs.length ∧ xs.length ≤ 5)) : allO p (some xs) = false := by
  show ((decide (1 ≤ xs.length) && decide (xs.length ≤ 5)) && _) = false
  by_cases q : 1 ≤ xs.length
  · rw [decide_eq_false (show ¬ xs.length ≤ 5 from fun z => h ⟨q, z⟩), Bool.and_false, Bool.false_and]
  · rw [decide_eq_false q, Bool.false_and, Bool.false_and]
theorem Bad.rep {H : Hp} {a : Addr} {x : V} {n : Nat} (h : H a = some (.tup (List.replicate n x))) (hp : Part K H x) (h1 : 1 ≤ n) (h2 : n ≤ 1000) (n1 : begB x = false) (n2 : worthB x = false) : Bad K H (.ref a) :=
  .tup h (fun y m => by rw [List.eq_of_mem_replicate m]; exact hp) (by rw [List.length_replicate]; exact h2) (allO_rep n1 h1) (allO_rep n2 h1)
theorem flat_one {n : Nat} {x : V} : (List.replicate n [x]).flatten = List.replicate n x := by
  induction n with
  | zero => rfl
  | succ n ih => rw [List.replicate_succ, List.flatten_cons, ih, List.replicate_succ]; rfl
/-- (x,) * n -/
theorem rd_times {x : V} {n : Nat} {Q : VK} {H : Hp} {σ : L2.St} {i : Nat} (hσ : σ[i]? = some (some (.int (n : Int)))) (n1 : 1 ≤ n) (n2 : n ≤ 1000)
    (k : ∀ (p : Addr) (H' : Hp), Same H H' → H p = none → H' p = some (.tup (List.replicate n x)) → Q (.ref p) H') : tOp (rTimes K) (tTup (tCons (tC x) tNil)) (tVar i) σ H Q := by
  refine ⟨by show 1 ≤ sizeLine; decide, fun p hp => ⟨_, hσ, p, n, [x], rfl, rfl, SqT.of upd_same, by simp, by omega, by omega, by show 1 ≤ 1000; decide, fun e => ?_, fun _ q hq => ?_⟩⟩
  · have e' : n = 1 := by omega
    subst e'
    exact k p _ (same_new hp) hp upd_same
  · have s2 := (same_new (o := .tup [x]) hp).trans (same_new (o := .tup (List.replicate (n : Int).toNat [x]).flatten) hq)
    refine k q _ s2 ((same_new (o := .tup [x]) hp).free hq) ?_
    rw [upd_same, flat_one]
    rfl
theorem rd_six {x : V} {Q : VK} {H : Hp} {σ : L2.St} (k : ∀ (p : Addr) (H' : Hp), Same H H' → H p = none → H' p = some (.tup (List.replicate 6 x)) → Q (.ref p) H') : tOp (rTimes K) (tTup (tCons (tC x) tNil)) (tC (.int 6)) σ H Q := by
  obtain ⟨a, c⟩ := rd_times (K := K) (x := x) (σ := [some (.int ((6 : Nat) : Int))]) (i := 0) rfl (by decide) (by decide) k
  refine ⟨a, fun p hp => ?_⟩
  obtain ⟨v, e, r⟩ := c p hp
  cases e
  exact r
def spOddThing (K : PySem.W.Frag) : Sp := fun vs H Q _ => ∃ (b : Addr) (n : Nat), vs = [.ref b, .int (n : Int)] ∧ Bag H b ∧ 1 ≤ n ∧ n ≤ 5 ∧ ∀ (v : V) (H' : Hp), Bad K H' v → Bag H' b → Keep b H H' → Q v H'
end
end VQ
namespace VQ
open PySem L2 LamX
/-- a worth -/
def IsW (x : V) : Prop := ∃ n : Nat, x = .int (n : Int) ∧ n < 32
abbrev numV (n : Nat) : V := .int (n : Int)
theorem worths_of : ∀ {xs : List V}, (∀ x ∈ xs, IsW x) → ∃ ns : List Nat, xs = ns.map numV ∧ ∀ n ∈ ns, n < 32
  | [], _ => ⟨[], rfl, fun z m => by cases m⟩
  | x :: xs, h => by
    obtain ⟨n, rfl, hn⟩ := h x List.mem_cons_self
    obtain ⟨ns, rfl, a⟩ := worths_of (xs := xs) fun y m => h y (List.mem_cons_of_mem _ m)
    refine ⟨n :: ns, rfl, fun u m => ?_⟩
    rcases List.mem_cons.mp m with rfl | m
    · exact hn
    · exact a u m
theorem num_get {ns : List Nat} {i : Nat} {x : V} (h : (ns.map numV)[i]? = some x) : ∃ n, ns[i]? = some n ∧ x = numV n := by
  rw [List.getElem?_map] at h
  cases e : ns[i]? with
  | none => rw [e] at h; cases h
  | some z =>
    rw [e] at h
    exact ⟨z, rfl, (Option.some.inj h).symm⟩
end VQ
namespace VQ
open PySem L2 LamX
abbrev sPoint : Stmt := top 28
abbrev sBoxOf : Stmt := top 29
section
variable {P : Program} {w : World} {K : PySem.W.Frag} {mg : Str → Option Value} {base : Heap}
theorem scPoint : FnScope ["_law_bag_here", "_law_many", "_law_k"] ["_law_bag_here", "_law_many"] (defScope sPoint) := ⟨rfl, rfl, rfl, by decide +kernel, rfl, by decide +kernel, by decide +kernel⟩
theorem ok_point {f fG : Addr} {fd fdG : FuncData} (F : Fun K "_law_point" "_law_point" sPoint f fd) (b : Blt mg) (aG : At K mg "_law_worth" sWorth ["_law_bag_here"] fG fdG) (GG : FnOk P w K mg base CX0 3 fG fdG ["_law_bag_here"] (spDraw fun i => 0 ≤ i ∧ i < 32)) :
    FnOk P w K mg base CX0 4 f fd ["_law_bag_here", "_law_many"] (spTupDraw IsW) := by
  refine F.ok scPoint (fun vs H Q E h => ?_) (fun cdv A outer s H vs Q E hr h => ?_)
  · obtain ⟨bg, n, rfl, _⟩ := h
    rfl
  · obtain ⟨bg, n, rfl, B, hn, k⟩ := h
    refine ⟨_, pss_one (ps_ret (pe_callTy call_tuple_of (by rfl) b.tuple (by decide +kernel) (pa_cons
      (pe_lc (own := [("_law_k", 2)]) (g := gName 2) (tt := tYes) (te := tCall (spDraw fun i => 0 ≤ i ∧ i < 32) [] E0 (tCons (tVar 0) tNil)) rfl scPoint.nd (pi_range1 rfl b.range (pa_cons (pv 1) pa_nil))
        (blkOk_by (N := ["_law_bag_here", "_law_many", "_law_k"]) (sc := defScope sPoint) (by decide +kernel)) (fun _ _ _ _ _ => pg_name (i := 2) scPoint.nd rfl (.inl rfl)) (fun _ _ _ _ _ => pts_nil)
        (fun _ _ _ _ _ => pe_call GG hr rfl aG.gl aG.fn.kp aG.bd .nil pass0 (pa_cons (pv 0) pa_nil))) pa_nil))), ?_⟩
    refine ⟨_, rfl, n, rfl, by omega, by omega, fun D hD => ?_⟩
    obtain ⟨B1, K1⟩ := Bag.put (o := .lst []) B hD (Keep.refl bg H) B
    refine lc_range (lo := 0) (n := n) (fun i H' => Bag H' bg ∧ Keep bg H H' ∧ ∃ xs : List V, xs.length = i ∧ (∀ x ∈ xs, IsW x) ∧ H' D = some (.lst xs)) ⟨B1, K1, [], rfl, (fun x m => by cases m), upd_same⟩ ?_ ?_
    · rintro i H2 hi ⟨B2, K2, xs, el, ex, h2⟩
      refine ⟨rfl, yes_turn ?_⟩
      refine ⟨_, rfl, bg, rfl, B2, fun z H3 hz B3 K3 => ?_⟩
      have Db : D ≠ bg := B.ne hD
      obtain ⟨B4, K4⟩ := Bag.put (o := .lst (xs ++ [.int z])) B hD (K2.trans K3) B3
      refine ⟨_, K3.1 _ _ Db h2, by rw [el]; exact Nat.lt_of_lt_of_le (show i < 6 by omega) (by decide), B4, K4, _, by rw [List.length_append, el]; rfl, fun x m => ?_, upd_same⟩
      rcases List.mem_append.mp m with m | m
      · exact ex x m
      · obtain ⟨nz, rfl⟩ := Int.eq_ofNat_of_zero_le hz.1
        exact ⟨nz, List.mem_singleton.mp m, by omega⟩
    · rintro H2 ⟨B2, K2, xs, el, ex, h2⟩
      refine ⟨D, xs, rfl, .inl ⟨SqL.of h2, fun l hl => ?_⟩⟩
      have hl0 : H l = none := K2.free B B2 hl
      obtain ⟨B3, K3⟩ := Bag.put (o := .tup xs) B hl0 K2 B2
      exact k l xs _ el ex hl0 upd_same B3 K3
/-- the box of a point, by the law -/
def spBoxOf : Sp := fun vs H Q _ => ∃ (a : Addr) (ns : List Nat), vs = [.ref a] ∧ H a = some (.tup (ns.map numV)) ∧ ns.length ≤ 1000 ∧ ∀ (p : Addr) (H' : Hp), H p = none → Same H H' → H' p = some (.tup ((ns.map fig).map V.str)) → Q (.ref p) H'
theorem scBoxOf : FnScope ["_law_point_here", "_law_worth_here"] ["_law_point_here"] (defScope sBoxOf) := ⟨rfl, rfl, rfl, by decide +kernel, rfl, by decide +kernel, by decide +kernel⟩
theorem ok_boxof {f fG : Addr} {fd fdG : FuncData} (F : Fun K "_law_box_of" "_law_box_of" sBoxOf f fd) (b : Blt mg) (aG : At K mg "_law_figs" sFigs ["_law_worth_here"] fG fdG) : FnOk P w K mg base CX0 2 f fd ["_law_point_here"] spBoxOf := by
  have GG : FnOk P w K mg base CX0 1 fG fdG ["_law_worth_here"] spFigs := ok_figs aG.fn b.range b.str
  refine F.ok scBoxOf (fun vs H Q E h => ?_) (fun cdv A outer s H vs Q E hr h => ?_)
  · obtain ⟨a, ns, rfl, _⟩ := h
    rfl
  · obtain ⟨a, ns, rfl, ha, hl, k⟩ := h
    refine ⟨_, pss_one (ps_ret (pe_callTy call_tuple_of (by rfl) b.tuple (by decide +kernel) (pa_cons
      (pe_lc (own := [("_law_worth_here", 1)]) (g := gName 1) (tt := tYes) (te := tCall spFigs [] E0 (tCons (tVar 1) tNil)) rfl scBoxOf.nd (pi_tup (pv 0))
        (blkOk_by (N := ["_law_point_here", "_law_worth_here"]) (sc := defScope sBoxOf) (by decide +kernel)) (fun _ _ _ _ _ => pg_name (i := 1) scBoxOf.nd rfl (.inl rfl)) (fun _ _ _ _ _ => pts_nil)
        (fun _ _ _ _ _ => pe_call GG hr rfl aG.gl aG.fn.kp aG.bd .nil pass0 (pa_cons (pv 1) pa_nil))) pa_nil))), ?_⟩
    refine ⟨_, rfl, a, rfl, ⟨_, SqT.of ha⟩, fun D hD => ?_⟩
    refine lc_tup (xs := ns.map numV) (fun i H' => Same H H' ∧ H' D = some (.lst (((ns.take i).map fig).map V.str))) ⟨same_new hD, upd_same⟩ (fun i H' _ q => SqT.of (q.1 _ _ ha)) ?_ ?_
    · rintro i x H2 hx ⟨s2, h2⟩
      obtain ⟨n, en, rfl⟩ := num_get hx
      refine ⟨rfl, yes_turn ?_⟩
      refine ⟨_, rfl, n, rfl, _, h2, ?_, ?_, ?_⟩
      · rw [List.length_map, List.length_map, List.length_take]
        exact Nat.lt_of_le_of_lt (Nat.le_trans (Nat.min_le_right _ _) hl) (by decide)
      · intro q o z'
        rw [upd_ne (fun y => by rw [y, hD] at z'; cases z')]
        exact s2 _ _ z'
      · rw [upd_same, ← take_snoc fig en, List.map_append]
        rfl
    · rintro H2 ⟨s2, h2⟩
      rw [List.length_map, List.take_of_length_le (Nat.le_refl _)] at h2
      refine ⟨D, _, rfl, .inl ⟨SqL.of h2, fun l hl' => ?_⟩⟩
      exact k l _ (s2.free hl') (s2.trans (same_new hl')) upd_same
end
end VQ
namespace VQ
open PySem L2 LamX
/-! ### points -/
abbrev sIsPoint : Stmt := top 14
abbrev sNeedPoint : Stmt := top 15
abbrev sBadPoint : Stmt := inClass (top 3) 0
theorem scBadPoint : FnScope ["self"] ["self"] (defScope sBadPoint) := ⟨rfl, rfl, rfl, by decide +kernel, rfl, by decide +kernel, by decide +kernel⟩
/-- the places of a point -/
structure IsPtS (ns : List Nat) : Prop where
  lt : ∀ n ∈ ns, n < 32
  lo : 1 ≤ ns.length
  hi : ns.length ≤ 5
theorem worthB_num {x : V} (h : worthB x = true) : ∃ n : Nat, x = numV n ∧ n < 32 := by
  cases x with
  | int i =>
    have e : (decide (0 ≤ i) && decide (i < 32)) = true := h
    have hi : 0 ≤ i ∧ i < 32 := by simpa using e
    obtain ⟨n, rfl⟩ := Int.eq_ofNat_of_zero_le hi.1
    exact ⟨n, rfl, by omega⟩
  | _ => cases h
theorem num_worthB {n : Nat} (h : n < 32) : worthB (numV n) = true := by
  show (decide (0 ≤ (n : Int)) && decide ((n : Int) < 32)) = true
  rw [decide_eq_true (by omega), decide_eq_true (by omega)]
  rfl
theorem allO_point {o : Option (List V)} (h : allO worthB o = true) : ∃ ns : List Nat, o = some (ns.map numV) ∧ IsPtS ns := by
  cases o with
  | none => cases h
  | some xs =>
    have h' : (placesO (some xs) && xs.all worthB) = true := h
    rw [Bool.and_eq_true] at h'
    obtain ⟨h1, h2⟩ := h'
    have h1' : (decide (1 ≤ xs.length) && decide (xs.length ≤ 5)) = true := h1
    rw [Bool.and_eq_true, decide_eq_true_eq, decide_eq_true_eq] at h1'
    obtain ⟨ns, rfl, hn⟩ := worths_of (xs := xs) fun x m => worthB_num (List.all_eq_true.mp h2 x m)
    rw [List.length_map] at h1'
    exact ⟨ns, rfl, hn, h1'.1, h1'.2⟩
theorem point_allO {ns : List Nat} (h : IsPtS ns) : allO worthB (some (ns.map numV)) = true := by
  show ((decide (1 ≤ (ns.map numV).length) && decide ((ns.map numV).length ≤ 5)) && (ns.map numV).all worthB) = true
  rw [List.length_map, decide_eq_true h.lo, decide_eq_true h.hi, List.all_map, Bool.true_and, Bool.true_and]
  exact List.all_eq_true.mpr fun n m => num_worthB (h.lt n m)
section
variable {P : Program} {w : World} {K : PySem.W.Frag} {mg : Str → Option Value} {base : Heap}
theorem scIsPoint : FnScope ["thing", "part"] ["thing"] (defScope sIsPoint) := ⟨rfl, rfl, rfl, by decide +kernel, rfl, by decide +kernel, by decide +kernel⟩
theorem ok_ispoint {f fB fP : Addr} {fd fdB fdP : FuncData} {tkM tkW : Tok} (F : Fun K "is_point" "is_point" sIsPoint f fd) (b : Blt mg) (M : mg "MOST_PLACES" = some (.int 5 tkM)) (W : mg "WORTHS" = some (.int 32 tkW)) (aB : AtW K mg "is_worth" sIsWorth ["thing"] fB fdB) (aP : At K mg "is_places" sIsPlaces ["thing"] fP fdP) :
    FnOk P w K mg base CX0 3 f fd ["thing"] (spIs K worthB) := by
  have GB : FnOk P w K mg base CX0 2 fB fdB ["thing"] (spIsWorth K) := ok_isworth aB b W
  have GP : FnOk P w K mg base CX0 1 fP fdP ["thing"] (spIsPlaces K) := ok_isplaces aP.fn b M
  refine F.ok scIsPoint (fun vs H Q E h => ?_) (fun cdv A outer s H vs Q E hr h => ?_)
  · obtain ⟨x, o, rfl, _⟩ := h
    rfl
  · obtain ⟨x, o, rfl, th, k⟩ := h
    refine ⟨_, pss_one (ps_ret (pe_and (pe_call GP (hr.mono (by decide)) rfl aP.gl aP.fn.kp aP.bd .nil pass0 (pa_cons (pv 0) pa_nil))
      (pe_one (pe_callB (cr_all rfl) (by rfl) b.all (by decide +kernel) (pa_cons
        (pe_lc (own := [("part", 1)]) (g := gName 1) (tt := tYes) (te := tCall (spIsWorth K) [] E0 (tCons (tVar 1) tNil)) rfl scIsPoint.nd (pi_tup (pv 0))
          (blkOk_by (N := ["thing", "part"]) (sc := defScope sIsPoint) (by decide +kernel)) (fun _ _ _ _ _ => pg_name (i := 1) scIsPoint.nd rfl (.inl rfl)) (fun _ _ _ _ _ => pts_nil)
          (fun _ _ _ _ _ => pe_call GB hr rfl aB.gl aB.fn.kp aB.bd .nil pass0 (pa_cons (pv 1) pa_nil))) pa_nil))))), ?_⟩
    refine ⟨_, rfl, x, o, rfl, th, _, rfl, ?_⟩
    cases e : placesO o with
    | false =>
      refine iteF ?_
      have e2 : allO worthB o = false := by
        cases o with
        | none => rfl
        | some xs => show (placesO (some xs) && _) = false; rw [e, Bool.false_and]
      rw [e2] at k
      exact k H (Same.refl H)
    | true =>
      refine iteT ?_
      cases th with
      | oth ty m nt => cases e
      | @tup a xs h hp hl =>
        have e2 : allO worthB (some xs) = xs.all worthB := by show (placesO (some xs) && _) = _; rw [e, Bool.true_and]
        rw [e2] at k
        refine ⟨_, rfl, a, rfl, ⟨xs, SqT.of h⟩, fun D hD => ?_⟩
        refine lc_tup (xs := xs) (fun i H' => Same H H' ∧ H' D = some (.lst (((xs.take i).map worthB).map V.bl))) ⟨same_new hD, upd_same⟩ (fun i H' _ q => SqT.of (q.1 _ _ h)) ?_ ?_
        · rintro i x H2 hx ⟨s2, h2⟩
          refine ⟨rfl, yes_turn ?_⟩
          have hm : x ∈ xs := List.mem_of_getElem? hx
          obtain ⟨t, ty, m, sh⟩ := (hp x hm).same s2
          refine ⟨_, rfl, x, t, rfl, ty, m, _, h2, ?_, ?_, ?_⟩
          · rw [List.length_map, List.length_map, List.length_take]
            exact Nat.lt_of_le_of_lt (Nat.le_trans (Nat.min_le_right _ _) hl) (by decide)
          · intro q o z'
            rw [upd_ne (fun y => by rw [y, hD] at z'; cases z')]
            exact s2 _ _ z'
          · rw [upd_same, ← take_snoc worthB hx, List.map_append]
            rfl
        · rintro H2 ⟨s2, h2⟩
          refine ⟨D, _, rfl, SqL.of h2, ?_⟩
          have e3 : ((xs.take xs.length).map worthB).all id = xs.all worthB := by
            rw [List.take_of_length_le (Nat.le_refl _), List.all_map]
            rfl
          rw [e3]
          exact k H2 s2
theorem scNeedPoint : FnScope ["point"] ["point"] (defScope sNeedPoint) := ⟨rfl, rfl, rfl, by decide +kernel, rfl, by decide +kernel, by decide +kernel⟩
theorem ok_needpoint {f fX C fI : Addr} {fd fdX fdI : FuncData} (F : Fun K "need_point" "need_point" sNeedPoint f fd) (aX : At K mg "is_point" sIsPoint ["thing"] fX fdX) (GX : FnOk P w K mg base CX0 3 fX fdX ["thing"] (spIs K worthB)) (Er : ErrC K mg "BadPoint" C fI fdI "BadPoint.__init__" sBadPoint) :
    FnOk P w K mg base (L2.CX P w) 4 f fd ["point"] (spNeedT K worthB C "BadPoint") := by
  have GI : FnOk P w K mg base CX0 1 fI fdI ["self"] (spErr K C "BadPoint") := ok_err Er scBadPoint (.inl rfl) rfl
  refine F.okX scNeedPoint (fun vs H Q E h => ?_) (fun cdv A outer s H vs Q E hr h => ?_)
  · obtain ⟨x, o, rfl, _⟩ := h
    rfl
  · obtain ⟨x, o, rfl, th, k1, k2⟩ := h
    refine ⟨_, pss_one (ps_if (pt_not (pt_val (pe_call GX hr rfl aX.gl aX.fn.kp aX.bd .nil pass0 (pa_cons (pv 0) pa_nil))))
        (pss_one (ps_raise rfl (takes_of rfl rfl rfl rfl) (pmk_oex0 Er.ox Er.it Er.ty GI (hr.mono (by decide)) Er.bd pass0 rfl Er.gl))) pss_nil), ?_⟩
    refine ⟨_, rfl, x, o, rfl, th, fun H1 s1 => ⟨_, rfl, ?_⟩⟩
    cases e : allO worthB o with
    | false => exact raise_plain (σ := []) fun d hd => k2 e H1 d s1 hd
    | true => exact k1 e H1 s1
/-! ### whether a box holds a point -/
def holdsB (zs : List Str) (ns : List Nat) : Bool := (List.zipWith (fun n z => beginsB (fig n) z) ns zs).all id
def spHolds (K : PySem.W.Frag) (CB CP CU : Addr) : Sp := fun vs H Q E => ∃ (x y : V) (o p : Option (List V)), vs = [x, y] ∧ Thing K H x o ∧ Thing K H y p ∧
  (∀ (zs : List Str) (ns : List Nat), o = some (zs.map V.str) → p = some (ns.map numV) → IsBoxS zs → IsPtS ns → zs.length = ns.length → ∀ H', Same H H' → Q (.bl (holdsB zs ns)) H') ∧
  (allO begB o = false → ∀ H' d, Same H H' → H' d = none → E (.ref CB) (some d) (upd H' d (calledAs "BadBox"))) ∧
  (allO begB o = true → allO worthB p = false → ∀ H' d, Same H H' → H' d = none → E (.ref CP) (some d) (upd H' d (calledAs "BadPoint"))) ∧
  (∀ (zs : List Str) (ns : List Nat), o = some (zs.map V.str) → p = some (ns.map numV) → IsBoxS zs → IsPtS ns → zs.length ≠ ns.length → ∀ H' d, Same H H' → H' d = none → E (.ref CU) (some d) (upd H' d (calledAs "Unlike")))
end
end VQ
namespace VQ
open PySem L2 LamX
abbrev sBoxOfP : Stmt := top 16
abbrev sWhole : Stmt := top 17
section
variable {P : Program} {w : World} {K : PySem.W.Frag} {mg : Str → Option Value} {base : Heap}
/-! ### the box of a point -/
def spBoxOfP (K : PySem.W.Frag) (CP : Addr) : Sp := fun vs H Q E => ∃ (x : V) (o : Option (List V)), vs = [x] ∧ Thing K H x o ∧
  (∀ ns : List Nat, o = some (ns.map numV) → IsPtS ns → ∀ (p : Addr) (H' : Hp), H p = none → Same H H' → H' p = some (.tup ((ns.map fig).map V.str)) → Q (.ref p) H') ∧
  (allO worthB o = false → ∀ H' d, Same H H' → H' d = none → E (.ref CP) (some d) (upd H' d (calledAs "BadPoint")))
theorem scBoxOfP : FnScope ["point", "worth"] ["point"] (defScope sBoxOfP) := ⟨rfl, rfl, rfl, by decide +kernel, rfl, by decide +kernel, by decide +kernel⟩
theorem ok_boxofP {f fQ fF CP CW : Addr} {fd fdQ fdF : FuncData} (F : Fun K "box_of" "box_of" sBoxOfP f fd) (b : Blt mg) (aQ : At K mg "need_point" sNeedPoint ["point"] fQ fdQ) (aF : At K mg "figures" sFigures ["worth"] fF fdF)
    (GQ : FnOk P w K mg base (L2.CX P w) 4 fQ fdQ ["point"] (spNeedT K worthB CP "BadPoint")) (GF : FnOk P w K mg base (L2.CX P w) 3 fF fdF ["worth"] (spFigures K CW)) : FnOk P w K mg base (L2.CX P w) 5 f fd ["point"] (spBoxOfP K CP) := by
  refine F.okX scBoxOfP (fun vs H Q E h => ?_) (fun cdv A outer s H vs Q E hr h => ?_)
  · obtain ⟨x, o, rfl, _⟩ := h
    rfl
  · obtain ⟨x, o, rfl, tx, k1, k2⟩ := h
    refine ⟨_, pss_cons (ps_expr (pe_call GQ hr rfl aQ.gl aQ.fn.kp aQ.bd .nil (passes_call (takes_of rfl rfl rfl rfl) (fun _ _ _ _ h => h)) (pa_cons (pv 0) pa_nil)))
      (PSs.nox (pss_one (ps_ret (pe_callTy call_tuple_of (by rfl) b.tuple (by decide +kernel) (pa_cons
        (pe_lc (own := [("worth", 1)]) (g := gName 1) (tt := tYes) (te := tCall (spFigures K CW) [] E0 (tCons (tVar 1) tNil)) rfl scBoxOfP.nd (pi_tup (pv 0))
          (blkOk_by (N := ["point", "worth"]) (sc := defScope sBoxOfP) (by decide +kernel)) (fun _ _ _ _ _ => pg_name (i := 1) scBoxOfP.nd rfl (.inl rfl)) (fun _ _ _ _ _ => pts_nil)
          (fun _ _ _ _ _ => pe_call GF (hr.mono (by decide)) rfl aF.gl aF.fn.kp aF.bd .nil passCX (pa_cons (pv 1) pa_nil))) pa_nil))))), ?_⟩
    refine ⟨_, rfl, x, o, rfl, tx, fun yx H1 s1 => ?_, fun no H1 d s1 hd => k2 no H1 d s1 hd⟩
    obtain ⟨ns, rfl, bn⟩ := allO_point yx
    have l5 := bn.hi
    cases tx with
    | @tup a _ ha _ _ =>
      refine ⟨_, rfl, a, rfl, ⟨_, SqT.of (s1 _ _ ha)⟩, fun D hD => ?_⟩
      refine lc_tup (xs := ns.map numV) (fun i H' => Same H H' ∧ H' D = some (.lst (((ns.take i).map fig).map V.str))) ⟨s1.trans (same_new hD), upd_same⟩ (fun i H' _ q => SqT.of (q.1 _ _ ha)) ?_ ?_
      · rintro i x H2 hx ⟨s2, h2⟩
        obtain ⟨n, en, rfl⟩ := num_get hx
        have ln := bn.lt n (List.mem_of_getElem? en)
        refine ⟨rfl, yes_turn ?_⟩
        refine ⟨_, rfl, numV n, "int", rfl, .base (.int _), by decide, fun n' _ e' => ?_, fun no => ?_⟩
        · have en' : n = n' := by
            have q : V.int (n : Int) = V.int (n' : Int) := e'
            injection q with q
            exact Int.ofNat.inj q
          subst en'
          refine ⟨_, h2, ?_, ?_, ?_⟩
          · rw [List.length_map, List.length_map, List.length_take]
            exact Nat.lt_of_le_of_lt (show _ ≤ 1000 by omega) (by decide)
          · intro q o z'
            rw [upd_ne (fun y => by rw [y, s1.free hD] at z'; cases z')]
            exact s2 _ _ z'
          · rw [upd_same, ← take_snoc fig en, List.map_append]
            rfl
        · rw [num_worthB ln] at no
          cases no
      · rintro H2 ⟨s2, h2⟩
        rw [List.length_map, List.take_of_length_le (Nat.le_refl _)] at h2
        refine ⟨D, _, rfl, .inl ⟨SqL.of h2, fun l hl => ?_⟩⟩
        exact k1 ns rfl bn l _ (s2.free hl) (s2.trans (same_new hl)) upd_same
/-! ### whole -/
def spWhole : Sp := fun vs H Q _ => ∃ n : Nat, vs = [.int (n : Int)] ∧ 1 ≤ n ∧ n ≤ 1000 ∧ ∀ (p : Addr) (H' : Hp), Same H H' → H p = none → H' p = some (.tup (List.replicate n (.str ""))) → Q (.ref p) H'
theorem scWhole : FnScope ["many"] ["many"] (defScope sWhole) := ⟨rfl, rfl, rfl, by decide +kernel, rfl, by decide +kernel, by decide +kernel⟩
theorem ok_whole {f : Addr} {fd : FuncData} (F : Fun K "whole" "whole" sWhole f fd) : FnOk P w K mg base CX0 1 f fd ["many"] spWhole := by
  refine F.ok scWhole (fun vs H Q E h => ?_) (fun cdv A outer s H vs Q E hr h => ?_)
  · obtain ⟨n, rfl, _⟩ := h
    rfl
  · obtain ⟨n, rfl, h1, h2, k⟩ := h
    refine ⟨_, pss_one (ps_ret (pe_op op_times (pe_tup (pa_cons pe_str pa_nil)) (pv 0))), ?_⟩
    exact rd_times (K := K) rfl h1 h2 fun p H' s' f' h' => k p H' s' f' h'
end
end VQ
namespace VQ
open PySem L2 LamX
abbrev sShortest : Stmt := top 10
/-! ### the shortest beginning -/
/-- none of the worths lies under the first k signs of n -/
def sfree (n : Nat) (ms : List Nat) (k : Nat) : Bool := !(ms.any fun m => beginsB (fig m) (tk (fig n) k))
/-- the least one of 0 .. 5 of which f is true, from above -/
def dueF (f : Nat → Bool) (v : Nat → V) : Nat → V
  | 0 => .non
  | i + 1 => if f (5 - i) = true then v (5 - i) else dueF f v i
theorem due_first {f : Nat → Bool} {v : Nat → V} {i : Nat} (no : ∀ j, j < i → f j = false) (yes : f i = true) (h : i < 6) : dueF f v 6 = v i := by
  have e : dueF f v 6 = if f 0 = true then v 0 else if f 1 = true then v 1 else if f 2 = true then v 2 else if f 3 = true then v 3 else if f 4 = true then v 4 else if f 5 = true then v 5 else .non := rfl
  rw [e]
  have six : i = 0 ∨ i = 1 ∨ i = 2 ∨ i = 3 ∨ i = 4 ∨ i = 5 := by omega
  rcases six with rfl | rfl | rfl | rfl | rfl | rfl
  · rw [yes]; rfl
  · rw [no 0 (by decide), yes]; rfl
  · rw [no 0 (by decide), no 1 (by decide), yes]; rfl
  · rw [no 0 (by decide), no 1 (by decide), no 2 (by decide), yes]; rfl
  · rw [no 0 (by decide), no 1 (by decide), no 2 (by decide), no 3 (by decide), yes]; rfl
  · rw [no 0 (by decide), no 1 (by decide), no 2 (by decide), no 3 (by decide), no 4 (by decide), yes]; rfl
theorem due_none {f : Nat → Bool} {v : Nat → V} (no : ∀ j, j < 6 → f j = false) : dueF f v 6 = .non := by
  have e : dueF f v 6 = if f 0 = true then v 0 else if f 1 = true then v 1 else if f 2 = true then v 2 else if f 3 = true then v 3 else if f 4 = true then v 4 else if f 5 = true then v 5 else .non := rfl
  rw [e, no 0 (by decide), no 1 (by decide), no 2 (by decide), no 3 (by decide), no 4 (by decide), no 5 (by decide)]
  rfl
def shortV (n : Nat) (ms : List Nat) : V := dueF (sfree n ms) (fun k => .str (tk (fig n) k)) 6
def NoW (y : Int) : Prop := ¬ (0 ≤ y ∧ y < 32)
theorem worths_ints : ∀ {ys : List Int}, (∀ y ∈ ys, 0 ≤ y ∧ y < 32) → ∃ ms : List Nat, ys = ms.map Int.ofNat ∧ ∀ m ∈ ms, m < 32
  | [], _ => ⟨[], rfl, fun m h => by cases h⟩
  | y :: ys, h => by
    obtain ⟨a, b⟩ := h y List.mem_cons_self
    obtain ⟨n, rfl⟩ := Int.eq_ofNat_of_zero_le a
    obtain ⟨ms, rfl, c⟩ := worths_ints (ys := ys) fun x m => h x (List.mem_cons_of_mem _ m)
    refine ⟨n :: ms, rfl, fun x m => ?_⟩
    rcases List.mem_cons.mp m with rfl | m
    · omega
    · exact c x m
section
variable {P : Program} {w : World} {K : PySem.W.Frag} {mg : Str → Option Value} {base : Heap}
def spShortest (K : PySem.W.Frag) (CW : Addr) : Sp := fun vs H Q E => ∃ (x : Int) (l : Addr) (ys : List Int), vs = [.int x, .ref l] ∧ H l = some (.lst (ys.map V.int)) ∧ ys.length ≤ 1000 ∧
  (∀ (n : Nat) (ms : List Nat), x = (n : Int) → n < 32 → ys = ms.map Int.ofNat → (∀ m ∈ ms, m < 32) → ∀ H', Same H H' → Q (shortV n ms) H') ∧
  ((NoW x ∨ ∃ y ∈ ys, NoW y) → ∀ H' d, Same H H' → H' d = none → E (.ref CW) (some d) (upd H' d (calledAs "BadWorth")))
abbrev nShort : List Str := ["worth", "worths", "own", "others", "count", "beginning", "other"]
theorem scShort : FnScope nShort ["worth", "worths"] (defScope sShortest) := ⟨rfl, rfl, rfl, by decide +kernel, rfl, by decide +kernel, by decide +kernel⟩
abbrev rStartsT : V → List V → Hp → VK → Prop := fun x xs H Q => ∃ a b, x = .str a ∧ xs = [.str b] ∧ Q (.bl (Txt.startswith a b)) H
theorem noW_worthB {y : Int} (h : worthB (.int y) = false) : NoW y := fun ⟨a, b⟩ => by
  have e : worthB (.int y) = true := by
    show (decide (0 ≤ y) && decide (y < 32)) = true
    rw [decide_eq_true a, decide_eq_true b]
    rfl
  rw [h] at e
  cases e
theorem ok_shortest {f fF CW : Addr} {fd fdF : FuncData} {tk5 : Tok} (F : Fun K "shortest" "shortest" sShortest f fd) (b : Blt mg) (an : mg "any" = none) (Fg : mg "FIGURES" = some (.int 5 tk5)) (aF : At K mg "figures" sFigures ["worth"] fF fdF)
    (GF : FnOk P w K mg base (L2.CX P w) 3 fF fdF ["worth"] (spFigures K CW)) : FnOk P w K mg base (L2.CX P w) 4 f fd ["worth", "worths"] (spShortest K CW) := by
  refine F.okX scShort (fun vs H Q E h => ?_) (fun cdv A outer s H vs Q E hr h => ?_)
  · obtain ⟨x, l, ys, rfl, _⟩ := h
    rfl
  · obtain ⟨x, l, ys, rfl, hl, ly, k1, k2⟩ := h
    refine ⟨_, pss_cons (ps_set (i := 2) scShort.nd rfl (.inl rfl) (pe_call GF hr rfl aF.gl aF.fn.kp aF.bd .nil (passes_call (takes_of rfl rfl rfl rfl) (fun _ _ _ _ h => h)) (pa_cons (pv 0) pa_nil)))
      (pss_cons (ps_setLcX (i := 3) (own := [("other", 6)]) (g := gName 6) (tt := tYes) (te := tCall (spFigures K CW) [] E (tCons (tVar 6) tNil)) rfl rfl (takes_of rfl rfl rfl rfl) rfl scShort.nd rfl rfl (sw_true rfl rfl rfl (by decide +kernel)) (pi_list (pv 1))
        (blkOk_by (N := nShort) (sc := defScope sShortest) (by decide +kernel)) (fun _ _ _ _ _ => pg_name (i := 6) scShort.nd rfl (.inl rfl)) (fun _ _ _ _ _ => pts_nil)
        (fun _ _ _ _ _ _ ps => pe_call GF hr rfl aF.gl aF.fn.kp aF.bd .nil ps (pa_cons (pv 6) pa_nil)))
      (PSs.nox (pss_cons (ps_for PassesOwn.never rfl (pi_range1 rfl b.range (pa_cons (pe_op op_add (pe_glob (v := .int 5) rfl Fg ⟨_, rfl⟩) pe_int) pa_nil)) (pg_name (i := 4) scShort.nd rfl (.inl rfl))
        (pss_cons (ps_set (i := 5) scShort.nd rfl (.inr rfl) (pe_slice sl_str (pv 2) po_none (po_some (pv 4))))
        (pss_one (ps_if (pt_not (pt_val (pe_callB (cr_any rfl) (by rfl) an (by decide +kernel) (pa_cons
          (pe_lc (own := [("other", 6)]) (g := gName 6) (tt := tYes) (te := tBM K "str" rStartsT (tVar 6) (tCons (tVar 5) tNil)) rfl scShort.nd (pi_list (pv 3)) (blkOk_by (N := nShort) (sc := defScope sShortest) (by decide +kernel)) (fun _ _ _ _ _ => pg_name (i := 6) scShort.nd rfl (.inl rfl)) (fun _ _ _ _ _ => pts_nil)
            (fun _ _ _ _ _ => pe_bm PySem.F.plainAttrs_str PySem.F.slot_str_startswith PySem.F.type_str_startswith mt_startswith (pv 6) (pa_cons (pv 5) pa_nil))) pa_nil)))) (pss_one (ps_ret (pv 5))) pss_nil))))
      (pss_one (ps_ret pe_non))))), ?_⟩
    refine ⟨_, rfl, .int x, "int", rfl, .base (.int x), by decide, fun n ln en => ?_, fun no d hd => k2 (.inl (noW_worthB no)) H d (Same.refl H) hd⟩
    have exn : x = (n : Int) := V.int.inj en
    subst exn
    -- the others
    refine ⟨_, rfl, l, rfl, ⟨_, SqL.of hl⟩, fun D hD => ?_⟩
    refine lc_list (xs := ys.map V.int) (fun i H' => Same H H' ∧ (∀ y ∈ ys.take i, 0 ≤ y ∧ y < 32) ∧ H' D = some (.lst (((ys.take i).map (fun y => fig y.toNat)).map V.str))) ⟨same_new hD, (fun y m => by cases m), upd_same⟩ (fun i H' _ q => SqL.of (q.1 _ _ hl)) ?_ ?_
    · rintro i v H2 hv ⟨s2, hw, h2⟩
      obtain ⟨y, ey, rfl⟩ : ∃ y, ys[i]? = some y ∧ v = .int y := by
        rw [List.getElem?_map] at hv
        cases e : ys[i]? with
        | none => rw [e] at hv; cases hv
        | some y =>
          rw [e] at hv
          exact ⟨y, rfl, (Option.some.inj hv).symm⟩
      refine ⟨rfl, yes_turn ?_⟩
      refine ⟨_, rfl, .int y, "int", rfl, .base (.int y), by decide, fun m lm em => ?_, fun no d hd => k2 (.inr ⟨y, List.mem_of_getElem? ey, noW_worthB no⟩) H2 d s2 hd⟩
      have eym : y = (m : Int) := V.int.inj em
      subst eym
      have tk1 : ys.take (i + 1) = ys.take i ++ [(m : Int)] := by
        rw [List.take_add_one, ey]
        rfl
      refine ⟨_, h2, ?_, ?_, ?_, ?_⟩
      · rw [List.length_map, List.length_map, List.length_take]
        exact Nat.lt_of_le_of_lt (Nat.le_trans (Nat.min_le_right _ _) ly) (by decide)
      · intro q o z'
        rw [upd_ne (fun y => by rw [y, hD] at z'; cases z')]
        exact s2 _ _ z'
      · intro y my
        rw [tk1] at my
        rcases List.mem_append.mp my with my | my
        · exact hw y my
        · rw [List.mem_singleton.mp my]
          omega
      · rw [upd_same, tk1, List.map_append, List.map_append]
        rfl
    · rintro H2 ⟨s2, hw, h2⟩
      rw [List.length_map, List.take_of_length_le (Nat.le_refl _)] at hw h2
      obtain ⟨ms, rfl, hms⟩ := worths_ints hw
      have kk := k1 n ms rfl ln rfl hms
      have em : (ms.map Int.ofNat).map (fun y => fig y.toNat) = ms.map fig := by
        rw [List.map_map]
        rfl
      rw [em] at h2
      have h2' : H2 D = some (.lst ((ms.map fig).map V.str)) := h2
      rw [List.length_map] at ly
      refine ⟨5, 1, rfl, rfl, 6, rfl, by decide, by decide, for_range (lo := 0) (n := 6) (fun i σ H' => Same H H' ∧ H' D = some (.lst ((ms.map fig).map V.str)) ∧ (∀ j, j < i → sfree n ms j = false) ∧ ∃ v4 v5 v6 : Option V, σ = [some (.int (n : Int)), some (.ref l), some (.str (fig n)), some (.ref D), v4, v5, v6]) ⟨s2, h2', (fun j hj => absurd hj (Nat.not_lt_zero _)), none, none, none, rfl⟩ ?_ ?_⟩
      · rintro i σ H3 hi ⟨s3, h3, no, v4, v5, v6, rfl⟩
        have l5 : (fig n).length ≤ sizeLine := by rw [fig_len]; decide
        refine ⟨_, rfl, _, rfl, _, rfl, _, rfl, l5, ?_⟩
        rw [Int.zero_add, cut_to]
        have nD : H D = none := hD
        refine ⟨_, rfl, D, rfl, ⟨_, SqL.of h3⟩, fun D2 hD2 => ?_⟩
        have DD : D ≠ D2 := fun q => by
          rw [← q, h3] at hD2
          cases hD2
        refine lc_list (xs := (ms.map fig).map V.str) (fun j H' => Same H3 H' ∧ H' D2 = some (.lst (((ms.take j).map (fun m => beginsB (fig m) (tk (fig n) i))).map V.bl))) ⟨same_new hD2, upd_same⟩ (fun j H' _ q => SqL.of (q.1 _ _ h3)) ?_ ?_
        · rintro j v H4 hv ⟨s4, h4⟩
          obtain ⟨m, em, rfl⟩ : ∃ m, ms[j]? = some m ∧ v = .str (fig m) := by
            rw [List.getElem?_map, List.getElem?_map] at hv
            cases e : ms[j]? with
            | none => rw [e] at hv; cases hv
            | some m =>
              rw [e] at hv
              exact ⟨m, rfl, (Option.some.inj hv).symm⟩
          refine ⟨rfl, yes_turn ?_⟩
          refine ⟨_, rfl, rfl, _, rfl, fig m, _, rfl, rfl, _, h4, ?_, ?_, ?_⟩
          · rw [List.length_map, List.length_map, List.length_take]
            exact Nat.lt_of_le_of_lt (Nat.le_trans (Nat.min_le_right _ _) ly) (by decide)
          · intro q o z'
            rw [upd_ne (fun y => by rw [y, hD2] at z'; cases z')]
            exact s4 _ _ z'
          · rw [upd_same, st_eq, List.take_add_one, em, List.map_append, List.map_append]
            rfl
        · rintro H4 ⟨s4, h4⟩
          rw [List.length_map, List.length_map, List.take_of_length_le (Nat.le_refl _)] at h4
          refine ⟨D2, _, rfl, SqL.of h4, ?_⟩
          have ef : (ms.map (fun m => beginsB (fig m) (tk (fig n) i))).any id = !(sfree n ms i) := by
            unfold sfree
            rw [List.any_map, Bool.not_not]
            rfl
          rw [ef]
          have s34 := s3.trans s4
          cases e : sfree n ms i with
          | true =>
            refine ⟨_, rfl, ?_⟩
            refine iteT ⟨_, rfl, ?_⟩
            have q := kk H4 s34
            unfold shortV at q
            rw [due_first no e hi] at q
            exact q
          | false =>
            refine ⟨_, rfl, ?_⟩
            refine iteF ⟨s34, s4 _ _ h3, fun j hj => ?_, _, _, _, rfl⟩
            by_cases q : j = i
            · rw [q]
              exact e
            · exact no j (by omega)
      · rintro σ H3 ⟨s3, h3, no, v4, v5, v6, rfl⟩
        have q := kk H3 s3
        unfold shortV at q
        rw [due_none no] at q
        exact q
end
end VQ
namespace VQ
open PySem L2 LamX
/-! ### points handed in -/
def PtAt (H : Hp) (a : Addr) (ns : List Nat) : Prop := H a = some (.tup (ns.map numV)) ∧ (∀ n ∈ ns, n < 32) ∧ ns.length ≤ 5
theorem nums_inj : ∀ {ns ms : List Nat}, ns.map numV = ms.map numV → ns = ms
  | [], [], _ => rfl
  | [], _ :: _, h => by cases h
  | _ :: _, [], h => by cases h
  | n :: ns, m :: ms, h => by
    rw [List.map_cons, List.map_cons] at h
    injection h with h1 h2
    injection h1 with h1
    rw [Int.ofNat.inj h1, nums_inj h2]
section
variable {K : PySem.W.Frag} {H H' : Hp}
theorem PtAt.same {a : Addr} {ns : List Nat} (h : PtAt H a ns) (s : Same H H') : PtAt H' a ns := ⟨s _ _ h.1, h.2⟩
theorem PtAt.keep {a b : Addr} {ns : List Nat} (h : PtAt H a ns) (B : Bag H b) (k : Keep b H H') : PtAt H' a ns := ⟨k.tup B h.1, h.2⟩
theorem PtAt.extN {a : Addr} {ns : List Nat} (h : PtAt H a ns) (e : ExtN H H') : PtAt H' a ns := ⟨e _ _ h.1 (fun ps z => by cases z), h.2⟩
theorem PtAt.thing {a : Addr} {ns : List Nat} (h : PtAt H a ns) : Thing K H (.ref a) (some (ns.map numV)) := by
  refine .tup h.1 (fun x m => ?_) (by rw [List.length_map]; exact Nat.le_trans h.2.2 (by decide))
  obtain ⟨n, _, rfl⟩ := List.mem_map.mp m
  exact Part.int _
theorem PtAt.is {a : Addr} {ns : List Nat} (h : PtAt H a ns) (h1 : 1 ≤ ns.length) : IsPtS ns := ⟨h.2.1, h1, h.2.2⟩
end
end VQ
namespace VQ
open PySem L2 LamX
/-! ### rows: a list of tuples of numbers -/
inductive Rows (H : Hp) : List V → List (List Nat) → Prop
  | nil : Rows H [] []
  | cons {a : Addr} {r : List Nat} {vs : List V} {rs : List (List Nat)} (h : H a = some (.tup (r.map numV))) (t : Rows H vs rs) : Rows H (.ref a :: vs) (r :: rs)
section
variable {K : PySem.W.Frag} {H H' : Hp}
theorem Rows.same (s : Same H H') : ∀ {vs : List V} {rs : List (List Nat)}, Rows H vs rs → Rows H' vs rs
  | _, _, .nil => .nil
  | _, _, .cons h t => .cons (s _ _ h) (Rows.same s t)
theorem Rows.keep {b : Addr} (B : Bag H b) (k : Keep b H H') : ∀ {vs : List V} {rs : List (List Nat)}, Rows H vs rs → Rows H' vs rs
  | _, _, .nil => .nil
  | _, _, .cons h t => .cons (k.tup B h) (Rows.keep B k t)
theorem Rows.len : ∀ {vs : List V} {rs : List (List Nat)}, Rows H vs rs → vs.length = rs.length
  | _, _, .nil => rfl
  | _, _, .cons _ t => by rw [List.length_cons, List.length_cons, Rows.len t]
theorem Rows.get {vs : List V} {rs : List (List Nat)} (h : Rows H vs rs) : ∀ {i : Nat} {v : V}, vs[i]? = some v → ∃ a r, v = .ref a ∧ rs[i]? = some r ∧ H a = some (.tup (r.map numV)) := by
  induction h with
  | nil => exact fun h => by cases h
  | cons h t ih =>
    intro i v e
    cases i with
    | zero =>
      cases e
      exact ⟨_, _, rfl, rfl, h⟩
    | succ i => exact ih e
theorem Rows.mem {vs : List V} {rs : List (List Nat)} (h : Rows H vs rs) {v : V} (m : v ∈ vs) : ∃ a r, v = .ref a ∧ r ∈ rs ∧ H a = some (.tup (r.map numV)) := by
  obtain ⟨i, e⟩ := List.getElem?_of_mem m
  obtain ⟨a, r, e1, e2, e3⟩ := h.get e
  exact ⟨a, r, e1, List.mem_of_getElem? e2, e3⟩
theorem Rows.snoc {a : Addr} {r : List Nat} (ha : H a = some (.tup (r.map numV))) : ∀ {vs : List V} {rs : List (List Nat)}, Rows H vs rs → Rows H (vs ++ [.ref a]) (rs ++ [r])
  | _, _, .nil => .cons ha .nil
  | _, _, .cons h t => .cons h (Rows.snoc ha t)
theorem Rows.perm {ws vs : List V} (p : ws.Perm vs) : ∀ {rs : List (List Nat)}, Rows H ws rs → ∃ ss : List (List Nat), rs.Perm ss ∧ Rows H vs ss := by
  induction p with
  | nil =>
    intro rs h
    exact ⟨rs, .refl _, h⟩
  | cons x _ ih =>
    intro rs h
    cases h with
    | cons h t =>
      obtain ⟨ss, p1, r1⟩ := ih t
      exact ⟨_ :: ss, p1.cons _, .cons h r1⟩
  | swap x y l =>
    intro rs h
    cases h with
    | cons h t =>
      cases t with
      | cons h2 t2 => exact ⟨_, .swap _ _ _, .cons h2 (.cons h t2)⟩
  | trans _ _ ih1 ih2 =>
    intro rs h
    obtain ⟨ss, p1, r1⟩ := ih1 h
    obtain ⟨ts, p2, r2⟩ := ih2 r1
    exact ⟨ts, p1.trans p2, r2⟩
/-! ### rows compared -/
abbrev numD (n : Nat) : PyData := .int (n : Int)
abbrev rowD (r : List Nat) : PyData := .tuple (r.map numD)
theorem dp_nums : ∀ r : List Nat, DpAll K H (r.map numV) (r.map numD)
  | [] => .nil
  | n :: r => .cons (.int _) (dp_nums r)
theorem Rows.dp : ∀ {vs : List V} {rs : List (List Nat)}, Rows H vs rs → DpAll K H vs (rs.map rowD)
  | _, _, .nil => .nil
  | _, _, .cons h t => .cons (.tup (SqT.of h) (dp_nums _)) (Rows.dp t)
theorem lay_nums (r : List Nat) : ∀ d ∈ r.map numD, Lay 0 d := fun d m => by
  obtain ⟨k, _, rfl⟩ := List.mem_map.mp m
  exact .int _ _
theorem lay_row (r : List Nat) : Lay 1 (rowD r) := .tuple (lay_nums r)
theorem lay_rows (rs : List (List Nat)) : Lay 2 (.list (rs.map rowD)) := .list fun d m => by
  obtain ⟨k, _, rfl⟩ := List.mem_map.mp m
  exact lay_row k
theorem eqv_nums : ∀ r q : List Nat, PyData.eqvAll (r.map numD) (q.map numD) = decide (r = q)
  | [], [] => rfl
  | [], _ :: _ => rfl
  | _ :: _, [] => rfl
  | n :: r, m :: q => by
    have ih := eqv_nums r q
    show (((n : Int) == (m : Int)) && PyData.eqvAll (r.map numD) (q.map numD)) = _
    rw [ih]
    by_cases e : n = m
    · subst e
      rw [beq_self_eq_true, Bool.true_and]
      by_cases g : r = q
      · rw [decide_eq_true g, decide_eq_true (by rw [g])]
      · rw [decide_eq_false g, decide_eq_false (fun z => g (List.cons.inj z).2)]
    · rw [show ((n : Int) == (m : Int)) = false from beq_eq_false_iff_ne.mpr (fun z => e (Int.ofNat.inj z)), Bool.false_and, decide_eq_false (fun z => e (List.cons.inj z).1)]
theorem eqv_row (r q : List Nat) : PyData.eqv (rowD r) (rowD q) = decide (r = q) := eqv_nums r q
theorem eqv_rows_any (rs : List (List Nat)) (q : List Nat) : ((rs.map rowD).any fun z => PyData.eqv z (rowD q)) = decide (q ∈ rs) := by
  rw [Bool.eq_iff_iff, List.any_eq_true, decide_eq_true_eq]
  constructor
  · rintro ⟨d, m, e⟩
    obtain ⟨r, mr, rfl⟩ := List.mem_map.mp m
    rw [eqv_row, decide_eq_true_eq] at e
    rw [← e]
    exact mr
  · intro m
    exact ⟨rowD q, List.mem_map.mpr ⟨q, m, rfl⟩, by rw [eqv_row]; exact decide_eq_true rfl⟩
end
/-! ### gaps -/
/-- what hangs behind the first c things of a point -/
def hang (rs : List (List Nat)) (c : Nat) (pt : List Nat) : List Nat := (rs.filter fun r => decide (r.take c = pt.take c)).map fun r => r.getD c 0
theorem mem_hang {rs : List (List Nat)} {c : Nat} {pt : List Nat} {n : Nat} : n ∈ hang rs c pt ↔ ∃ r ∈ rs, r.take c = pt.take c ∧ r.getD c 0 = n := by
  unfold hang
  rw [List.mem_map]
  constructor
  · rintro ⟨r, m, e⟩
    obtain ⟨m1, m2⟩ := List.mem_filter.mp m
    exact ⟨r, m1, of_decide_eq_true m2, e⟩
  · rintro ⟨r, m, e1, e2⟩
    exact ⟨r, List.mem_filter.mpr ⟨m, decide_eq_true e1⟩, e2⟩
/-- the gap parts from the rows at place i, behind k signs -/
structure GapAt (rs : List (List Nat)) (pt : List Nat) (i k : Nat) : Prop where
  lt : i < pt.length
  before : ∀ j, j < i → pt.getD j 0 ∈ hang rs j pt
  few : k < 6
  yes : ∀ m ∈ hang rs i pt, beginsB (fig m) (tk (fig (pt.getD i 0)) k) = false
  no : ∀ j, j < k → ∃ m ∈ hang rs i pt, beginsB (fig m) (tk (fig (pt.getD i 0)) j) = true
def gapBox (pt : List Nat) (i k : Nat) : List Str := ((pt.take i).map fig ++ [tk (fig (pt.getD i 0)) k]) ++ List.replicate (pt.length - i - 1) ("" : Str)
theorem sfree_iff {n : Nat} {ms : List Nat} {k : Nat} : sfree n ms k = true ↔ ∀ m ∈ ms, beginsB (fig m) (tk (fig n) k) = false := by
  unfold sfree
  rw [Bool.not_eq_true', ← Bool.not_eq_true, List.any_eq_true]
  constructor
  · intro h m mm
    rw [← Bool.not_eq_true]
    exact fun e => h ⟨m, mm, e⟩
  · rintro h ⟨m, mm, e⟩
    rw [h m mm] at e
    cases e
theorem sfree_not {n : Nat} {ms : List Nat} {k : Nat} : sfree n ms k = false ↔ ∃ m ∈ ms, beginsB (fig m) (tk (fig n) k) = true := by
  unfold sfree
  rw [Bool.not_eq_false', List.any_eq_true]
theorem begins_tk (z : Str) {k : Nat} (h : k ≤ z.length) : beginsB z (tk z k) = true := by
  unfold beginsB
  rw [tk_len, Nat.min_eq_left h]
  exact decide_eq_true rfl
theorem own_begins (n : Nat) {k : Nat} (h : k < 6) : beginsB (fig n) (tk (fig n) k) = true := begins_tk _ (by rw [fig_len]; omega)
theorem GapAt.out {rs : List (List Nat)} {pt : List Nat} {i k : Nat} (g : GapAt rs pt i k) : pt.getD i 0 ∉ hang rs i pt := fun m => by
  have := g.yes _ m
  rw [own_begins _ g.few] at this
  cases this
theorem GapAt.one {rs : List (List Nat)} {pt : List Nat} {i k i' k' : Nat} (g : GapAt rs pt i k) (g' : GapAt rs pt i' k') : i = i' ∧ k = k' := by
  have e : i = i' := by
    rcases Nat.lt_trichotomy i i' with h | h | h
    · exact absurd (g'.before i h) g.out
    · exact h
    · exact absurd (g.before i' h) g'.out
  subst e
  refine ⟨rfl, ?_⟩
  rcases Nat.lt_trichotomy k k' with h | h | h
  · obtain ⟨m, mm, q⟩ := g'.no k h
    rw [g.yes m mm] at q
    cases q
  · exact h
  · obtain ⟨m, mm, q⟩ := g.no k' h
    rw [g'.yes m mm] at q
    cases q
theorem hang_perm {rs ss : List (List Nat)} (p : rs.Perm ss) {c : Nat} {pt : List Nat} {n : Nat} : n ∈ hang rs c pt ↔ n ∈ hang ss c pt := by
  rw [mem_hang, mem_hang]
  constructor
  · rintro ⟨r, m, q⟩
    exact ⟨r, p.mem_iff.mp m, q⟩
  · rintro ⟨r, m, q⟩
    exact ⟨r, p.mem_iff.mpr m, q⟩
theorem GapAt.perm {rs ss : List (List Nat)} (p : rs.Perm ss) {pt : List Nat} {i k : Nat} (g : GapAt rs pt i k) : GapAt ss pt i k :=
  ⟨g.lt, fun j h => (hang_perm p).mp (g.before j h), g.few, fun m h => g.yes m ((hang_perm p).mpr h), fun j h => let ⟨m, a, b⟩ := g.no j h; ⟨m, (hang_perm p).mp a, b⟩⟩
theorem hang_snoc {rs : List (List Nat)} {c j : Nat} {pt r : List Nat} (h : rs[j]? = some r) : hang (rs.take (j + 1)) c pt = hang (rs.take j) c pt ++ if r.take c = pt.take c then [r.getD c 0] else [] := by
  unfold hang
  rw [List.take_add_one, h, Option.toList_some, List.filter_append, List.map_append]
  congr 1
  by_cases e : r.take c = pt.take c
  · simp [e]
  · simp [e]
theorem hang_len (rs : List (List Nat)) (c : Nat) (pt : List Nat) : (hang rs c pt).length ≤ rs.length := by
  unfold hang
  rw [List.length_map]
  exact List.length_filter_le _ _
theorem nat_ints (ms : List Nat) : ms.map numV = (ms.map Int.ofNat).map V.int := by
  rw [List.map_map]
  rfl
theorem ints_nat : ∀ {ms ks : List Nat}, ms.map Int.ofNat = ks.map Int.ofNat → ms = ks
  | [], [], _ => rfl
  | [], _ :: _, h => by cases h
  | _ :: _, [], h => by cases h
  | m :: ms, k :: ks, h => by
    rw [List.map_cons, List.map_cons] at h
    injection h with h1 h2
    rw [Int.ofNat.inj h1, ints_nat h2]
theorem getD_of {α : Type} {l : List α} {i : Nat} {x d : α} (h : l[i]? = some x) : l.getD i d = x := by
  rw [List.getD_eq_getElem?_getD, h]
  rfl
theorem getD_get {α : Type} {l : List α} {i : Nat} {d : α} (h : i < l.length) : l[i]? = some (l.getD i d) := by
  rw [List.getD_eq_getElem?_getD, List.getElem?_eq_getElem h]
  rfl
end VQ
namespace VQ
open PySem L2 LamX
abbrev sGap : Stmt := top 19
theorem rd_rep {K : PySem.W.Frag} {H : Hp} {p : Addr} {x : V} {n : Nat} {Q : VK} (hp : H p = some (.tup [x])) (n2 : n ≤ 1000) (k : ∀ (q : Addr) (H' : Hp), Same H H' → H' q = some (.tup (List.replicate n x)) → Q (.ref q) H') : rTimes0 K (.ref p) (.int (n : Int)) H Q := by
  refine ⟨p, n, [x], rfl, rfl, SqT.of hp, by simp, by omega, by omega, by show 1 ≤ 1000; decide, fun e => ?_, fun _ q hq => ?_⟩
  · have e' : n = 1 := by omega
    subst e'
    exact k p _ (Same.refl H) hp
  · refine k q _ (same_new hq) ?_
    rw [upd_same, flat_one]
    rfl
section
variable {P : Program} {w : World} {K : PySem.W.Frag} {mg : Str → Option Value} {base : Heap}
def spWhole0 : Sp := fun vs H Q _ => ∃ n : Nat, vs = [.int (n : Int)] ∧ n ≤ 1000 ∧ ∀ (p : Addr) (H' : Hp), Same H H' → H' p = some (.tup (List.replicate n (.str ""))) → Q (.ref p) H'
theorem ok_whole0 {f : Addr} {fd : FuncData} (F : Fun K "whole" "whole" sWhole f fd) : FnOk P w K mg base CX0 1 f fd ["many"] spWhole0 := by
  refine F.ok scWhole (fun vs H Q E h => ?_) (fun cdv A outer s H vs Q E hr h => ?_)
  · obtain ⟨n, rfl, _⟩ := h
    rfl
  · obtain ⟨n, rfl, h2, k⟩ := h
    refine ⟨_, pss_one (ps_ret (pe_op op_times0 (pe_tup (pa_cons pe_str pa_nil)) (pv 0))), ?_⟩
    exact ⟨by show 1 ≤ sizeLine; decide, fun p hp => ⟨_, rfl, rd_rep upd_same h2 fun q H' s' h' => k q H' ((same_new hp).trans s') h'⟩⟩
/-! ### the gap of rows about a point -/
/-- what is told: None where the point is a row, else the box -/
def GapRes (rs : List (List Nat)) (pt : List Nat) (H : Hp) (v : V) : Prop := (v = .non ∧ ∀ j, j < pt.length → pt.getD j 0 ∈ hang rs j pt) ∨ ∃ (q : Addr) (i k : Nat), v = .ref q ∧ GapAt rs pt i k ∧ H q = some (.tup ((gapBox pt i k).map V.str))
def spGapP : Sp := fun vs H Q _ => ∃ (l p : Addr) (us : List V) (rs : List (List Nat)) (pt : List Nat), vs = [.ref l, .ref p] ∧ H l = some (.lst us) ∧ Rows H us rs ∧ rs.length ≤ 1000 ∧ PtAt H p pt ∧ 1 ≤ pt.length ∧ (∀ r ∈ rs, r.length = pt.length ∧ ∀ n ∈ r, n < 32) ∧
  ∀ (v : V) (H' : Hp), Same H H' → GapRes rs pt H' v → Q v H'
theorem figs_one : ∀ m, m < 32 → ∀ n, n < 32 → tk (fig m) 5 = tk (fig n) 5 → m = n := by decide +kernel
theorem short_cases {n : Nat} {ms : List Nat} (ln : n < 32) (lm : ∀ m ∈ ms, m < 32) : (shortV n ms = .non ∧ n ∈ ms ∨ ∃ k, k < 6 ∧ shortV n ms = .str (tk (fig n) k) ∧ sfree n ms k = true ∧ ∀ j, j < k → sfree n ms j = false) := by
  have e : shortV n ms = if sfree n ms 0 = true then .str (tk (fig n) 0) else if sfree n ms 1 = true then .str (tk (fig n) 1) else if sfree n ms 2 = true then .str (tk (fig n) 2) else if sfree n ms 3 = true then .str (tk (fig n) 3) else if sfree n ms 4 = true then .str (tk (fig n) 4) else if sfree n ms 5 = true then .str (tk (fig n) 5) else .non := rfl
  have least : ∀ t : Nat, (∀ j, j < t → sfree n ms j = false) ∨ ∃ k, k < t ∧ sfree n ms k = true ∧ ∀ j, j < k → sfree n ms j = false := by
    intro t
    induction t with
    | zero => exact .inl fun j h => absurd h (Nat.not_lt_zero _)
    | succ t ih =>
      rcases ih with no | ⟨k, a, c, d⟩
      · cases q : sfree n ms t with
        | true => exact .inr ⟨t, Nat.lt_succ_self _, q, no⟩
        | false =>
          refine .inl fun j h => ?_
          by_cases g : j = t
          · rw [g]; exact q
          · exact no j (by omega)
      · exact .inr ⟨k, by omega, c, d⟩
  rcases least 6 with no | ⟨k, k6, yes, no⟩
  · refine .inl ⟨due_none no, ?_⟩
    obtain ⟨m, mm, q⟩ := sfree_not.mp (no 5 (by decide))
    have l5 : (tk (fig n) 5).length = 5 := by rw [tk_len, fig_len]; rfl
    have e1 : tk (fig m) 5 = tk (fig n) 5 := by
      have q' := of_decide_eq_true (show decide (tk (fig m) (tk (fig n) 5).length = tk (fig n) 5) = true from q)
      rw [l5] at q'
      exact q'
    rw [← figs_one m (lm m mm) n ln e1]
    exact mm
  · exact .inr ⟨k, k6, due_first no yes k6, yes, no⟩
abbrev nGap : List Str := ["rows", "point", "count", "worth", "beginning", "row"]
theorem scGap : FnScope nGap ["rows", "point"] (defScope sGap) := ⟨rfl, rfl, rfl, by decide +kernel, rfl, by decide +kernel, by decide +kernel⟩
theorem ok_gap {f fSh fBo fWh CW CP : Addr} {fd fdSh fdBo fdWh : FuncData} (F : Fun K "gap" "gap" sGap f fd) (b : Blt mg) (en : mg "enumerate" = none) (aSh : At K mg "shortest" sShortest ["worth", "worths"] fSh fdSh) (aBo : At K mg "box_of" sBoxOfP ["point"] fBo fdBo) (aWh : At K mg "whole" sWhole ["many"] fWh fdWh)
    (GSh : FnOk P w K mg base (L2.CX P w) 4 fSh fdSh ["worth", "worths"] (spShortest K CW)) (GBo : FnOk P w K mg base (L2.CX P w) 5 fBo fdBo ["point"] (spBoxOfP K CP)) : FnOk P w K mg base CX0 6 f fd ["rows", "point"] spGapP := by
  have GWh : FnOk P w K mg base CX0 1 fWh fdWh ["many"] spWhole0 := ok_whole0 aWh.fn
  refine F.ok scGap (fun vs H Q E h => ?_) (fun cdv A outer s H vs Q E hr h => ?_)
  · obtain ⟨l, p, us, rs, pt, rfl, _⟩ := h
    rfl
  · obtain ⟨l, p, us, rs, pt, rfl, hl, ro, lr, hp, p1, hrs, kg⟩ := h
    have k1 : ∀ (i k : Nat), GapAt rs pt i k → ∀ (q : Addr) (H' : Hp), Same H H' → H' q = some (.tup ((gapBox pt i k).map V.str)) → Q (.ref q) H' := fun i k G q H' s' h' => kg _ _ s' (.inr ⟨q, i, k, rfl, G, h'⟩)
    have k2 : (∀ j, j < pt.length → pt.getD j 0 ∈ hang rs j pt) → ∀ H', Same H H' → Q .non H' := fun all H' s' => kg _ _ s' (.inl ⟨rfl, all⟩)
    have hr1 : Room 1 _ := hr.mono (by decide)
    have hu : (A.deeper (PyProof.Rows.envOfC "gap" (defScope sGap) s.heap.objs.size f cdv)).units + 64 < cLine := hr.units
    refine ⟨_,
    (pss_cons (ps_for PassesOwn.never rfl (pi_enumT rfl en (pa_cons (pv 1) pa_nil)) (pg_tup rfl (pgs_cons (pg_name (i := 2) scGap.nd rfl (.inr rfl)) (pgs_cons (pg_name (i := 3) scGap.nd rfl (.inl rfl)) pgs_nil)))
      (pss_cons (ps_set (i := 4) scGap.nd rfl (.inl rfl) (pe_call GSh (hr.mono (by decide)) rfl aSh.gl aSh.fn.kp aSh.bd .nil passCX (pa_cons (pv 3) (pa_cons (pe_lc (own := [("row", 5)]) (g := (gName 5)) (tt := (tTest (tOp (rEqD K) (tSl (rSlA K) (tVar 5) tNoPart (tPart (tVar 2))) (tSl (rSlA K) (tVar 1) tNoPart (tPart (tVar 2)))))) (te := (tOp (rIxT K) (tVar 5) (tVar 2))) rfl scGap.nd (pi_list (pv 0)) (blkOk_by (N := nGap) (sc := defScope sGap) (by decide +kernel)) (fun _ _ _ _ _ => (pg_name (i := 5) scGap.nd rfl (.inl rfl))) (fun _ _ _ _ _ => pts_one (pt_cmpR (op_eqD hu) (pe_slice sl_tupA (pv 5) po_none (po_some (pv 2))) (pe_slice sl_tupA (pv 1) po_none (po_some (pv 2))) (nomark _))) (fun _ _ _ _ _ => (pe_ix ix_tup (pv 5) (pv 2) fun _ _ => rfl))) pa_nil))))
      (pss_one (ps_if (pt_cmpR op_notN (pv 4) pe_non (nomark _))
        (pss_one (ps_ret (pe_op op_catA (pe_op op_catA (pe_slice sl_tupA (pe_call GBo hr rfl aBo.gl aBo.fn.kp aBo.bd .nil passCX (pa_cons (pv 1) pa_nil)) po_none (po_some (pv 2))) (pe_tup (pa_cons (pv 4) pa_nil))) (pe_call GWh hr1 rfl aWh.gl aWh.fn.kp aWh.bd .nil pass0 (pa_cons (pe_op op_sub (pe_op op_sub (pe_callB call_len_seq (by rfl) b.len PySem.boot_len (pa_cons (pv 1) pa_nil)) (pv 2)) pe_int) pa_nil)))))
        pss_nil))))
    (pss_one (ps_ret pe_non))), ?_⟩
    refine ⟨_, rfl, p, _, rfl, SqT.of hp.1, ?_⟩
    refine for_enumT (xs := pt.map numV) (fun i σ H' => Same H H' ∧ (∀ j, j < i → pt.getD j 0 ∈ hang rs j pt) ∧ ∃ v2 v3 v4 v5 : Option V, σ = [some (.ref l), some (.ref p), v2, v3, v4, v5]) ⟨Same.refl H, (fun j hj => absurd hj (Nat.not_lt_zero _)), none, none, none, none, rfl⟩ (fun i σ H' q => SqT.of (q.1 _ _ hp.1)) ?_ ?_
    · rintro i x T σ H2 hx ⟨s2, no, v2, v3, v4, v5, rfl⟩ nT
      obtain ⟨n, en, rfl⟩ := num_get hx
      have li : i < pt.length := (List.getElem?_eq_some_iff.mp en).1
      have ln := hp.2.1 n (List.mem_of_getElem? en)
      have s3 := s2.trans (same_new (o := .tup [.int (i : Nat), numV n]) nT)
      refine ⟨T, _, rfl, SqT.of upd_same, rfl, _, _, rfl, _, _, rfl, rfl, ?_⟩
      refine ⟨_, rfl, _, rfl, l, rfl, ⟨_, SqL.of (s3 _ _ hl)⟩, fun D hD => ?_⟩
      have lus := ro.len
      refine lc_list (xs := us) (fun j H' => Same H H' ∧ H' D = some (.lst ((hang (rs.take j) i pt).map numV))) ⟨s3.trans (same_new hD), upd_same⟩ (fun j H' _ q => SqL.of (q.1 _ _ hl)) ?_ ?_
      · rintro j v H4 hv ⟨s4, h4⟩
        obtain ⟨ra, r, rfl, er, hra⟩ := ro.get hv
        have mr := List.mem_of_getElem? er
        have len := (hrs r mr).1
        refine ⟨rfl, ?_⟩
        refine ⟨_, rfl, _, rfl, _, rfl, rd_cut (s4 _ _ hra) fun q1 H5 t5 g1 => ?_⟩
        rw [cut_upto _ (by rw [List.length_map]; omega), ← List.map_take] at g1
        refine ⟨_, rfl, _, rfl, _, rfl, rd_cut (t5 _ _ (s4 _ _ hp.1)) fun q2 H6 t6 g2 => ?_⟩
        rw [cut_upto _ (by rw [List.length_map]; omega), ← List.map_take] at g2
        refine ⟨rowD (r.take i), rowD (pt.take i), .tup (SqT.of (t6 _ _ g1)) (dp_nums _), .tup (SqT.of g2) (dp_nums _), (lay_row _).shaped (by decide), (lay_row _).shaped (by decide), _, rfl, ?_⟩
        rw [eqv_row]
        have s6 := s4.trans (t5.trans t6)
        have h6 := (t5.trans t6) _ _ h4
        have sn := hang_snoc (c := i) (pt := pt) er
        by_cases e : r.take i = pt.take i
        · rw [decide_eq_true e]
          rw [if_pos e] at sn
          refine iteT ⟨_, rfl, _, rfl, ra, _, _, _, rfl, rfl, SqT.of (s6 _ _ hra), atI_nat (j := i) (v := numV (r.getD i 0)) (by rw [List.getElem?_map, getD_get (d := 0) (by omega)]; rfl), _, h6, ?_, ?_, ?_⟩
          · rw [List.length_map]
            refine Nat.lt_of_le_of_lt (Nat.le_trans (hang_len _ _ _) ?_) (show 1000 < sizeLine by decide)
            rw [List.length_take]
            omega
          · intro q o z'
            rw [upd_ne (fun y => by rw [y, s3.free hD] at z'; cases z')]
            exact s6 _ _ z'
          · rw [upd_same, sn, List.map_append]
            rfl
        · rw [decide_eq_false e]
          rw [if_neg e, List.append_nil] at sn
          refine iteF ⟨s6, ?_⟩
          rw [sn]
          exact h6
      · rintro H4 ⟨s4, h4⟩
        rw [lus, List.take_of_length_le (Nat.le_refl _)] at h4
        have hms : ∀ m ∈ hang rs i pt, m < 32 := fun m mm => by
          obtain ⟨r, mr, _, e⟩ := mem_hang.mp mm
          obtain ⟨a1, a2⟩ := hrs r mr
          rw [← e]
          exact a2 _ (List.mem_of_getElem? (getD_get (by omega)))
        have noBad : ¬ (NoW (n : Int) ∨ ∃ y ∈ (hang rs i pt).map Int.ofNat, NoW y) := by
          rintro (q | ⟨y, my, q⟩)
          · exact q (by omega)
          · obtain ⟨m, mm, rfl⟩ := List.mem_map.mp my
            have := hms m mm
            exact q ⟨Int.natCast_nonneg _, by show ((m : Nat) : Int) < 32; omega⟩
        refine ⟨(n : Int), D, (hang rs i pt).map Int.ofNat, rfl, by rw [h4, nat_ints], by rw [List.length_map]; exact Nat.le_trans (hang_len _ _ _) lr, fun n' ms en' _ em _ H5 s5 => ?_, fun bad => absurd bad noBad⟩
        have en' : n = n' := Int.ofNat.inj en'
        have em := ints_nat em
        subst en' em
        have s45 := s4.trans s5
        have gd : pt.getD i 0 = n := getD_of en
        refine ⟨_, rfl, rfl, _, rfl, ?_⟩
        rcases short_cases (n := n) (ms := hang rs i pt) ln hms with ⟨e, mem⟩ | ⟨k, k6, e, yes, none'⟩
        · rw [e]
          refine iteF ⟨s45, fun j hj => ?_, _, _, _, _, rfl⟩
          by_cases g : j = i
          · rw [g, gd]
            exact mem
          · exact no j (by omega)
        · rw [e]
          refine iteT ?_
          have G : GapAt rs pt i k := ⟨li, no, k6, by rw [gd]; exact sfree_iff.mp yes, fun j hj => by rw [gd]; exact sfree_not.mp (none' j hj)⟩
          have kk := k1 i k G
          have hp5 := hp.same s45
          refine ⟨_, rfl, .ref p, some (pt.map numV), rfl, hp5.thing, fun ns ee _ q1 H6 f6 s6 h6 => ?_, fun no' => ?_⟩
          · have ee := nums_inj (Option.some.inj ee)
            subst ee
            refine ⟨_, rfl, _, rfl, rd_cut h6 fun q2 H7 s7 h7 => ?_⟩
            rw [cut_upto _ (by rw [List.length_map, List.length_map]; omega), ← List.map_take, ← List.map_take] at h7
            refine ⟨_, rfl, by show 1 ≤ sizeLine; decide, fun q3 f3 => ?_⟩
            have t8 := same_new (o := HO.tup [V.str (tk (fig n) k)]) f3
            have l5 := hp.2.2
            refine rd_cat (t8 _ _ h7) upd_same (by rw [List.length_map, List.length_map, List.length_take]; show _ + 1 ≤ 1000; omega) fun q4 H8 t9 h8 => ?_
            have s8 := s45.trans (s6.trans (s7.trans (t8.trans t9)))
            have ec : (((pt.map numV).length : Nat) : Int) - (i : Int) - 1 = ((pt.length - i - 1 : Nat) : Int) := by
              rw [List.length_map]
              omega
            refine ⟨_, rfl, p, _, rfl, .inr (SqT.of (s8 _ _ hp.1)), _, rfl, _, _, rfl, rfl, _, _, rfl, rfl, pt.length - i - 1, congrArg (fun t : Int => [V.int t]) ec, by omega, fun q5 H9 t10 h9 => ?_⟩
            refine rd_cat (t10 _ _ h8) h9 ?_ fun q6 H10 t11 h10 => ?_
            · rw [List.length_append, List.length_map, List.length_map, List.length_take, List.length_replicate]
              show _ + 1 + _ ≤ 1000
              omega
            · refine kk q6 H10 (s8.trans (t10.trans t11)) ?_
              rw [h10]
              unfold gapBox
              rw [gd, List.map_append, List.map_append, List.map_replicate]
              rfl
          · rw [point_allO (hp.is p1)] at no'
            cases no'
    · rintro σ H2 ⟨s2, no, _⟩
      rw [List.length_map] at no
      exact k2 no H2 s2
end
end VQ
namespace VQ
open PySem L2 LamX
abbrev sLawMixed : Stmt := top 24
abbrev sLawRows : Stmt := top 30
abbrev sLawPointNear : Stmt := top 33
abbrev rLen (K : PySem.W.Frag) : List V → Hp → VK → Prop := fun xs H Q => ∃ p ys, xs = [.ref p] ∧ (SqL K H p ys ∨ SqT K H p ys) ∧ Q (.int ys.length) H
theorem erase_perm : ∀ {ls : List V} {j : Nat} {y : V}, ls[j]? = some y → (y :: ls.eraseIdx j).Perm ls
  | [], _, _, h => by cases h
  | x :: ls, 0, y, h => by
    cases h
    exact .refl _
  | x :: ls, j + 1, y, h => ((List.Perm.swap x y _)).trans ((erase_perm (ls := ls) h).cons x)
theorem Rows.moved {H H' : Hp} (s : ∀ (a : Addr) (xs : List V), H a = some (.tup xs) → H' a = some (.tup xs)) : ∀ {vs : List V} {rs : List (List Nat)}, Rows H vs rs → Rows H' vs rs
  | _, _, .nil => .nil
  | _, _, .cons h t => .cons (s _ _ h) (Rows.moved s t)
theorem nodup_snoc {α : Type} {l : List α} {x : α} (h : l.Nodup) (n : x ∉ l) : (l ++ [x]).Nodup := by
  rw [List.nodup_append]
  refine ⟨h, List.nodup_cons.mpr ⟨by simp, List.nodup_nil⟩, fun a ma b mb e => n ?_⟩
  rw [← List.mem_singleton.mp mb, ← e]
  exact ma
section
variable {P : Program} {w : World} {K : PySem.W.Frag} {mg : Str → Option Value} {base : Heap}
/-! ### a list in another order -/
def spMixed : Sp := fun vs H Q _ => ∃ (b p : Addr) (xs : List V), vs = [.ref b, .ref p] ∧ Bag H b ∧ p ≠ b ∧ H p = some (.lst xs) ∧ xs.length < 1000 ∧
  ∀ (q : Addr) (ys : List V) (H' : Hp), ys.Perm xs → H q = none → H' q = some (.lst ys) → Bag H' b → Keep b H H' → Q (.ref q) H'
abbrev nLawMixed : List Str := ["_law_bag_here", "_law_some", "_law_left", "_law_one"]
theorem scLawMixed : FnScope nLawMixed ["_law_bag_here", "_law_some"] (defScope sLawMixed) := ⟨rfl, rfl, rfl, by decide +kernel, rfl, by decide +kernel, by decide +kernel⟩
theorem ok_mixed {f fP : Addr} {fd fdP : FuncData} (F : Fun K "_law_mixed" "_law_mixed" sLawMixed f fd) (b : Blt mg) (aP : At K mg "_law_pull" sPull ["_law_bag_here", "_law_size"] fP fdP) : FnOk P w K mg base CX0 2 f fd ["_law_bag_here", "_law_some"] spMixed := by
  have GP : FnOk P w K mg base CX0 1 fP fdP ["_law_bag_here", "_law_size"] spPull := ok_pull aP.fn b.len
  refine F.ok scLawMixed (fun vs H Q E h => ?_) (fun cdv A outer s H vs Q E hr h => ?_)
  · obtain ⟨bg, p, xs, rfl, _⟩ := h
    rfl
  · obtain ⟨bg, p, xs, rfl, B, pb, hp, lx, k⟩ := h
    refine ⟨_,
    (pss_cons (ps_set (i := 2) scLawMixed.nd rfl (.inr rfl) (pe_callTy call_list_of (by rfl) b.list (by decide +kernel) (pa_cons (pv 1) pa_nil)))
    (pss_one (ps_ret (pe_lc (own := [("_law_one", 3)]) (g := (gName 3)) (tt := tYes) (te := (tBM K "list" rPopAt (tVar 2) (tCons (tCall spPull [] E0 (tCons (tVar 0) (tCons (tCB (rLen K) (tCons (tVar 2) tNil)) tNil))) tNil))) rfl scLawMixed.nd (pi_list (pv 1)) (blkOk_by (N := nLawMixed) (sc := defScope sLawMixed) (by decide +kernel)) (fun _ _ _ _ _ => (pg_name (i := 3) scLawMixed.nd rfl (.inl rfl))) (fun _ _ _ _ _ => pts_nil) (fun _ _ _ _ _ => (pe_bm PySem.F.plainAttrs_list PySem.F.slot_list_pop PySem.F.type_list_pop mt_popAt (pv 2) (pa_cons (pe_call GP hr rfl aP.gl aP.fn.kp aP.bd .nil pass0 (pa_cons (pv 0) (pa_cons (pe_callB call_len_seq (by rfl) b.len PySem.boot_len (pa_cons (pv 2) pa_nil)) pa_nil))) pa_nil))))))), ?_⟩
    refine ⟨_, rfl, p, _, rfl, .inl (SqL.of hp), fun L nL => ?_⟩
    obtain ⟨B1, K1⟩ := Bag.put (o := .lst xs) B nL (Keep.refl bg H) B
    have Lb : L ≠ bg := B.ne nL
    have pL : p ≠ L := ne_of_none hp nL
    refine ⟨_, rfl, p, rfl, ⟨_, SqL.of ((upd_ne pL).trans hp)⟩, fun D nD => ?_⟩
    have DL : D ≠ L := fun e => by
      rw [e, upd_same] at nD
      cases nD
    have nD0 : H D = none := K1.free B B1 nD
    have Db : D ≠ bg := B.ne nD0
    obtain ⟨B2, K2⟩ := Bag.put (o := .lst []) B nD0 K1 B1
    refine lc_list (xs := xs) (fun i H' => Bag H' bg ∧ Keep bg H H' ∧ ∃ ls acc : List V, H' L = some (.lst ls) ∧ H' D = some (.lst acc) ∧ (acc ++ ls).Perm xs ∧ ls.length + i = xs.length) ⟨B2, K2, xs, [], (upd_ne DL.symm).trans upd_same, upd_same, .refl _, rfl⟩ (fun i H' _ q => SqL.of (q.2.1.1 _ _ pb hp)) ?_ ?_
    · rintro i v H3 hv ⟨B3, K3, ls, acc, h3, g3, pm, ln⟩
      have li : i < xs.length := (List.getElem?_eq_some_iff.mp hv).1
      refine ⟨rfl, yes_turn ?_⟩
      refine ⟨_, rfl, .inl ⟨rfl, _, SqL.of h3⟩, _, rfl, _, rfl, L, _, rfl, .inl (SqL.of h3), bg, _, rfl, B3, by omega, by omega, fun d H4 d0 d1 B4 k4 => ?_⟩
      obtain ⟨j, rfl⟩ := Int.eq_ofNat_of_zero_le d0
      have lj : j < ls.length := by omega
      have h4 := k4.1 _ _ Lb h3
      have g4 := k4.1 _ _ Db g3
      obtain ⟨j', e1, e2, lj', _⟩ := atI_get (atI_nat (List.getElem?_eq_getElem lj))
      generalize ls[j] = y at e2
      obtain ⟨B5, K5⟩ := Bag.put (o := .lst (ls.eraseIdx j')) B nL (K3.trans k4) B4
      obtain ⟨B6, K6⟩ := Bag.put (o := .lst (acc ++ [y])) B nD0 K5 B5
      have la : acc.length + ls.length = xs.length := by
        rw [← List.length_append]
        exact pm.length_eq
      refine ⟨L, ls, j, j', y, rfl, rfl, h4, by omega, by omega, e1, e2, acc, (upd_ne DL).trans g4, Nat.lt_of_le_of_lt (show acc.length ≤ 1000 by omega) (by decide), B6, K6, ls.eraseIdx j', acc ++ [y], (upd_ne DL.symm).trans upd_same, upd_same, ?_, ?_⟩
      · rw [List.append_assoc]
        refine (List.Perm.append_left acc ?_).trans pm
        exact erase_perm e2
      · rw [List.length_eraseIdx_of_lt lj']
        omega
    · rintro H3 ⟨B3, K3, ls, acc, h3, g3, pm, ln⟩
      have e : ls = [] := List.eq_nil_of_length_eq_zero (by omega)
      subst e
      rw [List.append_nil] at pm
      exact k D acc H3 pm nD0 g3 B3 K3
/-! ### rows drawn -/
def spRows : Sp := fun vs H Q _ => ∃ (b : Addr) (wd mo : Nat), vs = [.ref b, .int (wd : Int), .int (mo : Int)] ∧ Bag H b ∧ wd ≤ 5 ∧ mo ≤ 500 ∧
  ∀ (l : Addr) (us : List V) (rs : List (List Nat)) (H' : Hp), H l = none → H' l = some (.lst us) → Rows H' us rs → rs.length ≤ mo → (∀ r ∈ rs, r.length = wd ∧ ∀ n ∈ r, n < 32) → rs.Nodup → Bag H' b → Keep b H H' → Q (.ref l) H'
abbrev nLawRows : List Str := ["_law_bag_here", "_law_width", "_law_most", "_law_found", "_law_few", "_law_k", "_law_row", "_law_at"]
theorem scLawRows : FnScope nLawRows ["_law_bag_here", "_law_width", "_law_most"] (defScope sLawRows) := ⟨rfl, rfl, rfl, by decide +kernel, rfl, by decide +kernel, by decide +kernel⟩
theorem ok_rows {f fP fO fW : Addr} {fd fdP fdO fdW : FuncData} (F : Fun K "_law_rows" "_law_rows" sLawRows f fd) (b : Blt mg) (aP : At K mg "_law_pull" sPull ["_law_bag_here", "_law_size"] fP fdP) (aO : At K mg "_law_of" sOf ["_law_bag_here", "_law_some"] fO fdO) (aW : At K mg "_law_worth" sWorth ["_law_bag_here"] fW fdW) :
    FnOk P w K mg base CX0 4 f fd ["_law_bag_here", "_law_width", "_law_most"] spRows := by
  have GP : FnOk P w K mg base CX0 1 fP fdP ["_law_bag_here", "_law_size"] spPull := ok_pull aP.fn b.len
  have GO : FnOk P w K mg base CX0 2 fO fdO ["_law_bag_here", "_law_some"] (spOf K) := ok_of aO.fn b.len aP
  have GW : FnOk P w K mg base CX0 3 fW fdW ["_law_bag_here"] (spDraw fun i => 0 ≤ i ∧ i < 32) := ok_worth aW.fn b.len aP aO
  refine F.ok scLawRows (fun vs H Q E h => ?_) (fun cdv A outer s H vs Q E hr h => ?_)
  · obtain ⟨bg, wd, mo, rfl, _⟩ := h
    rfl
  · obtain ⟨bg, wd, mo, rfl, B, lw, lm, k⟩ := h
    have hr1 : Room 1 _ := hr.mono (by decide)
    have hr2 : Room 2 _ := hr.mono (by decide)
    have hu : (A.deeper (PyProof.Rows.envOfC "_law_rows" (defScope sLawRows) s.heap.objs.size f cdv)).units + 65 < cLine := by
      have := hr.un
      omega
    refine ⟨_,
    (pss_cons (ps_set (i := 3) scLawRows.nd rfl (.inl rfl) (pe_lst pa_nil))
    (pss_cons (ps_set (i := 4) scLawRows.nd rfl (.inr rfl) (pe_lc (own := [("_law_k", 5)]) (g := (gName 5)) (tt := tYes) (te := (tCall (spDraw fun i => 0 ≤ i ∧ i < 32) [] E0 (tCons (tVar 0) tNil))) rfl scLawRows.nd (pi_range1 rfl b.range (pa_cons pe_int pa_nil)) (blkOk_by (N := nLawRows) (sc := defScope sLawRows) (by decide +kernel)) (fun _ _ _ _ _ => (pg_name (i := 5) scLawRows.nd rfl (.inl rfl))) (fun _ _ _ _ _ => pts_nil) (fun _ _ _ _ _ => (pe_call GW hr rfl aW.gl aW.fn.kp aW.bd .nil pass0 (pa_cons (pv 0) pa_nil)))))
    (pss_cons (ps_for PassesOwn.never rfl (pi_range1 rfl b.range (pa_cons (pe_call GP hr1 rfl aP.gl aP.fn.kp aP.bd .nil pass0 (pa_cons (pv 0) (pa_cons (pe_op op_add (pv 2) pe_int) pa_nil))) pa_nil)) (pg_name (i := 5) scLawRows.nd rfl (.inl rfl))
      (pss_cons (ps_set (i := 6) scLawRows.nd rfl (.inl rfl) (pe_callTy call_tuple_of (by rfl) b.tuple (by decide +kernel) (pa_cons (pe_lc (own := [("_law_at", 7)]) (g := (gName 7)) (tt := tYes) (te := (tCall (spOf K) [] E0 (tCons (tVar 0) (tCons (tLst (tCons (tCall (spOf K) [] E0 (tCons (tVar 0) (tCons (tVar 4) tNil))) (tCons (tCall (spDraw fun i => 0 ≤ i ∧ i < 32) [] E0 (tCons (tVar 0) tNil)) tNil))) tNil)))) rfl scLawRows.nd (pi_range1 rfl b.range (pa_cons (pv 1) pa_nil)) (blkOk_by (N := nLawRows) (sc := defScope sLawRows) (by decide +kernel)) (fun _ _ _ _ _ => (pg_name (i := 7) scLawRows.nd rfl (.inl rfl))) (fun _ _ _ _ _ => pts_nil) (fun _ _ _ _ _ => (pe_call GO hr2 rfl aO.gl aO.fn.kp aO.bd .nil pass0 (pa_cons (pv 0) (pa_cons (pe_lst (pa_cons (pe_call GO hr2 rfl aO.gl aO.fn.kp aO.bd .nil pass0 (pa_cons (pv 0) (pa_cons (pv 4) pa_nil))) (pa_cons (pe_call GW hr rfl aW.gl aW.fn.kp aW.bd .nil pass0 (pa_cons (pv 0) pa_nil)) pa_nil))) pa_nil))))) pa_nil)))
      (pss_one (ps_if (pt_cmpR (op_notInD hu) (pv 6) (pv 3) rfl)
        (pss_one (ps_expr (pe_bm PySem.F.plainAttrs_list PySem.F.slot_list_append PySem.F.type_list_append mt_append (pv 3) (pa_cons (pv 6) pa_nil))))
        pss_nil))))
    (pss_one (ps_ret (pv 3)))))), ?_⟩
    refine ⟨by show 0 ≤ sizeLine; decide, fun l nl => ?_⟩
    obtain ⟨B1, K1⟩ := Bag.put (o := .lst []) B nl (Keep.refl bg H) B
    have lb : l ≠ bg := B.ne nl
    refine ⟨4, rfl, by decide, by decide, fun D nD => ?_⟩
    have nD0 : H D = none := K1.free B B1 nD
    have Db : D ≠ bg := B.ne nD0
    have lD : l ≠ D := fun e => by
      rw [← e, upd_same] at nD
      cases nD
    obtain ⟨B2, K2⟩ := Bag.put (o := .lst []) B nD0 K1 B1
    refine lc_range (lo := 0) (n := 4) (fun i H' => Bag H' bg ∧ Keep bg H H' ∧ H' l = some (.lst []) ∧ ∃ xs : List V, xs.length = i ∧ (∀ x ∈ xs, IsW x) ∧ H' D = some (.lst xs)) ⟨B2, K2, (upd_ne lD).trans upd_same, [], rfl, (fun x m => by cases m), upd_same⟩ ?_ ?_
    · rintro i H3 hi ⟨B3, K3, h3, xs, el, ex, g3⟩
      refine ⟨rfl, yes_turn ?_⟩
      refine ⟨_, rfl, bg, rfl, B3, fun z H4 hz B4 K4 => ?_⟩
      obtain ⟨B5, K5⟩ := Bag.put (o := .lst (xs ++ [.int z])) B nD0 (K3.trans K4) B4
      refine ⟨_, K4.1 _ _ Db g3, by rw [el]; exact Nat.lt_of_lt_of_le (show i < 6 by omega) (by decide), B5, K5, (upd_ne lD).trans (K4.1 _ _ lb h3), _, by rw [List.length_append, el]; rfl, fun x m => ?_, upd_same⟩
      rcases List.mem_append.mp m with m | m
      · exact ex x m
      · obtain ⟨nz, rfl⟩ := Int.eq_ofNat_of_zero_le hz.1
        exact ⟨nz, List.mem_singleton.mp m, by omega⟩
    · rintro H3 ⟨B3, K3, h3, fs, el, ex, g3⟩
      refine ⟨_, rfl, _, rfl, _, _, rfl, rfl, bg, _, rfl, B3, by omega, by omega, fun d H4 d0 d1 B4 K4 => ?_⟩
      obtain ⟨tn, rfl⟩ := Int.eq_ofNat_of_zero_le d0
      refine ⟨tn, rfl, by omega, by omega, for_range (lo := 0) (n := tn) (fun i σ H' => Bag H' bg ∧ Keep bg H H' ∧ H' D = some (.lst fs) ∧ ∃ (us : List V) (rs : List (List Nat)) (v5 v6 v7 : Option V), σ = [some (.ref bg), some (.int (wd : Int)), some (.int (mo : Int)), some (.ref l), some (.ref D), v5, v6, v7] ∧ H' l = some (.lst us) ∧ Rows H' us rs ∧ rs.length ≤ i ∧ (∀ r ∈ rs, r.length = wd ∧ ∀ n ∈ r, n < 32) ∧ rs.Nodup)
        ⟨B4, K3.trans K4, K4.1 _ _ Db g3, [], [], none, none, none, rfl, K4.1 _ _ lb h3, .nil, Nat.le_refl _, (fun r m => by cases m), List.nodup_nil⟩ ?_ ?_⟩
      · rintro i σ H5 hi ⟨B5, K5, g5, us, rs, v5, v6, v7, rfl, h5, ro, lr, hrs, nd⟩
        refine ⟨_, rfl, wd, rfl, by omega, by omega, fun C nC => ?_⟩
        have Cb : C ≠ bg := B5.ne nC
        obtain ⟨B6, K6⟩ := Bag.put (o := .lst []) B5 nC (Keep.refl bg H5) B5
        refine lc_range (lo := 0) (n := wd) (fun j H' => Bag H' bg ∧ Keep bg H5 H' ∧ ∃ xs : List V, xs.length = j ∧ (∀ x ∈ xs, IsW x) ∧ H' C = some (.lst xs)) ⟨B6, K6, [], rfl, (fun x m => by cases m), upd_same⟩ ?_ ?_
        · rintro j H7 hj ⟨B7, K7, xs, lx, hx, c7⟩
          refine ⟨rfl, yes_turn ?_⟩
          refine ⟨_, rfl, _, rfl, _, rfl, bg, D, fs, rfl, B7, Db, SqL.of (K7.1 _ _ Db g5), by omega, by omega, fun v H8 mv B8 K8 => ?_⟩
          refine ⟨_, rfl, bg, rfl, B8, fun z H9 hz B9 K9 => ⟨by show 2 ≤ sizeLine; decide, fun q nq => ?_⟩⟩
          have sm := same_new (o := HO.lst [v, .int z]) nq
          refine ⟨bg, q, _, rfl, B9.same sm, B9.ne nq, SqL.of upd_same, by show 1 ≤ 2; decide, by show 2 < 1000; decide, fun y H10 my B10 K10 => ?_⟩
          have K79 := (K7.trans (K8.trans K9)).trans ((Same.keep sm).trans K10)
          have yw : IsW y := by
            rcases List.mem_cons.mp my with rfl | my
            · exact ex _ mv
            · obtain ⟨nz, rfl⟩ := Int.eq_ofNat_of_zero_le hz.1
              exact ⟨nz, List.mem_singleton.mp my, by omega⟩
          obtain ⟨B11, K11⟩ := Bag.put (o := .lst (xs ++ [y])) B5 nC K79 B10
          have c10 := K10.1 _ _ Cb (sm _ _ (K9.1 _ _ Cb (K8.1 _ _ Cb c7)))
          refine ⟨_, c10, by rw [lx]; exact Nat.lt_of_lt_of_le (show j < 6 by omega) (by decide), B11, K11, _, by rw [List.length_append, lx]; rfl, fun x m => ?_, upd_same⟩
          rcases List.mem_append.mp m with m | m
          · exact hx x m
          · rw [List.mem_singleton.mp m]
            exact yw
        · rintro H7 ⟨B7, K7, xs, lx, hx, c7⟩
          obtain ⟨r, rfl, hr32⟩ := worths_of hx
          rw [List.length_map] at lx
          refine ⟨C, _, rfl, .inl ⟨SqL.of c7, fun q nq => ?_⟩⟩
          have nq0 : H5 q = none := K7.free B5 B7 nq
          obtain ⟨B8, K8⟩ := Bag.put (o := .tup (r.map numV)) B5 nq0 K7 B7
          have h8 := K8.1 _ _ lb h5
          have ro8 := ro.keep B5 K8
          have g8 := K8.1 _ _ Db g5
          refine ⟨_, rfl, _, rfl, rowD r, rs.map rowD, .tup (SqT.of upd_same) (dp_nums _), .lst (SqL.of h8) ro8.dp, (lay_row _).shaped (by decide), (lay_rows _).shaped (by decide), _, rfl, ?_⟩
          rw [eqv_rows_any]
          by_cases e : r ∈ rs
          · rw [decide_eq_true e]
            exact iteF ⟨B8, K5.trans K8, g8, us, rs, _, _, _, rfl, h8, ro8, by omega, hrs, nd⟩
          · rw [decide_eq_false e]
            have nl0 : H l = none := nl
            obtain ⟨B9, K9⟩ := Bag.put (o := .lst (us ++ [.ref q])) B nl0 (K5.trans K8) B8
            have ql : q ≠ l := fun z => by
              rw [z, K7.1 _ _ lb h5] at nq
              cases nq
            have ro9 : Rows (upd (upd H7 q (.tup (r.map numV))) l (.lst (us ++ [.ref q]))) us rs := by
              refine Rows.moved (fun a o h => ?_) ro8
              by_cases z : a = l
              · rw [z, h8] at h
                cases h
              · exact (upd_ne z).trans h
            refine iteT ⟨_, rfl, .inl ⟨rfl, _, SqL.of h8⟩, _, rfl, l, _, _, rfl, rfl, h8, ?_, B9, K9, (upd_ne lD.symm).trans g8, us ++ [.ref q], rs ++ [r], _, _, _, rfl, upd_same, ro9.snoc ((upd_ne ql).trans upd_same), ?_, fun r' m => ?_, ?_⟩
            · rw [ro.len]
              exact Nat.lt_of_le_of_lt (show rs.length ≤ 1000 by omega) (by decide)
            · rw [List.length_append]
              show _ + 1 ≤ _
              omega
            · rcases List.mem_append.mp m with m | m
              · exact hrs r' m
              · rw [List.mem_singleton.mp m]
                exact ⟨lx, hr32⟩
            · exact nodup_snoc nd e
      · rintro σ H5 ⟨B5, K5, g5, us, rs, v5, v6, v7, rfl, h5, ro, lr, hrs, nd⟩
        exact ⟨_, rfl, k l us rs H5 nl h5 ro (by omega) hrs nd B5 K5⟩
end
end VQ
namespace VQ
open PySem L2 LamX
abbrev sLawHanging : Stmt := top 31
section
variable {P : Program} {w : World} {K : PySem.W.Frag} {mg : Str → Option Value} {base : Heap}
/-! ### a point near rows -/
def spNearPt : Sp := fun vs H Q _ => ∃ (b l : Addr) (wd : Nat) (us : List V) (rs : List (List Nat)), vs = [.ref b, .ref l, .int (wd : Int)] ∧ Bag H b ∧ l ≠ b ∧ H l = some (.lst us) ∧ Rows H us rs ∧ rs.length < 1000 ∧ wd ≤ 5 ∧ (∀ r ∈ rs, r.length = wd ∧ ∀ n ∈ r, n < 32) ∧
  ∀ (p : Addr) (pt : List Nat) (H' : Hp), H p = none → PtAt H' p pt → pt.length = wd → Bag H' b → Keep b H H' → Q (.ref p) H'
theorem xor_one : ∀ n : Nat, n < 32 → ∃ m : Nat, Builtin.bitXor (n : Int) 1 = (m : Int) ∧ m < 32 := by
  intro n h
  have e : ∀ n : Nat, n < 32 → 0 ≤ Builtin.bitXor (n : Int) 1 ∧ Builtin.bitXor (n : Int) 1 < 32 := by decide +kernel
  obtain ⟨a, c⟩ := e n h
  obtain ⟨m, q⟩ := Int.eq_ofNat_of_zero_le a
  exact ⟨m, q, by omega⟩
abbrev nLawPointNear : List Str := ["_law_bag_here", "_law_rows_here", "_law_width", "_law_row", "_law_found", "_law_k"]
theorem scLawPointNear : FnScope nLawPointNear ["_law_bag_here", "_law_rows_here", "_law_width"] (defScope sLawPointNear) := ⟨rfl, rfl, rfl, by decide +kernel, rfl, by decide +kernel, by decide +kernel⟩
theorem ok_nearpt {f fP fO fW fPt : Addr} {fd fdP fdO fdW fdPt : FuncData} (F : Fun K "_law_point_near" "_law_point_near" sLawPointNear f fd) (b : Blt mg) (aP : At K mg "_law_pull" sPull ["_law_bag_here", "_law_size"] fP fdP) (aO : At K mg "_law_of" sOf ["_law_bag_here", "_law_some"] fO fdO) (aW : At K mg "_law_worth" sWorth ["_law_bag_here"] fW fdW) (aPt : At K mg "_law_point" sPoint ["_law_bag_here", "_law_many"] fPt fdPt) :
    FnOk P w K mg base CX0 5 f fd ["_law_bag_here", "_law_rows_here", "_law_width"] spNearPt := by
  have GP : FnOk P w K mg base CX0 1 fP fdP ["_law_bag_here", "_law_size"] spPull := ok_pull aP.fn b.len
  have GO : FnOk P w K mg base CX0 2 fO fdO ["_law_bag_here", "_law_some"] (spOf K) := ok_of aO.fn b.len aP
  have GW : FnOk P w K mg base CX0 3 fW fdW ["_law_bag_here"] (spDraw fun i => 0 ≤ i ∧ i < 32) := ok_worth aW.fn b.len aP aO
  have GPt : FnOk P w K mg base CX0 4 fPt fdPt ["_law_bag_here", "_law_many"] (spTupDraw IsW) := ok_point aPt.fn b aW GW
  refine F.ok scLawPointNear (fun vs H Q E h => ?_) (fun cdv A outer s H vs Q E hr h => ?_)
  · obtain ⟨bg, l, wd, us, rs, rfl, _⟩ := h
    rfl
  · obtain ⟨bg, l, wd, us, rs, rfl, B, lb, hl, ro, lr, lw, hrs, k⟩ := h
    have hr1 : Room 1 _ := hr.mono (by decide)
    have hr2 : Room 2 _ := hr.mono (by decide)
    have hr3 : Room 3 _ := hr.mono (by decide)
    have hu : (A.deeper (PyProof.Rows.envOfC "_law_point_near" (defScope sLawPointNear) s.heap.objs.size f cdv)).units + 64 < cLine := hr.units
    refine ⟨_,
    (pss_cons (ps_if (PW.pt (pw_or (pt_cmpR (op_eqD hu) (pv 1) (pe_lst pa_nil) (nomark _)) (pw_or1 (pt_cmpR op_eq (pe_call GP hr1 rfl aP.gl aP.fn.kp aP.bd .nil pass0 (pa_cons (pv 0) (pa_cons pe_int pa_nil))) pe_int (nomark _)))))
      (pss_one (ps_ret (pe_call GPt hr rfl aPt.gl aPt.fn.kp aPt.bd .nil pass0 (pa_cons (pv 0) (pa_cons (pv 2) pa_nil)))))
      pss_nil)
    (pss_cons (ps_set (i := 3) scLawPointNear.nd rfl (.inl rfl) (pe_call GO hr2 rfl aO.gl aO.fn.kp aO.bd .nil pass0 (pa_cons (pv 0) (pa_cons (pv 1) pa_nil))))
    (pss_cons (ps_set (i := 4) scLawPointNear.nd rfl (.inl rfl) (pe_lst pa_nil))
    (pss_cons (ps_for PassesOwn.never rfl (pi_range1 rfl b.range (pa_cons (pv 2) pa_nil)) (pg_name (i := 5) scLawPointNear.nd rfl (.inl rfl))
      (pss_one (ps_expr (pe_bm PySem.F.plainAttrs_list PySem.F.slot_list_append PySem.F.type_list_append mt_append (pv 4) (pa_cons (pe_call GO hr2 rfl aO.gl aO.fn.kp aO.bd .nil pass0 (pa_cons (pv 0) (pa_cons (pe_lst (pa_cons (pe_ix ix_tup (pv 3) (pv 5) fun _ _ => rfl) (pa_cons (pe_ix ix_tup (pv 3) (pv 5) fun _ _ => rfl) (pa_cons (pe_ix ix_tup (pv 3) (pv 5) fun _ _ => rfl) (pa_cons (pe_op op_xor (pe_ix ix_tup (pv 3) (pv 5) fun _ _ => rfl) pe_int) (pa_cons (pe_call GW hr3 rfl aW.gl aW.fn.kp aW.bd .nil pass0 (pa_cons (pv 0) pa_nil)) pa_nil)))))) pa_nil))) pa_nil)))))
    (pss_one (ps_ret (pe_callTy call_tuple_of (by rfl) b.tuple (by decide +kernel) (pa_cons (pv 4) pa_nil)))))))), ?_⟩
    have drawn : ∀ (H1 : Hp), Bag H1 bg → Keep bg H H1 → spTupDraw IsW [.ref bg, .int (wd : Int)] H1 (fun v H' => Q v H') E0 := fun H1 B1 K1 => by
      refine ⟨bg, wd, rfl, B1, lw, fun p xs H2 lx hx np h2 B2 K2 => ?_⟩
      obtain ⟨pt, rfl, h32⟩ := worths_of hx
      rw [List.length_map] at lx
      exact k p pt H2 (K1.free B B1 np) ⟨h2, h32, by omega⟩ lx B2 (K1.trans K2)
    refine ⟨_, rfl, by show 0 ≤ sizeLine; decide, fun q nq => ?_⟩
    have s1 := same_new (o := HO.lst []) nq
    have B1 := B.same s1
    have K1 : Keep bg H (upd H q (.lst [])) := Same.keep s1
    refine ⟨.list (rs.map rowD), .list [], .lst (SqL.of (s1 _ _ hl)) (ro.same s1).dp, .lst (SqL.of upd_same) .nil, (lay_rows _).shaped (by decide), by decide +kernel, _, rfl, ?_⟩
    rw [eqv_nil]
    cases er : rs with
    | nil => exact ⟨_, rfl, _, rfl, drawn _ B1 K1⟩
    | cons r0 rt =>
      rw [← er]
      have ne : (rs.map rowD).isEmpty = false := by rw [er]; rfl
      have l1 : 1 ≤ us.length := by
        rw [ro.len, er]
        exact Nat.succ_le_succ (Nat.zero_le _)
      rw [ne]
      refine iteF ?_
      refine ⟨_, rfl, bg, 4, rfl, B1, by decide, by decide, fun d H2 _ _ B2 k2 => ⟨rfl, _, rfl, ?_⟩⟩
      have K2 := K1.trans k2
      refine ite2 (fun _ => ⟨_, rfl, _, rfl, drawn _ B2 K2⟩) (fun _ => ?_)
      refine ⟨_, rfl, _, rfl, bg, l, us, rfl, B2, lb, SqL.of (K2.1 _ _ lb hl), l1, by rw [ro.len]; exact lr, fun v H3 mv B3 k3 => ?_⟩
      have K3 := K2.trans k3
      obtain ⟨ra, r, rfl, mr, hra⟩ := ro.mem mv
      obtain ⟨len, h32⟩ := hrs r mr
      refine ⟨by show 0 ≤ sizeLine; decide, fun D nD => ?_⟩
      have nD0 : H D = none := K3.free B B3 nD
      have Db : D ≠ bg := B.ne nD0
      obtain ⟨B4, K4⟩ := Bag.put (o := .lst []) B nD0 K3 B3
      refine ⟨_, rfl, wd, rfl, by omega, by omega, for_range (lo := 0) (n := wd) (fun i σ H' => Bag H' bg ∧ Keep bg H H' ∧ ∃ (xs : List V) (v5 : Option V), σ = [some (.ref bg), some (.ref l), some (.int (wd : Int)), some (.ref ra), some (.ref D), v5] ∧ xs.length = i ∧ (∀ x ∈ xs, IsW x) ∧ H' D = some (.lst xs)) ⟨B4, K4, [], none, rfl, rfl, (fun x m => by cases m), upd_same⟩ ?_ ?_⟩
      · rintro i σ H5 hi ⟨B5, K5, xs, v5, rfl, lx, hx, h5⟩
        have r5 : H5 ra = some (.tup (r.map numV)) := K5.tup B hra
        have li : i < r.length := by omega
        have ln := h32 _ (List.mem_of_getElem? (getD_get (d := 0) li))
        have at5 : atI (r.map numV) (0 + (i : Int)) = some (numV (r.getD i 0)) := by
          rw [Int.zero_add]
          exact atI_nat (by rw [List.getElem?_map, getD_get (d := 0) li]; rfl)
        obtain ⟨m, em, lm⟩ := xor_one _ ln
        refine ⟨_, rfl, .inl ⟨rfl, _, SqL.of h5⟩, _, rfl, _, rfl, _, rfl, ra, _, _, _, rfl, rfl, SqT.of r5, at5, _, rfl, _, rfl, ra, _, _, _, rfl, rfl, SqT.of r5, at5, _, rfl, _, rfl, ra, _, _, _, rfl, rfl, SqT.of r5, at5, _, rfl, _, rfl, ra, _, _, _, rfl, rfl, SqT.of r5, at5, _, _, rfl, rfl, ?_⟩
        refine ⟨_, rfl, bg, rfl, B5, fun z H6 hz B6 k6 => ⟨by show 5 ≤ sizeLine; decide, fun q nq => ?_⟩⟩
        have sm := same_new (o := HO.lst [numV (r.getD i 0), numV (r.getD i 0), numV (r.getD i 0), .int (Builtin.bitXor ((r.getD i 0 : Nat) : Int) 1), .int z]) nq
        refine ⟨bg, q, _, rfl, B6.same sm, B6.ne nq, SqL.of upd_same, by show 1 ≤ 5; decide, by show 5 < 1000; decide, fun y H7 my B7 k7 => ?_⟩
        have K7 := K5.trans (k6.trans ((Same.keep sm).trans k7))
        have yw : IsW y := by
          have own : IsW (numV (r.getD i 0)) := ⟨_, rfl, ln⟩
          rcases List.mem_cons.mp my with rfl | my
          · exact own
          rcases List.mem_cons.mp my with rfl | my
          · exact own
          rcases List.mem_cons.mp my with rfl | my
          · exact own
          rcases List.mem_cons.mp my with rfl | my
          · exact ⟨m, congrArg V.int em, lm⟩
          · obtain ⟨nz, rfl⟩ := Int.eq_ofNat_of_zero_le hz.1
            exact ⟨nz, List.mem_singleton.mp my, by omega⟩
        obtain ⟨B8, K8⟩ := Bag.put (o := .lst (xs ++ [y])) B nD0 K7 B7
        refine ⟨D, _, _, rfl, rfl, k7.1 _ _ Db (sm _ _ (k6.1 _ _ Db h5)), by rw [lx]; exact Nat.lt_of_lt_of_le (show i < 6 by omega) (by decide), B8, K8, _, _, rfl, by rw [List.length_append, lx]; rfl, fun x mx => ?_, upd_same⟩
        rcases List.mem_append.mp mx with mx | mx
        · exact hx x mx
        · rw [List.mem_singleton.mp mx]
          exact yw
      · rintro σ H5 ⟨B5, K5, xs, v5, rfl, lx, hx, h5⟩
        obtain ⟨pt, rfl, p32⟩ := worths_of hx
        rw [List.length_map] at lx
        refine ⟨_, rfl, D, _, rfl, .inl ⟨SqL.of h5, fun p np => ?_⟩⟩
        have np0 : H p = none := K5.free B B5 np
        obtain ⟨B6, K6⟩ := Bag.put (o := .tup (pt.map numV)) B np0 K5 B5
        exact k p pt _ np0 ⟨upd_same, p32, by omega⟩ lx B6 K6
/-! ### what hangs in the tree, by the law -/
abbrev rListOf (K : PySem.W.Frag) : List V → Hp → VK → Prop := fun xs H Q => ∃ p ys, xs = [.ref p] ∧ (SqL K H p ys ∨ SqT K H p ys) ∧ ∀ l, H l = none → Q (.ref l) (upd H l (.lst ys))
def spHang : Sp := fun vs H Q _ => ∃ (l p : Addr) (us : List V) (rs : List (List Nat)) (pt : List Nat) (c : Nat), vs = [.ref l, .ref p] ∧ H l = some (.lst us) ∧ Rows H us rs ∧ rs.length < 64 ∧ H p = some (.lst ((pt.take c).map numV)) ∧ c ≤ pt.length ∧ c ≤ 1000 ∧ (∀ r ∈ rs, c < r.length) ∧
  ∀ (q : Addr) (ms : List Nat) (H' : Hp), Same H H' → H' q = some (.lst (ms.map numV)) → (∀ m, m ∈ ms ↔ m ∈ hang rs c pt) → ms.length < 64 → Q (.ref q) H'
theorem nats_of : ∀ {ns : List Int}, (∀ k ∈ ns, 0 ≤ k) → ∃ ms : List Nat, ns = ms.map Int.ofNat
  | [], _ => ⟨[], rfl⟩
  | n :: ns, h => by
    obtain ⟨m, rfl⟩ := Int.eq_ofNat_of_zero_le (h n List.mem_cons_self)
    obtain ⟨ms, rfl⟩ := nats_of (ns := ns) fun k q => h k (List.mem_cons_of_mem _ q)
    exact ⟨m :: ms, rfl⟩
abbrev nLawHanging : List Str := ["_law_rows_here", "_law_path", "_law_size", "_law_row"]
theorem scLawHanging : FnScope nLawHanging ["_law_rows_here", "_law_path"] (defScope sLawHanging) := ⟨rfl, rfl, rfl, by decide +kernel, rfl, by decide +kernel, by decide +kernel⟩
theorem ok_hanging {f : Addr} {fd : FuncData} (F : Fun K "_law_hanging" "_law_hanging" sLawHanging f fd) (b : Blt mg) (so : mg "sorted" = none) (st : mg "set" = none) : FnOk P w K mg base CX0 1 f fd ["_law_rows_here", "_law_path"] spHang := by
  refine F.ok scLawHanging (fun vs H Q E h => ?_) (fun cdv A outer s H vs Q E hr h => ?_)
  · obtain ⟨l, p, us, rs, pt, c, rfl, _⟩ := h
    rfl
  · obtain ⟨l, p, us, rs, pt, c, rfl, hl, ro, lr, hp, cp, c1, hrs, k⟩ := h
    have hu : (A.deeper (PyProof.Rows.envOfC "_law_hanging" (defScope sLawHanging) s.heap.objs.size f cdv)).units + 64 < cLine := hr.units
    refine ⟨_,
    (pss_cons (ps_set (i := 2) scLawHanging.nd rfl (.inr rfl) (pe_callB call_len_seq (by rfl) b.len PySem.boot_len (pa_cons (pv 1) pa_nil)))
    (pss_one (ps_ret (pe_callB (cr_sortedSet rfl) (by rfl) so (by decide +kernel) (pa_cons (pe_callTy (cr_setI rfl) (by rfl) st (by decide +kernel) (pa_cons (pe_lc (own := [("_law_row", 3)]) (g := (gName 3)) (tt := (tAnd (tTest (tOp (rI0 fun i j => .bl (decide (j < i))) (tCB (rLen K) (tCons (tVar 3) tNil)) (tVar 2))) (tTest (tOp (rEqD K) (tCB (rListOf K) (tCons (tSl (rSlA K) (tVar 3) tNoPart (tPart (tVar 2))) tNil)) (tVar 1))))) (te := (tOp (rIxT K) (tVar 3) (tVar 2))) rfl scLawHanging.nd (pi_list (pv 0)) (blkOk_by (N := nLawHanging) (sc := defScope sLawHanging) (by decide +kernel)) (fun _ _ _ _ _ => (pg_name (i := 3) scLawHanging.nd rfl (.inl rfl))) (fun _ _ _ _ _ => pts_one (PW.pt (pw_and (pt_cmpR op_gt (pe_callB call_len_seq (by rfl) b.len PySem.boot_len (pa_cons (pv 3) pa_nil)) (pv 2) (nomark _)) (pw_and1 (pt_cmpR (op_eqD hu) (pe_callTy call_list_of (by rfl) b.list (by decide +kernel) (pa_cons (pe_slice sl_tupA (pv 3) po_none (po_some (pv 2))) pa_nil)) (pv 1) (nomark _)))))) (fun _ _ _ _ _ => (pe_ix ix_tup (pv 3) (pv 2) fun _ _ => rfl))) pa_nil)) pa_nil))))), ?_⟩
    have lp : ((pt.take c).map numV).length = c := by
      rw [List.length_map, List.length_take]
      omega
    refine ⟨_, rfl, p, _, rfl, .inl (SqL.of hp), ?_⟩
    rw [lp]
    refine ⟨_, rfl, l, rfl, ⟨_, SqL.of hl⟩, fun D hD => ?_⟩
    refine lc_list (xs := us) (fun j H' => Same H H' ∧ H' D = some (.lst ((hang (rs.take j) c pt).map numV))) ⟨same_new hD, upd_same⟩ (fun j H' _ q => SqL.of (q.1 _ _ hl)) ?_ ?_
    · rintro j v H4 hv ⟨s4, h4⟩
      obtain ⟨ra, r, rfl, er, hra⟩ := ro.get hv
      have lc := hrs r (List.mem_of_getElem? er)
      have jr : j < rs.length := (List.getElem?_eq_some_iff.mp er).1
      refine ⟨rfl, ?_⟩
      refine ⟨_, rfl, ra, _, rfl, .inr (SqT.of (s4 _ _ hra)), _, rfl, _, _, rfl, rfl, _, rfl, ?_⟩
      rw [List.length_map, decide_eq_true (show ((c : Nat) : Int) < (r.length : Int) by omega)]
      refine iteT ?_
      refine ⟨_, rfl, _, rfl, _, rfl, rd_cut (s4 _ _ hra) fun q1 H5 t5 g1 => ?_⟩
      rw [cut_upto _ (by rw [List.length_map]; omega), ← List.map_take] at g1
      refine ⟨q1, _, rfl, .inr (SqT.of g1), fun q2 n2 => ?_⟩
      have t6 := same_new (o := HO.lst ((r.take c).map numV)) n2
      refine ⟨_, rfl, .list ((r.take c).map numD), .list ((pt.take c).map numD), .lst (SqL.of upd_same) (dp_nums _), .lst (SqL.of (t6 _ _ (t5 _ _ (s4 _ _ hp)))) (dp_nums _), (Lay.list (lay_nums _)).shaped (by decide), (Lay.list (lay_nums _)).shaped (by decide), _, rfl, ?_⟩
      rw [show PyData.eqv (.list ((r.take c).map numD)) (.list ((pt.take c).map numD)) = decide (r.take c = pt.take c) from eqv_nums _ _]
      have s6 := s4.trans (t5.trans t6)
      have h6 := (t5.trans t6) _ _ h4
      have sn := hang_snoc (c := c) (pt := pt) er
      by_cases e : r.take c = pt.take c
      · rw [decide_eq_true e]
        rw [if_pos e] at sn
        refine iteT ⟨_, rfl, _, rfl, ra, _, _, _, rfl, rfl, SqT.of (s6 _ _ hra), atI_nat (j := c) (v := numV (r.getD c 0)) (by rw [List.getElem?_map, getD_get (d := 0) (by omega)]; rfl), _, h6, ?_, ?_, ?_⟩
        · rw [List.length_map]
          refine Nat.lt_of_le_of_lt (Nat.le_trans (hang_len _ _ _) ?_) (show 1000 < sizeLine by decide)
          rw [List.length_take]
          omega
        · intro q o z'
          rw [upd_ne (fun y => by rw [y, hD] at z'; cases z')]
          exact s6 _ _ z'
        · rw [upd_same, sn, List.map_append]
          rfl
      · rw [decide_eq_false e]
        rw [if_neg e, List.append_nil] at sn
        refine iteF ⟨s6, ?_⟩
        rw [sn]
        exact h6
    · rintro H4 ⟨s4, h4⟩
      rw [ro.len, List.take_of_length_le (Nat.le_refl _)] at h4
      have lh := hang_len rs c pt
      refine ⟨D, (hang rs c pt).map Int.ofNat, rfl, SqL.of (by rw [h4, nat_ints]), by rw [List.length_map]; omega, fun a n na ln => ?_⟩
      rw [List.length_map] at ln
      have s5 := same_new (o := SetO w a (fun j => decide (j ∈ (hang rs c pt).map Int.ofNat)) n) na
      refine ⟨a, _, n, rfl, upd_same, by omega, fun ns q _ mem len nq => ?_⟩
      have s6 := same_new (o := HO.lst (ns.map V.int)) nq
      obtain ⟨ms, rfl⟩ := nats_of (ns := ns) fun k mk => by
        have := of_decide_eq_true ((mem k).mp mk)
        obtain ⟨m, _, rfl⟩ := List.mem_map.mp this
        exact Int.natCast_nonneg _
      refine k q ms _ (s4.trans (s5.trans s6)) (by rw [upd_same, ← nat_ints]) (fun m => ?_) (by rw [List.length_map] at len; omega)
      have e := mem (Int.ofNat m)
      constructor
      · intro mm
        have := of_decide_eq_true (e.mp (List.mem_map.mpr ⟨m, mm, rfl⟩))
        obtain ⟨m', mm', ee⟩ := List.mem_map.mp this
        rw [← Int.ofNat.inj ee]
        exact mm'
      · intro mm
        have := e.mpr (decide_eq_true (List.mem_map.mpr ⟨m, mm, rfl⟩))
        obtain ⟨m', mm', ee⟩ := List.mem_map.mp this
        rw [← Int.ofNat.inj ee]
        exact mm'
end
end VQ
namespace VQ
open PySem L2 LamX
abbrev sLawGap : Stmt := top 32
/-- the greatest count of first things that the point has in common with a row -/
structure Fst (rs : List (List Nat)) (pt : List Nat) (fi : Nat) : Prop where
  le : fi ≤ pt.length
  one : fi = 0 ∨ ∃ r ∈ rs, r.take fi = pt.take fi
  most : ∀ r ∈ rs, ∀ k, k ≤ pt.length → r.take k = pt.take k → k ≤ fi
theorem take_le {α : Type} {a b : List α} {j k : Nat} (h : a.take k = b.take k) (l : j ≤ k) : a.take j = b.take j := by
  have := congrArg (List.take j) h
  rwa [List.take_take, List.take_take, Nat.min_eq_left l] at this
theorem take_next {r pt : List Nat} {j : Nat} (h : r.take (j + 1) = pt.take (j + 1)) (l : j < pt.length) : r.getD j 0 = pt.getD j 0 := by
  have e := congrArg (fun l : List Nat => l[j]?) h
  simp only [List.getElem?_take, Nat.lt_succ_self, if_true] at e
  rw [List.getD_eq_getElem?_getD, List.getD_eq_getElem?_getD, e]
theorem take_grow {r pt : List Nat} {j : Nat} (h : r.take j = pt.take j) (lr : j < r.length) (lp : j < pt.length) (e : r.getD j 0 = pt.getD j 0) : r.take (j + 1) = pt.take (j + 1) := by
  rw [List.take_add_one, List.take_add_one, h, getD_get (d := 0) lr, getD_get (d := 0) lp, e]
theorem Fst.before {rs : List (List Nat)} {pt : List Nat} {fi : Nat} (f : Fst rs pt fi) : ∀ j, j < fi → pt.getD j 0 ∈ hang rs j pt := fun j h => by
  rcases f.one with e | ⟨r, m, e⟩
  · omega
  · have l := f.le
    exact mem_hang.mpr ⟨r, m, take_le e (by omega), take_next (take_le e (by omega)) (by omega)⟩
theorem Fst.out {rs : List (List Nat)} {pt : List Nat} {fi : Nat} (f : Fst rs pt fi) (len : ∀ r ∈ rs, r.length = pt.length) (l : fi < pt.length) : pt.getD fi 0 ∉ hang rs fi pt := fun m => by
  obtain ⟨r, mr, e1, e2⟩ := mem_hang.mp m
  have := f.most r mr (fi + 1) (by omega) (take_grow e1 (by rw [len r mr]; exact l) l e2)
  omega
theorem Fst.lt {rs : List (List Nat)} {pt : List Nat} {fi : Nat} (f : Fst rs pt fi) (len : ∀ r ∈ rs, r.length = pt.length) (p1 : 1 ≤ pt.length) (no : pt ∉ rs) : fi < pt.length := by
  have l := f.le
  by_cases e : fi = pt.length
  · rcases f.one with z | ⟨r, m, q⟩
    · omega
    · rw [e, List.take_of_length_le (Nat.le_refl _), List.take_of_length_le (Nat.le_of_eq (len r m))] at q
      rw [q] at m
      exact absurd m no
  · omega
theorem begins_same {m n c : Nat} (h : c ≤ 5) : beginsB (fig m) (tk (fig n) c) = decide (tk (fig m) c = tk (fig n) c) := by
  unfold beginsB
  rw [tk_len, fig_len, Nat.min_eq_left h]
section
variable {P : Program} {w : World} {K : PySem.W.Frag} {mg : Str → Option Value} {base : Heap}
def spGapL : Sp := fun vs H Q _ => ∃ (l p : Addr) (us : List V) (rs : List (List Nat)) (pt : List Nat), vs = [.ref l, .ref p] ∧ H l = some (.lst us) ∧ Rows H us rs ∧ rs.length < 64 ∧ PtAt H p pt ∧ 1 ≤ pt.length ∧ (∀ r ∈ rs, r.length = pt.length ∧ ∀ n ∈ r, n < 32) ∧ pt ∉ rs ∧
  ∀ (i k : Nat), GapAt rs pt i k → ∀ (q : Addr) (H' : Hp), Same H H' → H' q = some (.tup ((gapBox pt i k).map V.str)) → Q (.ref q) H'
abbrev nLawGap : List Str := ["_law_rows_here", "_law_point_here", "_law_size", "_law_first", "_law_row", "_law_k", "_law_worths", "_law_own", "_law_cut", "_law_worth_here"]
theorem scLawGap : FnScope nLawGap ["_law_rows_here", "_law_point_here"] (defScope sLawGap) := ⟨rfl, rfl, rfl, by decide +kernel, rfl, by decide +kernel, by decide +kernel⟩
theorem ok_lawgap {f fHa fG fBx : Addr} {fd fdHa fdG fdBx : FuncData} (F : Fun K "_law_gap" "_law_gap" sLawGap f fd) (b : Blt mg) (so : mg "sorted" = none) (st : mg "set" = none) (ay : mg "any" = none) (aHa : At K mg "_law_hanging" sLawHanging ["_law_rows_here", "_law_path"] fHa fdHa) (aG : At K mg "_law_figs" sFigs ["_law_worth_here"] fG fdG) (aBx : At K mg "_law_box_of" sBoxOf ["_law_point_here"] fBx fdBx) :
    FnOk P w K mg base CX0 3 f fd ["_law_rows_here", "_law_point_here"] spGapL := by
  have GHa : FnOk P w K mg base CX0 1 fHa fdHa ["_law_rows_here", "_law_path"] spHang := ok_hanging aHa.fn b so st
  have GG : FnOk P w K mg base CX0 1 fG fdG ["_law_worth_here"] spFigs := ok_figs aG.fn b.range b.str
  have GBx : FnOk P w K mg base CX0 2 fBx fdBx ["_law_point_here"] spBoxOf := ok_boxof aBx.fn b aG
  refine F.ok scLawGap (fun vs H Q E h => ?_) (fun cdv A outer s H vs Q E hr h => ?_)
  · obtain ⟨l, p, us, rs, pt, rfl, _⟩ := h
    rfl
  · obtain ⟨l, p, us, rs, pt, rfl, hl, ro, lr, hp, p1, hrs, no, kk⟩ := h
    have hr1 : Room 1 _ := hr.mono (by decide)
    have hu : (A.deeper (PyProof.Rows.envOfC "_law_gap" (defScope sLawGap) s.heap.objs.size f cdv)).units + 64 < cLine := hr.units
    refine ⟨_,
    (pss_cons (ps_set (i := 2) scLawGap.nd rfl (.inl rfl) (pe_callB call_len_seq (by rfl) b.len PySem.boot_len (pa_cons (pv 1) pa_nil)))
    (pss_cons (ps_set (i := 3) scLawGap.nd rfl (.inl rfl) pe_int)
    (pss_cons (ps_for PassesOwn.never rfl (pi_list (pv 0)) (pg_name (i := 4) scLawGap.nd rfl (.inl rfl))
      (pss_one (ps_for PassesOwn.never rfl (pi_range1 rfl b.range (pa_cons (pe_op op_add (pv 2) pe_int) pa_nil)) (pg_name (i := 5) scLawGap.nd rfl (.inl rfl))
        (pss_one (ps_if (PW.pt (pw_and (pt_cmpR (op_eqD hu) (pe_slice sl_tupA (pv 4) po_none (po_some (pv 5))) (pe_slice sl_tupA (pv 1) po_none (po_some (pv 5))) (nomark _)) (pw_and1 (pt_cmpR op_gt (pv 5) (pv 3) (nomark _)))))
          (pss_one (ps_set (i := 3) scLawGap.nd rfl (.inl rfl) (pv 5)))
          pss_nil)))))
    (pss_cons (ps_if (PW.pt (pw_or (pt_cmpR op_eq (pv 3) (pv 2) (nomark _)) (pw_or1 (pt_cmpR op_eq (pv 2) pe_int (nomark _)))))
      (pss_one (ps_ret pe_non))
      pss_nil)
    (pss_cons (ps_set (i := 6) scLawGap.nd rfl (.inl rfl) (pe_call GHa hr1 rfl aHa.gl aHa.fn.kp aHa.bd .nil pass0 (pa_cons (pv 0) (pa_cons (pe_callTy call_list_of (by rfl) b.list (by decide +kernel) (pa_cons (pe_slice sl_tupA (pv 1) po_none (po_some (pv 3))) pa_nil)) pa_nil))))
    (pss_cons (ps_set (i := 7) scLawGap.nd rfl (.inr rfl) (pe_call GG hr1 rfl aG.gl aG.fn.kp aG.bd .nil pass0 (pa_cons (pe_ix ix_tup (pv 1) (pv 3) fun _ _ => rfl) pa_nil)))
    (pss_cons (ps_set (i := 8) scLawGap.nd rfl (.inr rfl) pe_int)
    (pss_cons (ps_while PassesOwn.never (pt_val (pe_callB (cr_any rfl) (by rfl) ay (by decide +kernel) (pa_cons (pe_lc (own := [("_law_worth_here", 9)]) (g := (gName 9)) (tt := tYes) (te := (tOp rEq (tSl rSlS (tCall spFigs [] E0 (tCons (tVar 9) tNil)) tNoPart (tPart (tVar 8))) (tSl rSlS (tVar 7) tNoPart (tPart (tVar 8))))) rfl scLawGap.nd (pi_list (pv 6)) (blkOk_by (N := nLawGap) (sc := defScope sLawGap) (by decide +kernel)) (fun _ _ _ _ _ => (pg_name (i := 9) scLawGap.nd rfl (.inl rfl))) (fun _ _ _ _ _ => pts_nil) (fun _ _ _ _ _ => (pe_cmpR op_eq (pe_slice sl_str (pe_call GG hr1 rfl aG.gl aG.fn.kp aG.bd .nil pass0 (pa_cons (pv 9) pa_nil)) po_none (po_some (pv 8))) (pe_slice sl_str (pv 7) po_none (po_some (pv 8))) (nomark _)))) pa_nil)))
      (pss_one (ps_set (i := 8) scLawGap.nd rfl (.inr rfl) (pe_op op_add (pv 8) pe_int))))
    (pss_one (ps_ret (pe_op op_catA (pe_op op_catA (pe_call GBx hr rfl aBx.gl aBx.fn.kp aBx.bd .nil pass0 (pa_cons (pe_slice sl_tupA (pv 1) po_none (po_some (pv 3))) pa_nil)) (pe_tup (pa_cons (pe_slice sl_str (pv 7) po_none (po_some (pv 8))) pa_nil))) (pe_op op_times0 (pe_tup (pa_cons pe_str pa_nil)) (pe_op op_sub (pe_op op_sub (pv 2) (pv 3)) pe_int))))))))))))), ?_⟩
    have l5 := hp.2.2
    refine ⟨_, rfl, p, _, rfl, .inr (SqT.of hp.1), ?_⟩
    rw [List.length_map]
    refine ⟨_, rfl, l, rfl, ⟨_, SqL.of hl⟩, for_list (xs := us) (fun j σ H' => Same H H' ∧ ∃ (fi : Nat) (v4 v5 : Option V), σ = [some (.ref l), some (.ref p), some (.int (pt.length : Int)), some (.int (fi : Int)), v4, v5, none, none, none, none] ∧ Fst (rs.take j) pt fi) ⟨Same.refl H, 0, none, none, rfl, Nat.zero_le _, .inl rfl, fun r m => by cases m⟩ (fun j σ H' _ q => SqL.of (q.1 _ _ hl)) ?_ ?_⟩
    · rintro j v σ H2 hv ⟨s2, fi, v4, v5, rfl, F2⟩
      obtain ⟨ra, r, rfl, er, hra⟩ := ro.get hv
      have rl := (hrs r (List.mem_of_getElem? er)).1
      have f2 := F2.le
      refine ⟨_, rfl, _, _, rfl, rfl, pt.length + 1, rfl, by omega, by omega, for_range (lo := 0) (n := pt.length + 1) (fun k σ H' => Same H H' ∧ ∃ (f' : Nat) (v5 : Option V), σ = [some (.ref l), some (.ref p), some (.int (pt.length : Int)), some (.int (f' : Int)), some (.ref ra), v5, none, none, none, none] ∧ fi ≤ f' ∧ f' ≤ pt.length ∧ (f' = fi ∨ r.take f' = pt.take f') ∧ ∀ k', k' < k → r.take k' = pt.take k' → k' ≤ f') ⟨s2, fi, v5, rfl, Nat.le_refl _, f2, .inl rfl, fun k' h => absurd h (Nat.not_lt_zero _)⟩ ?_ ?_⟩
      · rintro k σ H3 hk ⟨s3, f', v5', rfl, a1, a2, a3, a4⟩
        rw [Int.zero_add]
        refine ⟨_, rfl, _, rfl, _, rfl, rd_cut (s3 _ _ hra) fun q1 H4 t4 g1 => ?_⟩
        rw [cut_upto _ (by rw [List.length_map]; omega), ← List.map_take] at g1
        refine ⟨_, rfl, _, rfl, _, rfl, rd_cut (t4 _ _ (s3 _ _ hp.1)) fun q2 H5 t5 g2 => ?_⟩
        rw [cut_upto _ (by rw [List.length_map]; omega), ← List.map_take] at g2
        refine ⟨rowD (r.take k), rowD (pt.take k), .tup (SqT.of (t5 _ _ g1)) (dp_nums _), .tup (SqT.of g2) (dp_nums _), (lay_row _).shaped (by decide), (lay_row _).shaped (by decide), _, rfl, ?_⟩
        rw [eqv_row]
        have s5 := s3.trans (t4.trans t5)
        by_cases e : r.take k = pt.take k
        · rw [decide_eq_true e]
          refine iteT ⟨_, rfl, _, rfl, _, _, rfl, rfl, _, rfl, ?_⟩
          by_cases g : f' < k
          · rw [decide_eq_true (show ((f' : Nat) : Int) < (k : Int) by omega)]
            refine iteT ⟨_, rfl, s5, k, _, rfl, by omega, by omega, .inr e, fun k' h _ => by omega⟩
          · rw [decide_eq_false (show ¬ ((f' : Nat) : Int) < (k : Int) by omega)]
            refine iteF ⟨s5, f', _, rfl, a1, a2, a3, fun k' h q => ?_⟩
            by_cases z : k' = k
            · omega
            · exact a4 k' (by omega) q
        · rw [decide_eq_false e]
          refine iteF ⟨s5, f', _, rfl, a1, a2, a3, fun k' h q => ?_⟩
          by_cases z : k' = k
          · rw [z] at q
            exact absurd q e
          · exact a4 k' (by omega) q
      · rintro σ H3 ⟨s3, f', v5', rfl, a1, a2, a3, a4⟩
        have tk1 : rs.take (j + 1) = rs.take j ++ [r] := by
          rw [List.take_add_one, er]
          rfl
        refine ⟨s3, f', _, _, rfl, a2, ?_, fun r' m k h q => ?_⟩
        · rcases a3 with z | z
          · rw [z]
            rcases F2.one with y | ⟨r', m, y⟩
            · exact .inl y
            · exact .inr ⟨r', by rw [tk1]; exact List.mem_append_left _ m, y⟩
          · exact .inr ⟨r, by rw [tk1]; exact List.mem_append_right _ (List.mem_singleton.mpr rfl), z⟩
        · rw [tk1] at m
          rcases List.mem_append.mp m with m | m
          · exact Nat.le_trans (F2.most r' m k h q) a1
          · rw [List.mem_singleton.mp m] at q
            exact a4 k (by omega) q
    · rintro σ H2 ⟨s2, fi, v4, v5, rfl, F2⟩
      rw [ro.len, List.take_of_length_le (Nat.le_refl _)] at F2
      have lens : ∀ r ∈ rs, r.length = pt.length := fun r m => (hrs r m).1
      have lf := F2.lt lens p1 no
      have out := F2.out lens lf
      refine ⟨_, rfl, _, rfl, rfl, _, rfl, ?_⟩
      rw [decide_eq_false (show ¬ V.int (fi : Int) = V.int (pt.length : Int) from fun e => by injection e with e; omega)]
      refine iteF ⟨_, rfl, rfl, _, rfl, ?_⟩
      rw [decide_eq_false (show ¬ V.int (pt.length : Int) = V.int 0 from fun e => by injection e with e; omega)]
      refine iteF ?_
      refine ⟨_, rfl, _, rfl, _, rfl, _, rfl, rd_cut (s2 _ _ hp.1) fun q1 H3 t3 g1 => ?_⟩
      rw [cut_upto _ (by rw [List.length_map]; omega), ← List.map_take] at g1
      refine ⟨q1, _, rfl, .inr (SqT.of g1), fun q2 n2 => ?_⟩
      have t4 := same_new (o := HO.lst ((pt.take fi).map numV)) n2
      have s4 := s2.trans (t3.trans t4)
      refine ⟨l, q2, us, rs, pt, fi, rfl, s4 _ _ hl, ro.same s4, lr, upd_same, by omega, by omega, fun r m => by rw [lens r m]; exact lf, fun q3 ms H5 t5 h5 mem lm => ?_⟩
      have s5 := s4.trans t5
      generalize en : pt.getD fi 0 = n at out
      have e5 : pt[fi]? = some n := by rw [getD_get (d := 0) lf, en]
      have ln : n < 32 := hp.2.1 n (List.mem_of_getElem? e5)
      have m32 : ∀ m ∈ ms, m < 32 := fun m mm => by
        obtain ⟨r, mr, _, e⟩ := mem_hang.mp ((mem m).mp mm)
        rw [← e]
        exact (hrs r mr).2 _ (List.mem_of_getElem? (getD_get (by rw [lens r mr]; exact lf)))
      refine ⟨_, rfl, _, rfl, p, _, _, _, rfl, rfl, SqT.of (s5 _ _ hp.1), atI_nat (j := fi) (v := numV n) (by rw [List.getElem?_map, e5]; rfl), n, rfl, ?_⟩
      refine ⟨fun m σ H' => ∃ (c : Nat) (v9 : Option V), m + c = 6 ∧ c ≤ 5 ∧ Same H H' ∧ H' q3 = some (.lst (ms.map numV)) ∧ σ = [some (.ref l), some (.ref p), some (.int (pt.length : Int)), some (.int (fi : Int)), v4, v5, some (.ref q3), some (.str (fig n)), some (.int (c : Int)), v9] ∧ ∀ j, j < c → ∃ m ∈ ms, beginsB (fig m) (tk (fig n) j) = true, ⟨6, 0, none, rfl, by decide, s5, h5, rfl, fun j h => absurd h (Nat.not_lt_zero _)⟩, ?_⟩
      rintro m σ H6 ⟨c, v9, ec, c5, s6, h6, rfl, yes⟩
      refine ⟨_, rfl, q3, rfl, ⟨_, SqL.of h6⟩, fun D nD => ?_⟩
      have nD0 : H D = none := s6.free nD
      have Dq : D ≠ q3 := fun e => by
        rw [e, h6] at nD
        cases nD
      refine lc_list (xs := ms.map numV) (fun j H' => Same H6 H' ∧ H' D = some (.lst (((ms.take j).map fun m => beginsB (fig m) (tk (fig n) c)).map V.bl))) ⟨same_new nD, upd_same⟩ (fun j H' _ q => SqL.of (q.1 _ _ h6)) ?_ ?_
      · rintro j v H7 hv ⟨s7, h7⟩
        obtain ⟨x, ex, rfl⟩ := num_get hv
        have lj : j < ms.length := (List.getElem?_eq_some_iff.mp ex).1
        refine ⟨rfl, yes_turn ?_⟩
        refine ⟨_, rfl, x, rfl, _, rfl, _, rfl, _, rfl, by rw [fig_len]; decide, _, rfl, _, rfl, _, rfl, _, rfl, by rw [fig_len]; decide, rfl, ?_⟩
        rw [cut_to, cut_to]
        refine ⟨_, h7, ?_, ?_, ?_⟩
        · rw [List.length_map, List.length_map, List.length_take]
          exact Nat.lt_of_lt_of_le (show min j ms.length < 65 by omega) (by decide)
        · intro q o z'
          rw [upd_ne (fun y => by rw [y, nD] at z'; cases z')]
          exact s7 _ _ z'
        · have ed : decide (V.str (tk (fig x) c) = V.str (tk (fig n) c)) = beginsB (fig x) (tk (fig n) c) := by
            rw [begins_same c5]
            by_cases z : tk (fig x) c = tk (fig n) c
            · rw [decide_eq_true z, decide_eq_true (congrArg V.str z)]
            · rw [decide_eq_false z, decide_eq_false (fun y => z (V.str.inj y))]
          rw [upd_same, ed, ← take_snoc (fun m => beginsB (fig m) (tk (fig n) c)) ex, List.map_append]
          rfl
      · rintro H7 ⟨s7, h7⟩
        rw [List.length_map, List.take_of_length_le (Nat.le_refl _)] at h7
        refine ⟨D, _, rfl, SqL.of h7, _, rfl, ?_⟩
        have s67 := s6.trans s7
        cases ea : (ms.map fun m => beginsB (fig m) (tk (fig n) c)).any id with
        | true =>
          rw [List.any_map, List.any_eq_true] at ea
          obtain ⟨x, mx, bx⟩ := ea
          have bx : beginsB (fig x) (tk (fig n) c) = true := bx
          have c4 : c < 5 := by
            by_cases z : c = 5
            · rw [z, begins_same (Nat.le_refl _)] at bx
              have := figs_one x (m32 x mx) n ln (of_decide_eq_true bx)
              rw [this] at mx
              exact absurd ((mem n).mp mx) out
            · omega
          refine iteT ⟨fun σ' H' => ∃ (c' : Nat) (v9 : Option V), c' = c + 1 ∧ Same H H' ∧ H' q3 = some (.lst (ms.map numV)) ∧ σ' = [some (.ref l), some (.ref p), some (.int (pt.length : Int)), some (.int (fi : Int)), v4, v5, some (.ref q3), some (.str (fig n)), some (.int (c' : Int)), v9], ?_, ?_⟩
          · rintro σ' H' ⟨c', v9', rfl, s', h', rfl⟩
            refine ⟨m - 1, by omega, c + 1, v9', by omega, by omega, s', h', rfl, fun j hj => ?_⟩
            by_cases z : j = c
            · rw [z]
              exact ⟨x, mx, bx⟩
            · exact yes j (by omega)
          · exact ⟨_, rfl, _, _, rfl, rfl, c + 1, _, rfl, s67, s7 _ _ h6, rfl⟩
        | false =>
          refine iteF ?_
          have G : GapAt rs pt fi c := by
            refine ⟨lf, F2.before, by omega, fun m mm => ?_, fun j hj => ?_⟩
            · rw [en]
              have mm' := (mem m).mpr mm
              cases z : beginsB (fig m) (tk (fig n) c) with
              | false => rfl
              | true =>
                have : (ms.map fun m => beginsB (fig m) (tk (fig n) c)).any id = true := by
                  rw [List.any_map, List.any_eq_true]
                  exact ⟨m, mm', z⟩
                rw [ea] at this
                cases this
            · rw [en]
              obtain ⟨m, mm, z⟩ := yes j hj
              exact ⟨m, (mem m).mp mm, z⟩
          refine ⟨_, rfl, _, rfl, _, rfl, rd_cut (s67 _ _ hp.1) fun q4 H8 t8 g4 => ?_⟩
          rw [cut_upto _ (by rw [List.length_map]; omega), ← List.map_take] at g4
          refine ⟨q4, pt.take fi, rfl, g4, by rw [List.length_take]; omega, fun q5 H9 n9 t9 g5 => ?_⟩
          refine ⟨_, rfl, _, rfl, _, rfl, _, rfl, by rw [fig_len]; decide, by show 1 ≤ sizeLine; decide, fun q6 n6 => ?_⟩
          rw [cut_to] at *
          have t10 := same_new (o := HO.tup [V.str (tk (fig n) c)]) n6
          refine rd_cat (t10 _ _ g5) upd_same (by rw [List.length_map, List.length_map, List.length_take]; show _ + 1 ≤ 1000; omega) fun q7 H11 t11 g7 => ?_
          have s11 := s67.trans (t8.trans (t9.trans (t10.trans t11)))
          have eI : (pt.length : Int) - (fi : Int) - 1 = ((pt.length - fi - 1 : Nat) : Int) := by omega
          refine ⟨by show 1 ≤ sizeLine; decide, fun q8 n8 => ⟨_, rfl, _, rfl, _, _, rfl, rfl, _, _, rfl, rfl, ?_⟩⟩
          have t12 := same_new (o := HO.tup [V.str ""]) n8
          show rTimes0 K (.ref q8) (.int ((pt.length : Int) - (fi : Int) - 1)) _ _
          rw [eI]
          refine rd_rep upd_same (by omega) fun q9 H13 t13 g9 => ?_
          refine rd_cat (t13 _ _ (t12 _ _ g7)) g9 ?_ fun q10 H14 t14 g10 => ?_
          · rw [List.length_append, List.length_map, List.length_map, List.length_take, List.length_replicate]
            show _ + 1 + _ ≤ 1000
            omega
          · refine kk fi c G q10 H14 (s11.trans (t12.trans (t13.trans t14))) ?_
            rw [g10]
            unfold gapBox
            rw [en, List.map_append, List.map_append, List.map_replicate]
            rfl
end
end VQ
namespace VQ
open PySem L2 LamX
abbrev sLaw : Stmt := top 34
def spLawN (K : PySem.W.Frag) : Sp := fun vs H Q _ => ∃ (a : Addr) (ns : List Int), vs = [.ref a] ∧ SqL K H a (ns.map V.int) ∧ ns.length ≤ 63 ∧ ∀ H', Q (.bl true) H'
/-- what is awaited: None for a row, else the gap's box -/
def Due (rs : List (List Nat)) (pt : List Nat) (H : Hp) (dv : V) : Prop := (dv = .non ∧ pt ∈ rs) ∨ ∃ (q : Addr) (i k : Nat), dv = .ref q ∧ GapAt rs pt i k ∧ H q = some (.tup ((gapBox pt i k).map V.str))
theorem Due.same {rs : List (List Nat)} {pt : List Nat} {H H' : Hp} {dv : V} (s : Same H H') (d : Due rs pt H dv) : Due rs pt H' dv := by
  rcases d with d | ⟨q, i, k, e, g, h⟩
  · exact .inl d
  · exact .inr ⟨q, i, k, e, g, s _ _ h⟩
theorem Due.keep {rs : List (List Nat)} {pt : List Nat} {H H' : Hp} {dv : V} {b : Addr} (B : Bag H b) (s : Keep b H H') (d : Due rs pt H dv) : Due rs pt H' dv := by
  rcases d with d | ⟨q, i, k, e, g, h⟩
  · exact .inl d
  · exact .inr ⟨q, i, k, e, g, s.tup B h⟩
theorem row_hangs {rs : List (List Nat)} {pt : List Nat} (m : pt ∈ rs) (j : Nat) : pt.getD j 0 ∈ hang rs j pt := mem_hang.mpr ⟨pt, m, rfl, rfl⟩
theorem gapBox_len {pt : List Nat} {i k : Nat} (h : pt.length ≤ 5) : (gapBox pt i k).length ≤ 1000 := by
  unfold gapBox
  rw [List.length_append, List.length_append, List.length_map, List.length_take, List.length_replicate]
  show _ + 1 + _ ≤ _
  omega
/-- the program's gap is the one awaited -/
theorem gap_due {rs ss : List (List Nat)} {pt : List Nat} {H : Hp} {v dv : V} (pm : rs.Perm ss) (l5 : pt.length ≤ 5) (d : Due rs pt H dv) (r : GapRes ss pt H v) : Alike H 1 v dv := by
  rcases r with ⟨rfl, all⟩ | ⟨q, i, k, rfl, G, h⟩
  · rcases d with ⟨rfl, m⟩ | ⟨q0, i0, k0, rfl, G0, h0⟩
    · exact .non _
    · exact absurd (all i0 G0.lt) (G0.perm pm).out
  · rcases d with ⟨rfl, m⟩ | ⟨q0, i0, k0, rfl, G0, h0⟩
    · exact absurd (row_hangs (pm.mem_iff.mp m) i) G.out
    · obtain ⟨rfl, rfl⟩ := (G0.perm pm).one G
      exact alike_strs h h0 (gapBox_len l5)
section
variable {P : Program} {w : World} {K : PySem.W.Frag} {mg : Str → Option Value} {base : Heap}
abbrev nLaw : List Str := ["_law_script", "_law_bag_here", "_law_turn", "_law_width", "_law_rows_here", "_law_point_here", "_law_handed", "_law_due"]
theorem scLaw : FnScope nLaw ["_law_script"] (defScope sLaw) := ⟨rfl, rfl, rfl, by decide +kernel, rfl, by decide +kernel, by decide +kernel⟩
theorem g_none : GapAt [] [3, 4] 0 0 := ⟨by decide, by decide, by decide, by decide, by decide⟩
theorem g_one : GapAt [[3, 4]] [3, 5] 1 5 := ⟨by decide, by decide +kernel, by decide, by decide +kernel, by decide +kernel⟩
theorem ok_law {f : Addr} {fd : FuncData} {fB fP fO fMx fS fW fG fPt fBx fRs fHa fLg fPn fIw fFi fSh fIp fIq fNp fBo fWh fGp CW fIW CP fIP : Addr} {fdB fdP fdO fdMx fdS fdW fdG fdPt fdBx fdRs fdHa fdLg fdPn fdIw fdFi fdSh fdIp fdIq fdNp fdBo fdWh fdGp fdIW fdIP : FuncData} {tk5 tkW tkM : Tok}
    (F : Fun K "law" "law" sLaw f fd) (b : Blt mg) (ay : mg "any" = none) (en : mg "enumerate" = none) (so : mg "sorted" = none) (st : mg "set" = none) (Wo : mg "WORTHS" = some (.int 32 tkW)) (Fg : mg "FIGURES" = some (.int 5 tk5)) (Mo : mg "MOST_PLACES" = some (.int 5 tkM))
    (aB : At K mg "_law_bag" sBag ["_law_script"] fB fdB) (aP : At K mg "_law_pull" sPull ["_law_bag_here", "_law_size"] fP fdP) (aO : At K mg "_law_of" sOf ["_law_bag_here", "_law_some"] fO fdO) (aMx : At K mg "_law_mixed" sLawMixed ["_law_bag_here", "_law_some"] fMx fdMx)
    (aS : At K mg "_law_same" sSame ["_law_found", "_law_due"] fS fdS) (aW : At K mg "_law_worth" sWorth ["_law_bag_here"] fW fdW) (aG : At K mg "_law_figs" sFigs ["_law_worth_here"] fG fdG) (aPt : At K mg "_law_point" sPoint ["_law_bag_here", "_law_many"] fPt fdPt) (aBx : At K mg "_law_box_of" sBoxOf ["_law_point_here"] fBx fdBx)
    (aRs : At K mg "_law_rows" sLawRows ["_law_bag_here", "_law_width", "_law_most"] fRs fdRs) (aHa : At K mg "_law_hanging" sLawHanging ["_law_rows_here", "_law_path"] fHa fdHa) (aLg : At K mg "_law_gap" sLawGap ["_law_rows_here", "_law_point_here"] fLg fdLg) (aPn : At K mg "_law_point_near" sLawPointNear ["_law_bag_here", "_law_rows_here", "_law_width"] fPn fdPn)
    (aIw : AtW K mg "is_worth" sIsWorth ["thing"] fIw fdIw) (aFi : At K mg "figures" sFigures ["worth"] fFi fdFi) (aSh : At K mg "shortest" sShortest ["worth", "worths"] fSh fdSh) (aIp : At K mg "is_places" sIsPlaces ["thing"] fIp fdIp) (aIq : At K mg "is_point" sIsPoint ["thing"] fIq fdIq) (aNp : At K mg "need_point" sNeedPoint ["point"] fNp fdNp)
    (aBo : At K mg "box_of" sBoxOfP ["point"] fBo fdBo) (aWh : At K mg "whole" sWhole ["many"] fWh fdWh) (aGp : At K mg "gap" sGap ["rows", "point"] fGp fdGp) (EW : ErrC K mg "BadWorth" CW fIW fdIW "BadWorth.__init__" sBadWorth) (EP : ErrC K mg "BadPoint" CP fIP fdIP "BadPoint.__init__" sBadPoint) :
    FnOk P w K mg base CX0 7 f fd ["_law_script"] (spLawN K) := by
  have GB : FnOk P w K mg base CX0 1 fB fdB ["_law_script"] (spBag K) := ok_bag aB.fn b.list
  have GP : FnOk P w K mg base CX0 1 fP fdP ["_law_bag_here", "_law_size"] spPull := ok_pull aP.fn b.len
  have GO : FnOk P w K mg base CX0 2 fO fdO ["_law_bag_here", "_law_some"] (spOf K) := ok_of aO.fn b.len aP
  have GMx : FnOk P w K mg base CX0 2 fMx fdMx ["_law_bag_here", "_law_some"] spMixed := ok_mixed aMx.fn b aP
  have GS : FnOk P w K mg base CX0 2 fS fdS ["_law_found", "_law_due"] (spSame 1) := ok_same aS b 1
  have GRs : FnOk P w K mg base CX0 4 fRs fdRs ["_law_bag_here", "_law_width", "_law_most"] spRows := ok_rows aRs.fn b aP aO aW
  have GPn : FnOk P w K mg base CX0 5 fPn fdPn ["_law_bag_here", "_law_rows_here", "_law_width"] spNearPt := ok_nearpt aPn.fn b aP aO aW aPt
  have GLg : FnOk P w K mg base CX0 3 fLg fdLg ["_law_rows_here", "_law_point_here"] spGapL := ok_lawgap aLg.fn b so st ay aHa aG aBx
  have GFi : FnOk P w K mg base (L2.CX P w) 3 fFi fdFi ["worth"] (spFigures K CW) := ok_figures aFi.fn b Wo Fg aIw EW
  have GSh : FnOk P w K mg base (L2.CX P w) 4 fSh fdSh ["worth", "worths"] (spShortest K CW) := ok_shortest aSh.fn b ay Fg aFi GFi
  have GIq : FnOk P w K mg base CX0 3 fIq fdIq ["thing"] (spIs K worthB) := ok_ispoint aIq.fn b Mo Wo aIw aIp
  have GNp : FnOk P w K mg base (L2.CX P w) 4 fNp fdNp ["point"] (spNeedT K worthB CP "BadPoint") := ok_needpoint aNp.fn aIq GIq EP
  have GBo : FnOk P w K mg base (L2.CX P w) 5 fBo fdBo ["point"] (spBoxOfP K CP) := ok_boxofP aBo.fn b aNp aFi GNp GFi
  have GGp : FnOk P w K mg base CX0 6 fGp fdGp ["rows", "point"] spGapP := ok_gap aGp.fn b en aSh aBo aWh GSh GBo
  refine F.ok scLaw (fun vs H Q E h => ?_) (fun cdv A outer s H vs Q E hr h => ?_)
  · obtain ⟨a, ns, rfl, _⟩ := h
    rfl
  · obtain ⟨a, ns, rfl, hS, hlen, k⟩ := h
    have hr1 : Room 1 _ := hr.mono (by decide)
    have hr2 : Room 2 _ := hr.mono (by decide)
    have hr3 : Room 3 _ := hr.mono (by decide)
    have hr4 : Room 4 _ := hr.mono (by decide)
    have hr5 : Room 5 _ := hr.mono (by decide)
    have hu : (A.deeper (PyProof.Rows.envOfC "law" (defScope sLaw) s.heap.objs.size f cdv)).units + 64 < cLine := hr.units
    have hv : (A.deeper (PyProof.Rows.envOfC "law" (defScope sLaw) s.heap.objs.size f cdv)).units + 65 < cLine := by
      have := hr.un
      omega
    refine ⟨_,
    (pss_cons (ps_set (i := 1) scLaw.nd rfl (.inl rfl) (pe_call GB hr1 rfl aB.gl aB.fn.kp aB.bd .nil pass0 (pa_cons (pv 0) pa_nil)))
    (pss_cons (ps_for PassesOwn.never rfl (pi_range1 rfl b.range (pa_cons pe_int pa_nil)) (pg_name (i := 2) scLaw.nd rfl (.inl rfl))
      (pss_cons (ps_set (i := 3) scLaw.nd rfl (.inl rfl) (pe_op op_add pe_int (pe_call GP hr1 rfl aP.gl aP.fn.kp aP.bd .nil pass0 (pa_cons (pv 1) (pa_cons pe_int pa_nil)))))
      (pss_cons (ps_set (i := 4) scLaw.nd rfl (.inl rfl) (pe_call GRs hr4 rfl aRs.gl aRs.fn.kp aRs.bd .nil pass0 (pa_cons (pv 1) (pa_cons (pv 3) (pa_cons (pe_call GO hr2 rfl aO.gl aO.fn.kp aO.bd .nil pass0 (pa_cons (pv 1) (pa_cons (pe_lst (pa_cons pe_int (pa_cons pe_int (pa_cons pe_int pa_nil)))) pa_nil))) pa_nil)))))
      (pss_cons (ps_set (i := 5) scLaw.nd rfl (.inl rfl) (pe_call GPn hr5 rfl aPn.gl aPn.fn.kp aPn.bd .nil pass0 (pa_cons (pv 1) (pa_cons (pv 4) (pa_cons (pv 3) pa_nil)))))
      (pss_cons (ps_set (i := 6) scLaw.nd rfl (.inl rfl) (pe_callTy call_list_of (by rfl) b.list (by decide +kernel) (pa_cons (pv 4) pa_nil)))
      (C8.pss_cut (ps_set (i := 7) scLaw.nd rfl (.inl rfl) (pe_ifExp (pt_cmpR (op_inD hv) (pv 5) (pv 4) rfl) pe_non (pe_call GLg hr3 rfl aLg.gl aLg.fn.kp aLg.bd .nil pass0 (pa_cons (pv 4) (pa_cons (pv 5) pa_nil)))))
      (pss_cons (ps_if (PW.pt (pw_or (pt_not (pt_val (pe_call GS hr2 rfl aS.gl aS.fn.kp aS.bd .nil pass0 (pa_cons (pe_call GGp hr rfl aGp.gl aGp.fn.kp aGp.bd .nil pass0 (pa_cons (pv 6) (pa_cons (pv 5) pa_nil))) (pa_cons (pv 7) pa_nil))))) (pw_or1 (pt_cmpR (op_neD hu) (pv 6) (pv 4) (nomark _)))))
        (pss_one (ps_ret pe_bl))
        pss_nil)
      (pss_one (ps_if (pt_not (pt_val (pe_call GS hr2 rfl aS.gl aS.fn.kp aS.bd .nil pass0 (pa_cons (pe_call GGp hr rfl aGp.gl aGp.fn.kp aGp.bd .nil pass0 (pa_cons (pe_call GMx hr2 rfl aMx.gl aMx.fn.kp aMx.bd .nil pass0 (pa_cons (pv 1) (pa_cons (pv 4) pa_nil))) (pa_cons (pv 5) pa_nil))) (pa_cons (pv 7) pa_nil)))))
        (pss_one (ps_ret pe_bl))
        pss_nil)))))))))
    (pss_one (ps_ret (pe_and (pe_cmpR (op_eqD hu) (pe_call GGp hr rfl aGp.gl aGp.fn.kp aGp.bd .nil pass0 (pa_cons (pe_lst pa_nil) (pa_cons (pe_tup (pa_cons pe_int (pa_cons pe_int pa_nil))) pa_nil))) (pe_tup (pa_cons pe_str (pa_cons pe_str pa_nil))) (nomark _)) (pe_one (pe_cmpR (op_eqD hu) (pe_call GGp hr rfl aGp.gl aGp.fn.kp aGp.bd .nil pass0 (pa_cons (pe_lst (pa_cons (pe_tup (pa_cons pe_int (pa_cons pe_int pa_nil))) pa_nil)) (pa_cons (pe_tup (pa_cons pe_int (pa_cons pe_int pa_nil))) pa_nil))) (pe_tup (pa_cons pe_str (pa_cons pe_str pa_nil))) (nomark _)))))))), ?_⟩
    refine ⟨_, rfl, a, ns, rfl, hS, hlen, fun bg H1 nb B1 s1 => ?_⟩
    refine ⟨4, rfl, by decide, by decide, for_range (lo := 0) (n := 4) (fun i σ H' => Bag H' bg ∧ ∃ v2 v3 v4 v5 v6 v7 : Option V, σ = [some (.ref a), some (.ref bg), v2, v3, v4, v5, v6, v7]) ⟨B1, none, none, none, none, none, none, rfl⟩ ?_ ?_⟩
    · rintro i σ H2 hi ⟨B2, v2, v3, v4, v5, v6, v7, rfl⟩
      refine ⟨_, rfl, bg, 4, rfl, B2, by decide, by decide, fun d H3 d0 d4 B3 k3 => ⟨1, d, rfl, rfl, ?_⟩⟩
      obtain ⟨m, rfl⟩ := Int.eq_ofNat_of_zero_le d0
      have em : (1 : Int) + (m : Int) = ((m + 1 : Nat) : Int) := by omega
      refine ⟨_, rfl, _, rfl, _, rfl, by show 3 ≤ sizeLine; decide, fun p4 f4 => ?_⟩
      have s4 := same_new (o := HO.lst [.int 12, .int 12, .int 60]) f4
      refine ⟨bg, p4, _, rfl, B3.same s4, B3.ne f4, SqL.of upd_same, by show 1 ≤ 3; decide, by show 3 < 1000; decide, fun v H5 mem B5 k5 => ?_⟩
      obtain ⟨mo, rfl, lmo⟩ : ∃ mo : Nat, v = .int (mo : Int) ∧ mo ≤ 60 := by
        rcases List.mem_cons.mp mem with rfl | mem
        · exact ⟨12, rfl, by decide⟩
        rcases List.mem_cons.mp mem with rfl | mem
        · exact ⟨12, rfl, by decide⟩
        · exact ⟨60, List.mem_singleton.mp mem, by decide⟩
      refine ⟨bg, m + 1, mo, congrArg (fun t : Int => [V.ref bg, V.int t, V.int (mo : Int)]) em, B5, by omega, by omega, fun l us rs H6 nl h6 ro lrs hrs nd B6 k6 => ?_⟩
      have lb : l ≠ bg := B5.ne nl
      refine ⟨_, rfl, _, rfl, _, rfl, bg, l, m + 1, us, rs, congrArg (fun t : Int => [V.ref bg, V.ref l, V.int t]) em, B6, lb, h6, ro, by omega, by omega, hrs, fun p pt H7 np hp lp B7 k7 => ?_⟩
      have h7 := k7.1 _ _ lb h6
      have ro7 := ro.keep B6 k7
      have p1 : 1 ≤ pt.length := by omega
      have hrs' : ∀ r ∈ rs, r.length = pt.length ∧ ∀ n ∈ r, n < 32 := fun r mr => ⟨by rw [lp]; exact (hrs r mr).1, (hrs r mr).2⟩
      refine ⟨_, rfl, l, _, rfl, .inl (SqL.of h7), fun hd n8 => ?_⟩
      have s8 := same_new (o := HO.lst us) n8
      have h8 := s8 _ _ h7
      have B8 := B7.same s8
      refine ⟨fun σ' H' => Same (upd H7 hd (.lst us)) H' ∧ ∃ dv : V, σ' = [some (.ref a), some (.ref bg), some (.int (0 + (i : Int))), some (.int (1 + (m : Int))), some (.ref l), some (.ref p), some (.ref hd), some dv] ∧ Due rs pt H' dv, ?_, ?_⟩
      · refine ⟨_, rfl, _, rfl, rowD pt, rs.map rowD, .tup (SqT.of (s8 _ _ hp.1)) (dp_nums _), .lst (SqL.of h8) (ro7.same s8).dp, (lay_row _).shaped (by decide), (lay_rows _).shaped (by decide), _, rfl, ?_⟩
        rw [eqv_rows_any]
        by_cases e : pt ∈ rs
        · rw [decide_eq_true e]
          exact iteT ⟨Same.refl _, .non, rfl, .inl ⟨rfl, e⟩⟩
        · rw [decide_eq_false e]
          refine iteF ⟨_, rfl, _, rfl, l, p, us, rs, pt, rfl, h8, ro7.same s8, by omega, hp.same s8, p1, hrs', e, fun gi gk G q H9 s9 h9 => ?_⟩
          exact ⟨s9, .ref q, rfl, .inr ⟨q, gi, gk, rfl, G, h9⟩⟩
      · rintro σ' H9 ⟨s9, dv, rfl, due⟩
        have s79 := s8.trans s9
        have l9 := s9 _ _ h8
        have hd9 : H9 hd = some (.lst us) := s9 _ _ upd_same
        have ro9 := ro7.same s79
        have hp9 := hp.same s79
        have B9 := B8.same s9
        refine ⟨_, rfl, _, rfl, hd, p, us, rs, pt, rfl, hd9, ro9, by omega, hp9, p1, hrs', fun v H10 s10 res => ?_⟩
        have al := gap_due (.refl rs) hp.2.2 (due.same s10) res
        refine ⟨_, rfl, v, dv, rfl, al, fun H11 s11 => ⟨_, rfl, ?_⟩⟩
        have t11 := s10.trans s11
        refine ⟨_, rfl, _, rfl, .list (rs.map rowD), .list (rs.map rowD), .lst (SqL.of (t11 _ _ hd9)) (ro9.same t11).dp, .lst (SqL.of (t11 _ _ l9)) (ro9.same t11).dp, (lay_rows _).shaped (by decide), (lay_rows _).shaped (by decide), _, rfl, ?_⟩
        rw [SeqAt.eqv_refl _ (lay_rows _).1]
        show _
        have B11 := B9.same t11
        refine ⟨_, rfl, _, rfl, bg, l, us, rfl, B11, lb, t11 _ _ l9, by rw [ro.len]; omega, fun q ys H12 pm nq h12 B12 k12 => ?_⟩
        obtain ⟨ss, ps, rs12⟩ := Rows.perm pm.symm (Rows.keep B11 k12 (ro9.same t11))
        have due12 := (due.same t11).keep B11 k12
        refine ⟨_, rfl, q, p, ys, ss, pt, rfl, h12, rs12, by rw [← ps.length_eq]; omega, (hp9.same t11).keep B11 k12, p1, fun r mr => hrs' r (ps.mem_iff.mpr mr), fun v' H13 s13 res' => ?_⟩
        have al' := gap_due ps hp.2.2 (due12.same s13) res'
        refine ⟨_, rfl, v', dv, rfl, al', fun H14 s14 => ⟨_, rfl, ?_⟩⟩
        exact ⟨B12.same (s13.trans s14), _, _, _, _, _, _, rfl⟩
    · rintro σ H2 _
      refine ⟨by show 0 ≤ sizeLine; decide, fun l1 n1 => ⟨by show 2 ≤ sizeLine; decide, fun p2 n2 => ?_⟩⟩
      have t2 := same_new (o := HO.tup [V.int 3, V.int 4]) n2
      have pt2 : PtAt (upd (upd H2 l1 (.lst [])) p2 (.tup [.int 3, .int 4])) p2 [3, 4] := ⟨upd_same, by decide, by decide⟩
      refine ⟨l1, p2, [], [], [3, 4], rfl, t2 _ _ upd_same, .nil, by decide, pt2, by decide, (fun r m => by cases m), fun v H3 s3 res => ?_⟩
      rcases res with ⟨rfl, all⟩ | ⟨q, gi, gk, rfl, G, h3⟩
      · exact absurd (all 0 (by decide)) g_none.out
      obtain ⟨rfl, rfl⟩ := g_none.one G
      refine ⟨by show 2 ≤ sizeLine; decide, fun p3 n3 => ?_⟩
      have t3 := same_new (o := HO.tup [V.str "", V.str ""]) n3
      have b0 : gapBox [3, 4] 0 0 = [("" : Str), ""] := by decide +kernel
      rw [b0] at h3
      refine ⟨.tuple [.str "", .str ""], .tuple [.str "", .str ""], .tup (SqT.of (t3 _ _ h3)) (.cons (.str _) (.cons (.str _) .nil)), .tup (SqT.of upd_same) (.cons (.str _) (.cons (.str _) .nil)), by decide +kernel, by decide +kernel, ?_⟩
      rw [SeqAt.eqv_refl _ (by decide +kernel)]
      refine ⟨_, rfl, iteT ?_⟩
      refine ⟨by show 2 ≤ sizeLine; decide, fun p4 n4 => ⟨by show 1 ≤ sizeLine; decide, fun l5 n5 => ⟨by show 2 ≤ sizeLine; decide, fun p6 n6 => ?_⟩⟩⟩
      have t5 := same_new (o := HO.lst [V.ref p4]) n5
      have t6 := same_new (o := HO.tup [V.int 3, V.int 5]) n6
      refine ⟨l5, p6, [.ref p4], [[3, 4]], [3, 5], rfl, t6 _ _ upd_same, .cons ((t5.trans t6) _ _ upd_same) .nil, by decide, ⟨upd_same, by decide, by decide⟩, by decide, fun r m => ?_, fun v H7 s7 res => ?_⟩
      · rw [List.mem_singleton.mp m]
        exact ⟨rfl, by decide⟩
      · rcases res with ⟨rfl, all⟩ | ⟨q, gi, gk, rfl, G, h7⟩
        · exact absurd (all 1 (by decide)) g_one.out
        obtain ⟨rfl, rfl⟩ := g_one.one G
        refine ⟨by show 2 ≤ sizeLine; decide, fun p8 n8 => ?_⟩
        have t8 := same_new (o := HO.tup [V.str "00011", V.str "00101"]) n8
        have b1 : gapBox [3, 5] 1 5 = [("00011" : Str), "00101"] := by decide +kernel
        rw [b1] at h7
        refine ⟨.tuple [.str "00011", .str "00101"], .tuple [.str "00011", .str "00101"], .tup (SqT.of (t8 _ _ h7)) (.cons (.str _) (.cons (.str _) .nil)), .tup (SqT.of upd_same) (.cons (.str _) (.cons (.str _) .nil)), by decide +kernel, by decide +kernel, ?_⟩
        rw [SeqAt.eqv_refl _ (by decide +kernel)]
        exact k _
end
end VQ
namespace VQ
open PySem L2 LamX
/-! ### what the top has left -/
def oexB (K : PySem.W.Frag) (C : Addr) : Bool := match K.lookup C with
  | some ⟨cl, _, .cls cd, sl⟩ => decide (cl = .type "type") && (match cd.mro with
    | top :: bm => decide (top = .ref C) && PySem.HandSPX.refsVE bm
    | [] => false) && decide (sl.size = 6) && decide (sl[4]? = some (some (.builtin "ValueError.__new__"))) && cd.hasDict && !cd.hasDel
  | _ => false
theorem six {sl : Array (Option Value)} {v : Option Value} (h : sl.size = 6) (e : sl[4]? = some v) : ∃ k0 k1 k2 k3 k5, sl = #[k0, k1, k2, k3, v, k5] := by
  obtain ⟨l⟩ := sl
  match l, h, e with
  | [k0, k1, k2, k3, k4, k5], _, e =>
    cases e
    exact ⟨k0, k1, k2, k3, k5, rfl⟩
theorem oexB_ok {K : PySem.W.Frag} {C : Addr} (q : oexB K C = true) : ∃ nm q N bs bm sn sub ab col dd k0 k1 k2 k3 k5, K.lookup C = some (excClassObj nm q C N bs bm true sn sub ab col dd k0 k1 k2 k3 k5 "ValueError.__new__") ∧ PySem.HandSPX.refsVE bm = true := by
  unfold oexB at q
  cases here : K.lookup C with
  | none => rw [here] at q; cases q
  | some o =>
    obtain ⟨cl, dc, dt, sl⟩ := o
    rw [here] at q
    cases dt with
    | cls cd =>
      obtain ⟨nm, bs, mro, ns, qn, hasD, sn, sub, ab, col, del⟩ := cd
      cases mro with
      | nil => simp at q
      | cons first bm =>
        simp only [Bool.and_eq_true, decide_eq_true_eq, Bool.not_eq_true'] at q
        obtain ⟨⟨⟨⟨⟨q1, q2, q3⟩, q4⟩, q5⟩, q6⟩, q7⟩ := q
        obtain ⟨k0, k1, k2, k3, k5, rfl⟩ := six q4 q5
        subst q1 q2 q6 q7
        exact ⟨nm, qn, ns, bs, bm, sn, sub, ab, col, dc, k0, k1, k2, k3, k5, rfl, q3⟩
    | _ => cases q
/-- an error class of the program: made by its own __init__, its field called -/
def errB (K : PySem.W.Frag) (x : Str) : Bool := oexB K (He.ga K x) && (decide (PySem.W.findIn K (.ref (He.ga K x)) "__setattr__" = some (some (.builtin "object.__setattr__"))) &&
  (decide (PySem.W.subIn K (.ref (He.ga K x)) (.type "BaseException") = some true) && (decide (PySem.W.typeIn K (.ref (He.ga K x)) = some (.type "type")) && (PySem.W.keepIn K (.ref (He.ga K x)) &&
  (decide (PySem.W.findIn K (.ref (He.ga K x)) "__init__" = some (some (.ref (He.ma K (He.ga K x) "__init__")))) && (decide (PySem.W.typeIn K (.ref (He.ma K (He.ga K x) "__init__")) = some (.type "function")) &&
  decide (PySem.W.findIn K (.ref (He.ga K x)) "called" = some none)))))))
theorem errB_ok {K : PySem.W.Frag} {mg : Str → Option Value} {x qual : Str} {st : Stmt} {fd : FuncData} (h : errB K x = true) (gl : mg x = some (.ref (He.ga K x))) (fn : Fun K "__init__" qual st (He.ma K (He.ga K x) "__init__") fd) (bd : Binds K fd ["self"] []) :
    ErrC K mg x (He.ga K x) (He.ma K (He.ga K x) "__init__") fd qual st := by
  obtain ⟨h1, h⟩ := He.ba h
  obtain ⟨h2, h⟩ := He.ba h
  obtain ⟨h3, h⟩ := He.ba h
  obtain ⟨h4, h⟩ := He.ba h
  obtain ⟨h5, h⟩ := He.ba h
  obtain ⟨h6, h⟩ := He.ba h
  obtain ⟨h7, h8⟩ := He.ba h
  exact ⟨gl, ⟨oexB_ok h1, of_decide_eq_true h2, of_decide_eq_true h3, of_decide_eq_true h4, h5⟩, of_decide_eq_true h6, of_decide_eq_true h7, of_decide_eq_true h8, fn, bd⟩
theorem fun_of_D {K : PySem.W.Frag} {x qual : Str} {st : Stmt} {f : Addr} {fd : FuncData} (F : FunD K x qual (defArgs st) (defBody st) (defScope st) [] [] f fd) : Fun K x qual st f fd := by
  obtain ⟨oc, od, dV, kV, doc, pm, an, cdv, ct, osl, e, lk, cd, dv, kw⟩ := F.ex
  rcases dv with ⟨_, rfl⟩ | ⟨z, _⟩
  · exact ⟨⟨oc, od, kV, doc, pm, an, cdv, ct, osl, e, lk, cd⟩, F.kp⟩
  · exact absurd rfl z
/-- a def of the top -/
def dd (x : Str) (st : Stmt) : He.DefD := ⟨(x, none), x, x, defArgs st, defBody st, defScope st, [], []⟩
def dm (c m q : Str) (st : Stmt) : He.DefD := ⟨(c, some m), m, q, defArgs st, defBody st, defScope st, [], []⟩
end VQ
/-! ### the head: what the top has left, by names -/
namespace VQ
open PySem L2 LamX
def fn : List He.DefD := [dd "_law_bag" sBag, dd "_law_pull" sPull, dd "_law_of" sOf, dd "_law_mixed" sLawMixed, dd "_law_same" sSame, dd "_law_worth" sWorth, dd "_law_figs" sFigs, dd "_law_point" sPoint, dd "_law_box_of" sBoxOf, dd "_law_rows" sLawRows, dd "_law_hanging" sLawHanging, dd "_law_gap" sLawGap, dd "_law_point_near" sLawPointNear, dd "is_number" sIsNumber, dd "is_worth" sIsWorth, dd "figures" sFigures, dd "shortest" sShortest, dd "is_places" sIsPlaces, dd "is_point" sIsPoint, dd "need_point" sNeedPoint, dd "box_of" sBoxOfP, dd "whole" sWhole, dd "gap" sGap, dm "BadWorth" "__init__" "BadWorth.__init__" sBadWorth, dm "BadPoint" "__init__" "BadPoint.__init__" sBadPoint, dd "law" sLaw]
def fa : List He.Fa := [.free "isinstance", .free "int", .free "bool", .free "str", .free "list", .free "tuple", .free "len", .free "all", .free "range", .free "any", .free "enumerate", .free "sorted", .free "set", .int "WORTHS" 32, .int "FIGURES" 5, .int "MOST_PLACES" 5, .glo "_law_bag", .glo "_law_pull", .glo "_law_of", .glo "_law_mixed", .glo "_law_same", .glo "_law_worth", .glo "_law_figs", .glo "_law_point", .glo "_law_box_of", .glo "_law_rows", .glo "_law_hanging", .glo "_law_gap", .glo "_law_point_near", .glo "is_number", .glo "is_worth", .glo "figures", .glo "shortest", .glo "is_places", .glo "is_point", .glo "need_point", .glo "box_of", .glo "whole", .glo "gap", .glo "BadWorth", .glo "BadPoint", .glo "law"]
def ex (K : PySem.W.Frag) : Bool := (errB K "BadWorth") && (errB K "BadPoint")
abbrev Rw : PySem.W.OpenRow := PySem.W.OpenLaw.row PySem.Challenge.rw_voidquilt_k14_gaps_about_points
abbrev hk : PySem.W.Hook := He.hookX 6 fa fn [] [] ex
def ob (s : PySem.W.SharedT) : He.AlX := He.obsX 6 fa fn [] [] ex (HandSHeadRun.getT s)
theorem ob_eq (s : PySem.W.SharedT) : ob s = hk.obs s.abs := He.obsX_eq (HandSHeadRun.getT_eq s)
def loose : List PySem.Str := (["QuiltError", "BadWorth", "BadPoint", "WORTHS", "FIGURES", "is_number", "is_worth", "figures", "shortest", "MOST_PLACES", "is_places", "is_point", "need_point", "box_of", "whole", "gap", "_law_bag", "_law_pull", "_law_of", "_law_mixed", "_law_same", "_law_worth", "_law_figs", "_law_point", "_law_box_of", "_law_rows", "_law_hanging", "_law_gap", "_law_point_near"] : List PySem.Str)
theorem run (w : World) : HandSHeadRun.RunEq Rw (PySem.W.view Rw.prog [34]) hk ob 40000 loose w := by
  intro os
  kernel_rfl
theorem at_of {K : PySem.W.Frag} {h : Heap} {mg : Str → Option Value} (X : K.In h) (G : h.Ns mainGlobals mg) {x : Str} {st : Stmt} {ps : List Str} (c : He.SaysD fa fn K) (m : dd x st ∈ fn) (g : He.Fa.glo x ∈ fa)
    (hb : ∀ (kV doc pm : Value) (an : Option Addr) (cdv ct : Value) (us : List Value), us.length = ps.length → bindArgs (PySem.W.fnOf x x (defArgs st) (defBody st) (defScope st) .none kV doc pm an cdv ct) ⟨us, []⟩ = pure (ps.zip us)) : ∃ fd, At K mg x st ps (He.ga K x) fd := by
  obtain ⟨fd, F⟩ := c.defs m
  have F' : Fun K x x st (He.ga K x) fd := fun_of_D F
  exact ⟨fd, F', He.glo_ok X G (c.facts g), F'.binds hb⟩
theorem facts {l : PySem.W.OpenLaw} {w : World} {K : PySem.W.Frag} {h : Heap} {mg : Str → Option Value} {f : Addr} (X : K.In h) (G : h.Ns mainGlobals mg) (hfa : mg ("law" : Str) = some (.ref f)) (S : He.SaysX fa fn [] [] ex w h K) : LawAtS l w K CX0 7 63 "_law_script" mg f h := by
  have c : He.SaysD fa fn K := S.t.d
  have gl : ∀ {x : Str}, He.Fa.glo x ∈ fa → mg x = some (.ref (He.ga K x)) := fun m => He.glo_ok X G (c.facts m)
  have fr : ∀ {x : Str}, He.Fa.free x ∈ fa → mg x = none := fun m => He.free_ok X G (c.facts m)
  obtain ⟨tkWORTHS, iWORTHS⟩ := He.int_ok X G (x := "WORTHS") (i := 32) (c.facts (by simp [fa]))
  obtain ⟨tkFIGURES, iFIGURES⟩ := He.int_ok X G (x := "FIGURES") (i := 5) (c.facts (by simp [fa]))
  obtain ⟨tkMOST_PLACES, iMOST_PLACES⟩ := He.int_ok X G (x := "MOST_PLACES") (i := 5) (c.facts (by simp [fa]))
  have b : Blt mg := ⟨fr (by simp [fa]), fr (by simp [fa]), fr (by simp [fa]), fr (by simp [fa]), fr (by simp [fa]), fr (by simp [fa]), fr (by simp [fa]), fr (by simp [fa]), fr (by simp [fa])⟩
  have fany : mg "any" = none := fr (by simp [fa])
  have fenumerate : mg "enumerate" = none := fr (by simp [fa])
  have fsorted : mg "sorted" = none := fr (by simp [fa])
  have fset : mg "set" = none := fr (by simp [fa])
  have more : ex K = true := S.more
  unfold ex at more
  simp only [Bool.and_eq_true] at more
  obtain ⟨r0, r1⟩ := more
  obtain ⟨fdIBadWorth, FIBadWorth⟩ := c.defs (d := dm "BadWorth" "__init__" "BadWorth.__init__" sBadWorth) (by simp [fn])
  have FJBadWorth : Fun K "__init__" "BadWorth.__init__" sBadWorth (He.ma K (He.ga K "BadWorth") "__init__") fdIBadWorth := fun_of_D FIBadWorth
  have bIBadWorth : Binds K fdIBadWorth ["self"] [] := FJBadWorth.binds fun _ _ _ _ _ _ us hl => match us, hl with | [_], _ => rfl
  have EBadWorth := errB_ok (qual := "BadWorth.__init__") (st := sBadWorth) r0 (gl (x := "BadWorth") (by simp [fa])) FJBadWorth bIBadWorth
  obtain ⟨fdIBadPoint, FIBadPoint⟩ := c.defs (d := dm "BadPoint" "__init__" "BadPoint.__init__" sBadPoint) (by simp [fn])
  have FJBadPoint : Fun K "__init__" "BadPoint.__init__" sBadPoint (He.ma K (He.ga K "BadPoint") "__init__") fdIBadPoint := fun_of_D FIBadPoint
  have bIBadPoint : Binds K fdIBadPoint ["self"] [] := FJBadPoint.binds fun _ _ _ _ _ _ us hl => match us, hl with | [_], _ => rfl
  have EBadPoint := errB_ok (qual := "BadPoint.__init__") (st := sBadPoint) r1 (gl (x := "BadPoint") (by simp [fa])) FJBadPoint bIBadPoint
  obtain ⟨fd_law_bag, a_law_bag⟩ := at_of (x := "_law_bag") (st := sBag) (ps := ["_law_script"]) X G c (by simp [fn]) (by simp [fa]) fun _ _ _ _ _ _ us hl => match us, hl with | [_], _ => rfl
  obtain ⟨fd_law_pull, a_law_pull⟩ := at_of (x := "_law_pull") (st := sPull) (ps := ["_law_bag_here", "_law_size"]) X G c (by simp [fn]) (by simp [fa]) fun _ _ _ _ _ _ us hl => match us, hl with | [_, _], _ => rfl
  obtain ⟨fd_law_of, a_law_of⟩ := at_of (x := "_law_of") (st := sOf) (ps := ["_law_bag_here", "_law_some"]) X G c (by simp [fn]) (by simp [fa]) fun _ _ _ _ _ _ us hl => match us, hl with | [_, _], _ => rfl
  obtain ⟨fd_law_mixed, a_law_mixed⟩ := at_of (x := "_law_mixed") (st := sLawMixed) (ps := ["_law_bag_here", "_law_some"]) X G c (by simp [fn]) (by simp [fa]) fun _ _ _ _ _ _ us hl => match us, hl with | [_, _], _ => rfl
  obtain ⟨fd_law_same, a_law_same⟩ := at_of (x := "_law_same") (st := sSame) (ps := ["_law_found", "_law_due"]) X G c (by simp [fn]) (by simp [fa]) fun _ _ _ _ _ _ us hl => match us, hl with | [_, _], _ => rfl
  obtain ⟨fd_law_worth, a_law_worth⟩ := at_of (x := "_law_worth") (st := sWorth) (ps := ["_law_bag_here"]) X G c (by simp [fn]) (by simp [fa]) fun _ _ _ _ _ _ us hl => match us, hl with | [_], _ => rfl
  obtain ⟨fd_law_figs, a_law_figs⟩ := at_of (x := "_law_figs") (st := sFigs) (ps := ["_law_worth_here"]) X G c (by simp [fn]) (by simp [fa]) fun _ _ _ _ _ _ us hl => match us, hl with | [_], _ => rfl
  obtain ⟨fd_law_point, a_law_point⟩ := at_of (x := "_law_point") (st := sPoint) (ps := ["_law_bag_here", "_law_many"]) X G c (by simp [fn]) (by simp [fa]) fun _ _ _ _ _ _ us hl => match us, hl with | [_, _], _ => rfl
  obtain ⟨fd_law_box_of, a_law_box_of⟩ := at_of (x := "_law_box_of") (st := sBoxOf) (ps := ["_law_point_here"]) X G c (by simp [fn]) (by simp [fa]) fun _ _ _ _ _ _ us hl => match us, hl with | [_], _ => rfl
  obtain ⟨fd_law_rows, a_law_rows⟩ := at_of (x := "_law_rows") (st := sLawRows) (ps := ["_law_bag_here", "_law_width", "_law_most"]) X G c (by simp [fn]) (by simp [fa]) fun _ _ _ _ _ _ us hl => match us, hl with | [_, _, _], _ => rfl
  obtain ⟨fd_law_hanging, a_law_hanging⟩ := at_of (x := "_law_hanging") (st := sLawHanging) (ps := ["_law_rows_here", "_law_path"]) X G c (by simp [fn]) (by simp [fa]) fun _ _ _ _ _ _ us hl => match us, hl with | [_, _], _ => rfl
  obtain ⟨fd_law_gap, a_law_gap⟩ := at_of (x := "_law_gap") (st := sLawGap) (ps := ["_law_rows_here", "_law_point_here"]) X G c (by simp [fn]) (by simp [fa]) fun _ _ _ _ _ _ us hl => match us, hl with | [_, _], _ => rfl
  obtain ⟨fd_law_point_near, a_law_point_near⟩ := at_of (x := "_law_point_near") (st := sLawPointNear) (ps := ["_law_bag_here", "_law_rows_here", "_law_width"]) X G c (by simp [fn]) (by simp [fa]) fun _ _ _ _ _ _ us hl => match us, hl with | [_, _, _], _ => rfl
  obtain ⟨fdis_number, ais_number⟩ := at_of (x := "is_number") (st := sIsNumber) (ps := ["thing", "low", "behind"]) X G c (by simp [fn]) (by simp [fa]) fun _ _ _ _ _ _ us hl => match us, hl with | [_, _, _], _ => rfl
  obtain ⟨fdis_worth, ais_worth⟩ := at_of (x := "is_worth") (st := sIsWorth) (ps := ["thing"]) X G c (by simp [fn]) (by simp [fa]) fun _ _ _ _ _ _ us hl => match us, hl with | [_], _ => rfl
  obtain ⟨fdfigures, afigures⟩ := at_of (x := "figures") (st := sFigures) (ps := ["worth"]) X G c (by simp [fn]) (by simp [fa]) fun _ _ _ _ _ _ us hl => match us, hl with | [_], _ => rfl
  obtain ⟨fdshortest, ashortest⟩ := at_of (x := "shortest") (st := sShortest) (ps := ["worth", "worths"]) X G c (by simp [fn]) (by simp [fa]) fun _ _ _ _ _ _ us hl => match us, hl with | [_, _], _ => rfl
  obtain ⟨fdis_places, ais_places⟩ := at_of (x := "is_places") (st := sIsPlaces) (ps := ["thing"]) X G c (by simp [fn]) (by simp [fa]) fun _ _ _ _ _ _ us hl => match us, hl with | [_], _ => rfl
  obtain ⟨fdis_point, ais_point⟩ := at_of (x := "is_point") (st := sIsPoint) (ps := ["thing"]) X G c (by simp [fn]) (by simp [fa]) fun _ _ _ _ _ _ us hl => match us, hl with | [_], _ => rfl
  obtain ⟨fdneed_point, aneed_point⟩ := at_of (x := "need_point") (st := sNeedPoint) (ps := ["point"]) X G c (by simp [fn]) (by simp [fa]) fun _ _ _ _ _ _ us hl => match us, hl with | [_], _ => rfl
  obtain ⟨fdbox_of, abox_of⟩ := at_of (x := "box_of") (st := sBoxOfP) (ps := ["point"]) X G c (by simp [fn]) (by simp [fa]) fun _ _ _ _ _ _ us hl => match us, hl with | [_], _ => rfl
  obtain ⟨fdwhole, awhole⟩ := at_of (x := "whole") (st := sWhole) (ps := ["many"]) X G c (by simp [fn]) (by simp [fa]) fun _ _ _ _ _ _ us hl => match us, hl with | [_], _ => rfl
  obtain ⟨fdgap, agap⟩ := at_of (x := "gap") (st := sGap) (ps := ["rows", "point"]) X G c (by simp [fn]) (by simp [fa]) fun _ _ _ _ _ _ us hl => match us, hl with | [_, _], _ => rfl
  obtain ⟨fd, F⟩ := c.defs (d := dd "law" sLaw) (by simp [fn])
  have ef : f = He.ga K "law" := by
    have e := hfa.symm.trans (gl (x := "law") (by simp [fa]))
    injection e with e
    injection e
  subst ef
  have F' : Fun K "law" "law" sLaw (He.ga K "law") fd := fun_of_D F
  obtain ⟨oc, od, kV, doc, pm, an, cdv, ct, osl, efd, lk, hcd⟩ := F'.ex
  refine ⟨fd, [], spLawN K, fun p hp => absurd hp (by simp), fun p hp => absurd hp (by simp), fun p hp => absurd hp (by simp), fun s u => ?_, fun H a ns hn _ hT hS => ?_, fun base KB GB TB => ?_⟩
  · rw [efd]
    exact .of_eq rfl
  · exact ⟨a, ns, rfl, hS, hn, fun _ => rfl⟩
  · exact ok_law F' b fany fenumerate fsorted fset iWORTHS iFIGURES iMOST_PLACES a_law_bag a_law_pull a_law_of a_law_mixed a_law_same a_law_worth a_law_figs a_law_point a_law_box_of a_law_rows a_law_hanging a_law_gap a_law_point_near ⟨ais_worth, _, _, ais_number⟩ afigures ashortest ais_places ais_point aneed_point abox_of awhole agap EBadWorth EBadPoint
end VQ
open PySem PySem.W PySem.Calls PyProof.Rows
set_option maxRecDepth 100000 in
set_option maxHeartbeats 0 in
theorem PySem.Challenge.cw_voidquilt_k14_gaps_about_points_holds : PySem.Challenge.rw_voidquilt_k14_gaps_about_points.Holds := by
  w_on; o_law
  refine HandSHeadRun.head_any (r := PySem.W.OpenLaw.row PySem.Challenge.rw_voidquilt_k14_gaps_about_points) (q := view (PySem.W.OpenLaw.row PySem.Challenge.rw_voidquilt_k14_gaps_about_points).prog [34]) (H := VQ.hk) (ob := VQ.ob) (M := 40000) (loose := VQ.loose) (d := HandSHeadRun.topDef (PySem.W.OpenLaw.row PySem.Challenge.rw_voidquilt_k14_gaps_about_points).prog 34) (kwd := []) VQ.ob_eq
    (by kernel_rfl) (fun s => by kernel_rfl) VQ.run (by kernel_rfl) (by kernel_rfl) (by kernel_rfl) (by rfl) (by first | assumption | decide +kernel) (by decide +kernel) ⟨rfl, rfl, rfl, rfl, rfl, by decide +kernel⟩ ?hw ?hc
  case hw => w_witness2
  case hc =>
    refine LamX.walk_ofTsE (l := PySem.Challenge.rw_voidquilt_k14_gaps_about_points) (n := 63) (k := 7) (x := "_law_script") (CX := fun _ => L2.CX0) rfl (by decide) (by kernel_rfl) ⟨rfl, by decide, by decide⟩ ?F (fun _ _ _ _ _ z => z)
    intro w mg fa h Y G hmg0
    obtain ⟨K, KX, S⟩ := Y
    have hmg : mg ("law" : PySem.Str) = some (.ref fa) := by
      have e : (HandSHeadRun.topDef (PySem.W.OpenLaw.row PySem.Challenge.rw_voidquilt_k14_gaps_about_points).prog 34).name = ("law" : PySem.Str) := by kernel_rfl
      rw [← e]
      exact hmg0
    exact ⟨K, KX, VQ.facts KX G hmg S⟩
