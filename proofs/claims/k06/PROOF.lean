import PyProof.Rows.All
import Wide.All
import OpenK.AllK
import Wide.FinOn
import HandS.Base
import HandS.Call
import HandS.List
import HandS.Words
import HandS.WordsList
import HandS.Codes
import HandS.Ends
import HandS.Exc
import HandS.ExcInit
import HandS.ExcField
import HandS.TryMany
import KE.KTryMore
import HandS.Lambda
import HandS.Defaults
import PyProof.DefMake
import PyProof.DefCall
import HandS.TupMul
import HandS.TupAny
import HandS.Zip
import HandS.Comp
import HandS.Iter
import KE.GoesMore
import HandS.IsInst
import HandS.StrMore
import HandS.WordsExc
import HandS.Text
import PyProof.StrLaws
import PyProof.StrLawsAffix
import HandS.EndTab
import HandS.HeadWalk
import HandS.Head0
import HandS.Head1
import HandS.Head2
import HandS.HeadEnd
import HandS.HeadHook1
import HandS.HeadHook2
import HandS.HeadHook3
import HandS.HeadHook4
import PySem.Challenge.RW_voidquilt_k06_boxes_put_together
set_option Elab.async false
set_option linter.all false
set_option maxRecDepth 100000
set_option maxHeartbeats 3000000
namespace VQ
open PySem L2
def top (i : Nat) : Stmt := PySem.Challenge.pw_voidquilt_k06_boxes_put_together.main.body.getD i (.Pass ⟨0, 0, 0, 0⟩)
abbrev sBag : Stmt := top 30
abbrev sPull : Stmt := top 31
abbrev sOf : Stmt := top 32
/-- a drawing bag stands at b -/
def Bag (H : Hp) (b : Addr) : Prop := ∃ (l : Addr) (ns : List Int) (i r x n : Int), l ≠ b ∧ H b = some (.lst [.ref l, .int i, .int r, .int x, .int n]) ∧ H l = some (.lst (ns.map V.int)) ∧ 0 ≤ i ∧ 0 ≤ x ∧ x < 2147483629
/-- all but b is as it was, and the list in b's first place is the same one -/
def Keep (b : Addr) (H H' : Hp) : Prop := (∀ a o, a ≠ b → H a = some o → H' a = some o) ∧ ∀ l r, H b = some (.lst (.ref l :: r)) → ∃ r', H' b = some (.lst (.ref l :: r'))
theorem Keep.refl (b : Addr) (H : Hp) : Keep b H H := ⟨fun _ _ _ h => h, fun _ r h => ⟨r, h⟩⟩
theorem Keep.trans {b : Addr} {H H1 H2 : Hp} (h1 : Keep b H H1) (h2 : Keep b H1 H2) : Keep b H H2 := ⟨fun a o n h => h2.1 a o n (h1.1 a o n h), fun l r h => let ⟨r1, e⟩ := h1.2 l r h; h2.2 l r1 e⟩
theorem Keep.upd {b l : Addr} {H : Hp} {r r' : List V} (h : H b = some (.lst (.ref l :: r))) : Keep b H (upd H b (.lst (.ref l :: r'))) := ⟨fun a u n h => by rw [upd_ne n]; exact h, fun l' r1 e => by
  rw [h] at e
  cases e
  exact ⟨r', upd_same⟩⟩
theorem Same.keep {b : Addr} {H H' : Hp} (h : Same H H') : Keep b H H' := ⟨fun a o _ e => h a o e, fun l r e => ⟨r, h _ _ e⟩⟩
theorem same_new {H : Hp} {p : Addr} {o : HO} (h : H p = none) : Same H (upd H p o) := fun a u e => by rw [upd_ne (ne_of_none e h)]; exact e
theorem Bag.here {H : Hp} {b : Addr} (h : Bag H b) : ∃ o, H b = some o := by
  obtain ⟨l, ns, i, r, x, n, _, h1, _⟩ := h
  exact ⟨_, h1⟩
theorem Bag.same {H H' : Hp} {b : Addr} (h : Bag H b) (s : Same H H') : Bag H' b := by
  obtain ⟨l, ns, i, r, x, n, nl, h1, h2, h3⟩ := h
  exact ⟨l, ns, i, r, x, n, nl, s _ _ h1, s _ _ h2, h3⟩
theorem Keep.free {b p : Addr} {H H' : Hp} (k : Keep b H H') (h : Bag H b) (h' : Bag H' b) (hp : H' p = none) : H p = none := by
  cases q : H p with
  | none => rfl
  | some o =>
    by_cases e : p = b
    · obtain ⟨o', z⟩ := h'.here
      rw [e, z] at hp
      cases hp
    · rw [k.1 p o e q] at hp
      cases hp
/-- something new is written while the bag is kept -/
theorem Bag.put {b D : Addr} {H0 H : Hp} {o : HO} (B0 : Bag H0 b) (hD : H0 D = none) (k : Keep b H0 H) (B : Bag H b) : Bag (upd H D o) b ∧ Keep b H0 (upd H D o) := by
  obtain ⟨l, ns, i, r, x, n, nl, h1, h2, h3⟩ := B0
  obtain ⟨l', ns', i', r', x', n', nl', g1, g2, g3⟩ := B
  obtain ⟨rr, e⟩ := k.2 l _ h1
  rw [g1] at e
  cases e
  have bD : b ≠ D := ne_of_none h1 hD
  have lD : l ≠ D := ne_of_none h2 hD
  refine ⟨⟨l, ns', i', r', x', n', nl', (upd_ne bD).trans g1, (upd_ne lD).trans g2, g3⟩, fun a u ne e => ?_, fun l2 r2 e => ?_⟩
  · rw [upd_ne (ne_of_none e hD)]
    exact k.1 a u ne e
  · rw [upd_ne bD]
    exact k.2 l2 r2 e
theorem Keep.tup {b a : Addr} {H H' : Hp} {xs : List V} (k : Keep b H H') (B : Bag H b) (h : H a = some (.tup xs)) : H' a = some (.tup xs) := by
  refine k.1 a _ (fun e => ?_) h
  obtain ⟨l, ns, i, r, x, n, nl, h1, _⟩ := B
  rw [e, h1] at h
  cases h
def spPull : Sp := fun vs H Q _ => ∃ (b : Addr) (s : Int), vs = [.ref b, .int s] ∧ Bag H b ∧ 1 ≤ s ∧ s < 1073741824 ∧
  ∀ (d : Int) (H' : Hp), 0 ≤ d → d < s → Bag H' b → Keep b H H' → Q (.int d) H'
section
variable {P : Program} {w : World} {K : PySem.W.Frag} {mg : Str → Option Value} {base : Heap}
theorem scPull : FnScope ["_law_bag_here", "_law_size", "_law_cell", "_law_digit"] ["_law_bag_here", "_law_size"] (defScope sPull) := ⟨rfl, rfl, rfl, by decide +kernel, rfl, by decide +kernel, by decide +kernel⟩
theorem ok_pull {f : Addr} {fd : FuncData} (F : Fun K "_law_pull" "_law_pull" sPull f fd) (len : mg "len" = none) : FnOk P w K mg base CX0 1 f fd ["_law_bag_here", "_law_size"] spPull := by
  refine F.ok scPull (fun vs H Q E h => ?_) (fun cdv A outer s H vs Q E hr h => ?_)
  · obtain ⟨b, s, rfl, _⟩ := h
    rfl
  · obtain ⟨b, z, rfl, B, z1, z2, k⟩ := h
    refine ⟨_, C8.pss_cut (ps_if (PW.pt (pw_and (pt_cmpR op_lt (pe_ix ix_list (pv 0) pe_int fun _ _ => rfl) (pv 1) (nomark _)) (pw_and1 (pt_cmpR op_lt (pe_ix ix_list (pv 0) pe_int fun _ _ => rfl)
          (pe_callB call_len_seq (by rfl) len PySem.boot_len (pa_cons (pe_ix ix_list (pv 0) pe_int fun _ _ => rfl) pa_nil)) (nomark _)))))
        (pss_cons (ps_set (i := 2) scPull.nd rfl (.inl rfl) (pe_ix ix_list (pe_ix ix_list (pv 0) pe_int fun _ _ => rfl) (pe_ix ix_list (pv 0) pe_int fun _ _ => rfl) fun _ _ => rfl))
        (pss_cons (ps_asg (pe_op op_add (pe_ix ix_list (pv 0) pe_int fun _ _ => rfl) pe_int) (pg_sub (pv 0) pe_int set_list))
        (pss_cons (ps_asg (pe_ifExp (pt_cmpR op_ge (pv 2) (pe_op op_pow pe_int pe_int) (nomark _)) (pe_op op_sub (pv 2) (pe_op op_pow pe_int pe_int)) pe_int) (pg_sub (pv 0) pe_int set_list))
        (pss_one (ps_asg (pe_op op_mod (pe_op op_add (pe_op op_add (pe_op op_mul (pe_ix ix_list (pv 0) pe_int fun _ _ => rfl) pe_int) (pe_op op_mul (pv 2) pe_int)) (pe_ix ix_list (pv 0) pe_int fun _ _ => rfl)) pe_int) (pg_sub (pv 0) pe_int set_list))))))
        pss_nil)
      (pss_cons (ps_if (pt_cmpR op_ge (pe_ix ix_list (pv 0) pe_int fun _ _ => rfl) (pv 1) (nomark _))
        (pss_cons (ps_set (i := 3) scPull.nd rfl (.inl rfl) (pe_op op_mod (pe_ix ix_list (pv 0) pe_int fun _ _ => rfl) (pv 1)))
        (pss_cons (ps_asg (pe_op op_fdiv (pe_ix ix_list (pv 0) pe_int fun _ _ => rfl) (pv 1)) (pg_sub (pv 0) pe_int set_list))
        (pss_one (ps_ret (pv 3)))))
        pss_nil)
      (pss_cons (ps_asg (pe_op op_add (pe_ix ix_list (pv 0) pe_int fun _ _ => rfl) pe_int) (pg_sub (pv 0) pe_int set_list))
      (pss_cons (ps_asg (pe_op op_mod (pe_op op_add (pe_op op_add (pe_op op_add (pe_op op_pow (pe_ix ix_list (pv 0) pe_int fun _ _ => rfl) pe_int) (pe_op op_mul pe_int (pe_ix ix_list (pv 0) pe_int fun _ _ => rfl))) (pe_op op_fdiv (pe_ix ix_list (pv 0) pe_int fun _ _ => rfl) pe_int)) pe_int) pe_int) (pg_sub (pv 0) pe_int set_list))
      (pss_one (ps_ret (pe_op op_mod (pe_op op_fdiv (pe_ix ix_list (pv 0) pe_int fun _ _ => rfl) pe_int) (pv 1)))))))
      , ?_⟩
    refine ⟨fun σ' H' => ∃ (c e : Option V), σ' = [some (.ref b), some (.int z), c, e] ∧ Bag H' b ∧ Keep b H H', ?_, ?_⟩
    · obtain ⟨l, ns, i, r, x, n, nl, h1, h2, i0, x0, x1⟩ := id B
      have m53 : ∀ y : Int, 0 ≤ y % 2147483629 ∧ y % 2147483629 < 2147483629 := fun y => ⟨Int.emod_nonneg _ (by decide), Int.emod_lt_of_pos _ (by decide)⟩
      refine ⟨_, rfl, _, _, _, _, rfl, rfl, SqL.of h1, (show atI [V.ref l, .int i, .int r, .int x, .int n] 2 = some (.int r) from rfl), _, rfl, _, _, rfl, rfl, _, rfl, ?_⟩
      refine ite2 (fun _ => ?_) (fun _ => ?_)
      · refine ⟨_, rfl, _, _, _, _, rfl, rfl, SqL.of h1, (show atI [V.ref l, .int i, .int r, .int x, .int n] 1 = some (.int i) from rfl), _, rfl, _, _, _, _, rfl, rfl, SqL.of h1, (show atI [V.ref l, .int i, .int r, .int x, .int n] 0 = some (.ref l) from rfl), l, _, rfl, .inl (SqL.of h2), _, _, rfl, rfl, _, rfl, ?_⟩
        refine ite2 (fun hlt => ?_) (fun _ => ?_)
        · have hi : i < (ns.length : Int) := by
            have q := of_decide_eq_true hlt
            rw [List.length_map] at q
            exact q
          obtain ⟨j, rfl⟩ := Int.eq_ofNat_of_zero_le i0
          have hj : j < ns.length := Int.ofNat_lt.mp hi
          have at1 : atI (ns.map V.int) (j : Int) = some (V.int (ns[j]'hj)) := atI_nat (by rw [List.getElem?_map, List.getElem?_eq_getElem hj]; rfl)
          generalize ns[j]'hj = cell at at1
          refine ⟨_, rfl, _, _, _, _, rfl, rfl, SqL.of h1, (show atI [V.ref l, .int j, .int r, .int x, .int n] 0 = some (.ref l) from rfl), _, rfl, _, _, _, _, rfl, rfl, SqL.of h1, (show atI [V.ref l, .int j, .int r, .int x, .int n] 1 = some (.int j) from rfl), l, _, _, _, rfl, rfl, SqL.of h2, at1, ?_⟩
          -- bag[1] = bag[1] + 1
          refine ⟨_, rfl, _, _, _, _, rfl, rfl, SqL.of h1, (show atI [V.ref l, .int j, .int r, .int x, .int n] 1 = some (.int j) from rfl), _, _, rfl, rfl, _, rfl, b, _, 1, 1, rfl, rfl, h1, rfl, ?_⟩
          -- bag[2] = ..
          refine ⟨_, rfl, 10, 18, rfl, rfl, ⟨by decide, by decide, by decide⟩, _, _, rfl, rfl, _, rfl, ?_⟩
          refine ite2 (fun _ => ?_) (fun _ => ?_)
          · refine ⟨_, rfl, 10, 18, rfl, rfl, ⟨by decide, by decide, by decide⟩, _, _, rfl, rfl, _, rfl, b, _, 2, 2, rfl, rfl, upd_same, rfl, ?_⟩
            refine ⟨_, rfl, b, _, _, _, rfl, rfl, SqL.of upd_same, rfl, _, 69069, rfl, rfl, .inr ⟨by decide, by decide⟩, _, rfl, _, 5, rfl, rfl, .inr ⟨by decide, by decide⟩, _, _, rfl, rfl, _, rfl, b, _, _, _, rfl, rfl, SqL.of upd_same, rfl, _, _, rfl, rfl, _, 2147483629, rfl, rfl, (show (0 : Int) < 2147483629 by decide), _, rfl, b, _, 3, 3, rfl, rfl, upd_same, rfl, ?_⟩
            refine ⟨_, _, rfl, ⟨l, ns, _, _, _, _, nl, upd_same, ?_, ?_, (m53 _).1, (m53 _).2⟩, ?_⟩
            · rw [upd_ne nl, upd_ne nl, upd_ne nl]
              exact h2
            · omega
            · exact Keep.trans (Keep.trans (Keep.upd h1) (Keep.upd upd_same)) (Keep.upd upd_same)
          · refine ⟨_, rfl, b, _, 2, 2, rfl, rfl, upd_same, rfl, ?_⟩
            refine ⟨_, rfl, b, _, _, _, rfl, rfl, SqL.of upd_same, rfl, _, 69069, rfl, rfl, .inr ⟨by decide, by decide⟩, _, rfl, _, 5, rfl, rfl, .inr ⟨by decide, by decide⟩, _, _, rfl, rfl, _, rfl, b, _, _, _, rfl, rfl, SqL.of upd_same, rfl, _, _, rfl, rfl, _, 2147483629, rfl, rfl, (show (0 : Int) < 2147483629 by decide), _, rfl, b, _, 3, 3, rfl, rfl, upd_same, rfl, ?_⟩
            refine ⟨_, _, rfl, ⟨l, ns, _, _, _, _, nl, upd_same, ?_, ?_, (m53 _).1, (m53 _).2⟩, ?_⟩
            · rw [upd_ne nl, upd_ne nl, upd_ne nl]
              exact h2
            · omega
            · exact Keep.trans (Keep.trans (Keep.upd h1) (Keep.upd upd_same)) (Keep.upd upd_same)
        · exact ⟨none, none, rfl, B, Keep.refl b H⟩
      · exact ⟨none, none, rfl, B, Keep.refl b H⟩
    · rintro σ' H' ⟨c, e, rfl, B', kp⟩
      obtain ⟨l, ns, i, r, x, n, nl, h1, h2, i0, x0, x1⟩ := id B'
      refine ⟨_, rfl, _, _, _, _, rfl, rfl, SqL.of h1, (show atI [V.ref l, .int i, .int r, .int x, .int n] 2 = some (.int r) from rfl), _, rfl, _, _, rfl, rfl, _, rfl, ?_⟩
      have m53 : ∀ y : Int, 0 ≤ y % 2147483629 ∧ y % 2147483629 < 2147483629 := fun y => ⟨Int.emod_nonneg _ (by decide), Int.emod_lt_of_pos _ (by decide)⟩
      have mz : ∀ y : Int, 0 ≤ y % z ∧ y % z < z := fun y => ⟨Int.emod_nonneg _ (by omega), Int.emod_lt_of_pos _ (by omega)⟩
      refine ite2 (fun _ => ?_) (fun _ => ?_)
      · refine ⟨_, rfl, b, _, _, _, rfl, rfl, SqL.of h1, rfl, _, rfl, _, _, rfl, rfl, (show (0 : Int) < z by omega), ?_⟩
        refine ⟨_, rfl, b, _, _, _, rfl, rfl, SqL.of h1, rfl, _, rfl, _, _, rfl, rfl, ⟨(show (0 : Int) < z by omega), z2⟩, _, rfl, b, _, 2, 2, rfl, rfl, h1, rfl, ?_⟩
        refine ⟨_, rfl, ?_⟩
        exact k _ _ (mz _).1 (mz _).2 ⟨l, ns, _, _, _, _, nl, upd_same, by rw [upd_ne nl]; exact h2, i0, x0, x1⟩ (kp.trans (Keep.upd h1))
      · refine ⟨_, rfl, b, _, _, _, rfl, rfl, SqL.of h1, rfl, _, _, rfl, rfl, _, rfl, b, _, 4, 4, rfl, rfl, h1, rfl, ?_⟩
        refine ⟨_, rfl, b, _, _, _, rfl, rfl, SqL.of upd_same, rfl, _, 3, rfl, rfl, ⟨by decide, by decide, by omega⟩, _, rfl, b, _, _, _, rfl, rfl, SqL.of upd_same, rfl, 40507, _, rfl, rfl, .inl ⟨by decide, by decide⟩, _, _, rfl, rfl, _, rfl, b, _, _, _, rfl, rfl, SqL.of upd_same, rfl, _, 101, rfl, rfl, ⟨by decide, by decide⟩, _, _, rfl, rfl, _, _, rfl, rfl, _, 2147483629, rfl, rfl, (show (0 : Int) < 2147483629 by decide), _, rfl, b, _, 3, 3, rfl, rfl, upd_same, rfl, ?_⟩
        refine ⟨_, rfl, b, _, _, _, rfl, rfl, SqL.of upd_same, rfl, _, 19, rfl, rfl, ⟨by decide, by decide⟩, _, rfl, _, _, rfl, rfl, (show (0 : Int) < z by omega), ?_⟩
        exact k _ _ (mz _).1 (mz _).2 ⟨l, ns, _, _, _, _, nl, upd_same, by rw [upd_ne nl, upd_ne nl]; exact h2, i0, (m53 _).1, (m53 _).2⟩ (kp.trans (Keep.trans (Keep.upd h1) (Keep.upd upd_same)))
/-- an item of a list that is read, drawn by the bag -/
def spOf (K : PySem.W.Frag) : Sp := fun vs H Q _ => ∃ (b p : Addr) (xs : List V), vs = [.ref b, .ref p] ∧ Bag H b ∧ p ≠ b ∧ SqL K H p xs ∧ 1 ≤ xs.length ∧ xs.length < 1000 ∧
  ∀ (v : V) (H' : Hp), v ∈ xs → Bag H' b → Keep b H H' → Q v H'
theorem Keep.seq {b a : Addr} {H H' : Hp} {xs : List V} (k : Keep b H H') (n : a ≠ b) (h : SqL K H a xs) : SqL K H' a xs := by
  rcases h with (z | ⟨o, z⟩) | z
  · exact .inl (.inl (k.1 _ _ n z))
  · exact .inl (.inr ⟨o, k.1 _ _ n z⟩)
  · exact .inr z
/-- where a def stands -/
structure At (K : PySem.W.Frag) (mg : Str → Option Value) (x : Str) (st : Stmt) (ps : List Str) (f : Addr) (fd : FuncData) : Prop where
  fn : Fun K x x st f fd
  gl : mg x = some (.ref f)
  bd : Binds K fd ps []
theorem scOf : FnScope ["_law_bag_here", "_law_some"] ["_law_bag_here", "_law_some"] (defScope sOf) := ⟨rfl, rfl, rfl, by decide +kernel, rfl, by decide +kernel, by decide +kernel⟩
theorem ok_of {f fP : Addr} {fd fdP : FuncData} (F : Fun K "_law_of" "_law_of" sOf f fd) (len : mg "len" = none) (P1 : At K mg "_law_pull" sPull ["_law_bag_here", "_law_size"] fP fdP) : FnOk P w K mg base CX0 2 f fd ["_law_bag_here", "_law_some"] (spOf K) := by
  have G : FnOk P w K mg base CX0 1 fP fdP ["_law_bag_here", "_law_size"] spPull := ok_pull P1.fn len
  refine F.ok scOf (fun vs H Q E h => ?_) (fun cdv A outer s H vs Q E hr h => ?_)
  · obtain ⟨b, p, xs, rfl, _⟩ := h
    rfl
  · obtain ⟨b, p, xs, rfl, B, np, hx, l1, l2, k⟩ := h
    refine ⟨_, pss_one (ps_ret (pe_ix ix_list (pv 1) (pe_call G hr rfl P1.gl P1.fn.kp P1.bd .nil pass0 (pa_cons (pv 0) (pa_cons (pe_callB call_len_seq (by rfl) len PySem.boot_len (pa_cons (pv 1) pa_nil)) pa_nil))) fun _ _ => rfl)), ?_⟩
    refine ⟨_, rfl, _, rfl, _, rfl, p, xs, rfl, .inl hx, b, _, rfl, B, by omega, by omega, fun d H' d0 d1 B' kp => ?_⟩
    obtain ⟨j, rfl⟩ := Int.eq_ofNat_of_zero_le d0
    have hj : j < xs.length := Int.ofNat_lt.mp d1
    exact ⟨p, xs, _, _, rfl, rfl, kp.seq np hx, atI_nat (List.getElem?_eq_getElem hj), k _ H' (List.getElem_mem hj) B' kp⟩
def spBag (K : PySem.W.Frag) : Sp := fun vs H Q _ => ∃ (a : Addr) (ns : List Int), vs = [.ref a] ∧ SqL K H a (ns.map V.int) ∧ ns.length ≤ 63 ∧ ∀ (b : Addr) (H' : Hp), H b = none → Bag H' b → Same H H' → Q (.ref b) H'
theorem scBag : FnScope ["_law_script"] ["_law_script"] (defScope sBag) := ⟨rfl, rfl, rfl, by decide +kernel, rfl, by decide +kernel, by decide +kernel⟩
theorem ok_bag {f : Addr} {fd : FuncData} (F : Fun K "_law_bag" "_law_bag" sBag f fd) (lst : mg "list" = none) : FnOk P w K mg base CX0 1 f fd ["_law_script"] (spBag K) := by
  refine F.ok scBag (fun vs H Q E h => ?_) (fun cdv A outer s H vs Q E hr h => ?_)
  · obtain ⟨a, ns, rfl, _⟩ := h
    rfl
  · obtain ⟨a, ns, rfl, hx, hl, k⟩ := h
    refine ⟨_, pss_one (ps_ret (pe_lst (pa_cons (pe_callTy call_list_of (by rfl) lst (by decide +kernel) (pa_cons (pe_slice sl_list (pv 0) po_none (po_some pe_int)) pa_nil)) (pa_cons pe_int (pa_cons pe_int (pa_cons pe_int (pa_cons pe_int pa_nil))))))), ?_⟩
    refine ⟨_, rfl, _, rfl, a, _, rfl, hx, fun p hp => ?_⟩
    refine ⟨p, _, rfl, .inl (SqL.of upd_same), fun l hl' => ?_⟩
    refine ⟨by show 5 ≤ sizeLine; decide, fun b hb => ?_⟩
    have e : cutV (ns.map V.int) none (some 63) = ns.map V.int := by
      unfold cutV
      rw [HT.sIx_none]
      show ((ns.map V.int).drop 0).take (HT.sIx _ _ (some ((63 : Nat) : Int)) - 0) = _
      rw [HT.sIx_nat, List.drop_zero, Nat.sub_zero]
      exact List.take_of_length_le (by rw [List.length_map]; omega)
    have nl : l ≠ b := fun z => by
      rw [z, upd_same] at hb
      cases hb
    have s1 : Same H (upd H p (.lst (cutV (ns.map V.int) none (some 63)))) := same_new hp
    have s2 : Same H (upd (upd H p (.lst (cutV (ns.map V.int) none (some 63)))) l (.lst (cutV (ns.map V.int) none (some 63)))) := s1.trans (same_new hl')
    refine k b _ (s2.free hb) ⟨l, ns, 0, 0, 1, 0, nl, upd_same, ?_, by decide, by decide, by decide⟩ (s2.trans (same_new hb))
    rw [upd_ne nl, upd_same, e]
end
end VQ
namespace VQ
open PySem PyProof.Rows L2
/-! ### an error made without things: C() -/
/-- the end of C(): a is the new error, d its dict -/
def MadeEnd (H : Hp) (C a : Addr) (Q : XK) : VK := fun v H2 => v = .non ∧ ∃ (d : Addr) (fs : List (Str × V)), H2 a = some (exo a C (some d)) ∧ H2 d = some (exd d fs) ∧ H d = none ∧ Q (.ref C) (some d) (upd (del H2 a) d (.xd fs))
def tMkO0 (C : Addr) (sp : Sp) : L2.St → Hp → XK → Prop := fun _ H Q => ∀ a, H a = none → sp [.ref a] (upd H a (exo a C none)) (MadeEnd H C a Q) E00
  where E00 : XK := fun _ _ _ => False
theorem pmk_oex0 {X : Cx} {CX : CXT} {x : Str} {C g : Addr} {k : Nat} {fd : FuncData} {ps : List Str} {sp : Sp} {p pos : Pos} (cl : OexC X.K C) (ini : PySem.W.findIn X.K (.ref C) "__init__" = some (some (.ref g))) (ity : PySem.W.typeIn X.K (.ref g) = some (.type "function"))
    (ok : FnOk X.prog X.w X.K X.mg X.base CX k g fd ps sp) (room : Room (k + 1) X.A) (bnd : Binds X.K fd ps []) (out : Passes CX X (fun _ _ _ => False)) (isG : Gl X x) (atG : X.mg x = some (.ref C)) (nodb : (x == ("__debug__" : Str)) = false := by decide) :
    PMk X (.Call (.Name x p) [] [] pos) (tMkO0 C sp) := by
  intro pn st sl H Q inv want
  refine wpAny_Call_Name_kw (ld_glob inv isG atG (PySem.W.callWith_K0 inv.kIn cl.kC ?_) nodb)
  obtain ⟨_, _, _, _, mro, _, _, _, _, _, _, _, _, _, _, here, tail⟩ := cl.cls
  obtain ⟨h0, gn, dw, tk, osx⟩ := st
  -- the new error stands behind its empty tuple of things
  generalize eA : h0.objs.size + 1 = a
  have above : h0.objs.size ≤ a := by omega
  have promise := want a (inv.hok.fresh above)
  generalize eN : (h0.push (PySem.W.kdv_tup [])).push (PySem.HandSPX.excO C h0.objs.size) = h1
  have stays : ∀ b o, h0.get? b = some o → h1.get? b = some o := fun b o z => by
    rw [← eN]
    exact Heap.get?_push_of_some _ (Heap.get?_push_of_some _ z)
  have stands : h1.get? a = some (PySem.HandSPX.excO C h0.objs.size) := by
    rw [← eN, ← eA]
    heap_get
  have inv1 : Inv X pn sl (upd H a (exo a C none)) ⟨h1, gn, dw, tk, osx⟩ := inv.laid (t' := tk) stays above (exo_ok stands)
  have self1 : Vals [V.ref a] [Value.ref a] := .cons rfl .nil
  have cnt : ([Value.ref a] ++ ([] : List Value)).length = ps.length := (ok.len _ _ _ _ promise).symm ▸ rfl
  have binds1 := bnd ⟨h1, gn, dw, tk, osx⟩ [Value.ref a] inv1.kIn cnt
  have runs := ok.run _ X.stack ⟨h1, gn, dw, tk, osx⟩ _ ⟨[Value.ref a], []⟩ [Value.ref a] [V.ref a] _ _ (room.make C [] []) (inv1.env0.make C [] []) binds1 self1 promise
  subst eN eA
  refine wpAny_call (PySem.HandSPX.call_own F.excBase_ValueError (fun Y => PySem.HandSPX.refsVE_contains Y mro tail) (inv.kIn _ _ here) (PySem.W.looks_findIn inv.kIn ini) (fun self => PySem.W.bind_fn inv.kIn self ity) (Nat.zero_le _) (codeAny_mono runs ?_))
  rintro (er | (_ | _ | _ | u)) st2 z
  · exact out pn sl _ _ er st2 inv1 z
  · exact z.elim
  · exact z.elim
  · exact z.elim
  · obtain ⟨v, H2, z1, z2, z3, z4, z5, rfl, d, fs, y1, y2, y3, y4⟩ := z
    obtain ⟨_, _, _, _, _⟩ := st2
    exact ⟨z5, mk_end (raises_own cl.exC cl.tyC) inv above stays z3 z4 z1 z2 y1 y2 y3 y4⟩
/-! ### a try with several clauses, each «as n» -/
/-- what a clause names: one class, or a tuple of two or three -/
inductive Cte (X : Cx) : Expr → List Value → Prop
  | one {x : Str} {c : Value} {np : Pos} (h : Names X x c) : Cte X (.Name x np) [c]
  | two {x y : Str} {c e : Value} {p q r : Pos} {k : Nat} (h : Names X x c) (h' : Names X y e) : Cte X (.Tuple [.Name x p, .Name y q] k r) [c, e]
  | three {x y z : Str} {c e f : Value} {p q r t : Pos} {k : Nat} (h : Names X x c) (h' : Names X y e) (h'' : Names X z f) : Cte X (.Tuple [.Name x p, .Name y q, .Name z r] k t) [c, e, f]
section
variable {X : Cx} {a : Addr} {around : List (Addr × Obj)}
theorem names_read {pn : List (Addr × Obj)} {sl : L2.St} {H : Hp} {st : Shared} {x : Str} {c : Value} {np : Pos} {Q E : Value → Shared → Prop} (nm : Names X x c) (inv : Inv (X.suite a around) pn sl H st) (q : Q c st) :
    wpAny (model X.prog X.w) (X.A.mark (some (.ref a))) (eval (.Name x np) X.env) Q E st := by
  rcases nm with ⟨n1, n2, n3 | ⟨n3, n4, n5⟩⟩
  · exact ld_glob (X := X.suite a around) inv n1 n3 q n2
  · exact ld_blt (X := X.suite a around) inv n1 n3 n4 q n5 n2
theorem cte_run {pn : List (Addr × Obj)} {sl : L2.St} {H : Hp} {st : Shared} {te : Expr} {cs : List Value} {cls : Value} {oe : Obj} {b : Bool} {Q : Bool → Shared → Prop} {E1 E2 : Value → Shared → Prop} (ct : Cte X te cs) (inv : Inv (X.suite a around) pn sl H st)
    (at_ : st.heap.get? a = some oe) (hc : oe.cls = cls) (ans : PySem.W.exmAny X.K cls cs = some b) (q : ∀ h', (∀ b o, st.heap.get? b = some o → h'.get? b = some o) → Q b { st with heap := h' }) :
    wpAny (model X.prog X.w) (X.A.mark (some (.ref a))) (eval te X.env) (fun c s1 => wpAny (model X.prog X.w) (X.A.mark (some (.ref a))) (excMatches (.ref a) c) Q E1 s1) E2 st := by
  have ty : PySem.W.Looks (model X.prog X.w) st.heap (typeOf (.ref a)) cls := fun _ _ _ _ kp z => wpAny_typeOf_ref (kp _ _ at_) (hc ▸ z)
  have grown : ∀ (us : List Value) (b : Addr) (o : Obj), st.heap.get? b = some o → (st.heap.push { cls := .type "tuple", data := .seq us.toArray }).get? b = some o := fun us b o z => Heap.get?_push_of_some _ z
  have kin : ∀ us : List Value, X.K.In (st.heap.push { cls := .type "tuple", data := .seq us.toArray }) := fun us => (show X.K.In st.heap from inv.kIn).keeps (grown us)
  cases ct with
  | one n1 =>
    obtain ⟨b1, d1, x1, y1, z1⟩ := PySem.W.exmAny_cons ans
    cases (show some false = some d1 from y1)
    rw [Bool.or_false] at z1
    subst z1
    exact names_read n1 inv ((PySem.W.exm_one (M := model X.prog X.w) inv.kIn ty x1).here (q st.heap fun _ _ z => z))
  | @two x y c e p' q' r' k n1 n2 =>
    refine wpAny_Tuple_spliced ?_
    show wpAny _ _ (spliced [(false, eval (.Name x p') X.env), (false, eval (.Name y q') X.env)]) _ _ _
    refine Calls.spliced_cons (names_read n1 inv (Calls.spliced_cons (names_read n2 inv (Calls.spliced_nil ⟨by show 2 ≤ sizeLine; decide, ?_⟩))))
    exact (PySem.W.exm_tup2 (M := model X.prog X.w) (kin [c, e]) (ty.keeps (grown [c, e])) (Heap.get?_push_size _ rfl) ans).here (q _ (grown [c, e]))
  | @three x y z c e f p' q' r' t' k n1 n2 n3 =>
    refine wpAny_Tuple_spliced ?_
    show wpAny _ _ (spliced [(false, eval (.Name x p') X.env), (false, eval (.Name y q') X.env), (false, eval (.Name z r') X.env)]) _ _ _
    refine Calls.spliced_cons (names_read n1 inv (Calls.spliced_cons (names_read n2 inv (Calls.spliced_cons (names_read n3 inv (Calls.spliced_nil ⟨by show 3 ≤ sizeLine; decide, ?_⟩))))))
    exact (PySem.W.exm_tup3 (M := model X.prog X.w) (kin [c, e, f]) (ty.keeps (grown [c, e, f])) (Heap.get?_push_size _ rfl) ans).here (q _ (grown [c, e, f]))
end
theorem fly_keeps {B h h' : Heap} {l : List Env} {a : Addr} {Z : Obj → Prop} (f : HandSPX.FlyingZ B l a Z h) (k : ∀ b o, h.get? b = some o → h'.get? b = some o) : HandSPX.FlyingZ B l a Z h' := by
  rcases f with ⟨f1, f2, f3, oe, vs, T, oT, ts, e1, e2, e3, e4, e5, e6, e7, e8, e9⟩
  exact ⟨fun b o z => k b o (f1 b o z), f2, f3.of_keeps fun b o z _ => ⟨o, k b o z, rfl⟩, oe, vs, T, oT, ts, k _ _ e1, e2, e3, e4, e5, e6, k _ _ e7, e8, e9⟩
/-- the ends of a suite whose name (slot i) goes behind it -/
def offName (i : Nat) (D : Ends) : Ends := { nx := fun σ' H' => D.nx (σ'.set i none) H', rt := D.rt, bk := fun σ' H' => D.bk (σ'.set i none) H', ct := fun σ' H' => D.ct (σ'.set i none) H' }
abbrev Suite := Addr → Value → Option Addr → TS
/-- what the clauses wish of an error of the body -/
def wManyA (K : PySem.W.Frag) (i : Nat) (Wout : WX) (D : Ends) : List (List Value × Suite) → WX
  | [] => Wout
  | (cs, ts) :: r => fun cls d σ H => ∃ b, PySem.W.exmAny K cls cs = some b ∧ (b = true → ∀ a, H a = none → ts a cls d (offName i D) (σ.set i (some (.ref a))) H) ∧ (b = false → wManyA K i Wout D r cls d σ H)
/-- a suite walked, whatever error it has caught -/
def Suited (X : Cx) (body : List Stmt) (ts : Suite) : Prop := ∀ (a : Addr) (oe : Obj) (cls : Value) (d : Option Addr) (pn : List (Addr × Obj)), Zc cls d oe → (∃ vs, oe.data = .fields vs) → PSs (X.suite a ((a, oe) :: pn)) body (ts a cls d)
inductive HdsA (X : Cx) (n : Str) : List ExceptHandler → List (List Value × Suite) → Prop
  | nil : HdsA X n [] []
  | cons {te : Expr} {cs : List Value} {ts : Suite} {b₀ : Stmt} {more : List Stmt} {pos' : Pos} {hds : List ExceptHandler} {l : List (List Value × Suite)} (hc : Cte X te cs) (hsu : Suited X (b₀ :: more) ts) (r : HdsA X n hds l) :
      HdsA X n (.ExceptHandler (some te) (some n) (b₀ :: more) pos' :: hds) ((cs, ts) :: l)
section
variable {X : Cx} {n : Str} {i : Nat} {Wout : WX} {pins : List (Addr × Obj)} {D : Ends}
/-- one after the other, from where the error at a has landed -/
theorem hds_run (two : X.stack = X.env :: X.outer) (fr : X.env.frame = some X.env.locals) (nd : X.N.Nodup) (slot : X.N[i]? = some n) (loc : X.env.kindOf n = some .local) (tk : Takes X Wout) {a : Addr} {B : Heap} {sI s' : Shared} {σ' : L2.St} {H' : Hp} {cls : Value} {d : Option Addr}
    (inv : Inv X pins σ' H' sI) (ground : ∀ b o, sI.heap.get? b = some o → b ∉ frs X.stack → B.get? b = some o) (free : H' a = none) (notL : a ≠ X.env.locals) (notF : a ∉ X.fs) (sameOs : s'.os = sI.os) (bare : AllBare s'.gens)
    {hds : List ExceptHandler} {l : List (List Value × Suite)} (H : HdsA X n hds l) : wManyA X.K i Wout D l cls d σ' H' → ∀ h : Heap, HandSPX.FlyingZ B (X.env :: X.outer) a (Zc cls d) h → sI.heap.UpToSlots h →
    wpAny (model X.prog X.w) X.A (handleBy (.ref a) X.env hds) (SP X pins D) X.xe { s' with heap := h } := by
  induction H with
  | nil =>
    intro wish h fl up
    refine wpAny_handleBy_nil ?_
    have goOn : wpAny (model X.prog X.w) X.A (setFlight (.ref a) X.env.frame) (fun _ s4 => wpAny (model X.prog X.w) X.A (throw (.ref a) : Sem Flow) (SP X pins D) X.xe s4) X.xe { s' with heap := h } := by
      rw [fr]
      exact HandSPX.setFlight_upZ fl fun h4 held up4 => wpAny_throw (tk _ _ ⟨a, B, sI, pins, σ', H', cls, d, rfl, inv, ground, up.trans up4, .inr (.inr (two ▸ held)), free, sameOs, bare, wish⟩)
    obtain ⟨_, _, _, oe, vs, T, _, _, t1, _, t3, t4, _⟩ := id fl
    unfold PySem.passOn
    refine wpAny_bind (wpAny_field t1 t3 t4 ?_)
    have isRef : ¬ ((Value.ref T == Value.none) = true) := by simp
    rw [if_neg isRef]
    first
      | exact wpAny_bind goOn
      | exact wpAny_bind (wpAny_pure (by exact wpAny_bind goOn))
  | @cons te cs ts b₀ more pos' hds2 l2 named suited _ ih =>
    rintro ⟨b, ans, yes, no⟩ h fl up
    have onGround : ∀ {g : Heap}, HandSPX.FlyingZ B (X.env :: X.outer) a (Zc cls d) g → sI.heap.UpToSlots g → Inv X pins σ' H' { s' with heap := g } := fun f u => inv.landed ground f.1 u sameOs bare
    obtain ⟨oe, vs, t1, t2, t3⟩ := fl.there
    refine wpAny_handleBy_cons (codeAny_handlers_test (cte_run named ((onGround fl up).suite t1 t3 free notL notF) t1 t2.1 ans fun g kp => ?_)) (fun z => by cases z)
    have fl2 := fly_keeps fl kp
    have up2 := up.trans (Heap.UpToSlots.of_keeps kp)
    cases b with
    | false =>
      show wpAny _ X.A (handleBy _ X.env hds2) _ _ _
      exact ih (no rfl) g fl2 up2
    | true =>
      refine codeAny_handlers_suite_as (HandSPX.lands_againZ fl2 fun g4 fl4 up4 => ?_)
      obtain ⟨o4, _, u1, u2, u3⟩ := fl4.there
      have inv4 := (onGround fl4 (up2.trans up4)).suite u1 u3 free notL notF
      refine store_ok (X := X.suite a ((a, o4) :: (X.pn ++ pins))) (v := .ref a) inv4 nd slot (.inl loc) rfl (fun s5 inv5 => ?_) (.inr loc)
      refine wpAny_mono ((suited a o4 cls d (X.pn ++ pins) u2 ⟨_, u3⟩).run [] s5 _ H' (offName i D) inv5 (yes rfl a free)) ?_ (fun _ _ z => False.elim z)
      have nameGoes : ∀ {s6 : Shared} {σ6 : L2.St} {H6 : Hp} {Q : Shared → Prop}, Inv (X.suite a ((a, o4) :: (X.pn ++ pins))) [] σ6 H6 s6 → (∀ s7, Inv X pins (σ6.set i none) H6 s7 → Q s7) →
          wpAny (model X.prog X.w) X.A (do bindName X.env n .none; unbindBehindTheSuite X.env n pos') (fun _ s7 => Q s7) X.xe s6 := fun j z => gone_ok (j.unsuite inv.ok) nd slot loc z
      rintro (_ | _ | _ | v) s6 z
      · obtain ⟨_, _, j, z⟩ := z
        exact nameGoes j fun _ j7 => ⟨_, _, j7, z⟩
      · obtain ⟨_, _, j, z⟩ := z
        exact nameGoes j fun _ j7 => ⟨_, _, j7, z⟩
      · obtain ⟨_, _, j, z⟩ := z
        exact nameGoes j fun _ j7 => ⟨_, _, j7, z⟩
      · obtain ⟨_, _, _, j, r, z⟩ := z
        exact nameGoes j fun _ j7 => ⟨_, _, _, j7, r, z⟩
/-- try: body / except .. as n: ..  (several clauses) -/
theorem ps_try_manyA {body : List Stmt} {h₀ : ExceptHandler} {hds : List ExceptHandler} {l : List (List Value × Suite)} {pos : Pos} {tb : WX → TS} (two : X.stack = X.env :: X.outer) (fr : X.env.frame = some X.env.locals) (nd : X.N.Nodup) (slot : X.N[i]? = some n) (loc : X.env.kindOf n = some .local) (tk : Takes X Wout)
    (inside : ∀ (W : WX) (pn : List (Addr × Obj)) (xe : Value → Shared → Prop), Takes (X.tr pn xe) W → PassesOwn (model X.prog X.w) X.A X.env xe → PSs (X.tr pn xe) body (tb W))
    (clauses : HdsA X n (h₀ :: hds) l) : PS X (.Try body (h₀ :: hds) [] [] pos) (fun D σ H => tb (wManyA X.K i Wout D l) D σ H) := by
  refine ⟨fun pins st sl H D inv want => wpAny_Try_except (wpAny_mono ((inside (wManyA X.K i Wout D l) (X.pn ++ pins) _ (fun u s' air => ?_) PassesOwn.looking).run [] st sl H D (inv.toTry _) want) ?_ fun e s1 z => z)⟩
  · obtain ⟨a, B, sI, _, σ', H', cls, d, rfl, j0, ground, up, sky, free, sameOs, bare, wish⟩ := air
    have frames : X.A.frames = some (X.env :: X.outer) := two ▸ inv.ok.frames
    refine Sky.land Zc.steady frames fr (show Sky B (X.env :: X.outer) a (Zc cls d) X.env.locals s'.heap from two ▸ sky) fun h3 fl up3 => ?_
    obtain ⟨oe, vs, t1, _, t3⟩ := fl.there
    have noFrame : a ∉ frs (X.env :: X.outer) := fun m => by
      obtain ⟨_, o2, e2, nf⟩ := fl.2.2.1.mem m
      rw [t1] at e2
      cases e2
      exact nf _ t3
    refine hds_run two fr nd slot loc tk (j0.ofTry inv.ok) ground free (fun z => noFrame (List.mem_filterMap.mpr ⟨X.env, List.mem_cons_self, z ▸ fr⟩)) (fun m => ?_) sameOs bare clauses wish h3 fl (up.trans up3)
    obtain ⟨ev, m1, m2⟩ := List.mem_filterMap.mp m
    exact noFrame (List.mem_filterMap.mpr ⟨ev, List.mem_cons_of_mem _ m1, m2⟩)
  · rintro (_ | _ | _ | v) s1 z
    · obtain ⟨_, _, j, z⟩ := z
      exact wpAny_execs_nil ⟨_, _, j.ofTry inv.ok, z⟩
    · obtain ⟨_, _, j, z⟩ := z
      exact ⟨_, _, j.ofTry inv.ok, z⟩
    · obtain ⟨_, _, j, z⟩ := z
      exact ⟨_, _, j.ofTry inv.ok, z⟩
    · obtain ⟨_, _, _, j, r, z⟩ := z
      exact ⟨_, _, _, j.ofTry inv.ok, r, z⟩
end
end VQ
namespace VQ
open PySem PyProof.Rows L2 LamX
/-- kept by one part of the run, then by another one over more frames, all of which are new to the first -/
theorem un_comp {fs1 fs2 : List Addr} {H H1 H2 : Hp} {h h1 h2 : Heap} (u1 : Un fs1 [] H H1 h h1) (u2 : Un fs2 [] H1 H2 h1 h2) (sub : ∀ b ∈ fs2, b ∈ fs1 ∨ h.get? b = none) : Un fs1 [] H H2 h h2 where
  keep := fun b o e n hb hx => u2.keep b o (u1.keep b o e n hb hx) (u1.free b o e n hx) (fun m => (sub b m).elim hb fun z => nomatch z.symm.trans e) hx
  slot := fun b o e n hb hx => by
    obtain ⟨sl1, e1⟩ := u1.slot b o e n hb hx
    obtain ⟨sl2, e2⟩ := u2.any e1 (u1.free b o e n hx) hx
    exact ⟨sl2, e2⟩
  free := fun b o e n hx => let ⟨o', e1⟩ := u1.there b o e hx; u2.free b o' e1 (u1.free b o e n hx) hx
  there := fun b o e hx => let ⟨o', e1⟩ := u1.there b o e hx; u2.there b o' e1 hx
  tups := fun b xs e => u2.tups b xs (u1.tups b xs e)
  frzs := fun b o u e => u2.frzs b o u (u1.frzs b o u e)
  tbls := fun b ps e => by
    obtain ⟨m1, e1⟩ := u1.tbls b ps e
    obtain ⟨m2, e2⟩ := u2.tbls b _ e1
    rw [Array.append_assoc] at e2
    exact ⟨_, e2⟩
/-- a lambda's names: captured ones, globals, and names of its own that the maker does not have -/
structure LamS2 (X : Cx) (scope : Scope) : Prop where
  kind : scope.kind = .function
  co : scope.isCoroutine = false
  gen : scope.isGenerator = false
  noCell : ∀ y ∈ scope.names, y.2 ≠ .cell
  own : ∀ y ∈ scope.names, y.2 = .local → y.1 ∉ X.N
  free : ∀ y ∈ scope.names, y.2 = .free → X.env.scope.names.lookup y.1 = some .cell ∨ X.env.scope.names.lookup y.1 = some .free
def lamS2B (N : List Str) (sc scope : Scope) : Bool := decide (scope.kind = .function) && !scope.isCoroutine && !scope.isGenerator &&
  scope.names.all fun y => !decide (y.2 = .cell) && (!decide (y.2 = .local) || !N.contains y.1) && (!decide (y.2 = .free) || decide (sc.names.lookup y.1 = some .cell) || decide (sc.names.lookup y.1 = some .free))
theorem lamS2_by {X : Cx} {N : List Str} {sc scope : Scope} (h : lamS2B N sc scope = true) (eN : X.N = N) (es : X.env.scope = sc) : LamS2 X scope := by
  subst eN es
  simp only [lamS2B, Bool.and_eq_true, Bool.or_eq_true, Bool.not_eq_true', decide_eq_true_eq, decide_eq_false_iff_not, List.all_eq_true] at h
  obtain ⟨⟨⟨h1, h2⟩, h3⟩, h4⟩ := h
  refine ⟨h1, h2, h3, fun y m => (h4 y m).1.1, fun y m e z => ?_, fun y m e => ?_⟩
  · rcases (h4 y m).1.2 with q | q
    · exact q e
    · rw [List.contains_iff_mem.mpr z] at q
      cases q
  · rcases (h4 y m).2 with (q | q) | q
    · exact absurd e q
    · exact .inl q
    · exact .inr q
/-- the lambda of X's frame at the state st: its object at f, its code object at c -/
structure LamAt (X : Cx) (sl : L2.St) (H : Hp) (st : Shared) (body : Expr) (scope : Scope) (f c : Addr) : Prop where
  inv : ∃ pins, Inv X pins sl H st
  lam : LamS2 X scope
  new : H f = none
  nofr : f ∉ frs X.stack
  fn : ∃ (fd : FuncData) (binds : List (Str × Value)), st.heap.get? f = some { cls := .type "function", data := .func fd } ∧ fd.scope = scope ∧ fd.body = .expr body ∧ fd.code = .ref c ∧ fd.qualname = X.env.qual ++ "<lambda>" ∧ fd.globals = mainGlobals ∧ fd.builtins = builtinsNs ∧
    fd.closure = cloFrom X.env.cells scope.names [] ∧ (∀ y ∈ binds, scope.names.lookup y.1 = some .local) ∧ ∀ s1 : Shared, (∀ b o, st.heap.get? b = some o → H b = none → b ∉ frs X.stack → s1.heap.get? b = some o) → BindsTo s1 fd ⟨[], []⟩ binds
/-- its body as a reading, wherever it is entered -/
abbrev LamBody (X : Cx) (scope : Scope) (body : Expr) (k : Nat) (f c : Addr) (E : XK) (tb : TE) : Prop :=
  ∀ (A : Around) (outer : List Env) (s : Shared) (H : Hp), Room k (A.deeper (lamEnv X scope s.heap.objs.size f c)) → PE (lamCx X A outer s H E scope f c) body tb
section
variable {X : Cx} {sl : L2.St} {H : Hp} {st : Shared} {body : Expr} {scope : Scope} {f c : Addr} {k : Nat} {E : XK} {tb : TE}
/-- the closure's cells are the maker's -/
theorem clo_cell {y : Str} {d : Addr} (has : ∀ z ∈ scope.names, z.2 = .free → ∃ c, X.env.cells.lookup z.1 = some c) (e : (cloFrom X.env.cells scope.names []).lookup y = some d) : X.env.cells.lookup y = some d := by
  rcases cloFrom_mem (PySem.mem_of_lookup e) with m | ⟨m1, m2⟩
  · cases m
  · obtain ⟨c1, e1⟩ := has _ m1 rfl
    have e1 : X.env.cells.lookup y = some c1 := e1
    rw [m2, e1]
    rfl
theorem lam_enter {pins : List (Addr × Obj)} {A : Around} {outer : List Env} {s1 : Shared} {H1 : Hp} {h2 : Heap} {tk : Nat} {m : Str → Option Value} (inv : Inv X pins sl H st) (L : LamS2 X scope) (e0 : Env0 X.prog X.w X.K X.mg X.base A outer s1 H1) (cool : A.handled = none)
    (un : Un (frs X.stack) [] H H1 st.heap s1.heap) (ns : h2.Ns s1.heap.objs.size m) (grown : ∀ b o, s1.heap.get? b = some o → h2.get? b = some o) : Inv (lamCx X A outer s1 H1 E scope f c) [] sl H1 { s1 with heap := h2, toks := tk } := by
  have has : ∀ z ∈ scope.names, z.2 = .free → ∃ c, X.env.cells.lookup z.1 = some c := fun z m e => (L.free z m e).elim (fun q => inv.ok.has _ (.inl q)) (fun q => inv.ok.has _ (.inr q))
  have own : ∀ {y : Str}, scope.names.lookup y = some .free → ∃ d, (cloFrom X.env.cells scope.names []).lookup y = some d := fun {y} q => mem_lookup (cloFrom_has (cells := X.env.cells) (acc := []) (PySem.mem_of_lookup q))
  have cellOn : ∀ {d : Addr} {v : Option Value}, H d = none → st.heap.IsCell d v → h2.IsCell d v := fun {d v} z ⟨o, q1, q2⟩ => by
    obtain ⟨sl', q⟩ := un.any q1 z (by simp)
    exact ⟨_, grown _ _ q, q2⟩
  have noCell : ∀ {y : Str}, scope.names.lookup y ≠ some .cell := fun {y} q => L.noCell _ (PySem.mem_of_lookup q) rfl
  have none_ : ∀ b : Addr, b ∉ (lamCx X A outer s1 H1 E scope f c).ex := fun b z => by cases (show b ∈ ([] : List Addr) from z)
  exact {
    ok := {
      mod := e0.mod
      kind := L.kind
      glob := rfl
      blt := rfl
      above := Nat.le_refl _
      inj := fun y z d q1 q2 => inv.ok.inj y z d (clo_cell has q1) (clo_cell has q2)
      has := fun y q => q.elim (fun z => absurd (show scope.names.lookup y = some .cell from z) noCell) (fun z => own z)
      cab := fun y d z _ => by cases (show false = true from z)
      hd := fun _ => cool
      frames := Around.frames_deeper e0.frames
      stk := .inr ⟨rfl, rfl⟩
      exf := fun b z => absurd z (none_ b)
      bs := e0.bs
      bsz := e0.bsz
      noex := fun b _ _ => none_ b
      exfs := fun b z => absurd z (none_ b)
      funs := e0.funs
      frf := e0.frf }
    os := rfl
    bare := e0.bare
    base := Un.kept grown
    loc := ⟨m, ns, fun i y v q1 q2 q3 => by
      rcases (show Vis scope y from q3) with q | q | q
      · exact absurd (List.mem_of_getElem? q1) (L.own _ (PySem.mem_of_lookup q) rfl)
      · exact absurd q noCell
      · obtain ⟨m0, _, look⟩ := inv.loc
        have there := L.free _ (PySem.mem_of_lookup q) rfl
        obtain ⟨u, rel, at_⟩ := look i y v q1 q2 (.inr there)
        obtain ⟨d, hd⟩ := own q
        refine ⟨u, rel, .inr ⟨.inr q, d, hd, ?_⟩⟩
        have hd' := clo_cell has hd
        rcases at_ with ⟨z, _⟩ | ⟨_, d2, z1, z2⟩
        · have z : X.env.scope.names.lookup y = some .local := z
          rcases there with t | t <;> rw [t] at z <;> cases z
        · cases z1.symm.trans hd'
          exact cellOn (inv.freeC y _ hd') z2⟩
    cell := fun y d q => by
      obtain ⟨v, z⟩ := inv.cell y d (clo_cell has q)
      exact ⟨v, cellOn (inv.freeC y d (clo_cell has q)) z⟩
    free := e0.hok.fresh (Nat.le_refl _)
    freeC := fun y d q => by
      obtain ⟨v, o, z, _⟩ := inv.cell y d (clo_cell has q)
      exact un.free d o z (inv.freeC y d (clo_cell has q)) (by simp)
    pin := fun q m => by cases (show q ∈ ([] : List (Addr × Obj)) from m)
    hok := e0.hok.kept grown
    len := inv.len }
/-- called from the frames outer, at a state that has kept what st had -/
theorem lam_runs (L : LamAt X sl H st body scope f c) (bd : LamBody X scope body k f c E tb) {A : Around} {outer : List Env} {s1 : Shared} {H1 : Hp} {Q : VK} (room : Room (k + 1) A) (e0 : Env0 X.prog X.w X.K X.mg X.base A outer s1 H1)
    (un : Un (frs X.stack) [] H H1 st.heap s1.heap) (code : H1 c = some (CodeO c (X.env.qual ++ "<lambda>"))) (want : tb sl H1 Q) :
    codeAny (model X.prog X.w) A (.call (.ref f) ⟨[], []⟩) (CR (L2.CX X.prog X.w) outer X.prog X.w H1 s1 Q E) s1 := by
  obtain ⟨pins, inv⟩ := L.inv
  obtain ⟨⟨oc, vs, t, c1, c2, c3⟩, _⟩ := e0.hok c _ code
  obtain ⟨fd, binds, o1, o2, o3, o4, o5, o6, o7, o8, o9, o10⟩ := L.fn
  have stands := un.keep f _ o1 L.new L.nofr (by simp)
  have lim : s1.heap.NoLimit := e0.mod.nolimit.keeps fun b o z => (e0.bs b o z).1
  refine PySem.W.kla_callFunE room.depth stands rfl (by rw [o2]; exact L.lam.co) (by rw [o2]; exact L.lam.gen) o3 ⟨c, oc, vs, t, o4, c1, c2, by rw [o5]; exact c3⟩ (o10 s1 (fun b o z1 z2 z3 => un.keep b o z1 z2 z3 (by simp)) _ _ _ _ ?_)
  rw [o2, o4, o5, o6, o7, o8]
  refine wpAny_newFunctionEnv L.lam.noCell o9 (fun h2 ns but => ⟨lim.fresh _ but, ?_⟩) L.lam.kind
  have grown : ∀ b o, s1.heap.get? b = some o → h2.get? b = some o := fun b o z => but.extBut b o (Nat.ne_of_lt (Heap.lt_size z)) (Heap.get?_push_of_some _ z)
  have entered := lam_enter (E := E) (f := f) (c := c) (tk := s1.toks + binds.length) inv L.lam e0 room.hd un ns grown
  refine PySem.W.kla_codeExpr (wpAny_mono ((bd A outer s1 H1 (room.deeper _)).run [] _ _ H1 Q entered want) ?_ fun _ _ z => z)
  rintro v s2 ⟨v', H2, j, rel, q⟩
  exact ⟨v', H2, j.os, j.bare, j.base, j.hok, rel, q⟩
/-- y(), y in the i-th slot of a def that was handed the lambda, entered at s2 from the frames outer2 -/
theorem pe_actG {CXg : CXT} {Eg : XK} {N : List Str} {q : Str} {sg : Scope} {g : Addr} {cd : Value} {i : Nat} {y : Str} {pn : List (Addr × Obj)} {xe : Value → Shared → Prop} {W : WX} {p1 p2 : Pos} {A2 : Around} {outer2 : List Env} {s2 : Shared} {H2 : Hp}
    (L : LamAt X sl H st body scope f c) (bd : LamBody X scope body k f c E tb) (un2 : Un (frs X.stack) [] H H2 st.heap s2.heap) (sub : ∀ b ∈ frs outer2, b ∈ frs X.stack ∨ st.heap.get? b = none)
    (tk : Takes ((cxOf CXg X.prog X.w X.K X.mg X.base N q sg g cd A2 outer2 s2 H2 Eg).tr pn xe) W) (hW : ∀ cls d σ' H', σ'.length = N.length → E cls d H' → W cls d σ' H') (room : Room (k + 1) (A2.deeper (envOfC q sg s2.heap.objs.size g cd)))
    (slot : N[i]? = some y) (vis : Vis sg y) (n1 : (y == ("__debug__" : Str)) = false := by decide) (n2 : (y == ("__classdict__" : Str)) = false := by decide) :
    PE ((cxOf CXg X.prog X.w X.K X.mg X.base N q sg g cd A2 outer2 s2 H2 Eg).tr pn xe) (.Call (.Name y p1) [] [] p2)
      (fun σ' H' Q => σ'[i]? = some (some (.ref f)) ∧ H' c = some (CodeO c (X.env.qual ++ "<lambda>")) ∧ tb sl H' Q) := by
  refine ⟨fun pz sz σz Hz Q jz ⟨w1, w2, w3⟩ => ?_⟩
  refine wpAny_Call_Name_kw (thn ((pe_var (pos := p1) (i := i) slot vis n1 n2).run pz sz σz Hz (fun v H1 => v = .ref f ∧ H1 = Hz) jz ⟨_, w1, rfl, rfl⟩) ?_)
  rintro u s1 ⟨_, _, j, rel, rfl, rfl⟩
  cases (show u = Value.ref f from rel)
  have un := un_comp un2 (show Un (frs outer2) [] H2 _ s2.heap s1.heap from j.base) sub
  obtain ⟨fd, _, o1, _⟩ := L.fn
  refine PySem.W.callWith_F0 ⟨_, _, _, _, un.keep f _ o1 L.new L.nofr (by simp)⟩ ?_
  refine wpAny_call (codeAny_mono (lam_runs (Q := Q) L bd room j.env0 un w2 w3) ?_)
  rintro (er | (_ | _ | _ | u)) s3 z
  · exact tk er s3 (XE.of_call j (fun cls d H' y => hW cls d σz H' j.len y) z)
  · exact z.elim
  · exact z.elim
  · exact z.elim
  · exact j.after z
end
/-- a def that calls what it got, from wherever it is called -/
def Gives2 (P : Program) (w : World) (K : PySem.W.Frag) (mg : Str → Option Value) (base : Heap) (N : List Str) (x : Str) (sg : Scope) (g : Addr) (cd : Value) (bg : List Stmt) (y : Str) (q : Str) (TT : (XK → Hp → VK → Prop) → Hp → VK → Prop) : Prop :=
  ∀ (A2 : Around) (outer2 : List Env) (f c : Addr) (s : Shared) (H : Hp) (Q : VK) (tl : XK → Hp → VK → Prop),
    (∀ (W : WX) (pn : List (Addr × Obj)) (xe : Value → Shared → Prop) (E : XK) (p1 p2 : Pos), Takes ((cxOf C8.CX0 P w K mg base N x sg g cd A2 outer2 s H C8.E0).tr pn xe) W → (∀ cls d σ' H', σ'.length = N.length → E cls d H' → W cls d σ' H') →
      PE ((cxOf C8.CX0 P w K mg base N x sg g cd A2 outer2 s H C8.E0).tr pn xe) (.Call (.Name y p1) [] [] p2) (fun σ' H' Q => σ'[0]? = some (some (.ref f)) ∧ H' c = some (CodeO c q) ∧ tl E H' Q)) →
    H c = some (CodeO c q) → TT tl H Q → ∃ t, PSs (cxOf C8.CX0 P w K mg base N x sg g cd A2 outer2 s H C8.E0).nox bg t ∧ t { nx := fun _ H' => Q .non H', rt := Q } (L2.start N [.ref f]) H
/-- err.f in a suite, whatever the error's class is -/
def tXfA (K : PySem.W.Frag) (a : Addr) (cls : Value) (d : Option Addr) (f : Str) (te : TE) : TE := fun σ H Q => ∃ C, XfC K C ∧ PySem.W.findIn K (.ref C) f = some none ∧ tXf a cls d C f te σ H Q
theorem pe_xfA {X : Cx} {a : Addr} {oe : Obj} {cls : Value} {d : Option Addr} {pn : List (Addr × Obj)} {e : Expr} {te : TE} {pos : Pos} {n : Str} (z : Zc cls d oe) (rec_ : ∃ vs, oe.data = .fields vs) (he : PE (X.suite a ((a, oe) :: pn)) e te)
    (plain : attributeBase e n X.env (eval e X.env) = eval e X.env := by rfl) : PE (X.suite a ((a, oe) :: pn)) (.Attribute e n pos) (tXfA X.K a cls d n te) :=
  ⟨fun pins s σ H Q I ⟨_, xc, no, h⟩ => (pe_xf xc no z rec_ he plain).run pins s σ H Q I h⟩
/-! ### x1(lambda: body), x1: return x2(a1)[0]; x2 calls what it got -/
/-- a def as it stands: its parameter, names by slot, body -/
structure One (K : PySem.W.Frag) (mg : Str → Option Value) (x : Str) (g : Addr) (cd : Value) (N : List Str) (y : Str) (sg : Scope) (bg : List Stmt) : Prop where
  at_ : mg x = some (.ref g)
  kp : PySem.W.keepIn K (.ref g) = true
  ex : ∃ (oc : Value) (od : Option Addr) (pa : Arguments) (dV kV doc pm : Value) (an : Option Addr) (ct : Value) (osl : Array (Option Value)),
    K.lookup g = some ⟨oc, od, .func (PySem.W.fnOf x x pa bg sg dV kV doc pm an cd ct), osl⟩ ∧ L2.Binds K (PySem.W.fnOf x x pa bg sg dV kV doc pm an cd ct) [y] []
  code : PySem.W.codeIn K cd x = true
  sc : FnScope N [y] sg
  slot : N[0]? = some y
  vis : Vis sg y
  n1 : (x == ("__debug__" : Str)) = false
  n2 : (y == ("__debug__" : Str)) = false
  n3 : (y == ("__classdict__" : Str)) = false
theorem start_slot {N : List Str} {y : Str} {v : V} (h : N[0]? = some y) : (L2.start N [v])[0]? = some (some v) := by
  match N, h with
  | _ :: _, _ => rfl
section
variable {X : Cx} {x1 x2 y1 y2 : Str} {g1 g2 : Addr} {cd1 cd2 : Value} {N1 N2 : List Str} {sg1 sg2 : Scope} {bg2 : List Stmt} {j0 : Nat} {q1 q2 q3 q4 q5 q6 : Pos} {TT : (XK → Hp → VK → Prop) → Hp → VK → Prop}
abbrev handsOn (x2 y1 : Str) (j0 : Nat) (q1 q2 q3 q4 q5 q6 : Pos) : List Stmt := [.Return (some (.Subscript (.Call (.Name x2 q1) [.Name y1 q2] [] q3) (.Constant (.int 0) j0 q4) q5)) q6]
/-- in x1's frame, entered at s1 from X: x2(y1) -/
theorem pe_hand (D1 : One X.K X.mg x1 g1 cd1 N1 y1 sg1 (handsOn x2 y1 j0 q1 q2 q3 q4 q5 q6)) (D2 : One X.K X.mg x2 g2 cd2 N2 y2 sg2 bg2) (isG : sg1.names.lookup x2 = some .globalImplicit) (gives : Gives2 X.prog X.w X.K X.mg X.base N2 x2 sg2 g2 cd2 bg2 y2 (X.env.qual ++ "<lambda>") TT)
    {sl : L2.St} {H : Hp} {s1 : Shared} {body : Expr} {scope : Scope} {f c : Addr} {k : Nat} {t : XK → TE} (L : LamAt X sl H s1 body scope f c) (bd : ∀ E, LamBody X scope body k f c E (t E)) (room : Room (k + 2) (X.A.deeper (envOfC x1 sg1 s1.heap.objs.size g1 cd1))) :
    PE (cxOf C8.CX0 X.prog X.w X.K X.mg X.base N1 x1 sg1 g1 cd1 X.A X.stack s1 H C8.E0) (.Call (.Name x2 q1) [.Name y1 q2] [] q3)
      (fun σ' H' Q => σ'[0]? = some (some (.ref f)) ∧ H' c = some (CodeO c (X.env.qual ++ "<lambda>")) ∧ TT (fun E H2 Q2 => t E sl H2 Q2) H' Q) := by
  refine ⟨fun pz sz σz Hz Q jz ⟨w1, w2, w3⟩ => ?_⟩
  refine wpAny_Call_Name_kw (ld_glob jz (show (envOfC x1 sg1 s1.heap.objs.size g1 cd1).kindOf x2 = some .globalImplicit from isG) D2.at_ ?_ D2.n1)
  have arg : PA (cxOf C8.CX0 X.prog X.w X.K X.mg X.base N1 x1 sg1 g1 cd1 X.A X.stack s1 H C8.E0) [.Name y1 q2] (tCons (tVar 0) tNil) := pa_cons (pe_var (i := 0) D1.slot D1.vis D1.n2 D1.n3) pa_nil
  refine PySem.W.callWith_K (h₀ := X.base) jz.ok.mod.kin D2.kp (thn (arg.run q3 pz sz σz Hz (fun vs H2 => vs = [.ref f] ∧ H2 = Hz) jz ⟨_, w1, rfl, rfl⟩) ?_) (by rfl) (by rfl)
  rintro us s2 ⟨_, _, j, rel, rfl, rfl⟩
  obtain ⟨oc, od, pa, dV, kV, doc, pm2, an, ct, osl, lk, bnd⟩ := D2.ex
  match us, rel with
  | [_], .cons r .nil =>
    cases r
    refine ⟨j.kIn, ?_⟩
    have sub : ∀ b ∈ frs (envOfC x1 sg1 s1.heap.objs.size g1 cd1 :: X.stack), b ∈ frs X.stack ∨ s1.heap.get? b = none := fun b m => by
      obtain ⟨ev, m1, m2⟩ := List.mem_filterMap.mp m
      rcases List.mem_cons.mp m1 with rfl | m1
      · cases m2
        refine .inr (Option.eq_none_iff_forall_ne_some.mpr fun o z => ?_)
        exact Nat.lt_irrefl _ (Heap.lt_size z)
      · exact .inl (List.mem_filterMap.mpr ⟨ev, m1, m2⟩)
    have inner : codeAny (model X.prog X.w) (X.A.deeper (envOfC x1 sg1 s1.heap.objs.size g1 cd1)) (.call (.ref g2) ⟨[.ref f], []⟩) (CR C8.CX0 (envOfC x1 sg1 s1.heap.objs.size g1 cd1 :: X.stack) X.prog X.w _ s2 Q C8.E0) s2 :=
      run_ofS (N := N2) (ps := [y2]) (us := [.ref f]) (vs := [.ref f]) lk D2.code D2.sc room j.env0 (bnd s2 [.ref f] j.kIn rfl) (.cons rfl .nil) rfl fun room2 => by
        obtain ⟨tt, d1, d2⟩ := gives (X.A.deeper (envOfC x1 sg1 s1.heap.objs.size g1 cd1)) (envOfC x1 sg1 s1.heap.objs.size g1 cd1 :: X.stack) f c s2 _ Q (fun E H2 Q2 => t E sl H2 Q2)
          (fun W pn xe E p1 p2 tk hW => pe_actG (i := 0) L (bd E) (show Un (frs X.stack) [] H _ s1.heap s2.heap from j.base) sub tk hW room2 D2.slot D2.vis D2.n2 D2.n3) w2 w3
        exact ⟨tt, d1.nox, d2⟩
    refine wpAny_call (codeAny_mono inner ?_)
    rintro (er | (_ | _ | _ | u)) s3 z
    · exact (show False from z).elim
    · exact z.elim
    · exact z.elim
    · exact z.elim
    · exact j.after z
/-- the lambda is made, with whatever defaults -/
def LamMk (X : Cx) (T : List (Addr × Str)) (params : Arguments) (body : Expr) (scope : Scope) (lpos : Pos) : Prop :=
  ∀ {pins : List (Addr × Obj)} {sl : L2.St} {H : Hp} {st : Shared} {Q : Value → Shared → Prop} {E : Value → Shared → Prop}, Inv X pins sl H st → Tabs T H →
    (∀ (f c : Addr) (H1 : Hp) (s1 : Shared), Inv X pins sl H1 s1 → LamAt X sl H1 s1 body scope f c → ExtN H H1 → Tabs T H1 → H1 c = some (CodeO c (X.env.qual ++ "<lambda>")) → Q (.ref f) s1) →
    wpAny (model X.prog X.w) X.A (eval (.Lambda params body scope lpos) X.env) Q E st
theorem pe_word {T : List (Addr × Str)} {k : Nat} {params : Arguments} {body : Expr} {scope : Scope} {t : XK → TE} {p lpos pos : Pos} (isG : Gl X x1) (D1 : One X.K X.mg x1 g1 cd1 N1 y1 sg1 (handsOn x2 y1 j0 q1 q2 q3 q4 q5 q6)) (isG2 : sg1.names.lookup x2 = some .globalImplicit)
    (D2 : One X.K X.mg x2 g2 cd2 N2 y2 sg2 bg2) (gives : Gives2 X.prog X.w X.K X.mg X.base N2 x2 sg2 g2 cd2 bg2 y2 (X.env.qual ++ "<lambda>") TT) (mk : LamMk X T params body scope lpos) (room : Room (k + 3) X.A) (bd : ∀ f c' E, LamBody X scope body k f c' E (t E)) :
    PE X (.Call (.Name x1 p) [.Lambda params body scope lpos] [] pos) (tLam T (fun tl H Q => TT tl H fun v H1 => rIxT X.K v (.int 0) H1 Q) t) := by
  refine ⟨fun pins st sl H Q inv ⟨tabs, want⟩ => ?_⟩
  refine wpAny_Call_Name_kw (ld_glob inv isG D1.at_ (PySem.W.callWith_K (h₀ := X.base) inv.ok.mod.kin D1.kp ?_ (by rfl) (by rfl)) D1.n1)
  refine Calls.spliced_cons (rest := backTo pos (starEach [] X.env)) (mk inv tabs fun f c' H1 s1 inv1 LA ext tabs1 co => ?_)
  refine Calls.spliced_nil ⟨inv1.kIn, ?_⟩
  obtain ⟨oc, od, pa, dV, kV, doc, pm1, an, ct, osl, lk, bnd⟩ := D1.ex
  have outerRun : codeAny (model X.prog X.w) X.A (.call (.ref g1) ⟨[.ref f], []⟩) (CR C8.CX0 X.stack X.prog X.w H1 s1 Q C8.E0) s1 :=
    run_ofS (N := N1) (ps := [y1]) (us := [.ref f]) (vs := [.ref f]) lk D1.code D1.sc room inv1.env0 (bnd s1 [.ref f] inv1.kIn rfl) (.cons rfl .nil) rfl fun room1 =>
      ⟨_, pss_one (ps_ret (pe_ix ix_tup (pe_hand D1 D2 isG2 gives LA (bd f c') room1) pe_int fun _ _ => rfl)), start_slot D1.slot, co, want H1 ext tabs1⟩
  refine wpAny_call (codeAny_mono outerRun ?_)
  rintro (er | (_ | _ | _ | u)) s3 z
  · exact (show False from z).elim
  · exact z.elim
  · exact z.elim
  · exact z.elim
  · exact inv1.after z
end
section
variable {X : Cx} {T : List (Addr × Str)} {c P : Addr} {params : Arguments} {body : Expr} {scope : Scope} {lpos : Pos}
/-- without defaults -/
theorem mk_plain (TB : TabB X.base X.mg c P) (code : X.env.code = .ref c) (mem : (P, X.env.qual ++ "<lambda>") ∈ T) (only : ∀ p ∈ T, p.1 = P → p.2 = X.env.qual ++ "<lambda>") (L : LamS2 X scope) (nodef : defaultsOf params X.env = ([], []))
    (noargs : ∀ (q : Str) (cl : List (Str × Addr)) (pm cv ctv : Value), bindArgs (PySem.W.kla_fn "<lambda>" q params body scope cl pm cv ctv) ⟨[], []⟩ = pure []) : LamMk X T params body scope lpos := by
  intro pins sl H st Q E inv tabs k
  have has : ∀ z ∈ scope.names, z.2 = .free → ∃ c, X.env.cells.lookup z.1 = some c := fun z m e => (L.free z m e).elim (fun q => inv.ok.has _ (.inl q)) (fun q => inv.ok.has _ (.inr q))
  refine lam_make2 inv TB code mem only tabs nodef has fun f c' pm ctv H1 s1 inv1 ext tabs1 obj new nofr co => ?_
  exact k f c' H1 s1 inv1 ⟨⟨pins, inv1⟩, L, new, nofr, _, [], obj, rfl, rfl, rfl, rfl, rfl, rfl, rfl, (fun y m => by cases m), (fun s2 _ => BindsTo.of_eq (noargs _ _ _ _ _))⟩ ext tabs1 co
end
end VQ
namespace VQ
open PySem PyProof.Rows L2 LamX
/-! ### a lambda with a default -/
theorem ct_step {M : Model} {A : Around} {E : Value → Shared → Prop} {s : Shared} {b : Bool} {items : List Value} {jp : Value → Sem Value} {Q : Value → Shared → Prop} (k : ∀ (ct : Value) (h1 : Heap), (∀ b o, s.heap.get? b = some o → h1.get? b = some o) → s.heap.objs.size ≤ h1.objs.size → wpAny M A (jp ct) Q E { s with heap := h1 }) :
    wpAny M A (if b = true then (do let ct ← pure Value.none; jp ct) else (do let ct ← newTextTuple items; jp ct)) Q E s := by
  cases b with
  | true => exact wpAny_bind (wpAny_pure (k .none s.heap (fun _ _ z => z) (Nat.le_refl _)))
  | false => exact wpAny_bind (wpAny_newTextTuple (k _ _ (fun _ _ z => Heap.get?_push_of_some _ z) (by rw [Heap.size_push]; omega)))
abbrev fnDfl (q : Str) (params : Arguments) (body : Expr) (scope : Scope) (cl : List (Str × Addr)) (pm : Value) (c : Addr) (ctv dV : Value) : FuncData := { PySem.W.kla_fn "<lambda>" q params body scope cl pm (.ref c) ctv with defaults := dV }
section
variable {X : Cx} {T : List (Addr × Str)} {c P : Addr} {params : Arguments} {body : Expr} {scope : Scope} {lpos : Pos}
theorem tail_run {pins : List (Addr × Obj)} {sl : L2.St} {H : Hp} {st : Shared} {Q : Value → Shared → Prop} {E : Value → Shared → Prop} {dV : Value} (inv : Inv X pins sl H st) (TB : TabB X.base X.mg c P) (code : X.env.code = .ref c) (mem : (P, X.env.qual ++ "<lambda>") ∈ T) (only : ∀ p ∈ T, p.1 = P → p.2 = X.env.qual ++ "<lambda>") (tabs : Tabs T H)
    (has : ∀ z ∈ scope.names, z.2 = .free → ∃ c, X.env.cells.lookup z.1 = some c)
    (k : ∀ (f c' : Addr) (pm ctv : Value) (H1 : Hp) (s1 : Shared), Inv X pins sl H1 s1 → ExtN H H1 → Tabs T H1 → (∀ b o, st.heap.get? b = some o → H b = none → s1.heap.get? b = some o ∧ H1 b = none) →
      s1.heap.get? f = some { cls := .type "function", data := .func (fnDfl (X.env.qual ++ "<lambda>") params body scope (cloFrom X.env.cells scope.names []) pm c' ctv dV) } → H1 f = none → f ∉ frs X.stack → H1 c' = some (CodeO c' (X.env.qual ++ "<lambda>")) → Q (.ref f) s1) :
    wpAny (model X.prog X.w) X.A (makeTail "<lambda>" (X.env.qual ++ "<lambda>") params (.expr body) scope X.env dV .none none lpos lpos.line) Q E st := by
  obtain ⟨ps, atP, trip, known⟩ := tabs _ mem
  have rawP : st.heap.get? P = some { cls := .none, data := .fields ps } := inv.hok P _ atP
  obtain ⟨bm, ob, b1, b2, b3, b4, b5, b6, b7, b8⟩ := TB.bm.keeps inv.bk
  have noFrame : ∀ f, st.heap.objs.size ≤ f → f ∉ frs X.stack := fun f above z => by
    rcases List.mem_cons.mp (inv.stkSub _ z) with e | e
    · exact absurd inv.lt (by rw [← e]; exact Nat.not_lt.mpr above)
    · exact inv.nofs above e
  have nsG : st.heap.Ns mainGlobals X.mg := inv.mod.glob.keeps inv.bk
  unfold makeTail
  rw [closure_ok has, inv.ok.glob]
  refine wpAny_bind (wpAny_pure (ct_step fun ct h1 grown sz1 => ?_))
  have hd1 := (TB.code.keeps inv.bk).keeps grown
  have rawP1 := grown _ _ rawP
  cases found : codeAmong lpos ps.toList with
  | none =>
    refine wpAny_bind (wpAny_functionCodeX code (hd1.code rawP1 trip) (hd1.tab rawP1) found fun c' h2 tk but above below _ rec_ tab2 _ => ?_)
    have nsG2 := (nsG.keeps grown).extBut but TB.gP
    refine wpAny_bind (wpAny_builtinsFor nsG2 b1 b2 (but _ _ b4 (grown _ _ b5)) b6 b7 b8 (wpAny_bind (wpAny_nsGet nsG2 (wpAny_bind (wpAny_pure (wpAny_newObj_type ?_ (by size_fits)))))))
    obtain ⟨c2, oc, vs, t, ec, r1, r2, r3⟩ := rec_
    cases ec
    have newC : H c' = none := inv.hok.fresh (Nat.le_trans sz1 above)
    have szf : st.heap.objs.size ≤ h2.objs.size := Nat.le_trans (Nat.le_trans sz1 above) (Nat.le_of_lt below)
    have old : ∀ b o, b ≠ P → st.heap.get? b = some o → h2.get? b = some o := fun b o n z => but b o n (grown b o z)
    have inv2 := inv_table (t' := tk) (more := #[rawInt lpos.line, rawInt lpos.col, .ref c']) (h' := h2.push { cls := .type "function", data := .func (fnDfl (X.env.qual ++ "<lambda>") params body scope (cloFrom X.env.cells scope.names []) ((X.mg "__name__").getD .none) c' ct dV) }) inv atP
      (fun b o n z => Heap.get?_push_of_some _ (old b o n z)) (Heap.get?_push_of_some _ tab2.2) (Nat.le_trans sz1 above) ⟨oc, vs, t, Heap.get?_push_of_some _ r1, r2, r3⟩
    have nP : ∀ b, H b = none → b ≠ P := fun b z e => by
      rw [e, atP] at z
      cases z
    have ext : ExtN H (upd (upd H P (.tbl (ps ++ #[rawInt lpos.line, rawInt lpos.col, .ref c']))) c' (CodeO c' (X.env.qual ++ "<lambda>"))) := fun b o z n => by
      have bP : b ≠ P := fun e => by
        rw [e] at z
        exact n ps (Option.some.inj (z.symm.trans atP))
      rw [upd_ne (ne_of_none z newC), upd_ne bP]
      exact z
    have glue : (ps ++ #[rawInt lpos.line, rawInt lpos.col, Value.ref c']).toList = ps.toList ++ [rawInt lpos.line, rawInt lpos.col, .ref c'] := by simp
    refine k h2.objs.size c' _ ct _ _ inv2 ext (fun p m => ?_) (fun b o z n => ⟨Heap.get?_push_of_some _ (old b o (nP b n) z), ?_⟩) (Heap.get?_push_size _ rfl) ?_ (noFrame _ szf) upd_same
    · by_cases e : p.1 = P
      · rw [only p m e, e]
        refine ⟨_, by rw [upd_ne (ne_of_none atP newC), upd_same], by rw [glue]; exact PySem.TriplesOk_snoc _ _ _ _ trip, fun p' cv hit => ?_⟩
        rw [glue] at hit
        rcases among_app _ trip hit with z | z
        · obtain ⟨c0, z1, z2⟩ := known p' cv z
          exact ⟨c0, z1, ext _ _ z2 codeO_ne⟩
        · exact ⟨c', z, upd_same⟩
      · obtain ⟨ps', a1, a2, a3⟩ := tabs p m
        refine ⟨ps', by rw [upd_ne (ne_of_none a1 newC), upd_ne e]; exact a1, a2, fun p' cv hit => ?_⟩
        obtain ⟨c0, z1, z2⟩ := a3 p' cv hit
        exact ⟨c0, z1, ext _ _ z2 codeO_ne⟩
    · have nc : b ≠ c' := Nat.ne_of_lt (Nat.lt_of_lt_of_le (Heap.lt_size z) (Nat.le_trans sz1 above))
      rw [upd_ne nc, upd_ne (nP b n)]
      exact n
    · rw [upd_ne (Nat.ne_of_gt below), upd_ne (Nat.ne_of_gt (Nat.lt_of_lt_of_le (Heap.lt_size rawP) szf))]
      exact inv.hok.fresh szf
  | some cv =>
    obtain ⟨c', e, stands⟩ := known lpos cv found
    subst e
    have nsG1 := nsG.keeps grown
    refine wpAny_bind (wpAny_functionCode_hit code (hd1.code rawP1 trip) found (wpAny_bind (wpAny_builtinsFor nsG1 b1 b2 (grown _ _ b5) b6 b7 b8 (wpAny_bind (wpAny_nsGet nsG1 (wpAny_bind (wpAny_pure (wpAny_newObj_type ?_ (by size_fits)))))))))
    have stays : ∀ b o, st.heap.get? b = some o → (h1.push { cls := .type "function", data := .func (fnDfl (X.env.qual ++ "<lambda>") params body scope (cloFrom X.env.cells scope.names []) ((X.mg "__name__").getD .none) c' ct dV) }).get? b = some o := fun b o z => Heap.get?_push_of_some _ (grown b o z)
    exact k h1.objs.size c' _ ct H _ (inv.kept stays) (ExtN.refl H) tabs (fun b o z n => ⟨stays b o z, n⟩) (Heap.get?_push_size _ rfl) (inv.hok.fresh sz1) (noFrame _ sz1) stands
/-- one default, an int -/
theorem mk_dflt {i : Int} {j : Nat} {dp : Pos} {y : Str} (TB : TabB X.base X.mg c P) (code : X.env.code = .ref c) (mem : (P, X.env.qual ++ "<lambda>") ∈ T) (only : ∀ p ∈ T, p.1 = P → p.2 = X.env.qual ++ "<lambda>") (L : LamS2 X scope)
    (defs : defaultsOf params X.env = ([eval (.Constant (.int i) j dp) X.env], [])) (nokw : params.kwonlyargs = []) (loc : scope.names.lookup y = some .local)
    (args : ∀ (q : Str) (cl : List (Str × Addr)) (pm ctv u : Value) (cv T0 : Addr), ∃ k, bindArgs (fnDfl q params body scope cl pm cv ctv (.ref T0)) ⟨[], []⟩ = seqItems? (.ref T0) >>= k ∧ k (some #[u]) = pure [(y, u)]) : LamMk X T params body scope lpos := by
  intro pins sl H st Q E inv tabs k
  have has : ∀ z ∈ scope.names, z.2 = .free → ∃ c, X.env.cells.lookup z.1 = some c := fun z m e => (L.free z m e).elim (fun q => inv.ok.has _ (.inl q)) (fun q => inv.ok.has _ (.inr q))
  rw [arm_eval_Lambda, defs]
  show wpAny _ _ (do let dv ← evalAll [eval (.Constant (.int i) j dp) X.env]; let kdv ← holding dv (evalAllOpt []); makeFunction "<lambda>" (X.env.qual ++ "<lambda>") params (.expr body) scope X.env dv kdv [] lpos lpos.line) _ _ _
  refine wpAny_bind (wpAny_evalAll_cons (wpAny_Constant_int (wpAny_evalAll_nil (wpAny_bind (wpAny_holding (wpAny_pure ?_))))))
  rw [makeFunction_eq, nokw]
  simp only [List.zip_nil_left, List.filterMap_nil, List.isEmpty_nil, List.isEmpty_cons, if_true, Bool.false_eq_true, if_false, pure_bind]
  refine wpAny_bind (wpAny_newTextTuple ?_)
  have old : ∀ b o, st.heap.get? b = some o → (st.heap.push { cls := .type "tuple", data := .seq [Value.int i st.toks].toArray }).get? b = some o := fun b o z => Heap.get?_push_of_some _ z
  have atT : (st.heap.push { cls := .type "tuple", data := .seq [Value.int i st.toks].toArray }).get? st.heap.objs.size = some { cls := .type "tuple", data := .seq [Value.int i st.toks].toArray } := Heap.get?_push_size _ rfl
  have inv1 : Inv X pins sl H { st with heap := st.heap.push { cls := .type "tuple", data := .seq [Value.int i st.toks].toArray }, toks := st.toks + 1 } := inv.kept old
  have newT : H st.heap.objs.size = none := inv.hok.fresh (Nat.le_refl _)
  have noT : st.heap.objs.size ∉ frs X.stack := fun z => by
    rcases List.mem_cons.mp (inv.stkSub _ z) with e | e
    · exact absurd inv.lt (by rw [← e]; exact Nat.lt_irrefl _)
    · exact inv.nofs (Nat.le_refl _) e
  refine tail_run inv1 TB code mem only tabs has fun f c' pm ctv H1 s1 inv2 ext tabs1 keep obj new nofr co => ?_
  obtain ⟨t1, t2⟩ := keep _ _ atT newT
  refine k f c' H1 s1 inv2 ⟨⟨pins, inv2⟩, L, new, nofr, _, [(y, Value.int i st.toks)], obj, rfl, rfl, rfl, rfl, rfl, rfl, rfl, fun z m => ?_, fun s2 stays => ?_⟩ ext tabs1 co
  · rw [List.mem_singleton.mp m]
    exact loc
  · obtain ⟨kk, e1, e2⟩ := args (X.env.qual ++ "<lambda>") (cloFrom X.env.cells scope.names []) pm ctv (.int i st.toks) c' st.heap.objs.size
    refine BindsTo.of_looks fun M => ?_
    rw [e1]
    intro A' Q' E' s3 kp q
    have there := kp _ _ (stays _ _ t1 t2 noT)
    exact wpAny_bind (wpAny_seqItems there rfl ((PySem.W.Looks.of_pure e2 : PySem.W.Looks M s2.heap _ _) A' Q' E' s3 kp q))
end
end VQ
namespace VQ
open PySem PySem.Spec PyProof.Rows L2 LamX
/-! ### a tuple times a number from 1 on -/
theorem once_mul (l : Addr) (its : Array Value) (n : Nat) (dd : Option Addr) (sl : Array (Option Value)) (u : Tok) :
    Meets (Builtin.«tuple.__mul__» ⟨[.ref l, .int 1 u], []⟩) (fun _ R s => s.heap.get? l = some ⟨.type "tuple", dd, .seq its n, sl⟩ ∧ R (.ok (.ret (.ref l))) s) :=
  .of_wp fun prog w A R s h => by
    obtain ⟨hp, g, d, tk, os⟩ := s
    obtain ⟨hl, h⟩ := h
    have f1 := AutoSeq1.idx_int
    wp_walk using wpAny_loadPart' hl
    exact ⟨_, rfl, h⟩
/-- once is the tuple itself -/
def rTimes (K : PySem.W.Frag) : R2 := fun x y H Q => ∃ (l : Addr) (k : Int) (xs : List V), x = .ref l ∧ y = .int k ∧ SqT K H l xs ∧ xs ≠ [] ∧ 1 ≤ k ∧ k ≤ 1000 ∧ xs.length ≤ 1000 ∧
  (k = 1 → Q (.ref l) H) ∧ (k ≠ 1 → ∀ p, H p = none → Q (.ref p) (upd H p (.tup (List.replicate k.toNat xs).flatten)))
theorem op_times {X : Cx} : OpR X (binaryOp .Mult) (rTimes X.K) := by
  intro pins s σ H x y v u Q I rx ry h
  obtain ⟨l, k, xs, rfl, rfl, sq, ne, k1, k2, hz, q1, q2⟩ := h
  by_cases e : k = 1
  · subst e
    cases rx
    obtain ⟨t, rfl⟩ := ry
    obtain ⟨its, r, ⟨⟨cls, dd, data, sl⟩, ho, hc, n, hd⟩, hs⟩ := I.tuple sq
    simp only at hc hd
    subst hc hd
    exact wpAny_binaryOp_repeat_ref (T := "tuple") (U := "int") (by decide) ⟨_, ho, rfl⟩ (fun s' => typeIs_int s' 1 t) noFill_tuple_mul F.fills_int_mul F.slot_int_rmul repeat_tuple F.slot_int_index.lookup
      (call_meets F.slot_int_rmul (typeIs_int s 1 t) F.entry_int_rmul (F.args_int_rmul_2 _ _) (int_rmul_tuple 1 t l its.toArray n dd sl)
        ⟨ho, rfl, ⟨_, ho, rfl⟩, call_meets F.slot_tuple_mul ⟨_, ho, rfl⟩ F.entry_tuple_mul (F.args_tuple_mul_2 _ _) (once_mul l its.toArray n dd sl t) ⟨ho, .ref l, H, I, rfl, q1 rfl⟩⟩)
  · exact op_repT pins s σ H _ _ v u Q I rx ry ⟨l, k, xs, rfl, rfl, sq, ne, by omega, k2, hz, q2 e⟩
/-! ### comprehensions over zip of two tuples -/
theorem lc_zipT {K : PySem.W.Frag} {a b : Addr} {xs ys : List V} {g : TG} {tt : TT} {te : TE} {vs : List Nat} {σ : L2.St} {H1 : Hp} {D : Addr} {Qd : Hp → Prop} (len : xs.length = ys.length) (Pv : Nat → Hp → Prop) (h0 : Pv 0 (upd H1 D (.lst []))) (both : ∀ i H, Pv i H → SqT K H a xs ∧ SqT K H b ys)
    (turn : ∀ (i : Nat) (x y : V) (T : Addr) (H : Hp), xs[i]? = some x → ys[i]? = some y → Pv i H → H T = none → g (.ref T) (wipe σ vs) (upd H T (.tup [x, y])) fun σ2 H2 => wipe σ2 vs = wipe σ vs ∧ tt σ2 H2 fun b H3 => if b = true then te σ2 H3 fun y H4 => ∃ acc, H4 D = some (.lst acc) ∧ acc.length < sizeLine ∧ Pv (i + 1) (upd H4 D (.lst (acc ++ [y]))) else Pv (i + 1) H3)
    (fin : ∀ H, Pv xs.length H → Qd H) :
    ∃ W : Nat → Nat → Hp → Prop, (∃ m, W 0 m (upd H1 D (.lst []))) ∧ ∀ i m H, W i m H → ((RZ.ItzT K a b).stop i H ∧ Qd H) ∨ ((RZ.ItzT K a b).go i H ∧ ∃ Nx : Hp → Prop, (∀ H', Nx H' → ∃ m', m' < m ∧ W (i + 1) m' H') ∧
      ∀ x H', (RZ.ItzT K a b).yld i H x H' → g x (wipe σ vs) H' fun σ2 H2 => wipe σ2 vs = wipe σ vs ∧ tt σ2 H2 fun b H3 => if b = true then te σ2 H3 fun y H4 => ∃ acc, H4 D = some (.lst acc) ∧ acc.length < sizeLine ∧ Nx (upd H4 D (.lst (acc ++ [y]))) else Nx H3) := by
  refine ⟨fun i m H => m + i = xs.length ∧ Pv i H, ⟨xs.length, by simp, h0⟩, ?_⟩
  rintro i m H ⟨em, p⟩
  obtain ⟨sx, sy⟩ := both i H p
  by_cases lt : i < xs.length
  · have lt' : i < ys.length := by rw [← len]; exact lt
    refine .inr ⟨⟨xs, ys, xs[i], ys[i], sx, sy, List.getElem?_eq_getElem lt, List.getElem?_eq_getElem lt'⟩, Pv (i + 1), fun H' p' => ⟨m - 1, by omega, by omega, p'⟩, ?_⟩
    rintro v H' ⟨T, x, y, rfl, nT, rfl, e1, e2⟩
    exact turn i x y T H (e1 xs sx) (e2 ys sy) p nT
  · have e : i = xs.length := by omega
    subst e
    exact .inl ⟨⟨xs, ys, sx, sy, .inl (Nat.le_refl _)⟩, fin H p⟩
end VQ
namespace VQ
open PySem PySem.Spec PyProof.Rows L2
/-! ### enumerate of a tuple -/
abbrev tiO (l : Addr) : Obj := { cls := .type "tuple_iterator", data := .fields #[.ref l, .int 0 0] }
abbrev enO (it : Addr) : Obj := { cls := .type "enumerate", data := .fields #[.none, .bool false, .ref it, rawInt 0, .none, .none] }
theorem enum_newT (l : Addr) (its : Array Value) (n : Nat) (dd : Option Addr) (sl : Array (Option Value)) :
    Meets (Builtin.«enumerate.__new__» ⟨[.type "enumerate", .ref l], []⟩) (fun _ R s => s.heap.get? l = some ⟨.type "tuple", dd, .seq its n, sl⟩ ∧
      R (.ok (.ret (.ref (s.heap.push (tiO l)).objs.size))) { s with heap := (s.heap.push (tiO l)).push (enO s.heap.objs.size) }) :=
  .of_wp fun prog w A R s z => by
    obtain ⟨hp, g, d, tk, os⟩ := s
    obtain ⟨hl, z⟩ := z
    have isSub := sub_enumerate
    have tupL : Heap.IsTuple (Shared.heap ⟨hp, g, d, tk, os⟩) l its := ⟨_, hl, rfl, n, rfl⟩
    wp_walk using AutoSeq1.wpAny_loadPart' hl
    refine wpAny_stack_any fun _ => wpAny_pure ?_
    split
    · rename_i c _ _ _ _ _
      cases (c == Value.type "enumerate") <;>
      · wp_walk using AutoSeq1.wpAny_loadPart' hl, wpAny_pyIter_tuple tupL
        exact ⟨_, rfl, z⟩
    · wp_walk using AutoSeq1.wpAny_loadPart' hl, wpAny_pyIter_tuple tupL
      exact ⟨_, rfl, z⟩
theorem enum_callT {prog : Program} {w : World} {A : Around} {E : Value → Shared → Prop} {s : Shared} {l : Addr} {its : Array Value} {Q : Value → Shared → Prop} (tupL : s.heap.IsTuple l its)
    (k : ∀ g : Heap, IsEnum g (s.heap.objs.size + 1) s.heap.objs.size 0 .none → g.IsTupleIter s.heap.objs.size l 0 → (∀ b o, s.heap.get? b = some o → g.get? b = some o) → Q (.ref (s.heap.objs.size + 1)) { s with heap := g }) :
    wpAny (model prog w) A (call (.type "enumerate") [.ref l]) Q E s := by
  obtain ⟨⟨c, dd, dt, sl⟩, hl, c1, n, c2⟩ := tupL
  have c1 : c = .type "tuple" := c1
  have c2 : dt = .seq its n := c2
  subst c1 c2
  refine callType_new F.called_enumerate (by decide) (F.typeCall_enumerate_1 _) (F.newCall_enumerate_1 _) (fun x => F.args_object_init_2 x _) F.entry_enumerate_new (enum_newT l its n dd sl) ⟨hl, ?_⟩
  have sz : (s.heap.push (tiO l)).objs.size = s.heap.objs.size + 1 := Heap.size_push ..
  show _ ∧ _
  rw [sz]
  have en : IsEnum ((s.heap.push (tiO l)).push (enO s.heap.objs.size)) (s.heap.objs.size + 1) s.heap.objs.size 0 .none := by
    have q := Heap.get?_push_size (s.heap.push (tiO l)) (o := enO s.heap.objs.size) rfl
    rw [sz] at q
    exact q
  exact ⟨⟨_, en, rfl⟩, k _ en ⟨_, Heap.get?_push_of_some _ (Heap.get?_push_size _ rfl), rfl, rfl⟩ fun b o q => Heap.get?_push_of_some _ (Heap.get?_push_of_some _ q)⟩
/-- the tuple at a, each item in a new pair with its place -/
def IteT (K : PySem.W.Frag) (a : Addr) : It :=
  ⟨fun i H => ∃ (xs : List V) (x : V), SqT K H a xs ∧ xs[i]? = some x, fun i H v H' => ∃ T x, v = .ref T ∧ H T = none ∧ H' = upd H T (.tup [.int (i : Nat), x]) ∧ ∀ xs, SqT K H a xs → xs[i]? = some x, fun i H => ∃ xs : List V, SqT K H a xs ∧ xs.length = i⟩
theorem turn_enumT {P : Program} {w : World} {K : PySem.W.Frag} {elts : List Expr} {kk : Nat} {tpos : Pos} (a e it : Addr) :
    Turn P w K (.Tuple elts kk tpos) (IteT K a) [e, it] e (fun i h => (∃ old, IsEnum h e it ((i : Nat) : Int) old) ∧ h.IsTupleIter it a i) where
  mem := by simp
  obj := fun i h ⟨⟨old, he⟩, o, ho, hc, hd⟩ b hb => by
    have z : b = e ∨ b = it := by simpa using hb
    rcases z with rfl | rfl
    · exact ⟨_, he, fun v q => nomatch q⟩
    · exact ⟨o, ho, fun v q => by rw [hd] at q; cases q⟩
  keep := fun i h h' ⟨⟨old, he⟩, ti⟩ k => ⟨⟨old, k e (by simp) _ he⟩, ti.at fun o q => k it (by simp) o q⟩
  item := by
    rintro X rfl rfl rfl calm i pins s σ H E inv fp ⟨⟨old, he⟩, ti⟩ ⟨xs, x, sq, hx⟩
    obtain ⟨its, rv, tp, _⟩ := inv.tuple sq
    obtain ⟨u, hu, ru⟩ := rv.get hx
    have tp' : s.heap.IsTuple a its.toArray := tp
    have le : e < s.heap.objs.size := Heap.lt_size he
    have li : it < s.heap.objs.size := by obtain ⟨_, q, _⟩ := ti; exact Heap.lt_size q
    have ea : e ≠ a := fun z => by
      obtain ⟨o, ho, hc, _⟩ := tp'
      rw [← z, he] at ho
      cases ho
      injection hc with q
      exact absurd q (by decide)
    have ai : a ≠ it := fun z => by
      obtain ⟨o, ho, hc, _⟩ := tp'
      obtain ⟨o', ho', hc', _⟩ := ti
      rw [z, ho'] at ho
      cases ho
      rw [hc'] at hc
      injection hc with q
      exact absurd q (by decide)
    have ei : e ≠ it := fun z => by
      obtain ⟨o', ho', hc', _⟩ := ti
      rw [← z, he] at ho'
      cases ho'
      injection hc' with q
      exact absurd q (by decide)
    have hi : i < its.toArray.size := by
      have := (List.getElem?_eq_some_iff.mp hu).1
      simpa using this
    refine wpAny_pyNext_enum_itemD (Draws.tuple (A := X.A.in1) (inv.ok.hd calm) it a ai its.toArray) he ⟨ti, tp'⟩ hi ei (by simp [ei, ea]) fun y h1 tk py eo st hT _ kp => ?_
    have eu : y = u := by
      have q : its[i]? = some y := by simpa using py
      rw [hu] at q
      exact (Option.some.inj q).symm
    subst eu
    refine ⟨_, rfl, wpAny_letOwnedTupleGo_enum (s := { s with heap := h1, toks := tk + 1 }) eo fun h2 he2 sb => ?_⟩
    have hT2 : h2.get? s.heap.objs.size = some { cls := .type "tuple", data := .seq #[.int i tk, y] } := (sb.2 _ (Nat.ne_of_gt le)).trans hT
    have new : ObjOk X.prog X.w (upd H s.heap.objs.size (.tup [.int (i : Nat), x])) h2 s.heap.objs.size (.tup [.int (i : Nat), x]) :=
      ⟨by show 2 ≤ sizeLine; decide, [.int i tk, y], .cons ⟨_, rfl⟩ (.cons ru .nil), ⟨_, hT2, rfl, _, rfl⟩⟩
    have inv1 : Inv X pins σ (upd H s.heap.objs.size (.tup [.int (i : Nat), x])) { s with heap := h2, toks := tk + 1 } :=
      inv.turnedNew (ch := [e, it]) (fun b ob hb q => (sb.2 b (fun z => hb (by simp [z]))).trans (kp b ob (fun z => hb (by simp [z])) (fun z => hb (by simp [z])) q)) fp (Nat.le_refl _) new
    refine ⟨.ref s.heap.objs.size, _, inv1, rfl, ⟨_, x, rfl, inv.hok.fresh (Nat.le_refl _), rfl, fun ys hy => by rw [inv.tuple_inj hy sq]; exact hx⟩, ⟨⟨y, ?_⟩, st.1.at fun o q => (sb.2 it (Ne.symm ei)).trans q⟩, fun b hb => ?_⟩
    · rw [show ((i + 1 : Nat) : Int) = (i : Int) + 1 by omega]
      exact he2
    · have lb : b < s.heap.objs.size := by
        have z : b = e ∨ b = it := by simpa using hb
        rcases z with rfl | rfl
        · exact le
        · exact li
      rw [upd_ne (Nat.ne_of_lt lb)]
      exact (fp b hb).1
  done := by
    rintro X rfl rfl rfl calm i pins s σ H E inv fp ⟨⟨old, he⟩, ti⟩ ⟨xs, sq, hx⟩
    obtain ⟨its, rv, tp, _⟩ := inv.tuple sq
    obtain ⟨f0, f1, f2, f3, f4, f5⟩ := fp it (by simp)
    have tp' : s.heap.IsTuple a its.toArray := tp
    have ai : a ≠ it := fun z => by
      obtain ⟨o, ho, hc, _⟩ := tp'
      obtain ⟨o', ho', hc', _⟩ := ti
      rw [z, ho'] at ho
      cases ho
      rw [hc'] at hc
      injection hc with q
      exact absurd q (by decide)
    have sz : its.toArray.size = i := by
      have := rv.length
      simp
      omega
    refine wpAny_pyNext_enum_endD (n := its.toArray.size) (Draws.tuple (A := X.A.in1) (inv.ok.hd calm) it a ai its.toArray) he ⟨by rw [sz]; exact ti, tp'⟩ fun h1 eb => ⟨rfl, inv.turned (t' := s.toks) (fun b o hb q => eb b o hb q) f0 f1 f3 f4 f5⟩
  self := fun A i s Q E ⟨⟨_, he⟩, _⟩ h => wpAny_pyIter_enum he h
def iEnumT (K : PySem.W.Frag) (ta : TA) : TI := fun σ H R => ta σ H fun vs H1 => ∃ a xs, vs = [.ref a] ∧ SqT K H1 a xs ∧ R (IteT K a) H1
theorem pi_enumT {X : Cx} {e : Expr} {ta : TA} {p pos tpos : Pos} {elts : List Expr} {kk : Nat} (isG : Gl X "enumerate") (atG : X.mg "enumerate" = none) (ha : PA X [e] ta) (hs : starEach [e] X.env = [(false, eval e X.env)] := by rfl) :
    PI X (.Tuple elts kk tpos) (.Call (.Name "enumerate" p) [e] [] pos) (iEnumT X.K ta) := by
  refine ⟨fun pins s σ H R inv h => Call_ (ld_blt inv isG atG boot_enumerate (callWith_type1 (thn (ha.run pos pins s σ H _ inv h) fun us s1 ⟨vs, H1, I1, r1, q1⟩ => ?_) hs rfl))⟩
  obtain ⟨a, xs, rfl, sq, q⟩ := q1
  cases r1 with
  | cons r rr =>
    cases rr
    cases r
    obtain ⟨its, rv, tp, _⟩ := I1.tuple sq
    refine enum_callT tp fun g he ti kp => wpAny_pyIter_enum he ?_
    refine ⟨s1.heap.objs.size + 1, [s1.heap.objs.size + 1, s1.heap.objs.size], _, _, H1, rfl, I1.kept (t' := s1.toks) kp, turn_enumT a (s1.heap.objs.size + 1) s1.heap.objs.size, ⟨⟨.none, he⟩, ti⟩, fun b hb => ?_, q⟩
    have le : s1.heap.objs.size ≤ b := by
      have z : b = s1.heap.objs.size + 1 ∨ b = s1.heap.objs.size := by simpa using hb
      rcases z with rfl | rfl
      · exact Nat.le_succ _
      · exact Nat.le_refl _
    exact I1.fpOk le (I1.hok.fresh le)
/-- a for over enumerate of a tuple, by what holds between two turns -/
theorem for_enumT {K : PySem.W.Frag} {a : Addr} {xs : List V} {g : TG} {tb : TS} {D : Ends} {σ : L2.St} {H : Hp} (Pv : Nat → L2.St → Hp → Prop) (h0 : Pv 0 σ H) (there : ∀ i σ H, Pv i σ H → SqT K H a xs)
    (turn : ∀ (i : Nat) (x : V) (T : Addr) (σ : L2.St) (H : Hp), xs[i]? = some x → Pv i σ H → H T = none → g (.ref T) σ (upd H T (.tup [.int (i : Nat), x])) fun σ2 H2 => tb { D with nx := Pv (i + 1), ct := Pv (i + 1), bk := D.nx } σ2 H2)
    (fin : ∀ σ H, Pv xs.length σ H → D.nx σ H) :
    ∃ W : Nat → Nat → L2.St → Hp → Prop, (∃ m, W 0 m σ H) ∧ ∀ i m σ H, W i m σ H →
      ((IteT K a).stop i H ∧ D.nx σ H) ∨ ((IteT K a).go i H ∧ ∃ N : L2.St → Hp → Prop, (∀ σ' H', N σ' H' → ∃ m', m' < m ∧ W (i + 1) m' σ' H') ∧ ∀ x H', (IteT K a).yld i H x H' → g x σ H' fun σ2 H2 => tb { D with nx := N, ct := N, bk := D.nx } σ2 H2) := by
  refine ⟨fun i m σ H => m + i = xs.length ∧ Pv i σ H, ⟨xs.length, rfl, h0⟩, ?_⟩
  rintro i m σ H ⟨em, p⟩
  have sq := there i σ H p
  by_cases lt : i < xs.length
  · refine .inr ⟨⟨xs, xs[i], sq, List.getElem?_eq_getElem lt⟩, Pv (i + 1), fun σ' H' p' => ⟨m - 1, by omega, by omega, p'⟩, ?_⟩
    rintro v H' ⟨T, x, rfl, nT, rfl, ex⟩
    exact turn i x T σ H (ex xs sq) p nT
  · have e : i = xs.length := by omega
    subst e
    exact .inl ⟨⟨xs, sq, rfl⟩, fin σ H p⟩
end VQ
namespace VQ
open PySem PyProof.Rows L2
/-! ### xs.count(y) of plain things -/
theorem count_vals {y : V} : ∀ {ys : List V} {us : List Value}, Vals ys us → ys.all flatV = true → us.countP (eqU y) = ys.countP (fun z => eqV z y)
  | _, _, .nil, _ => rfl
  | z :: ys, u :: us, .cons r t, f => by
    rw [List.all_cons, Bool.and_eq_true] at f
    rw [List.countP_cons, List.countP_cons, count_vals t f.2, eqU_of r f.1]
def rCntF (K : PySem.W.Frag) : V → List V → Hp → VK → Prop := fun x xs H Q => ∃ (a : Addr) (ys : List V) (y : V), x = .ref a ∧ xs = [y] ∧ SqL K H a ys ∧ flatV y = true ∧ ys.all flatV = true ∧ Q (.int (ys.countP (fun z => eqV z y) : Nat)) H
theorem mt_countF {X : Cx} : MtR X "list.count" (rCntF X.K) := by
  intro pins s σ H x xs v us Q I rx rxs h
  obtain ⟨a, ys, y, rfl, rfl, sq, fy, fys, q⟩ := h
  cases rx
  cases rxs with
  | cons ry rt =>
    cases rt
    obtain ⟨its, rv, ⟨⟨cls, dd, data, sl⟩, n, ho, c1, c2, c3⟩, _⟩ := I.list sq
    simp only at c1 c3
    subst c1 c3
    refine call_meets PySem.F.slot_list_count ⟨_, ho, rfl⟩ PySem.F.entry_list_count (PySem.F.args_list_count_2 _ _) (SeqAt.list_countAt a its.toArray n dd sl _ (eqU y)) ⟨ho, fun u hu => mem_eqAt ry fy rv fys u (by simpa using hu), ?_⟩
    refine ⟨.int (ys.countP (fun z => eqV z y) : Nat), H, I.tok _, ⟨s.toks, ?_⟩, q⟩
    rw [show its.toArray.toList.countP (eqU y) = ys.countP (fun z => eqV z y) from count_vals rv fys]
end VQ
namespace VQ
open PySem PySem.Spec PyProof.Rows L2 LamX
/-- a for over zip of two tuples, by what holds between two turns -/
theorem for_zipT {K : PySem.W.Frag} {a b : Addr} {xs ys : List V} {g : TG} {tb : TS} {D : Ends} {σ : L2.St} {H : Hp} (len : xs.length = ys.length) (Pv : Nat → L2.St → Hp → Prop) (h0 : Pv 0 σ H) (both : ∀ i σ H, Pv i σ H → SqT K H a xs ∧ SqT K H b ys)
    (turn : ∀ (i : Nat) (x y : V) (T : Addr) (σ : L2.St) (H : Hp), xs[i]? = some x → ys[i]? = some y → Pv i σ H → H T = none → g (.ref T) σ (upd H T (.tup [x, y])) fun σ2 H2 => tb { D with nx := Pv (i + 1), ct := Pv (i + 1), bk := D.nx } σ2 H2)
    (fin : ∀ σ H, Pv xs.length σ H → D.nx σ H) :
    ∃ W : Nat → Nat → L2.St → Hp → Prop, (∃ m, W 0 m σ H) ∧ ∀ i m σ H, W i m σ H →
      ((RZ.ItzT K a b).stop i H ∧ D.nx σ H) ∨ ((RZ.ItzT K a b).go i H ∧ ∃ N : L2.St → Hp → Prop, (∀ σ' H', N σ' H' → ∃ m', m' < m ∧ W (i + 1) m' σ' H') ∧ ∀ x H', (RZ.ItzT K a b).yld i H x H' → g x σ H' fun σ2 H2 => tb { D with nx := N, ct := N, bk := D.nx } σ2 H2) := by
  refine ⟨fun i m σ H => m + i = xs.length ∧ Pv i σ H, ⟨xs.length, rfl, h0⟩, ?_⟩
  rintro i m σ H ⟨em, p⟩
  obtain ⟨sx, sy⟩ := both i σ H p
  by_cases lt : i < xs.length
  · have lt' : i < ys.length := by omega
    refine .inr ⟨⟨xs, ys, xs[i], ys[i], sx, sy, List.getElem?_eq_getElem lt, List.getElem?_eq_getElem lt'⟩, Pv (i + 1), fun σ' H' p' => ⟨m - 1, by omega, by omega, p'⟩, ?_⟩
    rintro v H' ⟨T, x, y, rfl, nT, rfl, e1, e2⟩
    exact turn i x y T σ H (e1 xs sx) (e2 ys sy) p nT
  · have e : i = xs.length := by omega
    subst e
    exact .inl ⟨⟨xs, ys, sx, sy, .inl (Nat.le_refl _)⟩, fin σ H p⟩
end VQ
namespace VQ
open PySem L2 LamX
abbrev sTried : Stmt := top 34
abbrev sWord : Stmt := top 35
/-- where the error classes stand that the law names -/
structure Errs (mg : Str → Option Value) (Ta NT NR BT Uf Fu TM QE No : Addr) : Prop where
  ta : mg "Taken" = some (.ref Ta)
  nt : mg "NoTable" = some (.ref NT)
  nr : mg "NoRow" = some (.ref NR)
  bt : mg "BadText" = some (.ref BT)
  uf : mg "Unfit" = some (.ref Uf)
  fu : mg "Full" = some (.ref Fu)
  tm : mg "TooMany" = some (.ref TM)
  qe : mg "QuiltError" = some (.ref QE)
  no : mg "Nothing" = some (.ref No)
/-- a refusal without a field: the last clause takes it -/
structure Plain (K : PySem.W.Frag) (Ta NT NR BT Uf Fu TM QE No C : Addr) : Prop where
  n1 : PySem.W.exmAny K (.ref C) [.ref Ta, .ref NT, .ref NR] = some false
  n2 : PySem.W.exmAny K (.ref C) [.ref BT, .ref Uf] = some false
  n3 : PySem.W.exmAny K (.ref C) [.ref Fu] = some false
  n4 : PySem.W.exmAny K (.ref C) [.ref TM] = some false
  y5 : PySem.W.exmAny K (.ref C) [.ref QE, .ref No] = some true
  xf : XfC K C
  nc : PySem.W.findIn K (.ref C) "called" = some none
/-- what is wished of an error: the tuple of its name and a blank -/
def Caught (K : PySem.W.Frag) (Ta NT NR BT Uf Fu TM QE No : Addr) (Q : VK) : XK := fun cls d H => ∃ (C dd : Addr) (fs : List (Str × V)) (nm : Str), cls = .ref C ∧ d = some dd ∧ Plain K Ta NT NR BT Uf Fu TM QE No C ∧ H dd = some (.xd fs) ∧ fs.lookup ("called" : Str) = some (V.str nm) ∧
  ∀ p, H p = none → Q (.ref p) (upd H p (.tup [.str nm, .str ""]))
def TTried (K : PySem.W.Frag) (Ta NT NR BT Uf Fu TM QE No : Addr) : (XK → Hp → VK → Prop) → Hp → VK → Prop := fun tl H Q =>
  tl (Caught K Ta NT NR BT Uf Fu TM QE No Q) H fun v H1 => [V.str "told", v].length ≤ sizeLine ∧ ∀ p, H1 p = none → Q (.ref p) (upd H1 p (.tup [.str "told", v]))
/-- a def of one parameter as it stands -/
theorem one_of {K : PySem.W.Frag} {mg : Str → Option Value} {x y : Str} {st : Stmt} {f : Addr} {fd : FuncData} {N : List Str} (A1 : At K mg x st [y] f fd) (sc : FnScope N [y] (defScope st)) (slot : N[0]? = some y) (vis : Vis (defScope st) y) (n1 : (x == ("__debug__" : Str)) = false) (n2 : (y == ("__debug__" : Str)) = false) (n3 : (y == ("__classdict__" : Str)) = false) :
    ∃ cd, One K mg x f cd N y (defScope st) (defBody st) := by
  obtain ⟨oc, od, kV, doc, pm, an, cdv, ct, osl, e, lk, code⟩ := A1.fn.ex
  have bd := A1.bd
  rw [e] at lk bd
  exact ⟨cdv, A1.gl, A1.fn.kp, ⟨oc, od, _, _, kV, doc, pm, an, ct, osl, lk, bd⟩, code, sc, slot, vis, n1, n2, n3⟩
theorem scTried : FnScope ["_law_ask", "e"] ["_law_ask"] (defScope sTried) := ⟨rfl, rfl, rfl, by decide +kernel, rfl, by decide +kernel, by decide +kernel⟩
theorem scWord : FnScope ["_law_ask"] ["_law_ask"] (defScope sWord) := ⟨rfl, rfl, rfl, by decide +kernel, rfl, by decide +kernel, by decide +kernel⟩
section
variable {P : Program} {w : World} {K : PySem.W.Frag} {mg : Str → Option Value} {base : Heap} {Ta NT NR BT Uf Fu TM QE No : Addr}
theorem tried_gives {g : Addr} {cdg : Value} {q : Str} (G : Errs mg Ta NT NR BT Uf Fu TM QE No) : Gives2 P w K mg base ["_law_ask", "e"] "_law_tried" (defScope sTried) g cdg (defBody sTried) "_law_ask" q (TTried K Ta NT NR BT Uf Fu TM QE No) := by
  intro A2 outer2 f c' s H Q tl act hc h
  refine ⟨_, pss_one (ps_try_manyA (X := (cxOf C8.CX0 P w K mg base ["_law_ask", "e"] "_law_tried" (defScope sTried) g cdg A2 outer2 s H C8.E0).nox) (i := 1) (n := "e")
      (tb := fun W D σ H => ∃ Ech : XK, (∀ cls d σ' H', σ'.length = 2 → Ech cls d H' → W cls d σ' H') ∧ σ[0]? = some (some (.ref f)) ∧ H c' = some (CodeO c' q) ∧ tl Ech H fun v H1 => [V.str "told", v].length ≤ sizeLine ∧ ∀ p, H1 p = none → D.rt (.ref p) (upd H1 p (.tup [.str "told", v])))
      rfl rfl scTried.nd rfl rfl LamX.takes0 (fun W pn xe tk _ => ?_)
      (HdsA.cons (Cte.three ⟨rfl, by decide, .inl G.ta⟩ ⟨rfl, by decide, .inl G.nt⟩ ⟨rfl, by decide, .inl G.nr⟩) (fun a oe cls d pn hz hf => pss_one (ps_ret (pe_tup (pa_cons (pe_xfA hz hf (pv 1)) (pa_cons (pe_xfA hz hf (pv 1)) pa_nil)))))
      (HdsA.cons (Cte.two ⟨rfl, by decide, .inl G.bt⟩ ⟨rfl, by decide, .inl G.uf⟩) (fun a oe cls d pn hz hf => pss_one (ps_ret (pe_tup (pa_cons (pe_xfA hz hf (pv 1)) (pa_cons (pe_xfA hz hf (pv 1)) pa_nil)))))
      (HdsA.cons (Cte.one ⟨rfl, by decide, .inl G.fu⟩) (fun a oe cls d pn hz hf => pss_one (ps_ret (pe_tup (pa_cons (pe_xfA hz hf (pv 1)) (pa_cons (pe_xfA hz hf (pv 1)) pa_nil)))))
      (HdsA.cons (Cte.one ⟨rfl, by decide, .inl G.tm⟩) (fun a oe cls d pn hz hf => pss_one (ps_ret (pe_tup (pa_cons (pe_xfA hz hf (pv 1)) (pa_cons (pe_xfA hz hf (pv 1)) pa_nil)))))
      (HdsA.cons (Cte.two ⟨rfl, by decide, .inl G.qe⟩ ⟨rfl, by decide, .inl G.no⟩) (fun a oe cls d pn hz hf => pss_one (ps_ret (pe_tup (pa_cons (pe_xfA hz hf (pv 1)) (pa_cons pe_str pa_nil)))))
      HdsA.nil)))))), ?_⟩
  · refine ⟨fun pins s' σ H' D I ⟨Ech, hW, h1, h2, h3⟩ => ?_⟩
    exact (pss_one (ps_ret (pe_tup (pa_cons pe_str (pa_cons (act W pn xe Ech _ _ tk hW) pa_nil))))).run pins s' σ H' D I ⟨h1, h2, h3⟩
  · refine ⟨Caught K Ta NT NR BT Uf Fu TM QE No Q, fun cls d σ' H' hlen hC => ?_, rfl, hc, h⟩
    obtain ⟨C, dd, fs, nm, rfl, rfl, pl, hdd, hl, hq⟩ := hC
    refine ⟨false, pl.n1, fun z => Bool.noConfusion z, fun _ => ⟨false, pl.n2, fun z => Bool.noConfusion z, fun _ => ⟨false, pl.n3, fun z => Bool.noConfusion z, fun _ => ⟨false, pl.n4, fun z => Bool.noConfusion z, fun _ => ⟨true, pl.y5, fun _ a na => ?_, fun z => Bool.noConfusion z⟩⟩⟩⟩⟩
    have e1 : (σ'.set 1 (some (V.ref a)))[1]? = some (some (V.ref a)) := List.getElem?_set_self (by rw [hlen]; decide)
    exact ⟨C, pl.xf, pl.nc, _, e1, rfl, rfl, dd, fs, _, rfl, hdd, hl, by show 2 ≤ sizeLine; decide, fun p hp => hq p hp⟩
end
end VQ
namespace VQ
open PySem L2 LamX
abbrev sWorth : Stmt := top 36
abbrev sFigs : Stmt := top 37
/-! ### figures -/
def figLow (w : Nat) : Nat → Str
  | 0 => ⟨#[]⟩
  | i + 1 => (⟨#[48 + w / 2 ^ i % 2]⟩ : Str) ++ figLow w i
def fig (w : Nat) : Str := figLow w 5
theorem figLow_len (w : Nat) : ∀ i, (figLow w i).length = i
  | 0 => rfl
  | i + 1 => by
    show ((⟨#[48 + w / 2 ^ i % 2]⟩ : Str) ++ figLow w i).length = i + 1
    show (#[48 + w / 2 ^ i % 2] ++ (figLow w i).cps).size = i + 1
    rw [Array.size_append]
    have := figLow_len w i
    show 1 + (figLow w i).length = i + 1
    omega
theorem str_bit (n : Nat) : (toString ((n % 2 : Nat) : Int) : Str) = ⟨#[48 + n % 2]⟩ := by
  rcases Nat.mod_two_eq_zero_or_one n with h | h
  · rw [h]; decide +kernel
  · rw [h]; decide +kernel
section
variable {P : Program} {w : World} {K : PySem.W.Frag} {mg : Str → Option Value} {base : Heap}
def spFigs : Sp := fun vs H Q _ => ∃ (n : Nat), vs = [.int (n : Int)] ∧ Q (.str (fig n)) H
theorem scFigs : FnScope ["_law_worth_here", "_law_found", "_law_at"] ["_law_worth_here"] (defScope sFigs) := ⟨rfl, rfl, rfl, by decide +kernel, rfl, by decide +kernel, by decide +kernel⟩
theorem ok_figs {f : Addr} {fd : FuncData} (F : Fun K "_law_figs" "_law_figs" sFigs f fd) (rng : mg "range" = none) (str : mg "str" = none) : FnOk P w K mg base CX0 1 f fd ["_law_worth_here"] spFigs := by
  refine F.ok scFigs (fun vs H Q E h => ?_) (fun cdv A outer s H vs Q E hr h => ?_)
  · obtain ⟨n, rfl, _⟩ := h
    rfl
  · obtain ⟨n, rfl, k⟩ := h
    refine ⟨_, pss_cons (ps_set (i := 1) scFigs.nd rfl (.inl rfl) pe_str)
      (pss_cons (ps_for PassesOwn.never rfl (pi_range1 rfl rng (pa_cons pe_int pa_nil)) (pg_name (i := 2) scFigs.nd rfl (.inl rfl))
        (pss_cons (ps_set (i := 1) scFigs.nd rfl (.inl rfl) (pe_op op_add_str (pe_callTy call_str_int (by rfl) str (by decide +kernel) (pa_cons (pe_op op_mod (pv 0) pe_int) pa_nil)) (pv 1)))
        (pss_one (ps_set (i := 0) scFigs.nd rfl (.inl rfl) (pe_op op_fdiv (pv 0) pe_int)))))
      (pss_one (ps_ret (pv 1)))), ?_⟩
    refine ⟨5, rfl, by decide, by decide, for_range (lo := 0) (n := 5) (fun i σ H' => H' = H ∧ ∃ v : Option V, σ = [some (.int ((n / 2 ^ i : Nat) : Int)), some (.str (figLow n i)), v]) ?_ ?_ ?_⟩
    · refine ⟨rfl, none, ?_⟩
      show [some (V.int (n : Int)), some (V.str (Str.ofString "")), none] = _
      rw [Nat.pow_zero, Nat.div_one, show Str.ofString "" = figLow n 0 from (show Str.ofString "" = (⟨#[]⟩ : Str) by decide +kernel)]
    · rintro i σ H' hi ⟨rfl, v, rfl⟩
      have e1 : ((n / 2 ^ i : Nat) : Int) % 2 = ((n / 2 ^ i % 2 : Nat) : Int) := by omega
      have e2 : ((n / 2 ^ i : Nat) : Int) / 2 = ((n / 2 ^ (i + 1) : Nat) : Int) := by
        rw [Nat.pow_succ, ← Nat.div_div_eq_div_mul]; omega
      refine ⟨_, rfl, _, 2, rfl, rfl, (by show (0 : Int) < 2; decide), _, rfl, ?_, _, rfl, _, _, rfl, rfl, ?_, ?_⟩
      · rw [e1]
        rcases Nat.mod_two_eq_zero_or_one (n / 2 ^ i) with h | h <;> rw [h] <;> decide
      · rw [e1, str_bit, figLow_len]
        show 1 + i ≤ sizeLine
        have : i < 5 := hi
        exact Nat.le_trans (by omega : 1 + i ≤ 6) (by decide)
      · refine ⟨_, rfl, _, 2, rfl, rfl, ⟨by decide, by decide⟩, rfl, some (.int (0 + (i : Int))), ?_⟩
        show [some (V.int (((n / 2 ^ i : Nat) : Int) / 2)), some (V.str (Str.ofString (toString (((n / 2 ^ i : Nat) : Int) % 2)) ++ figLow n i)), some (V.int (0 + (i : Int)))] = _
        rw [e2, e1, str_bit]
        rfl
    · rintro σ H' ⟨rfl, v, rfl⟩
      exact ⟨_, rfl, k⟩
/-! ### drawn worths -/
/-- a number drawn by the bag, of which R is true -/
def spDraw (R : Int → Prop) : Sp := fun vs H Q _ => ∃ (b : Addr), vs = [.ref b] ∧ Bag H b ∧ ∀ (i : Int) (H' : Hp), R i → Bag H' b → Keep b H H' → Q (.int i) H'
theorem scWorth : FnScope ["_law_bag_here"] ["_law_bag_here"] (defScope sWorth) := ⟨rfl, rfl, rfl, by decide +kernel, rfl, by decide +kernel, by decide +kernel⟩
theorem Bag.ne {H : Hp} {b p : Addr} (h : Bag H b) (n : H p = none) : p ≠ b := fun e => by
  obtain ⟨o, z⟩ := h.here
  rw [e, z] at n
  cases n
theorem ok_worth {f fO fP : Addr} {fd fdO fdP : FuncData} (F : Fun K "_law_worth" "_law_worth" sWorth f fd) (len : mg "len" = none) (P1 : At K mg "_law_pull" sPull ["_law_bag_here", "_law_size"] fP fdP) (P2 : At K mg "_law_of" sOf ["_law_bag_here", "_law_some"] fO fdO) :
    FnOk P w K mg base CX0 3 f fd ["_law_bag_here"] (spDraw fun i => 0 ≤ i ∧ i < 32) := by
  have G1 : FnOk P w K mg base CX0 1 fP fdP ["_law_bag_here", "_law_size"] spPull := ok_pull P1.fn len
  have G2 : FnOk P w K mg base CX0 2 fO fdO ["_law_bag_here", "_law_some"] (spOf K) := ok_of P2.fn len P1
  refine F.ok scWorth (fun vs H Q E h => ?_) (fun cdv A outer s H vs Q E hr h => ?_)
  · obtain ⟨b, rfl, _⟩ := h
    rfl
  · obtain ⟨b, rfl, B, k⟩ := h
    have hr1 : Room 1 _ := hr.mono (by decide)
    refine ⟨_, pss_one (ps_ret (pe_call G2 hr rfl P2.gl P2.fn.kp P2.bd .nil pass0 (pa_cons (pv 0) (pa_cons (pe_lst
      (pa_cons (pe_call G1 hr1 rfl P1.gl P1.fn.kp P1.bd .nil pass0 (pa_cons (pv 0) (pa_cons pe_int pa_nil)))
      (pa_cons (pe_call G1 hr1 rfl P1.gl P1.fn.kp P1.bd .nil pass0 (pa_cons (pv 0) (pa_cons pe_int pa_nil)))
      (pa_cons (pe_call G1 hr1 rfl P1.gl P1.fn.kp P1.bd .nil pass0 (pa_cons (pv 0) (pa_cons pe_int pa_nil)))
      (pa_cons pe_int (pa_cons pe_int pa_nil)))))) pa_nil)))), ?_⟩
    refine ⟨_, rfl, _, rfl, b, 32, rfl, B, by decide, by decide, fun d1 H1 a1 c1 B1 k1 => ?_⟩
    refine ⟨_, rfl, b, 32, rfl, B1, by decide, by decide, fun d2 H2 a2 c2 B2 k2 => ?_⟩
    refine ⟨_, rfl, b, 4, rfl, B2, by decide, by decide, fun d3 H3 a3 c3 B3 k3 => ?_⟩
    refine ⟨by show 5 ≤ sizeLine; decide, fun p hp => ?_⟩
    have sm := same_new (o := HO.lst [.int d1, .int d2, .int d3, .int 0, .int 31]) hp
    refine ⟨b, p, _, rfl, B3.same sm, B3.ne hp, SqL.of upd_same, by show 1 ≤ 5; decide, by show 5 < 1000; decide, fun v H' mem B' k' => ?_⟩
    have kk : Keep b H H' := ((k1.trans k2).trans k3).trans (Keep.trans (Same.keep sm) k')
    rcases List.mem_cons.mp mem with rfl | mem
    · exact k _ _ ⟨a1, c1⟩ B' kk
    rcases List.mem_cons.mp mem with rfl | mem
    · exact k _ _ ⟨a2, c2⟩ B' kk
    rcases List.mem_cons.mp mem with rfl | mem
    · exact k _ _ ⟨a3, by omega⟩ B' kk
    rcases List.mem_cons.mp mem with rfl | mem
    · exact k _ _ ⟨by decide, by decide⟩ B' kk
    rcases List.mem_cons.mp mem with rfl | mem
    · exact k _ _ ⟨by decide, by decide⟩ B' kk
    · cases mem
end
end VQ
namespace VQ
open PySem L2 LamX
/-! ### things of the plain kinds -/
def worthB : V → Bool
  | .int i => decide (0 ≤ i) && decide (i < 32)
  | _ => false
def basics : List String := ["NoneType", "bool", "int", "str", "list", "tuple"]
theorem basic_cases {K : PySem.W.Frag} {H : Hp} {x : V} {t : String} (h : TyX K H x (.type t)) (m : t ∈ basics) :
    (x = .non ∧ t = "NoneType") ∨ (∃ b, x = .bl b ∧ t = "bool") ∨ (∃ i, x = .int i ∧ t = "int") ∨ (∃ z, x = .str z ∧ t = "str") ∨ (∃ a, x = .ref a ∧ (t = "list" ∨ t = "tuple")) := by
  generalize e : Value.type t = tv at h
  cases h with
  | base b =>
    cases b with
    | non => cases e; exact .inl ⟨rfl, rfl⟩
    | bl y => cases e; exact .inr (.inl ⟨y, rfl, rfl⟩)
    | int i => cases e; exact .inr (.inr (.inl ⟨i, rfl, rfl⟩))
    | str y => cases e; exact .inr (.inr (.inr (.inl ⟨y, rfl, rfl⟩)))
    | flt y => cases e; exact absurd m (by decide)
    | lst _ => cases e; exact .inr (.inr (.inr (.inr ⟨_, rfl, .inl rfl⟩)))
    | frz _ => cases e; exact .inr (.inr (.inr (.inr ⟨_, rfl, .inl rfl⟩)))
    | tup _ => cases e; exact .inr (.inr (.inr (.inr ⟨_, rfl, .inr rfl⟩)))
    | dK _ => cases e; exact absurd m (by decide)
    | dT _ => cases e; exact absurd m (by decide)
    | ins _ _ _ _ _ _ => cases e
  | byt _ => cases e; exact absurd m (by decide)
  | set _ => cases e; exact absurd m (by decide)
  | kList _ _ => cases e; exact .inr (.inr (.inr (.inr ⟨_, rfl, .inl rfl⟩)))
  | kTuple _ _ => cases e; exact .inr (.inr (.inr (.inr ⟨_, rfl, .inr rfl⟩)))
  | kDict _ _ => cases e; exact absurd m (by decide)
  | fTuple _ => cases e; exact .inr (.inr (.inr (.inr ⟨_, rfl, .inr rfl⟩)))
  | fDict _ => cases e; exact absurd m (by decide)
section
variable {P : Program} {w : World} {K : PySem.W.Frag} {mg : Str → Option Value} {base : Heap}
/-- what the program's own modules ask of the names -/
structure Blt (mg : Str → Option Value) : Prop where
  isi : mg "isinstance" = none
  int : mg "int" = none
  bool : mg "bool" = none
  str : mg "str" = none
  list : mg "list" = none
  tuple : mg "tuple" = none
  len : mg "len" = none
  all : mg "all" = none
  range : mg "range" = none
/-! ### a refusal without a field -/
def spErr (K : PySem.W.Frag) (C : Addr) (nm : Str) : Sp := fun vs H Q _ => ∃ a : Addr, vs = [.ref a] ∧ H a = some (exo a C none) ∧ ∀ d, H d = none → d ≠ a → Q .non (upd (upd H d (exd d [(("called" : Str), .str nm)])) a (exo a C (some d)))
/-- the class at C, its __init__ at fI -/
structure ErrC (K : PySem.W.Frag) (mg : Str → Option Value) (x : Str) (C fI : Addr) (fd : FuncData) (qual : Str) (st : Stmt) : Prop where
  gl : mg x = some (.ref C)
  ox : OexC K C
  it : PySem.W.findIn K (.ref C) "__init__" = some (some (.ref fI))
  ty : PySem.W.typeIn K (.ref fI) = some (.type "function")
  nc : PySem.W.findIn K (.ref C) "called" = some none
  fn : Fun K "__init__" qual st fI fd
  bd : Binds K fd ["self"] []
theorem ok_err {x qual nm : Str} {st : Stmt} {C fI : Addr} {fd : FuncData} {p1 p2 p3 p4 : Pos} {j : Nat} (Er : ErrC K mg x C fI fd qual st) (sc : FnScope ["self"] ["self"] (defScope st)) (v : Vis (defScope st) "self")
    (hb : defBody st = [.Assign [.Attribute (.Name "self" p1) "called" p2] (.Constant (.str nm) j p3) p4]) : FnOk P w K mg base CX0 1 fI fd ["self"] (spErr K C nm) := by
  refine Er.fn.ok sc (fun vs H Q E h => ?_) (fun cdv A outer s H vs Q E' hr h => ?_)
  · obtain ⟨a, rfl, _⟩ := h
    rfl
  · obtain ⟨a, rfl, ha, k⟩ := h
    rw [hb]
    refine ⟨_, pss_one (ps_ost (pe_var (i := 0) rfl v) pe_str), ?_⟩
    exact ⟨_, rfl, a, C, rfl, Er.ox, Er.nc, .inl ⟨ha, fun dx hd ne => k dx hd ne⟩⟩
theorem raise_plain {C : Addr} {nm : Str} {σ : L2.St} {H : Hp} {W : XK} (h : ∀ d, H d = none → W (.ref C) (some d) (upd H d (.xd [(("called" : Str), .str nm)]))) : tMkO0 C (spErr K C nm) σ H W := by
  intro a ha
  refine ⟨a, rfl, upd_same, fun d hd ne => ⟨rfl, d, [(("called" : Str), V.str nm)], upd_same, ?_, ?_, ?_⟩⟩
  · rw [upd_ne ne, upd_same]
  · rw [upd_ne ne] at hd
    exact hd
  · have hd' : H d = none := by
      rw [upd_ne ne] at hd
      exact hd
    have e : upd (del (upd (upd (upd H a (exo a C none)) d (exd d [(("called" : Str), V.str nm)])) a (exo a C (some d))) a) d (.xd [(("called" : Str), V.str nm)]) = upd H d (.xd [(("called" : Str), V.str nm)]) := by
      funext b
      by_cases hb : b = d
      · rw [hb, upd_same, upd_same]
      · rw [upd_ne hb, upd_ne hb]
        by_cases hba : b = a
        · rw [hba, del_same, ha]
        · rw [del_ne hba, upd_ne hba, upd_ne hb, upd_ne hba]
    rw [e]
    exact h d hd'
end
end VQ
namespace VQ
open PySem L2 LamX
/-- two things that are the same all through, to a depth -/
inductive Alike (H : Hp) : Nat → V → V → Prop
  | non (n : Nat) : Alike H n .non .non
  | bl (n : Nat) (b : Bool) : Alike H n (.bl b) (.bl b)
  | int (n : Nat) (i : Int) : Alike H n (.int i) (.int i)
  | str (n : Nat) (z : Str) : Alike H n (.str z) (.str z)
  | lst {n : Nat} {a b : Addr} {xs ys : List V} (ha : H a = some (.lst xs)) (hb : H b = some (.lst ys)) (hl : xs.length = ys.length) (hz : ys.length ≤ 1000) (h : ∀ (i : Nat) (x y : V), xs[i]? = some x → ys[i]? = some y → Alike H n x y) : Alike H (n + 1) (.ref a) (.ref b)
  | tup {n : Nat} {a b : Addr} {xs ys : List V} (ha : H a = some (.tup xs)) (hb : H b = some (.tup ys)) (hl : xs.length = ys.length) (hz : ys.length ≤ 1000) (h : ∀ (i : Nat) (x y : V), xs[i]? = some x → ys[i]? = some y → Alike H n x y) : Alike H (n + 1) (.ref a) (.ref b)
theorem Alike.same {H H' : Hp} (s : Same H H') {n : Nat} {x y : V} (h : Alike H n x y) : Alike H' n x y := by
  induction h with
  | non n => exact .non n
  | bl n b => exact .bl n b
  | int n i => exact .int n i
  | str n z => exact .str n z
  | lst ha hb hl hz _ ih => exact .lst (s _ _ ha) (s _ _ hb) hl hz ih
  | tup ha hb hl hz _ ih => exact .tup (s _ _ ha) (s _ _ hb) hl hz ih
def spSame (n : Nat) : Sp := fun vs H Q _ => ∃ x y, vs = [x, y] ∧ Alike H n x y ∧ ∀ H', Same H H' → Q (.bl true) H'
section
variable {P : Program} {w : World} {K : PySem.W.Frag} {mg : Str → Option Value} {base : Heap}
section
variable {X : Cx} {p p0 p1 p2 p3 pos : Pos} {i k : Nat} {y : Str}
/-- isinstance(y, n) -/
theorem pe_isi {n : Str} {c : String} (he : PE X (.Name y p0) (tVar i)) (g : Gl X "isinstance") (hm : X.mg "isinstance" = none) (gn : Gl X n) (hn : X.mg n = none) (hv : bootBuiltins n = some (.type c)) (n1 : n ≠ "__name__" := by decide) (n2 : (n == ("__debug__" : Str)) = false := by decide) :
    PE X (.Call (.Name "isinstance" p) [.Name y p0, .Name n p1] [] pos) (tCB (rIsi X.K) (tCons (tVar i) (tCons (tC (.ty c)) tNil))) :=
  pe_callB call_isi g hm (by decide +kernel) (pa_cons he (pa_cons (pe_bltn (v := .ty c) gn hn hv rfl n1 n2) pa_nil))
/-- isinstance(y, (int, str)) -/
theorem pe_isiT (he : PE X (.Name y p0) (tVar i)) (g : Gl X "isinstance") (hm : X.mg "isinstance" = none) (gi : Gl X "int") (hi : X.mg "int" = none) (gs : Gl X "str") (hs : X.mg "str" = none) :
    PE X (.Call (.Name "isinstance" p) [.Name y p0, .Tuple [.Name "int" p1, .Name "str" p2] k p3] [] pos) (tCB (rIsiT X.K) (tCons (tVar i) (tCons (tTup (tCons (tC (.ty "int")) (tCons (tC (.ty "str")) tNil))) tNil))) :=
  pe_callB call_isiT g hm (by decide +kernel) (pa_cons he (pa_cons (pe_tup (pa_cons (pe_bltn (v := .ty "int") gi hi (by decide +kernel) rfl) (pa_cons (pe_bltn (v := .ty "str") gs hs (by decide +kernel) rfl) pa_nil))) pa_nil))
end
theorem rd_isi {σ : L2.St} {H : Hp} {Q : VK} {i : Nat} {x : V} {t c : String} {b : Bool} (hx : σ[i]? = some (some x)) (ty : TyX K H x (.type t)) (kb : kitB t c = some b) (h : Q (.bl b) H) : tCB (rIsi K) (tCons (tVar i) (tCons (tC (.ty c)) tNil)) σ H Q :=
  ⟨x, hx, _, _, _, _, b, rfl, .ty c, ty, kit_ty kb, h⟩
theorem TyX.basic_same {H H' : Hp} {x : V} {t : String} (s : Same H H') (ty : TyX K H x (.type t)) (m : t ∈ basics) : TyX K H' x (.type t) := by
  generalize e : Value.type t = tv at ty
  cases ty with
  | base b =>
    cases b with
    | non => exact .base .non
    | bl y => exact .base (.bl y)
    | int i => exact .base (.int i)
    | str y => exact .base (.str y)
    | flt y => exact .base (.flt y)
    | lst q => exact .base (.lst (s _ _ q))
    | frz q => exact .base (.frz (s _ _ q))
    | tup q => exact .base (.tup (s _ _ q))
    | dK q => exact .base (.dK (s _ _ q))
    | dT q => exact .base (.dT (s _ _ q))
    | ins _ _ _ _ _ _ => cases e
  | byt y => exact .byt y
  | set q => exact .set (s _ _ q)
  | kList q c => exact .kList q c
  | kTuple q c => exact .kTuple q c
  | kDict q c => exact .kDict q c
  | fTuple q => exact .fTuple (s _ _ q)
  | fDict q => exact .fDict (s _ _ q)
end
end VQ
namespace VQ
open PySem L2 LamX
abbrev sSame : Stmt := top 33
section
variable {P : Program} {w : World} {K : PySem.W.Frag} {mg : Str → Option Value} {base : Heap}
theorem scSame : FnScope ["_law_found", "_law_due", "_law_at"] ["_law_found", "_law_due"] (defScope sSame) := ⟨rfl, rfl, rfl, by decide +kernel, rfl, by decide +kernel, by decide +kernel⟩
def anyIS (t : String) : Bool := t == "int" || t == "str" || t == "bool"
theorem rd_isiT {σ : L2.St} {H : Hp} {Q : VK} {i : Nat} {x : V} {t : String} {b : Bool} (hx : σ[i]? = some (some x)) (ty : TyX K H x (.type t)) (m : t ∈ basics) (kb : PySem.W.kitAny K (.type t) [.type "int", .type "str"] = some b) (h : ∀ H', Same H H' → Q (.bl b) H') :
    tCB (rIsiT K) (tCons (tVar i) (tCons (tTup (tCons (tC (.ty "int")) (tCons (tC (.ty "str")) tNil))) tNil)) σ H Q :=
  ⟨x, hx, (by show 2 ≤ sizeLine; decide), fun p hp => ⟨x, p, _, _, _, b, rfl, upd_same, .cons (.ty "int") (.cons (.ty "str") .nil), TyX.basic_same (same_new hp) ty m, kb, h _ (same_new hp)⟩⟩
theorem kIS {t : String} {b b' : Bool} (h1 : kitB t "int" = some b) (h2 : kitB t "str" = some b') : PySem.W.kitAny K (.type t) [.type "int", .type "str"] = some (b || b') := by
  refine kitAny_cons (kit_ty h1) (fun e => ?_) (fun e => by rw [e]; rfl)
  subst e
  refine kitAny_cons (kit_ty h2) (fun e => ?_) (fun e => by rw [e]; rfl)
  subst e
  rfl
/-- the scalars' three clauses: from the first to the third -/
theorem ok_same0 {f : Addr} {fd : FuncData} (F : Fun K "_law_same" "_law_same" sSame f fd) (b : Blt mg) : FnOk P w K mg base CX0 1 f fd ["_law_found", "_law_due"] (spSame 0) := by
  refine F.ok scSame (fun vs H Q E h => ?_) (fun cdv A outer s H vs Q E hr h => ?_)
  · obtain ⟨x, y, rfl, _⟩ := h
    rfl
  · obtain ⟨x, y, rfl, al, k⟩ := h
    refine ⟨_, pss_cons (ps_if (pt_cmp (pc_isN (pv 1))) (pss_one (ps_ret (pe_cmp (pc_isN (pv 0))))) pss_nil)
      (pss_cons (ps_if (PW.pt (pw_or (pt_val (pe_isi (pv 1) rfl b.isi rfl b.bool (c := "bool") (by decide +kernel))) (pw_or1 (pt_val (pe_isi (pv 0) rfl b.isi rfl b.bool (c := "bool") (by decide +kernel))))))
        (pss_one (ps_ret (pe_and (pe_isi (pv 1) rfl b.isi rfl b.bool (c := "bool") (by decide +kernel)) (pe_and (pe_isi (pv 0) rfl b.isi rfl b.bool (c := "bool") (by decide +kernel)) (pe_one (pe_cmpR op_eq (pv 0) (pv 1) (nomark _))))))) pss_nil)
      (pss_cons (ps_if (pt_val (pe_isiT (pv 1) rfl b.isi rfl b.int rfl b.str))
        (pss_one (ps_ret (pe_and (pe_cmpR op_eq (pe_isi (pv 0) rfl b.isi rfl b.int (c := "int") (by decide +kernel)) (pe_isi (pv 1) rfl b.isi rfl b.int (c := "int") (by decide +kernel)) (nomark _)) (pe_and (pe_isiT (pv 0) rfl b.isi rfl b.int rfl b.str) (pe_one (pe_cmpR op_eq (pv 0) (pv 1) (nomark _))))))) pss_nil)
      pss_never)), ?_⟩
    cases al with
    | non => exact ⟨_, rfl, _, rfl, iteT ⟨_, rfl, k H (Same.refl H)⟩⟩
    | bl _ c =>
      refine ⟨_, rfl, _, rfl, iteF ?_⟩
      refine rd_isi rfl (.base (.bl c)) (b := true) (by decide +kernel) ⟨_, rfl, iteT ?_⟩
      refine rd_isi rfl (.base (.bl c)) (b := true) (by decide +kernel) ⟨_, rfl, iteT ?_⟩
      refine rd_isi rfl (.base (.bl c)) (b := true) (by decide +kernel) ⟨_, rfl, iteT ?_⟩
      refine ⟨_, rfl, _, rfl, rfl, ?_⟩
      rw [decide_eq_true rfl]
      exact k H (Same.refl H)
    | int _ i =>
      refine ⟨_, rfl, _, rfl, iteF ?_⟩
      refine rd_isi rfl (.base (.int i)) (b := false) (by decide +kernel) ⟨_, rfl, iteF ?_⟩
      refine rd_isi rfl (.base (.int i)) (b := false) (by decide +kernel) ⟨_, rfl, iteF ?_⟩
      refine rd_isiT rfl (.base (.int i)) (by decide) (kIS (b := true) (b' := false) (by decide +kernel) (by decide +kernel)) fun H1 s1 => ⟨_, rfl, iteT ?_⟩
      refine rd_isi rfl (.base (.int i)) (b := true) (by decide +kernel) ?_
      refine rd_isi rfl (.base (.int i)) (b := true) (by decide +kernel) ⟨rfl, _, rfl, iteT ?_⟩
      refine rd_isiT rfl (.base (.int i)) (by decide) (kIS (b := true) (b' := false) (by decide +kernel) (by decide +kernel)) fun H2 s2 => ⟨_, rfl, iteT ?_⟩
      refine ⟨_, rfl, _, rfl, rfl, ?_⟩
      rw [decide_eq_true rfl]
      exact k H2 (s1.trans s2)
    | str _ z =>
      refine ⟨_, rfl, _, rfl, iteF ?_⟩
      refine rd_isi rfl (.base (.str z)) (b := false) (by decide +kernel) ⟨_, rfl, iteF ?_⟩
      refine rd_isi rfl (.base (.str z)) (b := false) (by decide +kernel) ⟨_, rfl, iteF ?_⟩
      refine rd_isiT rfl (.base (.str z)) (by decide) (kIS (b := false) (b' := true) (by decide +kernel) (by decide +kernel)) fun H1 s1 => ⟨_, rfl, iteT ?_⟩
      refine rd_isi rfl (.base (.str z)) (b := false) (by decide +kernel) ?_
      refine rd_isi rfl (.base (.str z)) (b := false) (by decide +kernel) ⟨rfl, _, rfl, iteT ?_⟩
      refine rd_isiT rfl (.base (.str z)) (by decide) (kIS (b := false) (b' := true) (by decide +kernel) (by decide +kernel)) fun H2 s2 => ⟨_, rfl, iteT ?_⟩
      refine ⟨_, rfl, _, rfl, rfl, ?_⟩
      rw [decide_eq_true rfl]
      exact k H2 (s1.trans s2)
theorem ok_sameS {f : Addr} {fd : FuncData} {n lv : Nat} (A1 : At K mg "_law_same" sSame ["_law_found", "_law_due"] f fd) (b : Blt mg) (G : FnOk P w K mg base CX0 lv f fd ["_law_found", "_law_due"] (spSame n)) : FnOk P w K mg base CX0 (lv + 1) f fd ["_law_found", "_law_due"] (spSame (n + 1)) := by
  have F := A1.fn
  refine F.ok scSame (fun vs H Q E h => ?_) (fun cdv A outer s H vs Q E hr h => ?_)
  · obtain ⟨x, y, rfl, _⟩ := h
    rfl
  · obtain ⟨x, y, rfl, al, k⟩ := h
    refine ⟨_, pss_cons (ps_if (pt_cmp (pc_isN (pv 1))) (pss_one (ps_ret (pe_cmp (pc_isN (pv 0))))) pss_nil)
      (pss_cons (ps_if (PW.pt (pw_or (pt_val (pe_isi (pv 1) rfl b.isi rfl b.bool (c := "bool") (by decide +kernel))) (pw_or1 (pt_val (pe_isi (pv 0) rfl b.isi rfl b.bool (c := "bool") (by decide +kernel))))))
        (pss_one (ps_ret (pe_and (pe_isi (pv 1) rfl b.isi rfl b.bool (c := "bool") (by decide +kernel)) (pe_and (pe_isi (pv 0) rfl b.isi rfl b.bool (c := "bool") (by decide +kernel)) (pe_one (pe_cmpR op_eq (pv 0) (pv 1) (nomark _))))))) pss_nil)
      (pss_cons (ps_if (pt_val (pe_isiT (pv 1) rfl b.isi rfl b.int rfl b.str))
        (pss_one (ps_ret (pe_and (pe_cmpR op_eq (pe_isi (pv 0) rfl b.isi rfl b.int (c := "int") (by decide +kernel)) (pe_isi (pv 1) rfl b.isi rfl b.int (c := "int") (by decide +kernel)) (nomark _)) (pe_and (pe_isiT (pv 0) rfl b.isi rfl b.int rfl b.str) (pe_one (pe_cmpR op_eq (pv 0) (pv 1) (nomark _))))))) pss_nil)
      (pss_cons (ps_if (PW.pt (pw_or (pt_cmpR op_ne (pe_isi (pv 0) rfl b.isi rfl b.list (c := "list") (by decide +kernel)) (pe_isi (pv 1) rfl b.isi rfl b.list (c := "list") (by decide +kernel)) (nomark _))
          (pw_or1 (pt_cmpR op_ne (pe_isi (pv 0) rfl b.isi rfl b.tuple (c := "tuple") (by decide +kernel)) (pe_isi (pv 1) rfl b.isi rfl b.tuple (c := "tuple") (by decide +kernel)) (nomark _)))))
        (pss_one (ps_ret pe_bl)) pss_nil)
      (pss_one (ps_ret (pe_and (pe_cmpR op_eq (pe_callB call_len_seq (by rfl) b.len PySem.boot_len (pa_cons (pv 0) pa_nil)) (pe_callB call_len_seq (by rfl) b.len PySem.boot_len (pa_cons (pv 1) pa_nil)) (nomark _))
        (pe_one (pe_callB (cr_all rfl) (by rfl) b.all (by decide +kernel) (pa_cons
          (pe_lc (own := [("_law_at", 2)]) (g := gName 2) (tt := tYes) (te := tCall (spSame n) [] E0 (tCons (tOp (rIx K) (tVar 0) (tVar 2)) (tCons (tOp (rIx K) (tVar 1) (tVar 2)) tNil))) rfl scSame.nd (pi_range1 rfl b.range (pa_cons (pe_callB call_len_seq (by rfl) b.len PySem.boot_len (pa_cons (pv 1) pa_nil)) pa_nil))
            (blkOk_by (N := ["_law_found", "_law_due", "_law_at"]) (sc := defScope sSame) (by decide +kernel)) (fun _ _ _ _ _ => pg_name (i := 2) scSame.nd rfl (.inl rfl)) (fun _ _ _ _ _ => pts_nil)
            (fun _ _ _ _ _ => pe_call G hr rfl A1.gl A1.fn.kp A1.bd .nil pass0 (pa_cons (pe_ix ix_seq (pv 0) (pv 2) fun _ _ => rfl) (pa_cons (pe_ix ix_seq (pv 1) (pv 2) fun _ _ => rfl) pa_nil)))) pa_nil)))))))))
      , ?_⟩
    cases al with
    | non => exact ⟨_, rfl, _, rfl, iteT ⟨_, rfl, k H (Same.refl H)⟩⟩
    | bl _ c =>
      refine ⟨_, rfl, _, rfl, iteF ?_⟩
      refine rd_isi rfl (.base (.bl c)) (b := true) (by decide +kernel) ⟨_, rfl, iteT ?_⟩
      refine rd_isi rfl (.base (.bl c)) (b := true) (by decide +kernel) ⟨_, rfl, iteT ?_⟩
      refine rd_isi rfl (.base (.bl c)) (b := true) (by decide +kernel) ⟨_, rfl, iteT ?_⟩
      refine ⟨_, rfl, _, rfl, rfl, ?_⟩
      rw [decide_eq_true rfl]
      exact k H (Same.refl H)
    | int _ i =>
      refine ⟨_, rfl, _, rfl, iteF ?_⟩
      refine rd_isi rfl (.base (.int i)) (b := false) (by decide +kernel) ⟨_, rfl, iteF ?_⟩
      refine rd_isi rfl (.base (.int i)) (b := false) (by decide +kernel) ⟨_, rfl, iteF ?_⟩
      refine rd_isiT rfl (.base (.int i)) (by decide) (kIS (b := true) (b' := false) (by decide +kernel) (by decide +kernel)) fun H1 s1 => ⟨_, rfl, iteT ?_⟩
      refine rd_isi rfl (.base (.int i)) (b := true) (by decide +kernel) ?_
      refine rd_isi rfl (.base (.int i)) (b := true) (by decide +kernel) ⟨rfl, _, rfl, iteT ?_⟩
      refine rd_isiT rfl (.base (.int i)) (by decide) (kIS (b := true) (b' := false) (by decide +kernel) (by decide +kernel)) fun H2 s2 => ⟨_, rfl, iteT ?_⟩
      refine ⟨_, rfl, _, rfl, rfl, ?_⟩
      rw [decide_eq_true rfl]
      exact k H2 (s1.trans s2)
    | str _ z =>
      refine ⟨_, rfl, _, rfl, iteF ?_⟩
      refine rd_isi rfl (.base (.str z)) (b := false) (by decide +kernel) ⟨_, rfl, iteF ?_⟩
      refine rd_isi rfl (.base (.str z)) (b := false) (by decide +kernel) ⟨_, rfl, iteF ?_⟩
      refine rd_isiT rfl (.base (.str z)) (by decide) (kIS (b := false) (b' := true) (by decide +kernel) (by decide +kernel)) fun H1 s1 => ⟨_, rfl, iteT ?_⟩
      refine rd_isi rfl (.base (.str z)) (b := false) (by decide +kernel) ?_
      refine rd_isi rfl (.base (.str z)) (b := false) (by decide +kernel) ⟨rfl, _, rfl, iteT ?_⟩
      refine rd_isiT rfl (.base (.str z)) (by decide) (kIS (b := false) (b' := true) (by decide +kernel) (by decide +kernel)) fun H2 s2 => ⟨_, rfl, iteT ?_⟩
      refine ⟨_, rfl, _, rfl, rfl, ?_⟩
      rw [decide_eq_true rfl]
      exact k H2 (s1.trans s2)
    | @lst _ a c xs ys ha hc hl hz hh =>
      have tyA : ∀ H', Same H H' → TyX K H' (.ref a) (.type "list") := fun H' s' => .base (.lst (s' _ _ ha))
      have tyC : ∀ H', Same H H' → TyX K H' (.ref c) (.type "list") := fun H' s' => .base (.lst (s' _ _ hc))
      refine ⟨_, rfl, _, rfl, iteF ?_⟩
      refine rd_isi rfl (tyC H (Same.refl H)) (b := false) (by decide +kernel) ⟨_, rfl, iteF ?_⟩
      refine rd_isi rfl (tyA H (Same.refl H)) (b := false) (by decide +kernel) ⟨_, rfl, iteF ?_⟩
      refine rd_isiT rfl (tyC H (Same.refl H)) (by decide) (kIS (b := false) (b' := false) (by decide +kernel) (by decide +kernel)) fun H1 s1 => ⟨_, rfl, iteF ?_⟩
      refine rd_isi rfl (tyA H1 s1) (b := true) (by decide +kernel) ?_
      refine rd_isi rfl (tyC H1 s1) (b := true) (by decide +kernel) ⟨rfl, _, rfl, iteF ?_⟩
      refine rd_isi rfl (tyA H1 s1) (b := false) (by decide +kernel) ?_
      refine rd_isi rfl (tyC H1 s1) (b := false) (by decide +kernel) ⟨rfl, _, rfl, iteF ?_⟩
      refine ⟨_, rfl, a, xs, rfl, .inl (SqL.of (s1 _ _ ha)), _, rfl, c, ys, rfl, .inl (SqL.of (s1 _ _ hc)), rfl, _, rfl, ?_⟩
      rw [hl, decide_eq_true rfl]
      refine iteT ?_
      refine ⟨_, rfl, c, ys, rfl, .inl (SqL.of (s1 _ _ hc)), (ys.length : Int), rfl, by omega, by omega, fun D hD => ?_⟩
      rw [Int.toNat_natCast]
      refine lc_range (lo := 0) (n := ys.length) (fun i H' => Same H1 H' ∧ H' D = some (.lst ((List.replicate i true).map V.bl))) ⟨same_new hD, upd_same⟩ ?_ ?_
      · rintro i H2 hi ⟨s2, h2⟩
        refine ⟨rfl, ?_⟩
        refine iteT (B := Same H1 H2 ∧ H2 D = some (HO.lst ((List.replicate (i + 1) true).map V.bl))) ?_
        have hx : xs[i]? = some (xs[i]'(by omega)) := List.getElem?_eq_getElem _
        have hy : ys[i]? = some (ys[i]'hi) := List.getElem?_eq_getElem _
        have e00 : (0 : Int) + (i : Int) = (i : Int) := Int.zero_add _
        refine ⟨_, rfl, _, rfl, .inl ⟨a, xs, _, _, rfl, rfl, SqL.of (s2 _ _ (s1 _ _ ha)), (by rw [e00]; exact atI_nat hx), ?_⟩⟩
        refine ⟨_, rfl, _, rfl, .inl ⟨c, ys, _, _, rfl, rfl, SqL.of (s2 _ _ (s1 _ _ hc)), (by rw [e00]; exact atI_nat hy), ?_⟩⟩
        refine ⟨_, _, rfl, (hh i _ _ hx hy).same (s1.trans s2), fun H3 s3 => ?_⟩
        refine ⟨_, s3 _ _ h2, ?_, ?_, ?_⟩
        · rw [List.length_map, List.length_replicate]
          exact Nat.lt_of_lt_of_le (by omega : i < 1001) (by decide)
        · intro q o e
          have nq : q ≠ D := fun z => by
            rw [z, hD] at e
            cases e
          rw [upd_ne nq]
          exact s3 _ _ (s2 _ _ e)
        · rw [upd_same, List.replicate_succ', List.map_append]
          rfl
      · rintro H2 ⟨s2, h2⟩
        refine ⟨D, _, rfl, SqL.of h2, ?_⟩
        rw [show (List.replicate ys.length true).all id = true by simp]
        exact k H2 (s1.trans s2)
    | @tup _ a c xs ys ha hc hl hz hh =>
      have tyA : ∀ H', Same H H' → TyX K H' (.ref a) (.type "tuple") := fun H' s' => .base (.tup (s' _ _ ha))
      have tyC : ∀ H', Same H H' → TyX K H' (.ref c) (.type "tuple") := fun H' s' => .base (.tup (s' _ _ hc))
      refine ⟨_, rfl, _, rfl, iteF ?_⟩
      refine rd_isi rfl (tyC H (Same.refl H)) (b := false) (by decide +kernel) ⟨_, rfl, iteF ?_⟩
      refine rd_isi rfl (tyA H (Same.refl H)) (b := false) (by decide +kernel) ⟨_, rfl, iteF ?_⟩
      refine rd_isiT rfl (tyC H (Same.refl H)) (by decide) (kIS (b := false) (b' := false) (by decide +kernel) (by decide +kernel)) fun H1 s1 => ⟨_, rfl, iteF ?_⟩
      refine rd_isi rfl (tyA H1 s1) (b := false) (by decide +kernel) ?_
      refine rd_isi rfl (tyC H1 s1) (b := false) (by decide +kernel) ⟨rfl, _, rfl, iteF ?_⟩
      refine rd_isi rfl (tyA H1 s1) (b := true) (by decide +kernel) ?_
      refine rd_isi rfl (tyC H1 s1) (b := true) (by decide +kernel) ⟨rfl, _, rfl, iteF ?_⟩
      refine ⟨_, rfl, a, xs, rfl, .inr (SqT.of (s1 _ _ ha)), _, rfl, c, ys, rfl, .inr (SqT.of (s1 _ _ hc)), rfl, _, rfl, ?_⟩
      rw [hl, decide_eq_true rfl]
      refine iteT ?_
      refine ⟨_, rfl, c, ys, rfl, .inr (SqT.of (s1 _ _ hc)), (ys.length : Int), rfl, by omega, by omega, fun D hD => ?_⟩
      rw [Int.toNat_natCast]
      refine lc_range (lo := 0) (n := ys.length) (fun i H' => Same H1 H' ∧ H' D = some (.lst ((List.replicate i true).map V.bl))) ⟨same_new hD, upd_same⟩ ?_ ?_
      · rintro i H2 hi ⟨s2, h2⟩
        refine ⟨rfl, ?_⟩
        refine iteT (B := Same H1 H2 ∧ H2 D = some (HO.lst ((List.replicate (i + 1) true).map V.bl))) ?_
        have hx : xs[i]? = some (xs[i]'(by omega)) := List.getElem?_eq_getElem _
        have hy : ys[i]? = some (ys[i]'hi) := List.getElem?_eq_getElem _
        have e00 : (0 : Int) + (i : Int) = (i : Int) := Int.zero_add _
        refine ⟨_, rfl, _, rfl, .inr (.inl ⟨a, xs, _, _, rfl, rfl, SqT.of (s2 _ _ (s1 _ _ ha)), (by rw [e00]; exact atI_nat hx), ?_⟩)⟩
        refine ⟨_, rfl, _, rfl, .inr (.inl ⟨c, ys, _, _, rfl, rfl, SqT.of (s2 _ _ (s1 _ _ hc)), (by rw [e00]; exact atI_nat hy), ?_⟩)⟩
        refine ⟨_, _, rfl, (hh i _ _ hx hy).same (s1.trans s2), fun H3 s3 => ?_⟩
        refine ⟨_, s3 _ _ h2, ?_, ?_, ?_⟩
        · rw [List.length_map, List.length_replicate]
          exact Nat.lt_of_lt_of_le (by omega : i < 1001) (by decide)
        · intro q o e
          have nq : q ≠ D := fun z => by
            rw [z, hD] at e
            cases e
          rw [upd_ne nq]
          exact s3 _ _ (s2 _ _ e)
        · rw [upd_same, List.replicate_succ', List.map_append]
          rfl
      · rintro H2 ⟨s2, h2⟩
        refine ⟨D, _, rfl, SqL.of h2, ?_⟩
        rw [show (List.replicate ys.length true).all id = true by simp]
        exact k H2 (s1.trans s2)
/-- to any depth -/
theorem ok_same {f : Addr} {fd : FuncData} (A1 : At K mg "_law_same" sSame ["_law_found", "_law_due"] f fd) (b : Blt mg) : ∀ n : Nat, FnOk P w K mg base CX0 (n + 1) f fd ["_law_found", "_law_due"] (spSame n)
  | 0 => ok_same0 A1.fn b
  | n + 1 => ok_sameS A1 b (ok_same A1 b n)
end
end VQ
namespace VQ
open PySem L2 LamX
/-! ### walks over a text -/
theorem lc_text {z : Str} {g : TG} {tt : TT} {te : TE} {vs : List Nat} {σ : L2.St} {H1 : Hp} {D : Addr} {Qd : Hp → Prop} (Pv : Nat → Hp → Prop) (h0 : Pv 0 (upd H1 D (.lst [])))
    (turn : ∀ (i c : Nat) (H : Hp), z.cps[i]? = some c → Pv i H → g (.str ⟨#[c]⟩) (wipe σ vs) H fun σ2 H2 => wipe σ2 vs = wipe σ vs ∧ tt σ2 H2 fun b H3 => if b = true then te σ2 H3 fun y H4 => ∃ acc, H4 D = some (.lst acc) ∧ acc.length < sizeLine ∧ Pv (i + 1) (upd H4 D (.lst (acc ++ [y]))) else Pv (i + 1) H3)
    (fin : ∀ H, Pv z.cps.size H → Qd H) :
    ∃ W : Nat → Nat → Hp → Prop, (∃ m, W 0 m (upd H1 D (.lst []))) ∧ ∀ i m H, W i m H → ((Its z).stop i H ∧ Qd H) ∨ ((Its z).go i H ∧ ∃ Nx : Hp → Prop, (∀ H', Nx H' → ∃ m', m' < m ∧ W (i + 1) m' H') ∧
      ∀ x H', (Its z).yld i H x H' → g x (wipe σ vs) H' fun σ2 H2 => wipe σ2 vs = wipe σ vs ∧ tt σ2 H2 fun b H3 => if b = true then te σ2 H3 fun y H4 => ∃ acc, H4 D = some (.lst acc) ∧ acc.length < sizeLine ∧ Nx (upd H4 D (.lst (acc ++ [y]))) else Nx H3) := by
  refine ⟨fun i m H => m + i = z.cps.size ∧ Pv i H, ⟨z.cps.size, by simp, h0⟩, ?_⟩
  rintro i m H ⟨em, p⟩
  by_cases lt : i < z.cps.size
  · refine .inr ⟨lt, Pv (i + 1), fun H' p' => ⟨m - 1, by omega, by omega, p'⟩, ?_⟩
    rintro x H' ⟨rfl, c, ec, rfl⟩
    exact turn i c H' ec p
  · have e : i = z.cps.size := by omega
    subst e
    exact .inl ⟨Nat.le_refl _, fin H p⟩
theorem for_text {z : Str} {g : TG} {tb : TS} {D : Ends} {σ : L2.St} {H : Hp} (Pv : Nat → L2.St → Hp → Prop) (h0 : Pv 0 σ H)
    (turn : ∀ (i c : Nat) σ H, z.cps[i]? = some c → Pv i σ H → g (.str ⟨#[c]⟩) σ H fun σ2 H2 => tb { D with nx := Pv (i + 1), ct := Pv (i + 1), bk := D.nx } σ2 H2) (fin : ∀ σ H, Pv z.cps.size σ H → D.nx σ H) :
    ∃ W : Nat → Nat → L2.St → Hp → Prop, (∃ m, W 0 m σ H) ∧ ∀ i m σ H, W i m σ H → ((Its z).stop i H ∧ D.nx σ H) ∨ ((Its z).go i H ∧ ∃ Nx : L2.St → Hp → Prop, (∀ σ' H', Nx σ' H' → ∃ m', m' < m ∧ W (i + 1) m' σ' H') ∧
      ∀ x H', (Its z).yld i H x H' → g x σ H' fun σ2 H2 => tb { D with nx := Nx, ct := Nx, bk := D.nx } σ2 H2) := by
  refine ⟨fun i m σ H => m + i = z.cps.size ∧ Pv i σ H, ⟨z.cps.size, by simp, h0⟩, ?_⟩
  rintro i m σ H ⟨em, p⟩
  by_cases lt : i < z.cps.size
  · refine .inr ⟨lt, Pv (i + 1), fun σ' H' p' => ⟨m - 1, by omega, by omega, p'⟩, ?_⟩
    rintro x H' ⟨rfl, c, ec, rfl⟩
    exact turn i c σ H' ec p
  · have e : i = z.cps.size := by omega
    subst e
    exact .inl ⟨Nat.le_refl _, fin σ H p⟩
/-! ### beginnings: the sixty-three of them -/
def tk (z : Str) (k : Nat) : Str := ⟨(z.cps.toList.take k).toArray⟩
def begs : List Str := (List.range 6).flatMap fun k => (List.range (2 ^ k)).map fun j => tk (fig (j * 2 ^ (5 - k))) k
theorem tk_in : ∀ w, w < 32 → ∀ k, k < 6 → tk (fig w) k ∈ begs := by decide +kernel
def signB (c : Nat) : Bool := decide (c ∈ [48, 49])
def begB : V → Bool
  | .str z => decide (z.length ≤ 5) && z.cps.toList.all signB
  | _ => false
theorem begs_yes : ∀ z ∈ begs, begB (.str z) = true := by decide +kernel
theorem begs_len : ∀ z ∈ begs, z.length ≤ 5 := by decide +kernel
abbrev calledAs (nm : Str) : HO := .xd [(("called" : Str), .str nm)]
/-- a comprehension without a test -/
theorem yes_turn {σ : L2.St} {H : Hp} {A B : Hp → Prop} (h : A H) : tYes σ H fun b H3 => if b = true then A H3 else B H3 := by
  show if true = true then A H else B H
  rw [if_pos rfl]
  exact h
end VQ
namespace VQ
open PySem L2 LamX
abbrev sIsBeg : Stmt := top 16
section
variable {P : Program} {w : World} {K : PySem.W.Frag} {mg : Str → Option Value} {base : Heap}
/-- a text is no longer than can be read -/
def Short : V → Prop
  | .str z => z.length ≤ 1000
  | _ => True
def spIsBeg (K : PySem.W.Frag) : Sp := fun vs H Q _ => ∃ (x : V) (t : String), vs = [x] ∧ TyX K H x (.type t) ∧ t ∈ basics ∧ Short x ∧ ∀ H', Same H H' → Q (.bl (begB x)) H'
theorem scIsBeg : FnScope ["thing", "sign"] ["thing"] (defScope sIsBeg) := ⟨rfl, rfl, rfl, by decide +kernel, rfl, by decide +kernel, by decide +kernel⟩
theorem ok_isbeg {f : Addr} {fd : FuncData} {tk5 : Tok} (F : Fun K "is_beginning" "is_beginning" sIsBeg f fd) (b : Blt mg) (Fg : mg "FIGURES" = some (.int 5 tk5)) : FnOk P w K mg base CX0 1 f fd ["thing"] (spIsBeg K) := by
  refine F.ok scIsBeg (fun vs H Q E h => ?_) (fun cdv A outer s H vs Q E hr h => ?_)
  · obtain ⟨x, t, rfl, _⟩ := h
    rfl
  · obtain ⟨x, t, rfl, ty, m, sh, k⟩ := h
    refine ⟨_, pss_one (ps_ret (pe_and (pe_isi (pv 0) rfl b.isi rfl b.str (c := "str") (by decide +kernel))
      (pe_and (pe_cmpR op_le (pe_callB call_len_str (by rfl) b.len PySem.boot_len (pa_cons (pv 0) pa_nil)) (pe_glob (v := .int 5) rfl Fg ⟨_, rfl⟩) (nomark _))
      (pe_one (pe_callB (cr_all rfl) (by rfl) b.all (by decide +kernel) (pa_cons
        (pe_lc (own := [("sign", 1)]) (g := gName 1) (tt := tYes) (te := tOp (fun x y H Q => ∃ (c : Nat) (z : Str), x = .str ⟨#[c]⟩ ∧ y = .str z ∧ Q (.bl (decide (c ∈ z.cps.toList))) H) (tVar 1) (tC (.str "01"))) rfl scIsBeg.nd (pi_str (pv 0))
          (blkOk_by (N := ["thing", "sign"]) (sc := defScope sIsBeg) (by decide +kernel)) (fun _ _ _ _ _ => pg_name (i := 1) scIsBeg.nd rfl (.inl rfl)) (fun _ _ _ _ _ => pts_nil)
          (fun _ _ _ _ _ => pe_cmpR op_in_sign (pv 1) pe_str rfl)) pa_nil)))))), ?_⟩
    rcases basic_cases ty m with ⟨rfl, rfl⟩ | ⟨c, rfl, rfl⟩ | ⟨i, rfl, rfl⟩ | ⟨z, rfl, rfl⟩ | ⟨a, rfl, rfl | rfl⟩
    · exact rd_isi rfl ty (b := false) (by decide +kernel) ⟨_, rfl, iteF (k H (Same.refl H))⟩
    · exact rd_isi rfl ty (b := false) (by decide +kernel) ⟨_, rfl, iteF (k H (Same.refl H))⟩
    · exact rd_isi rfl ty (b := false) (by decide +kernel) ⟨_, rfl, iteF (k H (Same.refl H))⟩
    · have sh' : z.length ≤ 1000 := sh
      refine rd_isi rfl ty (b := true) (by decide +kernel) ⟨_, rfl, iteT ?_⟩
      refine ⟨_, rfl, z, rfl, Nat.le_trans sh' (by decide), (z.length : Int), 5, rfl, rfl, _, rfl, ?_⟩
      by_cases le : z.length ≤ 5
      · rw [if_pos (decide_eq_true (show (z.length : Int) ≤ 5 by omega))]
        have e : begB (.str z) = z.cps.toList.all signB := by
          show (decide (z.length ≤ 5) && z.cps.toList.all signB) = _
          rw [decide_eq_true le, Bool.true_and]
        rw [e] at k
        refine ⟨_, rfl, z, rfl, fun D hD => ?_⟩
        refine lc_text (fun i H' => Same H H' ∧ H' D = some (.lst (((z.cps.toList.take i).map signB).map V.bl))) ⟨same_new hD, upd_same⟩ ?_ ?_
        · rintro i c H2 hc ⟨s2, h2⟩
          have hi : i < z.cps.size := (Array.getElem?_eq_some_iff.mp hc).1
          refine ⟨rfl, ?_⟩
          refine iteT (B := Same H H2 ∧ H2 D = some (.lst (((z.cps.toList.take (i + 1)).map signB).map V.bl))) ?_
          refine ⟨_, rfl, c, "01", rfl, rfl, _, h2, ?_, ?_, ?_⟩
          · rw [List.length_map, List.length_map, List.length_take]
            exact Nat.lt_of_le_of_lt (Nat.min_le_left _ _) (Nat.lt_of_lt_of_le (show i < 1001 by have : z.cps.size = z.length := rfl; omega) (by decide))
          · intro q o z'
            have nq : q ≠ D := fun y => by
              rw [y, hD] at z'
              cases z'
            rw [upd_ne nq]
            exact s2 _ _ z'
          · rw [upd_same, List.take_add_one, show z.cps.toList[i]? = some c by rw [Array.getElem?_toList]; exact hc, List.map_append, List.map_append]
            rfl
        · rintro H2 ⟨s2, h2⟩
          refine ⟨D, _, rfl, SqL.of h2, ?_⟩
          have e2 : ((z.cps.toList.take z.cps.size).map signB).all id = z.cps.toList.all signB := by
            rw [List.take_of_length_le (by simp), List.all_map]
            rfl
          rw [e2]
          exact k H2 s2
      · rw [if_neg (by simpa using (show ¬ (z.length : Int) ≤ 5 by omega))]
        have e : begB (.str z) = false := by
          show (decide (z.length ≤ 5) && _) = false
          rw [decide_eq_false le, Bool.false_and]
        rw [e] at k
        exact k H (Same.refl H)
    · exact rd_isi rfl ty (b := false) (by decide +kernel) ⟨_, rfl, iteF (k H (Same.refl H))⟩
    · exact rd_isi rfl ty (b := false) (by decide +kernel) ⟨_, rfl, iteF (k H (Same.refl H))⟩
end
end VQ
namespace VQ
open PySem L2 LamX
abbrev sNeedBeg : Stmt := top 17
abbrev sBadBeg : Stmt := inClass (top 2) 0
theorem scBadBeg : FnScope ["self"] ["self"] (defScope sBadBeg) := ⟨rfl, rfl, rfl, by decide +kernel, rfl, by decide +kernel, by decide +kernel⟩
section
variable {P : Program} {w : World} {K : PySem.W.Frag} {mg : Str → Option Value} {base : Heap}
/-- it is let by, or refused -/
def spNeed (K : PySem.W.Frag) (ok : V → Bool) (C : Addr) (nm : Str) : Sp := fun vs H Q E => ∃ (x : V) (t : String), vs = [x] ∧ TyX K H x (.type t) ∧ t ∈ basics ∧ Short x ∧
  (ok x = true → ∀ H', Same H H' → Q .non H') ∧ (ok x = false → ∀ H' d, Same H H' → H' d = none → E (.ref C) (some d) (upd H' d (calledAs nm)))
theorem scNeedBeg : FnScope ["beginning"] ["beginning"] (defScope sNeedBeg) := ⟨rfl, rfl, rfl, by decide +kernel, rfl, by decide +kernel, by decide +kernel⟩
theorem ok_needbeg {f fB C fI : Addr} {fd fdB fdI : FuncData} {tk5 : Tok} (F : Fun K "need_beginning" "need_beginning" sNeedBeg f fd) (b : Blt mg) (Fg : mg "FIGURES" = some (.int 5 tk5)) (aB : At K mg "is_beginning" sIsBeg ["thing"] fB fdB)
    (Er : ErrC K mg "BadBeginning" C fI fdI "BadBeginning.__init__" sBadBeg) : FnOk P w K mg base (L2.CX P w) 3 f fd ["beginning"] (spNeed K begB C "BadBeginning") := by
  have GB : FnOk P w K mg base CX0 1 fB fdB ["thing"] (spIsBeg K) := ok_isbeg aB.fn b Fg
  have GI : FnOk P w K mg base CX0 1 fI fdI ["self"] (spErr K C "BadBeginning") := ok_err Er scBadBeg (.inl rfl) rfl
  refine F.okX scNeedBeg (fun vs H Q E h => ?_) (fun cdv A outer s H vs Q E hr h => ?_)
  · obtain ⟨x, t, rfl, _⟩ := h
    rfl
  · obtain ⟨x, t, rfl, ty, m, sh, k1, k2⟩ := h
    have hr1 : Room 1 _ := hr.mono (by decide)
    refine ⟨_, pss_one (ps_if (pt_not (pt_val (pe_call GB hr1 rfl aB.gl aB.fn.kp aB.bd .nil pass0 (pa_cons (pv 0) pa_nil))))
        (pss_one (ps_raise rfl (takes_of rfl rfl rfl rfl) (pmk_oex0 Er.ox Er.it Er.ty GI hr Er.bd pass0 rfl Er.gl))) pss_nil), ?_⟩
    refine ⟨_, rfl, x, t, rfl, ty, m, sh, fun H1 s1 => ⟨_, rfl, ?_⟩⟩
    cases e : begB x with
    | false => exact raise_plain (σ := []) fun d hd => k2 e H1 d s1 hd
    | true => exact k1 e H1 s1
end
end VQ
namespace VQ
open PySem L2 LamX
def lastC (z : Str) : Nat := z.cps.toList.getLastD 0
def dropL (z : Str) : Str := ⟨z.cps.toList.dropLast.toArray⟩
def flip (c : Nat) : Str := if c = 48 then "1" else "0"
def bro (z : Str) : Str := dropL z ++ flip (lastC z)
theorem bro_cut : ∀ z ∈ begs, z ≠ ("" : Str) → atI z.cps.toList (-1) = some (lastC z) ∧ cutS z none (some (-1)) = dropL z ∧ (dropL z).length ≤ 5 ∧ (lastC z = 48 ∨ lastC z = 49) := by decide +kernel
theorem bro_in : ∀ z ∈ begs, z ≠ ("" : Str) → bro z ∈ begs ∧ bro z ≠ ("" : Str) ∧ bro (bro z) = z := by decide +kernel
theorem cut_to (z : Str) (k : Nat) : cutS z none (some (k : Int)) = tk z k := by
  unfold cutS tk
  rw [HT.sIx_none, HT.sIx_nat, List.drop_zero, Nat.sub_zero, show z.length = z.cps.toList.length by simp [Str.length]]
  by_cases le : k ≤ z.cps.toList.length
  · rw [Nat.min_eq_left le]
  · have le' : z.cps.toList.length ≤ k := by omega
    rw [Nat.min_eq_right le', List.take_of_length_le (Nat.le_refl _), List.take_of_length_le le']
end VQ
namespace VQ
open PySem L2 LamX
abbrev sBrother : Stmt := top 18
section
variable {P : Program} {w : World} {K : PySem.W.Frag} {mg : Str → Option Value} {base : Heap}
def spBrother (K : PySem.W.Frag) (C : Addr) : Sp := fun vs H Q E => ∃ (x : V) (t : String), vs = [x] ∧ TyX K H x (.type t) ∧ t ∈ basics ∧ Short x ∧
  (∀ z : Str, x = .str z → z ∈ begs → z ≠ ("" : Str) → ∀ H', Same H H' → Q (.str (bro z)) H') ∧ ((x = .str "" ∨ begB x = false) → ∀ H' d, Same H H' → H' d = none → E (.ref C) (some d) (upd H' d (calledAs "BadBeginning"))) ∧
  ((∃ z, x = .str z ∧ z ∈ begs) ∨ begB x = false)
theorem scBrother : FnScope ["beginning", "turned"] ["beginning"] (defScope sBrother) := ⟨rfl, rfl, rfl, by decide +kernel, rfl, by decide +kernel, by decide +kernel⟩
theorem ok_brother {f fN fB C fI : Addr} {fd fdN fdB fdI : FuncData} {tk5 : Tok} (F : Fun K "brother" "brother" sBrother f fd) (b : Blt mg) (Fg : mg "FIGURES" = some (.int 5 tk5)) (aB : At K mg "is_beginning" sIsBeg ["thing"] fB fdB) (aN : At K mg "need_beginning" sNeedBeg ["beginning"] fN fdN)
    (Er : ErrC K mg "BadBeginning" C fI fdI "BadBeginning.__init__" sBadBeg) : FnOk P w K mg base (L2.CX P w) 4 f fd ["beginning"] (spBrother K C) := by
  have GN : FnOk P w K mg base (L2.CX P w) 3 fN fdN ["beginning"] (spNeed K begB C "BadBeginning") := ok_needbeg aN.fn b Fg aB Er
  have GI : FnOk P w K mg base CX0 1 fI fdI ["self"] (spErr K C "BadBeginning") := ok_err Er scBadBeg (.inl rfl) rfl
  refine F.okX scBrother (fun vs H Q E h => ?_) (fun cdv A outer s H vs Q E hr h => ?_)
  · obtain ⟨x, t, rfl, _⟩ := h
    rfl
  · obtain ⟨x, t, rfl, ty, m, sh, k1, k2, k3⟩ := h
    have hr2 : Room 2 _ := hr.mono (by decide)
    refine ⟨_, pss_cons (ps_expr (pe_call GN hr rfl aN.gl aN.fn.kp aN.bd .nil (passes_call (takes_of rfl rfl rfl rfl) (fun _ _ _ _ h => h)) (pa_cons (pv 0) pa_nil)))
      (pss_cons (ps_if (pt_cmpR op_eq (pv 0) pe_str (nomark _)) (pss_one (ps_raise rfl (takes_of rfl rfl rfl rfl) (pmk_oex0 Er.ox Er.it Er.ty GI hr2 Er.bd pass0 rfl Er.gl))) pss_nil)
      (pss_cons (ps_set (i := 1) scBrother.nd rfl (.inl rfl) (pe_ifExp (pt_cmpR op_eq (pe_ix ix_str (pv 0) (pe_un un_neg pe_int) fun _ _ => rfl) pe_str (nomark _)) pe_str pe_str))
      (pss_one (ps_ret (pe_op op_add_str (pe_slice sl_str (pv 0) po_none (po_some (pe_un un_neg pe_int))) (pv 1)))))), ?_⟩
    refine ⟨_, rfl, x, t, rfl, ty, m, sh, fun yes H1 s1 => ?_, fun no H1 d s1 hd => k2 (.inr no) H1 d s1 hd⟩
    rcases k3 with ⟨z, rfl, hz⟩ | no
    · refine ⟨_, rfl, rfl, _, rfl, ?_⟩
      by_cases e : z = ("" : Str)
      · rw [decide_eq_true (congrArg V.str e)]
        refine iteT ?_
        exact raise_plain (σ := []) fun d hd => k2 (.inl (congrArg V.str e)) H1 d s1 hd
      · rw [decide_eq_false (fun q => e (V.str.inj q))]
        refine iteF ?_
        obtain ⟨c1, c2, c3, c4⟩ := bro_cut z hz e
        have lz : z.length ≤ sizeLine := Nat.le_trans (begs_len z hz) (by decide)
        have key : ∀ u : Str, u = flip (lastC z) → u.length = 1 → Q (.str (cutS z none (some (-1)) ++ u)) H1 := fun u eu _ => by
          rw [c2, eu]
          exact k1 z rfl hz e H1 s1
        have fin : ∀ u : Str, u = flip (lastC z) → u.length = 1 → ((cutS z none (some (-1))).length + u.length ≤ sizeLine) := fun u _ el => by
          rw [c2, el]
          exact Nat.le_trans (by omega : (dropL z).length + 1 ≤ 6) (by decide)
        refine ⟨_, rfl, 1, rfl, z, -1, lastC z, rfl, rfl, lz, c1, rfl, _, rfl, ?_⟩
        by_cases el : lastC z = 48
        · rw [el, show decide (V.str ⟨#[48]⟩ = V.str "0") = true by decide +kernel]
          have ef : ("1" : Str) = flip (lastC z) := by rw [el]; rfl
          exact iteT ⟨_, rfl, 1, rfl, _, rfl, z, rfl, lz, _, rfl, _, _, rfl, rfl, fin _ ef (by decide +kernel), key _ ef (by decide +kernel)⟩
        · have el' : lastC z = 49 := by omega
          rw [el', show decide (V.str ⟨#[49]⟩ = V.str "0") = false by decide +kernel]
          have ef : ("0" : Str) = flip (lastC z) := by rw [el']; rfl
          exact iteF ⟨_, rfl, 1, rfl, _, rfl, z, rfl, lz, _, rfl, _, _, rfl, rfl, fin _ ef (by decide +kernel), key _ ef (by decide +kernel)⟩
    · rw [no] at yes
      cases yes
end
end VQ
namespace VQ
open PySem L2 LamX
/-! ### beginnings by their signs -/
theorem begB_iff {z : Str} : begB (.str z) = true ↔ z.length ≤ 5 ∧ ∀ c ∈ z.cps.toList, signB c = true := by
  show (decide (z.length ≤ 5) && z.cps.toList.all signB) = true ↔ _
  rw [Bool.and_eq_true, decide_eq_true_eq, List.all_eq_true]
theorem sign_two {c : Nat} (h : signB c = true) : c = 48 ∨ c = 49 := by
  have := of_decide_eq_true h
  simpa using this
theorem begs_list : ∀ l : List Nat, l.length ≤ 5 → (∀ c ∈ l, signB c = true) → (⟨l.toArray⟩ : Str) ∈ begs
  | [], _, _ => by decide +kernel
  | [a], _, h => by
    rcases sign_two (h a (by simp)) with rfl | rfl <;> decide +kernel
  | [a, b], _, h => by
    rcases sign_two (h a (by simp)) with rfl | rfl <;> rcases sign_two (h b (by simp)) with rfl | rfl <;> decide +kernel
  | [a, b, c], _, h => by
    rcases sign_two (h a (by simp)) with rfl | rfl <;> rcases sign_two (h b (by simp)) with rfl | rfl <;> rcases sign_two (h c (by simp)) with rfl | rfl <;> decide +kernel
  | [a, b, c, d], _, h => by
    rcases sign_two (h a (by simp)) with rfl | rfl <;> rcases sign_two (h b (by simp)) with rfl | rfl <;> rcases sign_two (h c (by simp)) with rfl | rfl <;> rcases sign_two (h d (by simp)) with rfl | rfl <;> decide +kernel
  | [a, b, c, d, e], _, h => by
    rcases sign_two (h a (by simp)) with rfl | rfl <;> rcases sign_two (h b (by simp)) with rfl | rfl <;> rcases sign_two (h c (by simp)) with rfl | rfl <;> rcases sign_two (h d (by simp)) with rfl | rfl <;> rcases sign_two (h e (by simp)) with rfl | rfl <;> decide +kernel
  | _ :: _ :: _ :: _ :: _ :: _ :: _, h, _ => absurd h (by simp)
theorem beg_mem {z : Str} (h1 : z.length ≤ 5) (h2 : ∀ c ∈ z.cps.toList, signB c = true) : z ∈ begs := by
  have e : z = ⟨z.cps.toList.toArray⟩ := StrLaws.mk_of_toList rfl
  rw [e]
  exact begs_list _ (by simpa [Str.length] using h1) h2
theorem beg_signs {z : Str} (h : z ∈ begs) : ∀ c ∈ z.cps.toList, signB c = true := (begB_iff.mp (begs_yes z h)).2
theorem sign_bit (n : Nat) : signB (48 + n % 2) = true := by
  rcases Nat.mod_two_eq_zero_or_one n with h | h <;> rw [h] <;> rfl
theorem figLow_signs (w : Nat) : ∀ i, ∀ c ∈ (figLow w i).cps.toList, signB c = true
  | 0, c, m => by cases m
  | i + 1, c, m => by
    have m' : c ∈ (#[48 + w / 2 ^ i % 2] ++ (figLow w i).cps).toList := m
    rw [Array.toList_append] at m'
    rcases List.mem_append.mp m' with m | m
    · have e : c = 48 + w / 2 ^ i % 2 := by simpa using m
      rw [e]
      exact sign_bit _
    · exact figLow_signs w i c m
theorem fig_signs (w : Nat) : ∀ c ∈ (fig w).cps.toList, signB c = true := figLow_signs w 5
theorem fig_len (w : Nat) : (fig w).length = 5 := figLow_len w 5
theorem fig_in (w : Nat) : fig w ∈ begs := beg_mem (by rw [fig_len]; decide) (fig_signs w)
theorem tk_list (z : Str) (k : Nat) : (tk z k).cps.toList = z.cps.toList.take k := by simp [tk]
theorem tk_len (z : Str) (k : Nat) : (tk z k).length = min k z.length := by simp [tk, Str.length]
theorem tk_beg {z : Str} (h : ∀ c ∈ z.cps.toList, signB c = true) {k : Nat} (hk : k ≤ 5) : tk z k ∈ begs := by
  refine beg_mem (by rw [tk_len]; omega) fun c m => ?_
  rw [tk_list] at m
  exact h c (List.mem_of_mem_take m)
theorem app_signs {a b : Str} (ha : ∀ c ∈ a.cps.toList, signB c = true) (hb : ∀ c ∈ b.cps.toList, signB c = true) : ∀ c ∈ (a ++ b).cps.toList, signB c = true := fun c m => by
  rw [Str.cps_append, Array.toList_append] at m
  rcases List.mem_append.mp m with m | m
  · exact ha c m
  · exact hb c m
theorem m_tk (z : Str) (h : z ∈ begs) (k : Nat) (hk : k < 6) : tk z k ∈ begs := tk_beg (beg_signs h) (by omega)
theorem m_more (z : Str) (h : z ∈ begs) (w : Nat) (_ : w < 32) : tk (z ++ fig w) 5 ∈ begs ∧ (z ++ fig w).length ≤ 10 := by
  refine ⟨tk_beg (app_signs (beg_signs h) (fig_signs w)) (Nat.le_refl 5), ?_⟩
  rw [Str.length_append, fig_len]
  have := begs_len z h
  omega
/-- z begins with u, by the law -/
def beginsB (z u : Str) : Bool := decide (tk z u.length = u)
theorem st_eq (a b : Str) : Txt.startswith a b = beginsB a b := by
  unfold Txt.startswith beginsB
  rw [StrLaws.subAt_eq, List.drop_zero, Bool.eq_iff_iff, Bool.and_eq_true, decide_eq_true_eq, decide_eq_true_eq, beq_iff_eq]
  constructor
  · rintro ⟨_, e⟩
    have q : (tk a b.length).cps.toList = b.cps.toList := by rw [tk_list]; exact e
    exact Str.ext' (Array.toList_inj.mp q)
  · intro e
    have q : (tk a b.length).cps.toList = b.cps.toList := by rw [e]
    rw [tk_list] at q
    refine ⟨?_, q⟩
    have l := congrArg List.length q
    rw [List.length_take] at l
    have l1 : b.cps.toList.length = b.length := by simp [Str.length]
    have l2 : a.cps.toList.length = a.length := by simp [Str.length]
    omega
theorem begins_len {a b : Str} (h : beginsB a b = true) : b.length ≤ a.length := by
  have e := congrArg Str.length (of_decide_eq_true h)
  rw [tk_len] at e
  omega
theorem tk_all (a : Str) : tk a a.length = a := by
  refine Str.ext' (Array.toList_inj.mp ?_)
  rw [tk_list]
  exact List.take_of_length_le (by simp [Str.length])
theorem begins_eq {a b : Str} (h : beginsB a b = true) (l : a.length ≤ b.length) : a = b := by
  have e := of_decide_eq_true h
  rw [show b.length = a.length by have := begins_len h; omega, tk_all] at e
  exact e
theorem begins_self (a : Str) : beginsB a a = true := decide_eq_true (tk_all a)
end VQ
namespace VQ
open PySem L2 LamX
abbrev sBegin : Stmt := top 38
theorem cut_tk : ∀ w, w < 32 → ∀ k : Nat, k < 6 → cutS (fig w) none (some (k : Int)) = tk (fig w) k := by decide +kernel
section
variable {P : Program} {w : World} {K : PySem.W.Frag} {mg : Str → Option Value} {base : Heap}
def spBegin : Sp := fun vs H Q _ => ∃ b : Addr, vs = [.ref b] ∧ Bag H b ∧ ∀ (z : Str) (H' : Hp), z ∈ begs → Bag H' b → Keep b H H' → Q (.str z) H'
theorem scBegin : FnScope ["_law_bag_here", "_law_size"] ["_law_bag_here"] (defScope sBegin) := ⟨rfl, rfl, rfl, by decide +kernel, rfl, by decide +kernel, by decide +kernel⟩
theorem ok_begin {f fP fO fW fG : Addr} {fd fdP fdO fdW fdG : FuncData} (F : Fun K "_law_begin" "_law_begin" sBegin f fd) (b : Blt mg) (aP : At K mg "_law_pull" sPull ["_law_bag_here", "_law_size"] fP fdP) (aO : At K mg "_law_of" sOf ["_law_bag_here", "_law_some"] fO fdO)
    (aW : At K mg "_law_worth" sWorth ["_law_bag_here"] fW fdW) (aG : At K mg "_law_figs" sFigs ["_law_worth_here"] fG fdG) : FnOk P w K mg base CX0 4 f fd ["_law_bag_here"] spBegin := by
  have GO : FnOk P w K mg base CX0 2 fO fdO ["_law_bag_here", "_law_some"] (spOf K) := ok_of aO.fn b.len aP
  have GW : FnOk P w K mg base CX0 3 fW fdW ["_law_bag_here"] (spDraw fun i => 0 ≤ i ∧ i < 32) := ok_worth aW.fn b.len aP aO
  have GG : FnOk P w K mg base CX0 1 fG fdG ["_law_worth_here"] spFigs := ok_figs aG.fn b.range b.str
  refine F.ok scBegin (fun vs H Q E h => ?_) (fun cdv A outer s H vs Q E hr h => ?_)
  · obtain ⟨bg, rfl, _⟩ := h
    rfl
  · obtain ⟨bg, rfl, B, k⟩ := h
    have hr1 : Room 1 _ := hr.mono (by decide)
    have hr2 : Room 2 _ := hr.mono (by decide)
    refine ⟨_, pss_cons (ps_set (i := 1) scBegin.nd rfl (.inl rfl) (pe_call GO hr2 rfl aO.gl aO.fn.kp aO.bd .nil pass0 (pa_cons (pv 0) (pa_cons (pe_lst (pa_cons pe_int (pa_cons pe_int (pa_cons pe_int (pa_cons pe_int (pa_cons pe_int (pa_cons pe_int (pa_cons pe_int pa_nil)))))))) pa_nil))))
      (pss_one (ps_ret (pe_slice sl_str (pe_call GG hr1 rfl aG.gl aG.fn.kp aG.bd .nil pass0 (pa_cons (pe_call GW hr rfl aW.gl aW.fn.kp aW.bd .nil pass0 (pa_cons (pv 0) pa_nil)) pa_nil)) po_none (po_some (pv 1))))), ?_⟩
    refine ⟨_, rfl, by show 7 ≤ sizeLine; decide, fun p hp => ?_⟩
    have sm := same_new (o := HO.lst [.int 0, .int 0, .int 1, .int 2, .int 3, .int 4, .int 5]) hp
    refine ⟨bg, p, _, rfl, B.same sm, B.ne hp, SqL.of upd_same, by show 1 ≤ 7; decide, by show 7 < 1000; decide, fun v H1 mem B1 k1 => ?_⟩
    obtain ⟨n, rfl, hn⟩ : ∃ n : Nat, v = .int (n : Int) ∧ n < 6 := by
      rcases List.mem_cons.mp mem with rfl | mem
      · exact ⟨0, rfl, by decide⟩
      rcases List.mem_cons.mp mem with rfl | mem
      · exact ⟨0, rfl, by decide⟩
      rcases List.mem_cons.mp mem with rfl | mem
      · exact ⟨1, rfl, by decide⟩
      rcases List.mem_cons.mp mem with rfl | mem
      · exact ⟨2, rfl, by decide⟩
      rcases List.mem_cons.mp mem with rfl | mem
      · exact ⟨3, rfl, by decide⟩
      rcases List.mem_cons.mp mem with rfl | mem
      · exact ⟨4, rfl, by decide⟩
      rcases List.mem_cons.mp mem with rfl | mem
      · exact ⟨5, rfl, by decide⟩
      · cases mem
    refine ⟨_, rfl, bg, rfl, B1, fun i H2 hi B2 k2 => ?_⟩
    obtain ⟨wt, rfl⟩ := Int.eq_ofNat_of_zero_le hi.1
    have hw : wt < 32 := by omega
    refine ⟨wt, rfl, _, rfl, _, rfl, _, rfl, by rw [fig, figLow_len]; decide, ?_⟩
    rw [cut_tk wt hw n hn]
    exact k _ H2 (tk_in wt hw n hn) B2 (Keep.trans (Keep.trans (Same.keep sm) k1) k2)
end
end VQ
namespace VQ
open PySem L2 LamX
/-! ### what the laws' own bodies share -/
theorem Tabs.keep {T : List (Addr × Str)} {H H' : Hp} {b : Addr} (t : Tabs T H) (B : Bag H b) (k : Keep b H H') : Tabs T H' := fun p hp => by
  obtain ⟨l, ns, i, r, x, n, nl, h1, _⟩ := B
  obtain ⟨ps, a1, a2, a3⟩ := t p hp
  refine ⟨ps, k.1 _ _ (fun z => ?_) a1, a2, fun pos cv hc => ?_⟩
  · rw [z, h1] at a1
    cases a1
  · obtain ⟨c, e1, e2⟩ := a3 pos cv hc
    refine ⟨c, e1, k.1 _ _ (fun z => ?_) e2⟩
    rw [z, h1] at e2
    cases e2
theorem Bag.extN {H H' : Hp} {b : Addr} (B : Bag H b) (e : ExtN H H') : Bag H' b := by
  obtain ⟨l, ns, i, r, x, n, nl, h1, h2, h3⟩ := B
  exact ⟨l, ns, i, r, x, n, nl, e _ _ h1 (fun ps z => by cases z), e _ _ h2 (fun ps z => by cases z), h3⟩
theorem passCX {X : Cx} : Passes (L2.CX X.prog X.w) X E0 := fun _ _ _ _ _ _ _ ⟨_, _, _, _, _, _, _, _, _, _, _, _, z⟩ => z.elim
/-- law's promise: a list of at most 63 ints is handed in, True comes out; Pt: the table of its code object -/
def spLaw (K : PySem.W.Frag) (Pt : Addr) : Sp := fun vs H Q _ => ∃ (a : Addr) (ns : List Int), vs = [.ref a] ∧ SqL K H a (ns.map V.int) ∧ ns.length ≤ 63 ∧ H Pt = some (.tbl #[]) ∧ ∀ H', Q (.bl true) H'
theorem extN_same {H H' : Hp} (s : Same H H') : ExtN H H' := fun b o h _ => s b o h
end VQ
namespace VQ
open PySem L2 LamX
/-- the word of a call that is refused without a field -/
theorem word_refused {K : PySem.W.Frag} {Ta NT NR BT Uf Fu TM QE No C : Addr} {T : List (Addr × Str)} {nm : Str} {σ : L2.St} {H : Hp} {Q : VK} {t : XK → TE} (PL : Plain K Ta NT NR BT Uf Fu TM QE No C) (hT : Tabs T H)
    (call : ∀ (H1 : Hp) (Q1 : VK) (E : XK), ExtN H H1 → (∀ H2 d, Same H1 H2 → H2 d = none → E (.ref C) (some d) (upd H2 d (.xd [(("called" : Str), .str nm)]))) → t E σ H1 Q1) (k : ∀ H', ExtN H H' → Tabs T H' → Q (.str nm) H') :
    tLam T (fun tl H Q => TTried K Ta NT NR BT Uf Fu TM QE No tl H fun v H1 => rIxT K v (.int 0) H1 Q) t σ H Q := by
  refine ⟨hT, fun H1 e1 T1 => call H1 _ _ e1 fun H2 d s2 hd => ?_⟩
  refine ⟨C, d, _, nm, rfl, rfl, PL, upd_same, rfl, fun p hp => ⟨p, _, _, _, rfl, rfl, SqT.of upd_same, rfl, ?_⟩⟩
  have s4 := (s2.trans (same_new hd)).trans (same_new (o := .tup [.str nm, .str ""]) hp)
  exact k _ (e1.trans (extN_same s4)) (Tabs.ext T1 s4)
end VQ
namespace VQ
open PySem L2 LamX
/-! ### data that is compared -/
def Lay (n : Nat) (d : PyData) : Prop := d.canLay0 = true ∧ d.depth ≤ n
theorem lay_all {n : Nat} : ∀ {ds : List PyData}, (∀ d ∈ ds, Lay n d) → PyData.canLayAll0 ds = true ∧ PyData.depthAll ds ≤ n
  | [], _ => by
    unfold PyData.canLayAll0 PyData.depthAll
    exact ⟨rfl, Nat.zero_le _⟩
  | d :: ds, h => by
    obtain ⟨a, c⟩ := h d List.mem_cons_self
    obtain ⟨a', c'⟩ := lay_all (ds := ds) fun e m => h e (List.mem_cons_of_mem _ m)
    unfold PyData.canLayAll0 PyData.depthAll
    exact ⟨by rw [a, a']; rfl, Nat.max_le.mpr ⟨c, c'⟩⟩
theorem Lay.list {n : Nat} {ds : List PyData} (h : ∀ d ∈ ds, Lay n d) : Lay (n + 1) (.list ds) := by
  obtain ⟨a, c⟩ := lay_all h
  unfold Lay PyData.canLay0 PyData.depth
  exact ⟨a, Nat.succ_le_succ c⟩
theorem Lay.tuple {n : Nat} {ds : List PyData} (h : ∀ d ∈ ds, Lay n d) : Lay (n + 1) (.tuple ds) := by
  obtain ⟨a, c⟩ := lay_all h
  unfold Lay PyData.canLay0 PyData.depth
  exact ⟨a, Nat.succ_le_succ c⟩
theorem Lay.int (n : Nat) (i : Int) : Lay n (.int i) := by
  unfold Lay PyData.canLay0 PyData.depth
  exact ⟨rfl, Nat.zero_le _⟩
theorem Lay.str (n : Nat) {z : Str} (h : ∀ c ∈ z.cps.toList, c < 1114112) : Lay n (.str z) := by
  unfold Lay PyData.canLay0 PyData.depth
  refine ⟨?_, Nat.zero_le _⟩
  show z.cps.all (· < 0x110000) = true
  rw [← Array.all_toList, List.all_eq_true]
  exact fun c m => decide_eq_true (h c m)
theorem Lay.shaped {n : Nat} {d : PyData} (h : Lay n d) (hn : n ≤ 64) : SeqAt.shaped d = true := by
  unfold SeqAt.shaped
  rw [h.1, decide_eq_true (Nat.le_trans h.2 hn)]
  rfl
theorem lay_ints (ks : List Int) : Lay 1 (.list (ks.map PyData.int)) := .list fun d m => by
  obtain ⟨k, _, rfl⟩ := List.mem_map.mp m
  exact .int _ _
theorem dp_ints {K : PySem.W.Frag} {H : Hp} : ∀ ks : List Int, DpAll K H (ks.map V.int) (ks.map PyData.int)
  | [] => .nil
  | k :: ks => .cons (.int k) (dp_ints ks)
theorem dp_strs {K : PySem.W.Frag} {H : Hp} : ∀ zs : List Str, DpAll K H (zs.map V.str) (zs.map PyData.str)
  | [] => .nil
  | z :: zs => .cons (.str z) (dp_strs zs)
theorem eqv_nil (ds : List PyData) : PyData.eqv (.list ds) (.list []) = ds.isEmpty := by
  cases ds with
  | nil => rfl
  | cons d ds => rfl
end VQ
namespace VQ
open PySem L2 LamX
/-! ### things, rooms, boxes -/
abbrev sIsPlaces : Stmt := top 21
abbrev sIsBox : Stmt := top 22
abbrev sNeedBox : Stmt := top 23
abbrev sBadBox : Stmt := inClass (top 3) 0
theorem scBadBox : FnScope ["self"] ["self"] (defScope sBadBox) := ⟨rfl, rfl, rfl, by decide +kernel, rfl, by decide +kernel, by decide +kernel⟩
/-- something of the plain kinds -/
def Part (K : PySem.W.Frag) (H : Hp) (x : V) : Prop := ∃ t, TyX K H x (.type t) ∧ t ∈ basics ∧ Short x
/-- a thing, and its items where it is a tuple -/
inductive Thing (K : PySem.W.Frag) (H : Hp) : V → Option (List V) → Prop
  | tup {a : Addr} {xs : List V} (h : H a = some (.tup xs)) (hp : ∀ x ∈ xs, Part K H x) (hl : xs.length ≤ 1000) : Thing K H (.ref a) (some xs)
  | oth {x : V} {t : String} (ty : TyX K H x (.type t)) (m : t ∈ basics) (nt : t ≠ "tuple") : Thing K H x none
def placesO : Option (List V) → Bool
  | none => false
  | some xs => decide (1 ≤ xs.length) && decide (xs.length ≤ 5)
def allO (p : V → Bool) : Option (List V) → Bool
  | none => false
  | some xs => placesO (some xs) && xs.all p
section
variable {P : Program} {w : World} {K : PySem.W.Frag} {mg : Str → Option Value} {base : Heap}
theorem Part.same {H H' : Hp} {x : V} (s : Same H H') (h : Part K H x) : Part K H' x := by
  obtain ⟨t, a, b, c⟩ := h
  exact ⟨t, TyX.basic_same s a b, b, c⟩
theorem Part.str {H : Hp} (z : Str) (h : z.length ≤ 1000) : Part K H (.str z) := ⟨"str", .base (.str z), by decide, h⟩
theorem Part.int {H : Hp} (i : Int) : Part K H (.int i) := ⟨"int", .base (.int i), by decide, trivial⟩
theorem Thing.same {H H' : Hp} {x : V} {o : Option (List V)} (s : Same H H') (h : Thing K H x o) : Thing K H' x o := by
  cases h with
  | tup h hp hl => exact .tup (s _ _ h) (fun x m => Part.same s (hp x m)) hl
  | oth ty m nt => exact .oth (TyX.basic_same s ty m) m nt
def spIsPlaces (K : PySem.W.Frag) : Sp := fun vs H Q _ => ∃ (x : V) (o : Option (List V)), vs = [x] ∧ Thing K H x o ∧ Q (.bl (placesO o)) H
theorem scIsPlaces : FnScope ["thing"] ["thing"] (defScope sIsPlaces) := ⟨rfl, rfl, rfl, by decide +kernel, rfl, by decide +kernel, by decide +kernel⟩
theorem ok_isplaces {f : Addr} {fd : FuncData} {tkM : Tok} (F : Fun K "is_places" "is_places" sIsPlaces f fd) (b : Blt mg) (M : mg "MOST_PLACES" = some (.int 5 tkM)) : FnOk P w K mg base CX0 1 f fd ["thing"] (spIsPlaces K) := by
  refine F.ok scIsPlaces (fun vs H Q E h => ?_) (fun cdv A outer s H vs Q E hr h => ?_)
  · obtain ⟨x, o, rfl, _⟩ := h
    rfl
  · obtain ⟨x, o, rfl, th, k⟩ := h
    refine ⟨_, pss_one (ps_ret (pe_and (pe_isi (pv 0) rfl b.isi rfl b.tuple (c := "tuple") (by decide +kernel))
      (pe_one (pe_chain op_le op_le pe_int (pe_callB call_len_seq (by rfl) b.len PySem.boot_len (pa_cons (pv 0) pa_nil)) (pe_glob (v := .int 5) rfl M ⟨_, rfl⟩))))), ?_⟩
    cases th with
    | @tup a xs h hp hl =>
      refine rd_isi rfl (.base (.tup h)) (b := true) (by decide +kernel) ⟨_, rfl, iteT ?_⟩
      refine ⟨_, rfl, a, xs, rfl, .inr (SqT.of h), 1, _, rfl, rfl, _, rfl, ?_⟩
      have k' : Q (.bl (decide (1 ≤ xs.length) && decide (xs.length ≤ 5))) H := k
      by_cases g : 1 ≤ xs.length
      · rw [if_pos (decide_eq_true (show (1 : Int) ≤ (xs.length : Int) by omega))]
        refine ⟨_, 5, rfl, rfl, ?_⟩
        have e : decide ((xs.length : Int) ≤ 5) = decide (xs.length ≤ 5) := by
          by_cases q : xs.length ≤ 5
          · rw [decide_eq_true q, decide_eq_true (by omega)]
          · rw [decide_eq_false q, decide_eq_false (by omega)]
        rw [decide_eq_true g, Bool.true_and, ← e] at k'
        exact k'
      · rw [if_neg (by simpa using (show ¬ (1 : Int) ≤ (xs.length : Int) by omega))]
        rw [decide_eq_false g, Bool.false_and] at k'
        exact k'
    | @oth x t ty m nt =>
      have k' : Q (.bl false) H := k
      have kb : kitB t "tuple" = some false := by
        have : ∀ u ∈ basics, u ≠ "tuple" → kitB u "tuple" = some false := by decide +kernel
        exact this t m nt
      exact rd_isi rfl ty (b := false) kb ⟨_, rfl, iteF k'⟩
/-- is_box, is_point -/
def spIs (K : PySem.W.Frag) (p : V → Bool) : Sp := fun vs H Q _ => ∃ (x : V) (o : Option (List V)), vs = [x] ∧ Thing K H x o ∧ ∀ H', Same H H' → Q (.bl (allO p o)) H'
theorem scIsBox : FnScope ["thing", "part"] ["thing"] (defScope sIsBox) := ⟨rfl, rfl, rfl, by decide +kernel, rfl, by decide +kernel, by decide +kernel⟩
/-- what a comprehension over a tuple that asks each item collects -/
theorem take_snoc {α β : Type} (g : α → β) {xs : List α} {i : Nat} {x : α} (h : xs[i]? = some x) : (xs.take i).map g ++ [g x] = (xs.take (i + 1)).map g := by
  rw [List.take_add_one, h, List.map_append]
  rfl
theorem ok_isbox {f fB fP : Addr} {fd fdB fdP : FuncData} {tkM tk5 : Tok} (F : Fun K "is_box" "is_box" sIsBox f fd) (b : Blt mg) (M : mg "MOST_PLACES" = some (.int 5 tkM)) (Fg : mg "FIGURES" = some (.int 5 tk5)) (aB : At K mg "is_beginning" sIsBeg ["thing"] fB fdB) (aP : At K mg "is_places" sIsPlaces ["thing"] fP fdP) :
    FnOk P w K mg base CX0 2 f fd ["thing"] (spIs K begB) := by
  have GB : FnOk P w K mg base CX0 1 fB fdB ["thing"] (spIsBeg K) := ok_isbeg aB.fn b Fg
  have GP : FnOk P w K mg base CX0 1 fP fdP ["thing"] (spIsPlaces K) := ok_isplaces aP.fn b M
  refine F.ok scIsBox (fun vs H Q E h => ?_) (fun cdv A outer s H vs Q E hr h => ?_)
  · obtain ⟨x, o, rfl, _⟩ := h
    rfl
  · obtain ⟨x, o, rfl, th, k⟩ := h
    refine ⟨_, pss_one (ps_ret (pe_and (pe_call GP hr rfl aP.gl aP.fn.kp aP.bd .nil pass0 (pa_cons (pv 0) pa_nil))
      (pe_one (pe_callB (cr_all rfl) (by rfl) b.all (by decide +kernel) (pa_cons
        (pe_lc (own := [("part", 1)]) (g := gName 1) (tt := tYes) (te := tCall (spIsBeg K) [] E0 (tCons (tVar 1) tNil)) rfl scIsBox.nd (pi_tup (pv 0))
          (blkOk_by (N := ["thing", "part"]) (sc := defScope sIsBox) (by decide +kernel)) (fun _ _ _ _ _ => pg_name (i := 1) scIsBox.nd rfl (.inl rfl)) (fun _ _ _ _ _ => pts_nil)
          (fun _ _ _ _ _ => pe_call GB hr rfl aB.gl aB.fn.kp aB.bd .nil pass0 (pa_cons (pv 1) pa_nil))) pa_nil))))), ?_⟩
    refine ⟨_, rfl, x, o, rfl, th, _, rfl, ?_⟩
    cases e : placesO o with
    | false =>
      refine iteF ?_
      have e2 : allO begB o = false := by
        cases o with
        | none => rfl
        | some xs => show (placesO (some xs) && _) = false; rw [e, Bool.false_and]
      rw [e2] at k
      exact k H (Same.refl H)
    | true =>
      refine iteT ?_
      cases th with
      | oth ty m nt => cases e
      | @tup a xs h hp hl =>
        have e2 : allO begB (some xs) = xs.all begB := by show (placesO (some xs) && _) = _; rw [e, Bool.true_and]
        rw [e2] at k
        refine ⟨_, rfl, a, rfl, ⟨xs, SqT.of h⟩, fun D hD => ?_⟩
        refine lc_tup (xs := xs) (fun i H' => Same H H' ∧ H' D = some (.lst (((xs.take i).map begB).map V.bl))) ⟨same_new hD, upd_same⟩ (fun i H' _ q => SqT.of (q.1 _ _ h)) ?_ ?_
        · rintro i x H2 hx ⟨s2, h2⟩
          refine ⟨rfl, yes_turn ?_⟩
          have hm : x ∈ xs := List.mem_of_getElem? hx
          obtain ⟨t, ty, m, sh⟩ := (hp x hm).same s2
          refine ⟨_, rfl, x, t, rfl, ty, m, sh, fun H3 s3 => ⟨_, s3 _ _ h2, ?_, ?_, ?_⟩⟩
          · rw [List.length_map, List.length_map, List.length_take]
            exact Nat.lt_of_le_of_lt (Nat.le_trans (Nat.min_le_right _ _) hl) (by decide)
          · intro q o z'
            have nq : q ≠ D := fun y => by
              rw [y, hD] at z'
              cases z'
            rw [upd_ne nq]
            exact s3 _ _ (s2 _ _ z')
          · rw [upd_same, ← take_snoc begB hx, List.map_append]
            rfl
        · rintro H2 ⟨s2, h2⟩
          refine ⟨D, _, rfl, SqL.of h2, ?_⟩
          have e3 : ((xs.take xs.length).map begB).all id = xs.all begB := by
            rw [List.take_of_length_le (Nat.le_refl _), List.all_map]
            rfl
          rw [e3]
          exact k H2 s2
/-- need_box, need_point -/
def spNeedT (K : PySem.W.Frag) (p : V → Bool) (C : Addr) (nm : Str) : Sp := fun vs H Q E => ∃ (x : V) (o : Option (List V)), vs = [x] ∧ Thing K H x o ∧
  (allO p o = true → ∀ H', Same H H' → Q .non H') ∧ (allO p o = false → ∀ H' d, Same H H' → H' d = none → E (.ref C) (some d) (upd H' d (calledAs nm)))
theorem scNeedBox : FnScope ["box"] ["box"] (defScope sNeedBox) := ⟨rfl, rfl, rfl, by decide +kernel, rfl, by decide +kernel, by decide +kernel⟩
theorem ok_needbox {f fX fB fP C fI : Addr} {fd fdX fdB fdP fdI : FuncData} {tkM tk5 : Tok} (F : Fun K "need_box" "need_box" sNeedBox f fd) (b : Blt mg) (M : mg "MOST_PLACES" = some (.int 5 tkM)) (Fg : mg "FIGURES" = some (.int 5 tk5)) (aB : At K mg "is_beginning" sIsBeg ["thing"] fB fdB) (aP : At K mg "is_places" sIsPlaces ["thing"] fP fdP)
    (aX : At K mg "is_box" sIsBox ["thing"] fX fdX) (Er : ErrC K mg "BadBox" C fI fdI "BadBox.__init__" sBadBox) : FnOk P w K mg base (L2.CX P w) 3 f fd ["box"] (spNeedT K begB C "BadBox") := by
  have GX : FnOk P w K mg base CX0 2 fX fdX ["thing"] (spIs K begB) := ok_isbox aX.fn b M Fg aB aP
  have GI : FnOk P w K mg base CX0 1 fI fdI ["self"] (spErr K C "BadBox") := ok_err Er scBadBox (.inl rfl) rfl
  refine F.okX scNeedBox (fun vs H Q E h => ?_) (fun cdv A outer s H vs Q E hr h => ?_)
  · obtain ⟨x, o, rfl, _⟩ := h
    rfl
  · obtain ⟨x, o, rfl, th, k1, k2⟩ := h
    refine ⟨_, pss_one (ps_if (pt_not (pt_val (pe_call GX hr rfl aX.gl aX.fn.kp aX.bd .nil pass0 (pa_cons (pv 0) pa_nil))))
        (pss_one (ps_raise rfl (takes_of rfl rfl rfl rfl) (pmk_oex0 Er.ox Er.it Er.ty GI hr Er.bd pass0 rfl Er.gl))) pss_nil), ?_⟩
    refine ⟨_, rfl, x, o, rfl, th, fun H1 s1 => ⟨_, rfl, ?_⟩⟩
    cases e : allO begB o with
    | false => exact raise_plain (σ := []) fun d hd => k2 e H1 d s1 hd
    | true => exact k1 e H1 s1
theorem map_get {zs : List Str} {i : Nat} {x : V} (h : (zs.map V.str)[i]? = some x) : ∃ z, zs[i]? = some z ∧ x = .str z := by
  rw [List.getElem?_map] at h
  cases e : zs[i]? with
  | none => rw [e] at h; cases h
  | some z =>
    rw [e] at h
    exact ⟨z, rfl, (Option.some.inj h).symm⟩
end
end VQ
namespace VQ
open PySem L2 LamX
/-! ### names of a comprehension that the def's own state leaves out -/
theorem Inv.more {X : Cx} {pins : List (Addr × Obj)} {σ : L2.St} {H : Hp} {s : Shared} (ys : List Str) (I : Inv X pins σ H s) : Inv { X with N := X.N ++ ys } pins (σ ++ List.replicate ys.length none) H s where
  ok := ⟨I.ok.mod, I.ok.kind, I.ok.glob, I.ok.blt, I.ok.above, I.ok.inj, I.ok.has, I.ok.cab, I.ok.hd, I.ok.frames, I.ok.stk, I.ok.exf, I.ok.bs, I.ok.bsz, I.ok.noex, I.ok.exfs, I.ok.funs, I.ok.frf⟩
  os := I.os
  bare := I.bare
  base := I.base
  loc := by
    obtain ⟨m, h1, h2⟩ := I.loc
    refine ⟨m, h1, fun i x v e1 e2 e3 => ?_⟩
    by_cases lt : i < σ.length
    · rw [List.getElem?_append_left lt] at e2
      have e1 : (X.N ++ ys)[i]? = some x := e1
      rw [List.getElem?_append_left (by rw [← I.len]; exact lt)] at e1
      exact h2 i x v e1 e2 e3
    · rw [List.getElem?_append_right (by omega), List.getElem?_replicate] at e2
      split at e2 <;> cases e2
  cell := I.cell
  free := I.free
  freeC := I.freeC
  pin := I.pin
  hok := I.hok
  len := by
    show _ = (X.N ++ ys).length
    rw [List.length_append, List.length_append, List.length_replicate, I.len]
theorem Inv.less {X : Cx} {pins : List (Addr × Obj)} {σ : L2.St} {H : Hp} {s : Shared} {ys : List Str} (len : σ.length = X.N.length) (I : Inv { X with N := X.N ++ ys } pins (σ ++ List.replicate ys.length none) H s) : Inv X pins σ H s where
  ok := ⟨I.ok.mod, I.ok.kind, I.ok.glob, I.ok.blt, I.ok.above, I.ok.inj, I.ok.has, I.ok.cab, I.ok.hd, I.ok.frames, I.ok.stk, I.ok.exf, I.ok.bs, I.ok.bsz, I.ok.noex, I.ok.exfs, I.ok.funs, I.ok.frf⟩
  os := I.os
  bare := I.bare
  base := I.base
  loc := by
    obtain ⟨m, h1, h2⟩ := I.loc
    refine ⟨m, h1, fun i x v e1 e2 e3 => h2 i x v ?_ ?_ e3⟩
    · show (X.N ++ ys)[i]? = some x
      rw [List.getElem?_append_left (List.getElem?_eq_some_iff.mp e1).1]
      exact e1
    · rw [List.getElem?_append_left (List.getElem?_eq_some_iff.mp e2).1]
      exact e2
  cell := I.cell
  free := I.free
  freeC := I.freeC
  pin := I.pin
  hok := I.hok
  len := len
def tMore (n : Nat) (t : TE) : TE := fun σ H Q => t (σ ++ List.replicate n none) H Q
theorem pe_more {X : Cx} {e : Expr} {t : TE} (ys : List Str) (h : PE { X with N := X.N ++ ys } e t) : PE X e (tMore ys.length t) := by
  refine ⟨fun pins s σ H Q I hw => ?_⟩
  refine wpAny_mono (h.run pins s _ H Q (Inv.more ys I) hw) ?_ fun _ _ z => z
  rintro v s1 ⟨x, H1, I1, r1, q1⟩
  exact ⟨x, H1, Inv.less I.len I1, r1, q1⟩
end VQ
namespace VQ
open PySem L2 LamX
abbrev sNeedAlike : Stmt := top 24
abbrev sUnlike : Stmt := inClass (top 4) 0
theorem scUnlike : FnScope ["self"] ["self"] (defScope sUnlike) := ⟨rfl, rfl, rfl, by decide +kernel, rfl, by decide +kernel, by decide +kernel⟩
section
variable {P : Program} {w : World} {K : PySem.W.Frag} {mg : Str → Option Value} {base : Heap}
def spAlikeT (K : PySem.W.Frag) (C : Addr) : Sp := fun vs H Q E => ∃ (a b : Addr) (xs ys : List V), vs = [.ref a, .ref b] ∧ H a = some (.tup xs) ∧ H b = some (.tup ys) ∧
  (xs.length = ys.length → Q .non H) ∧ (xs.length ≠ ys.length → ∀ d, H d = none → E (.ref C) (some d) (upd H d (calledAs "Unlike")))
theorem scNeedAlike : FnScope ["one", "other"] ["one", "other"] (defScope sNeedAlike) := ⟨rfl, rfl, rfl, by decide +kernel, rfl, by decide +kernel, by decide +kernel⟩
theorem ok_needalike {f C fI : Addr} {fd fdI : FuncData} (F : Fun K "need_alike" "need_alike" sNeedAlike f fd) (b : Blt mg) (Er : ErrC K mg "Unlike" C fI fdI "Unlike.__init__" sUnlike) : FnOk P w K mg base (L2.CX P w) 3 f fd ["one", "other"] (spAlikeT K C) := by
  have GI : FnOk P w K mg base CX0 1 fI fdI ["self"] (spErr K C "Unlike") := ok_err Er scUnlike (.inl rfl) rfl
  refine F.okX scNeedAlike (fun vs H Q E h => ?_) (fun cdv A outer s H vs Q E hr h => ?_)
  · obtain ⟨a, b, xs, ys, rfl, _⟩ := h
    rfl
  · obtain ⟨a, a', xs, ys, rfl, ha, hb, k1, k2⟩ := h
    refine ⟨_, pss_one (ps_if (pt_cmpR op_ne (pe_callB call_len_seq (by rfl) b.len PySem.boot_len (pa_cons (pv 0) pa_nil)) (pe_callB call_len_seq (by rfl) b.len PySem.boot_len (pa_cons (pv 1) pa_nil)) (nomark _))
        (pss_one (ps_raise rfl (takes_of rfl rfl rfl rfl) (pmk_oex0 Er.ox Er.it Er.ty GI hr Er.bd pass0 rfl Er.gl))) pss_nil), ?_⟩
    refine ⟨_, rfl, a, xs, rfl, .inr (SqT.of ha), _, rfl, a', ys, rfl, .inr (SqT.of hb), rfl, _, rfl, ?_⟩
    by_cases e : xs.length = ys.length
    · exact iteNS (congrArg (fun n : Nat => V.int (n : Int)) e) (k1 e)
    · have ne : ¬ V.int (xs.length : Int) = V.int (ys.length : Int) := fun z => by
        injection z with z
        omega
      rw [decide_eq_false ne]
      exact iteT (raise_plain (σ := []) fun d hd => k2 e d hd)
end
end VQ
namespace VQ
open PySem L2 LamX
/-! ### what two boxes are asked -/
/-- the places of a box -/
structure IsBoxS (zs : List Str) : Prop where
  beg : ∀ z ∈ zs, begB (.str z) = true
  lo : 1 ≤ zs.length
  hi : zs.length ≤ 5
theorem allO_box {o : Option (List V)} (h : allO begB o = true) : ∃ zs : List Str, o = some (zs.map V.str) ∧ IsBoxS zs := by
  cases o with
  | none => cases h
  | some xs =>
    have h' : (placesO (some xs) && xs.all begB) = true := h
    rw [Bool.and_eq_true] at h'
    obtain ⟨h1, h2⟩ := h'
    have h1' : (decide (1 ≤ xs.length) && decide (xs.length ≤ 5)) = true := h1
    rw [Bool.and_eq_true, decide_eq_true_eq, decide_eq_true_eq] at h1'
    have key : ∀ l : List V, l.all begB = true → ∃ zs : List Str, l = zs.map V.str ∧ ∀ z ∈ zs, begB (.str z) = true := by
      intro l
      induction l with
      | nil => exact fun _ => ⟨[], rfl, fun z m => by cases m⟩
      | cons x l ih =>
        intro q
        rw [List.all_cons, Bool.and_eq_true] at q
        obtain ⟨zs, e, a⟩ := ih q.2
        cases x with
        | str z =>
          refine ⟨z :: zs, by rw [e]; rfl, fun u m => ?_⟩
          rcases List.mem_cons.mp m with rfl | m
          · exact q.1
          · exact a u m
        | _ => exact absurd q.1 (by intro z; cases z)
    obtain ⟨zs, rfl, a⟩ := key xs h2
    rw [List.length_map] at h1'
    exact ⟨zs, rfl, a, h1'.1, h1'.2⟩
theorem box_allO {zs : List Str} (h : IsBoxS zs) : allO begB (some (zs.map V.str)) = true := by
  show ((decide (1 ≤ (zs.map V.str).length) && decide ((zs.map V.str).length ≤ 5)) && (zs.map V.str).all begB) = true
  rw [List.length_map, decide_eq_true h.lo, decide_eq_true h.hi, List.all_map, Bool.true_and, Bool.true_and]
  exact List.all_eq_true.mpr fun z m => h.beg z m
theorem beg_len {z : Str} (h : begB (.str z) = true) : z.length ≤ 5 := by
  have h' : (decide (z.length ≤ 5) && z.cps.toList.all signB) = true := h
  rw [Bool.and_eq_true, decide_eq_true_eq] at h'
  exact h'.1
/-- a.startswith(b) -/
def rStarts : V → List V → Hp → VK → Prop := fun x xs H Q => ∃ a b, x = .str a ∧ xs = [.str b] ∧ Q (.bl (Txt.startswith a b)) H
/-- a turn of a comprehension over zip: the lists so far -/
theorem zip_snoc {α β γ : Type} (g : α → β → γ) {zs : List α} {ws : List β} {i : Nat} {z : α} {w : β} (hz : zs[i]? = some z) (hw : ws[i]? = some w) : List.zipWith g (zs.take i) (ws.take i) ++ [g z w] = List.zipWith g (zs.take (i + 1)) (ws.take (i + 1)) := by
  have lz : i < zs.length := (List.getElem?_eq_some_iff.mp hz).1
  have lw : i < ws.length := (List.getElem?_eq_some_iff.mp hw).1
  rw [List.take_add_one, List.take_add_one, hz, hw, List.zipWith_append (by rw [List.length_take, List.length_take]; omega)]
  rfl
end VQ
namespace VQ
open PySem L2 LamX
abbrev sNeedBoxes : Stmt := top 25
abbrev sLonger : Stmt := top 26
abbrev sLongers : Stmt := top 27
/-- two things are handed in that should be boxes of one room -/
def spTwo (K : PySem.W.Frag) (CB CU : Addr) (R : List Str → List Str → Hp → VK → Prop) : Sp := fun vs H Q E => ∃ (x y : V) (o p : Option (List V)), vs = [x, y] ∧ Thing K H x o ∧ Thing K H y p ∧
  (∀ zs ws : List Str, o = some (zs.map V.str) → p = some (ws.map V.str) → IsBoxS zs → IsBoxS ws → zs.length = ws.length → R zs ws H Q) ∧
  (allO begB o = false ∨ allO begB p = false → ∀ H' d, Same H H' → H' d = none → E (.ref CB) (some d) (upd H' d (calledAs "BadBox"))) ∧
  (∀ zs ws : List Str, o = some (zs.map V.str) → p = some (ws.map V.str) → IsBoxS zs → IsBoxS ws → zs.length ≠ ws.length → ∀ H' d, Same H H' → H' d = none → E (.ref CU) (some d) (upd H' d (calledAs "Unlike")))
section
variable {P : Program} {w : World} {K : PySem.W.Frag} {mg : Str → Option Value} {base : Heap}
theorem scNeedBoxes : FnScope ["one", "other"] ["one", "other"] (defScope sNeedBoxes) := ⟨rfl, rfl, rfl, by decide +kernel, rfl, by decide +kernel, by decide +kernel⟩
theorem ok_needboxes {f fN fL fX fB fP CB fIB CU fIU : Addr} {fd fdN fdL fdX fdB fdP fdIB fdIU : FuncData} {tkM tk5 : Tok} (F : Fun K "need_boxes" "need_boxes" sNeedBoxes f fd) (b : Blt mg) (M : mg "MOST_PLACES" = some (.int 5 tkM)) (Fg : mg "FIGURES" = some (.int 5 tk5)) (aB : At K mg "is_beginning" sIsBeg ["thing"] fB fdB) (aP : At K mg "is_places" sIsPlaces ["thing"] fP fdP)
    (aX : At K mg "is_box" sIsBox ["thing"] fX fdX) (aN : At K mg "need_box" sNeedBox ["box"] fN fdN) (aL : At K mg "need_alike" sNeedAlike ["one", "other"] fL fdL) (EB : ErrC K mg "BadBox" CB fIB fdIB "BadBox.__init__" sBadBox) (EU : ErrC K mg "Unlike" CU fIU fdIU "Unlike.__init__" sUnlike) :
    FnOk P w K mg base (L2.CX P w) 4 f fd ["one", "other"] (spTwo K CB CU fun _ _ H Q => ∀ H', Same H H' → Q .non H') := by
  have GN : FnOk P w K mg base (L2.CX P w) 3 fN fdN ["box"] (spNeedT K begB CB "BadBox") := ok_needbox aN.fn b M Fg aB aP aX EB
  have GL : FnOk P w K mg base (L2.CX P w) 3 fL fdL ["one", "other"] (spAlikeT K CU) := ok_needalike aL.fn b EU
  refine F.okX scNeedBoxes (fun vs H Q E h => ?_) (fun cdv A outer s H vs Q E hr h => ?_)
  · obtain ⟨x, y, o, p, rfl, _⟩ := h
    rfl
  · obtain ⟨x, y, o, p, rfl, tx, ty, k1, k2, k3⟩ := h
    refine ⟨_, pss_cons (ps_expr (pe_call GN hr rfl aN.gl aN.fn.kp aN.bd .nil (passes_call (takes_of rfl rfl rfl rfl) (fun _ _ _ _ h => h)) (pa_cons (pv 0) pa_nil)))
      (pss_cons (ps_expr (pe_call GN hr rfl aN.gl aN.fn.kp aN.bd .nil (passes_call (takes_of rfl rfl rfl rfl) (fun _ _ _ _ h => h)) (pa_cons (pv 1) pa_nil)))
      (pss_one (ps_expr (pe_call GL hr rfl aL.gl aL.fn.kp aL.bd .nil (passes_call (takes_of rfl rfl rfl rfl) (fun _ _ _ _ h => h)) (pa_cons (pv 0) (pa_cons (pv 1) pa_nil)))))), ?_⟩
    refine ⟨_, rfl, x, o, rfl, tx, fun yx H1 s1 => ?_, fun no H1 d s1 hd => k2 (.inl no) H1 d s1 hd⟩
    refine ⟨_, rfl, y, p, rfl, ty.same s1, fun yy H2 s2 => ?_, fun no H2 d s2 hd => k2 (.inr no) H2 d (s1.trans s2) hd⟩
    have s12 := s1.trans s2
    obtain ⟨zs, rfl, bz⟩ := allO_box yx
    obtain ⟨ws, rfl, bw⟩ := allO_box yy
    cases tx with
    | @tup a _ ha _ _ =>
      cases ty with
      | @tup a' _ ha' _ _ =>
        refine ⟨_, rfl, _, rfl, a, a', _, _, rfl, s12 _ _ ha, s12 _ _ ha', fun e => ?_, fun e d hd => ?_⟩
        · rw [List.length_map, List.length_map] at e
          exact k1 zs ws rfl rfl bz bw e H2 s12
        · rw [List.length_map, List.length_map] at e
          exact k3 zs ws rfl rfl bz bw e H2 d s12 hd
/-! ### the longer one -/
def longV (a b : Str) : V := if Txt.startswith a b = true then .str a else if Txt.startswith b a = true then .str b else .non
def spLonger : Sp := fun vs H Q _ => ∃ a b : Str, vs = [.str a, .str b] ∧ Q (longV a b) H
theorem scLonger : FnScope ["one", "other"] ["one", "other"] (defScope sLonger) := ⟨rfl, rfl, rfl, by decide +kernel, rfl, by decide +kernel, by decide +kernel⟩
theorem ok_longer {f : Addr} {fd : FuncData} (F : Fun K "longer" "longer" sLonger f fd) : FnOk P w K mg base CX0 1 f fd ["one", "other"] spLonger := by
  refine F.ok scLonger (fun vs H Q E h => ?_) (fun cdv A outer s H vs Q E hr h => ?_)
  · obtain ⟨x, y, rfl, _⟩ := h
    rfl
  · obtain ⟨x, y, rfl, k⟩ := h
    refine ⟨_, pss_cons (ps_if (pt_val (pe_bm PySem.F.plainAttrs_str PySem.F.slot_str_startswith PySem.F.type_str_startswith mt_startswith (pv 0) (pa_cons (pv 1) pa_nil))) (pss_one (ps_ret (pv 0))) pss_nil)
      (pss_cons (ps_if (pt_val (pe_bm PySem.F.plainAttrs_str PySem.F.slot_str_startswith PySem.F.type_str_startswith mt_startswith (pv 1) (pa_cons (pv 0) pa_nil))) (pss_one (ps_ret (pv 1))) pss_nil)
      (pss_one (ps_ret pe_non))), ?_⟩
    refine ⟨_, rfl, rfl, _, rfl, x, y, rfl, rfl, _, rfl, ?_⟩
    unfold longV at k
    cases e : Txt.startswith x y with
    | true =>
      rw [e, if_pos rfl] at k
      exact iteT ⟨_, rfl, k⟩
    | false =>
      rw [e, if_neg (by decide)] at k
      refine iteF ⟨_, rfl, rfl, _, rfl, y, x, rfl, rfl, _, rfl, ?_⟩
      cases e2 : Txt.startswith y x with
      | true =>
        rw [e2, if_pos rfl] at k
        exact iteT ⟨_, rfl, k⟩
      | false =>
        rw [e2, if_neg (by decide)] at k
        exact iteF k
def longsL (zs ws : List Str) : List V := List.zipWith longV zs ws
def spLongers : Sp := fun vs H Q _ => ∃ (a b : Addr) (zs ws : List Str), vs = [.ref a, .ref b] ∧ H a = some (.tup (zs.map V.str)) ∧ H b = some (.tup (ws.map V.str)) ∧ zs.length = ws.length ∧ zs.length ≤ 1000 ∧
  ∀ (D : Addr) (H' : Hp), H D = none → Same H H' → H' D = some (.lst (longsL zs ws)) → Q (.ref D) H'
theorem scLongers : FnScope ["one", "other", "mine", "its"] ["one", "other"] (defScope sLongers) := ⟨rfl, rfl, rfl, by decide +kernel, rfl, by decide +kernel, by decide +kernel⟩
theorem ok_longers {f fL : Addr} {fd fdL : FuncData} (F : Fun K "longer_ones" "longer_ones" sLongers f fd) (zp : mg "zip" = none) (aL : At K mg "longer" sLonger ["one", "other"] fL fdL) : FnOk P w K mg base CX0 2 f fd ["one", "other"] spLongers := by
  have GL : FnOk P w K mg base CX0 1 fL fdL ["one", "other"] spLonger := ok_longer aL.fn
  refine F.ok scLongers (fun vs H Q E h => ?_) (fun cdv A outer s H vs Q E hr h => ?_)
  · obtain ⟨a, b, zs, ws, rfl, _⟩ := h
    rfl
  · obtain ⟨a, a', zs, ws, rfl, ha, hb, len, l1, k⟩ := h
    refine ⟨_, pss_one (ps_ret (pe_lc (own := [("mine", 2), ("its", 3)]) (g := gTup K 2 (gCons (gName 2) (gCons (gName 3) gNil))) (tt := tYes) (te := tCall spLonger [] E0 (tCons (tVar 2) (tCons (tVar 3) tNil))) rfl scLongers.nd (RZ.pi_zipA rfl zp (pa_cons (pv 0) (pa_cons (pv 1) pa_nil)))
      (blkOk_by (N := ["one", "other", "mine", "its"]) (sc := defScope sLongers) (by decide +kernel)) (fun _ _ _ _ _ => pg_tup rfl (pgs_cons (pg_name (i := 2) scLongers.nd rfl (.inl rfl)) (pgs_cons (pg_name (i := 3) scLongers.nd rfl (.inl rfl)) pgs_nil))) (fun _ _ _ _ _ => pts_nil)
      (fun _ _ _ _ _ => pe_call GL hr rfl aL.gl aL.fn.kp aL.bd .nil pass0 (pa_cons (pv 2) (pa_cons (pv 3) pa_nil))))), ?_⟩
    refine ⟨_, rfl, _, rfl, a, a', _, _, rfl, .inr ⟨SqT.of ha, SqT.of hb, fun D hD => ?_⟩⟩
    refine lc_zipT (xs := zs.map V.str) (ys := ws.map V.str) (by rw [List.length_map, List.length_map]; exact len) (fun i H' => Same H H' ∧ H' D = some (.lst (List.zipWith longV (zs.take i) (ws.take i)))) ⟨same_new hD, upd_same⟩ (fun i H' q => ⟨SqT.of (q.1 _ _ ha), SqT.of (q.1 _ _ hb)⟩) ?_ ?_
    · rintro i x y T H2 hx hy ⟨s2, h2⟩ nT
      obtain ⟨z, ez, rfl⟩ := map_get hx
      obtain ⟨w', ew, rfl⟩ := map_get hy
      have DT : D ≠ T := fun q => by
        rw [← q, h2] at nT
        cases nT
      refine ⟨T, _, rfl, SqT.of upd_same, rfl, _, _, rfl, _, _, rfl, rfl, rfl, yes_turn ?_⟩
      refine ⟨_, rfl, _, rfl, z, w', rfl, _, (upd_ne DT).trans h2, ?_, ?_, ?_⟩
      · rw [List.length_zipWith, List.length_take, List.length_take]
        exact Nat.lt_of_le_of_lt (show _ ≤ 1000 by omega) (by decide)
      · intro q o z'
        have nq : q ≠ D := fun y => by
          rw [y, hD] at z'
          cases z'
        have nq2 : q ≠ T := fun y => by
          rw [y, (s2.free nT)] at z'
          cases z'
        rw [upd_ne nq, upd_ne nq2]
        exact s2 _ _ z'
      · rw [upd_same, zip_snoc longV ez ew]
    · rintro H2 ⟨s2, h2⟩
      refine k D H2 hD s2 ?_
      rw [h2, List.length_map, List.take_of_length_le (Nat.le_refl _), List.take_of_length_le (by omega)]
      rfl
theorem longs_flat : ∀ zs ws : List Str, (longsL zs ws).all flatV = true
  | [], _ => by unfold longsL; rw [List.zipWith_nil_left]; rfl
  | _ :: _, [] => by unfold longsL; rw [List.zipWith_nil_right]; rfl
  | z :: zs, w :: ws => by
    unfold longsL
    rw [List.zipWith_cons_cons, List.all_cons, Bool.and_eq_true]
    refine ⟨?_, longs_flat zs ws⟩
    unfold longV
    split
    · rfl
    · split <;> rfl
end
end VQ
namespace VQ
open PySem L2 LamX
abbrev sBox : Stmt := top 39
section
variable {P : Program} {w : World} {K : PySem.W.Frag} {mg : Str → Option Value} {base : Heap}
/-- a new tuple whose items are drawn -/
def spTupDraw (ok : V → Prop) : Sp := fun vs H Q _ => ∃ (b : Addr) (n : Nat), vs = [.ref b, .int (n : Int)] ∧ Bag H b ∧ n ≤ 5 ∧ ∀ (a : Addr) (xs : List V) (H' : Hp), xs.length = n → (∀ x ∈ xs, ok x) → H a = none → H' a = some (.tup xs) → Bag H' b → Keep b H H' → Q (.ref a) H'
theorem scBox : FnScope ["_law_bag_here", "_law_many", "_law_k"] ["_law_bag_here", "_law_many"] (defScope sBox) := ⟨rfl, rfl, rfl, by decide +kernel, rfl, by decide +kernel, by decide +kernel⟩
/-- is a text of begs -/
def IsBeg (x : V) : Prop := ∃ z, x = .str z ∧ z ∈ begs
theorem ok_box {f fG : Addr} {fd fdG : FuncData} (F : Fun K "_law_box" "_law_box" sBox f fd) (b : Blt mg) (aG : At K mg "_law_begin" sBegin ["_law_bag_here"] fG fdG) (GG : FnOk P w K mg base CX0 4 fG fdG ["_law_bag_here"] spBegin) :
    FnOk P w K mg base CX0 5 f fd ["_law_bag_here", "_law_many"] (spTupDraw IsBeg) := by
  refine F.ok scBox (fun vs H Q E h => ?_) (fun cdv A outer s H vs Q E hr h => ?_)
  · obtain ⟨bg, n, rfl, _⟩ := h
    rfl
  · obtain ⟨bg, n, rfl, B, hn, k⟩ := h
    refine ⟨_, pss_one (ps_ret (pe_callTy call_tuple_of (by rfl) b.tuple (by decide +kernel) (pa_cons
      (pe_lc (own := [("_law_k", 2)]) (g := gName 2) (tt := tYes) (te := tCall spBegin [] E0 (tCons (tVar 0) tNil)) rfl scBox.nd (pi_range1 rfl b.range (pa_cons (pv 1) pa_nil))
        (blkOk_by (N := ["_law_bag_here", "_law_many", "_law_k"]) (sc := defScope sBox) (by decide +kernel)) (fun _ _ _ _ _ => pg_name (i := 2) scBox.nd rfl (.inl rfl)) (fun _ _ _ _ _ => pts_nil)
        (fun _ _ _ _ _ => pe_call GG hr rfl aG.gl aG.fn.kp aG.bd .nil pass0 (pa_cons (pv 0) pa_nil))) pa_nil))), ?_⟩
    refine ⟨_, rfl, n, rfl, by omega, by omega, fun D hD => ?_⟩
    obtain ⟨B1, K1⟩ := Bag.put (o := .lst []) B hD (Keep.refl bg H) B
    refine lc_range (lo := 0) (n := n) (fun i H' => Bag H' bg ∧ Keep bg H H' ∧ ∃ xs : List V, xs.length = i ∧ (∀ x ∈ xs, IsBeg x) ∧ H' D = some (.lst xs)) ⟨B1, K1, [], rfl, (fun x m => by cases m), upd_same⟩ ?_ ?_
    · rintro i H2 hi ⟨B2, K2, xs, el, ex, h2⟩
      refine ⟨rfl, yes_turn ?_⟩
      refine ⟨_, rfl, bg, rfl, B2, fun z H3 hz B3 K3 => ?_⟩
      have Db : D ≠ bg := fun e => by
        obtain ⟨o, q⟩ := B.here
        rw [← e, hD] at q
        cases q
      obtain ⟨B4, K4⟩ := Bag.put (o := .lst (xs ++ [.str z])) B hD (K2.trans K3) B3
      refine ⟨_, K3.1 _ _ Db h2, by rw [el]; exact Nat.lt_of_lt_of_le (show i < 6 by omega) (by decide), B4, K4, _, by rw [List.length_append, el]; rfl, fun x m => ?_, upd_same⟩
      rcases List.mem_append.mp m with m | m
      · exact ex x m
      · exact ⟨z, List.mem_singleton.mp m, hz⟩
    · rintro H2 ⟨B2, K2, xs, el, ex, h2⟩
      refine ⟨D, xs, rfl, .inl ⟨SqL.of h2, fun l hl => ?_⟩⟩
      have hl0 : H l = none := K2.free B B2 hl
      obtain ⟨B3, K3⟩ := Bag.put (o := .tup xs) B hl0 K2 B2
      exact k l xs _ el ex hl0 upd_same B3 K3
end
end VQ
namespace VQ
open PySem L2 LamX
/-- a tuple of begs -/
def BoxAt (H : Hp) (a : Addr) (zs : List Str) : Prop := H a = some (.tup (zs.map V.str)) ∧ (∀ z ∈ zs, z ∈ begs) ∧ zs.length ≤ 5
theorem begs_of : ∀ {xs : List V}, (∀ x ∈ xs, IsBeg x) → ∃ zs : List Str, xs = zs.map V.str ∧ ∀ z ∈ zs, z ∈ begs
  | [], _ => ⟨[], rfl, fun z m => by cases m⟩
  | x :: xs, h => by
    obtain ⟨z, rfl, hz⟩ := h x List.mem_cons_self
    obtain ⟨zs, rfl, a⟩ := begs_of (xs := xs) fun y m => h y (List.mem_cons_of_mem _ m)
    refine ⟨z :: zs, rfl, fun u m => ?_⟩
    rcases List.mem_cons.mp m with rfl | m
    · exact hz
    · exact a u m
section
variable {K : PySem.W.Frag} {H H' : Hp}
theorem BoxAt.same {a : Addr} {zs : List Str} (h : BoxAt H a zs) (s : Same H H') : BoxAt H' a zs := ⟨s _ _ h.1, h.2⟩
theorem BoxAt.keep {a b : Addr} {zs : List Str} (h : BoxAt H a zs) (B : Bag H b) (k : Keep b H H') : BoxAt H' a zs := ⟨k.tup B h.1, h.2⟩
theorem BoxAt.extN {a : Addr} {zs : List Str} (h : BoxAt H a zs) (e : ExtN H H') : BoxAt H' a zs := ⟨e _ _ h.1 (fun ps z => by cases z), h.2⟩
theorem BoxAt.thing {a : Addr} {zs : List Str} (h : BoxAt H a zs) : Thing K H (.ref a) (some (zs.map V.str)) := by
  refine .tup h.1 (fun x m => ?_) (by rw [List.length_map]; exact Nat.le_trans h.2.2 (by decide))
  obtain ⟨z, mz, rfl⟩ := List.mem_map.mp m
  exact Part.str z (Nat.le_trans (begs_len z (h.2.1 z mz)) (by decide))
theorem BoxAt.is {a : Addr} {zs : List Str} (h : BoxAt H a zs) (h1 : 1 ≤ zs.length) : IsBoxS zs := ⟨fun z m => begs_yes z (h.2.1 z m), h1, h.2.2⟩
theorem strs_inj : ∀ {zs ws : List Str}, zs.map V.str = ws.map V.str → zs = ws
  | [], [], _ => rfl
  | [], _ :: _, h => by cases h
  | _ :: _, [], h => by cases h
  | z :: zs, w :: ws, h => by
    rw [List.map_cons, List.map_cons] at h
    injection h with h1 h2
    injection h1 with h1
    rw [h1, strs_inj h2]
/-! ### likeness -/
inductive Alikes (H : Hp) (n : Nat) : List V → List V → Prop
  | nil : Alikes H n [] []
  | cons {x y : V} {xs ys : List V} (h : Alike H n x y) (t : Alikes H n xs ys) : Alikes H n (x :: xs) (y :: ys)
theorem alike_strs {n : Nat} {a b : Addr} {us : List Str} (ha : H a = some (.tup (us.map V.str))) (hb : H b = some (.tup (us.map V.str))) (hl : us.length ≤ 1000) : Alike H (n + 1) (.ref a) (.ref b) := by
  refine .tup ha hb rfl (by rw [List.length_map]; exact hl) fun i x y hx hy => ?_
  rw [hx] at hy
  cases hy
  obtain ⟨z, _, rfl⟩ := map_get hx
  exact .str n z
theorem alike_list {n : Nat} {a b : Addr} {xs ys : List V} (ha : H a = some (.lst xs)) (hb : H b = some (.lst ys)) (hl : ys.length ≤ 1000) (h : Alikes H n xs ys) : Alike H (n + 1) (.ref a) (.ref b) := by
  have key : ∀ {xs ys : List V}, Alikes H n xs ys → xs.length = ys.length ∧ ∀ (i : Nat) (x y : V), xs[i]? = some x → ys[i]? = some y → Alike H n x y := by
    intro xs ys h
    induction h with
    | nil => exact ⟨rfl, fun i x y hx => by cases hx⟩
    | cons r _ ih =>
      refine ⟨by rw [List.length_cons, List.length_cons, ih.1], fun i x y hx hy => ?_⟩
      cases i with
      | zero =>
        cases hx
        cases hy
        exact r
      | succ i => exact ih.2 i x y hx hy
  obtain ⟨e, g⟩ := key h
  exact .lst ha hb e hl g
/-! ### a tuple from a place on -/
theorem cut_from (xs : List V) {k : Nat} (h : k ≤ xs.length) : cutV xs (some (k : Int)) none = xs.drop k := by
  unfold cutV
  rw [HT.sIx_nat, HT.sIx_none, Nat.min_eq_left h]
  exact List.take_of_length_le (by rw [List.length_drop]; omega)
theorem from_part {n k : Nat} (h1 : 1 ≤ k) (h2 : k ≤ n) : ¬ (HT.sIx n 0 (some (k : Int)) = 0 ∧ HT.sIx n n none = n) := fun z => by
  rw [HT.sIx_nat, Nat.min_eq_left h2] at z
  omega
end
end VQ
namespace VQ
open PySem L2 LamX
abbrev sStarts : Stmt := top 40
section
variable {P : Program} {w : World} {K : PySem.W.Frag} {mg : Str → Option Value} {base : Heap}
def spStarts : Sp := fun vs H Q _ => ∃ z u : Str, vs = [.str z, .str u] ∧ z.length ≤ 1000 ∧ u.length ≤ 1000 ∧ Q (.bl (beginsB z u)) H
theorem scStarts : FnScope ["_law_one", "_law_other"] ["_law_one", "_law_other"] (defScope sStarts) := ⟨rfl, rfl, rfl, by decide +kernel, rfl, by decide +kernel, by decide +kernel⟩
theorem ok_starts {f : Addr} {fd : FuncData} (F : Fun K "_law_starts" "_law_starts" sStarts f fd) (b : Blt mg) : FnOk P w K mg base CX0 1 f fd ["_law_one", "_law_other"] spStarts := by
  refine F.ok scStarts (fun vs H Q E h => ?_) (fun cdv A outer s H vs Q E hr h => ?_)
  · obtain ⟨z, u, rfl, _⟩ := h
    rfl
  · obtain ⟨z, u, rfl, lz, lu, k⟩ := h
    refine ⟨_, pss_one (ps_ret (pe_cmpR op_eq (pe_slice sl_str (pv 0) po_none (po_some (pe_callB call_len_str (by rfl) b.len PySem.boot_len (pa_cons (pv 1) pa_nil)))) (pv 1) (nomark _))), ?_⟩
    refine ⟨_, rfl, _, rfl, u, rfl, Nat.le_trans lu (by decide), _, rfl, z, rfl, Nat.le_trans lz (by decide), _, rfl, rfl, ?_⟩
    have e : decide (V.str (cutS z none (some (u.length : Int))) = V.str u) = beginsB z u := by
      unfold beginsB
      rw [cut_to]
      by_cases q : tk z u.length = u
      · rw [decide_eq_true q, decide_eq_true (congrArg V.str q)]
      · rw [decide_eq_false q, decide_eq_false (fun x => q (V.str.inj x))]
    rw [← e] at k
    exact k
end
end VQ
namespace VQ
open PySem L2 LamX
/-! ### things that are neither boxes nor points -/
abbrev sOddThing : Stmt := top 41
/-- what a plain thing's kind lives on -/
def Held (H H' : Hp) : Prop := ∀ a o, H a = some o → (∀ ps, o ≠ .tbl ps) → H' a = some o ∨ ∃ xs ys, o = .lst xs ∧ H' a = some (.lst ys)
theorem Same.held {H H' : Hp} (s : Same H H') : Held H H' := fun a o h _ => .inl (s a o h)
theorem ExtN.held {H H' : Hp} (s : ExtN H H') : Held H H' := fun a o h n => .inl (s a o h n)
theorem Keep.held {b : Addr} {H H' : Hp} (k : Keep b H H') (B : Bag H b) (B' : Bag H' b) : Held H H' := fun a o h _ => by
  by_cases e : a = b
  · obtain ⟨l, ns, i, r, x, n, nl, h1, _⟩ := B
    obtain ⟨l', ns', i', r', x', n', nl', g1, _⟩ := B'
    rw [e, h1] at h
    exact .inr ⟨_, _, (Option.some.inj h).symm, by rw [e]; exact g1⟩
  · exact .inl (k.1 a o e h)
section
variable {P : Program} {w : World} {K : PySem.W.Frag} {mg : Str → Option Value} {base : Heap}
theorem TyX.basic_held {H H' : Hp} {x : V} {t : String} (s : Held H H') (ty : TyX K H x (.type t)) (m : t ∈ basics) : TyX K H' x (.type t) := by
  generalize e : Value.type t = tv at ty
  cases ty with
  | base b =>
    cases b with
    | non => exact .base .non
    | bl y => exact .base (.bl y)
    | int i => exact .base (.int i)
    | str y => exact .base (.str y)
    | flt y => exact .base (.flt y)
    | lst q =>
      rcases s _ _ q (fun ps z => by cases z) with q' | ⟨_, _, _, q'⟩
      · exact .base (.lst q')
      · exact .base (.lst q')
    | frz q =>
      rcases s _ _ q (fun ps z => by cases z) with q' | ⟨_, _, z, _⟩
      · exact .base (.frz q')
      · cases z
    | tup q =>
      rcases s _ _ q (fun ps z => by cases z) with q' | ⟨_, _, z, _⟩
      · exact .base (.tup q')
      · cases z
    | dK q => cases e; exact absurd m (by decide)
    | dT q => cases e; exact absurd m (by decide)
    | ins _ _ _ _ _ _ => cases e
  | byt y => exact .byt y
  | set q => cases e; exact absurd m (by decide)
  | kList q c => exact .kList q c
  | kTuple q c => exact .kTuple q c
  | kDict q c => exact .kDict q c
  | fTuple q =>
    rcases s _ _ q (fun ps z => by cases z) with q' | ⟨_, _, z, _⟩
    · exact .fTuple q'
    · cases z
  | fDict q => cases e; exact absurd m (by decide)
theorem Part.held {H H' : Hp} {x : V} (s : Held H H') (h : Part K H x) : Part K H' x := by
  obtain ⟨t, a, b, c⟩ := h
  exact ⟨t, TyX.basic_held s a b, b, c⟩
theorem Thing.held {H H' : Hp} {x : V} {o : Option (List V)} (s : Held H H') (h : Thing K H x o) : Thing K H' x o := by
  cases h with
  | tup h hp hl =>
    rcases s _ _ h (fun ps z => by cases z) with q' | ⟨_, _, z, _⟩
    · exact .tup q' (fun x m => Part.held s (hp x m)) hl
    · cases z
  | oth ty m nt => exact .oth (TyX.basic_held s ty m) m nt
/-- no box and no point -/
def Bad (K : PySem.W.Frag) (H : Hp) (v : V) : Prop := ∃ o, Thing K H v o ∧ allO begB o = false ∧ allO worthB o = false
theorem Bad.held {H H' : Hp} {x : V} (s : Held H H') (h : Bad K H x) : Bad K H' x := by
  obtain ⟨o, a, b, c⟩ := h
  exact ⟨o, a.held s, b, c⟩
theorem Bad.same {H H' : Hp} {x : V} (s : Same H H') (h : Bad K H x) : Bad K H' x := h.held (Same.held s)
theorem Bad.oth {H : Hp} {x : V} {t : String} (ty : TyX K H x (.type t)) (m : t ∈ basics) (nt : t ≠ "tuple") : Bad K H x := ⟨none, .oth ty m nt, rfl, rfl⟩
theorem Bad.tup {H : Hp} {a : Addr} {xs : List V} (h : H a = some (.tup xs)) (hp : ∀ x ∈ xs, Part K H x) (hl : xs.length ≤ 1000) (n1 : allO begB (some xs) = false) (n2 : allO worthB (some xs) = false) : Bad K H (.ref a) := ⟨_, .tup h hp hl, n1, n2⟩
/-- as many times the same -/
theorem allO_rep {p : V → Bool} {x : V} {n : Nat} (h : p x = false) (hn : 1 ≤ n) : allO p (some (List.replicate n x)) = false := by
  show (_ && (List.replicate n x).all p) = false
  obtain ⟨m, rfl⟩ : ∃ m, n = m + 1 := ⟨n - 1, by omega⟩
  rw [List.replicate_succ, List.all_cons, h, Bool.false_and, Bool.and_false]
theorem allO_len {p : V → Bool} {xs : List V} (h : ¬ (1 ≤ xs.length ∧ xs.length ≤ 5)) : allO p (some xs) = false := by
  show ((decide (1 ≤ xs.length) && decide (xs.length ≤ 5)) && _) = false
  by_cases q : 1 ≤ xs.length
  · rw [decide_eq_false (show ¬ xs.length ≤ 5 from fun z => h ⟨q, z⟩), Bool.and_false, Bool.false_and]
  · rw [decide_eq_false q, Bool.false_and, Bool.false_and]
theorem Bad.rep {H : Hp} {a : Addr} {x : V} {n : Nat} (h : H a = some (.tup (List.replicate n x))) (hp : Part K H x) (h1 : 1 ≤ n) (h2 : n ≤ 1000) (n1 : begB x = false) (n2 : worthB x = false) : Bad K H (.ref a) :=
  .tup h (fun y m => by rw [List.eq_of_mem_replicate m]; exact hp) (by rw [List.length_replicate]; exact h2) (allO_rep n1 h1) (allO_rep n2 h1)
theorem flat_one {n : Nat} {x : V} : (List.replicate n [x]).flatten = List.replicate n x := by
  induction n with
  | zero => rfl
  | succ n ih => rw [List.replicate_succ, List.flatten_cons, ih, List.replicate_succ]; rfl
/-- (x,) * n -/
theorem rd_times {x : V} {n : Nat} {Q : VK} {H : Hp} {σ : L2.St} {i : Nat} (hσ : σ[i]? = some (some (.int (n : Int)))) (n1 : 1 ≤ n) (n2 : n ≤ 1000)
    (k : ∀ (p : Addr) (H' : Hp), Same H H' → H p = none → H' p = some (.tup (List.replicate n x)) → Q (.ref p) H') : tOp (rTimes K) (tTup (tCons (tC x) tNil)) (tVar i) σ H Q := by
  refine ⟨by show 1 ≤ sizeLine; decide, fun p hp => ⟨_, hσ, p, n, [x], rfl, rfl, SqT.of upd_same, by simp, by omega, by omega, by show 1 ≤ 1000; decide, fun e => ?_, fun _ q hq => ?_⟩⟩
  · have e' : n = 1 := by omega
    subst e'
    exact k p _ (same_new hp) hp upd_same
  · have s2 := (same_new (o := .tup [x]) hp).trans (same_new (o := .tup (List.replicate (n : Int).toNat [x]).flatten) hq)
    refine k q _ s2 ((same_new (o := .tup [x]) hp).free hq) ?_
    rw [upd_same, flat_one]
    rfl
theorem rd_six {x : V} {Q : VK} {H : Hp} {σ : L2.St} (k : ∀ (p : Addr) (H' : Hp), Same H H' → H p = none → H' p = some (.tup (List.replicate 6 x)) → Q (.ref p) H') : tOp (rTimes K) (tTup (tCons (tC x) tNil)) (tC (.int 6)) σ H Q := by
  obtain ⟨a, c⟩ := rd_times (K := K) (x := x) (σ := [some (.int ((6 : Nat) : Int))]) (i := 0) rfl (by decide) (by decide) k
  refine ⟨a, fun p hp => ?_⟩
  obtain ⟨v, e, r⟩ := c p hp
  cases e
  exact r
def spOddThing (K : PySem.W.Frag) : Sp := fun vs H Q _ => ∃ (b : Addr) (n : Nat), vs = [.ref b, .int (n : Int)] ∧ Bag H b ∧ 1 ≤ n ∧ n ≤ 5 ∧ ∀ (v : V) (H' : Hp), Bad K H' v → Bag H' b → Keep b H H' → Q v H'
theorem scOddThing : FnScope ["_law_bag_here", "_law_many", "_law_some"] ["_law_bag_here", "_law_many"] (defScope sOddThing) := ⟨rfl, rfl, rfl, by decide +kernel, rfl, by decide +kernel, by decide +kernel⟩
theorem ok_oddthing {f fP fO : Addr} {fd fdP fdO : FuncData} (F : Fun K "_law_odd_thing" "_law_odd_thing" sOddThing f fd) (b : Blt mg) (aP : At K mg "_law_pull" sPull ["_law_bag_here", "_law_size"] fP fdP) (aO : At K mg "_law_of" sOf ["_law_bag_here", "_law_some"] fO fdO) :
    FnOk P w K mg base CX0 3 f fd ["_law_bag_here", "_law_many"] (spOddThing K) := by
  have GO : FnOk P w K mg base CX0 2 fO fdO ["_law_bag_here", "_law_some"] (spOf K) := ok_of aO.fn b.len aP
  refine F.ok scOddThing (fun vs H Q E h => ?_) (fun cdv A outer s H vs Q E hr h => ?_)
  · obtain ⟨bg, n, rfl, _⟩ := h
    rfl
  · obtain ⟨bg, n, rfl, B, n1, n5, k⟩ := h
    refine ⟨_, pss_cons (ps_set (i := 2) scOddThing.nd rfl (.inl rfl) (pe_lst (pa_cons pe_non (pa_cons pe_int (pa_cons pe_str (pa_cons pe_bl (pa_cons (pe_tup pa_nil)
        (pa_cons (pe_op op_times (pe_tup (pa_cons pe_str pa_nil)) pe_int) (pa_cons (pe_op op_times (pe_tup (pa_cons pe_int pa_nil)) pe_int) (pa_cons (pe_op op_rep (pe_lst (pa_cons pe_str pa_nil)) (pv 1))
        (pa_cons (pe_op op_times (pe_tup (pa_cons pe_str pa_nil)) (pv 1)) (pa_cons (pe_op op_times (pe_tup (pa_cons pe_str pa_nil)) (pv 1)) pa_nil))))))))))))
      (pss_cons (ps_set (i := 2) scOddThing.nd rfl (.inl rfl) (pe_op op_cat (pv 2) (pe_lst (pa_cons (pe_op op_times (pe_tup (pa_cons pe_int pa_nil)) (pv 1)) (pa_cons (pe_op op_times (pe_tup (pa_cons (pe_un un_neg pe_int) pa_nil)) (pv 1))
        (pa_cons (pe_op op_times (pe_tup (pa_cons pe_bl pa_nil)) (pv 1)) (pa_cons (pe_op op_times (pe_tup (pa_cons pe_non pa_nil)) (pv 1)) (pa_cons (pe_tup (pa_cons pe_str (pa_cons pe_int pa_nil))) pa_nil))))))))
      (pss_cons (ps_set (i := 2) scOddThing.nd rfl (.inl rfl) (pe_op op_cat (pv 2) (pe_lst (pa_cons (pe_op op_times (pe_tup (pa_cons (pe_lst pa_nil) pa_nil)) (pv 1)) (pa_cons (pe_tup (pa_cons pe_str (pa_cons (pe_lst pa_nil) pa_nil)))
        (pa_cons (pe_tup (pa_cons (pe_lst (pa_cons pe_int pa_nil)) pa_nil)) (pa_cons (pe_tup (pa_cons pe_int (pa_cons (pe_lst pa_nil) pa_nil))) pa_nil)))))))
      (pss_one (ps_ret (pe_call GO hr rfl aO.gl aO.fn.kp aO.bd .nil pass0 (pa_cons (pv 0) (pa_cons (pv 2) pa_nil))))))), ?_⟩
    have pl : ∀ {H' : Hp} (z : Str), z.length ≤ 1000 → Part K H' (.str z) := fun z h => Part.str z h
    have fine : Room 2 _ := hr
    refine ⟨by show 0 ≤ sizeLine; decide, fun p1 f1 => ?_⟩
    have s1 := same_new (o := HO.tup []) f1
    have b1 : Bad K (upd H p1 (.tup [])) (.ref p1) := .tup upd_same (fun x m => by cases m) (by decide) rfl rfl
    refine rd_six fun p2 H2 s2 f2 h2 => ?_
    have b2 : Bad K H2 (.ref p2) := .tup h2 (fun y m => by rw [List.eq_of_mem_replicate m]; exact pl _ (Nat.le_of_ble_eq_true rfl)) (by decide) (allO_len (by decide)) (allO_len (by decide))
    refine rd_six fun p3 H3 s3 f3 h3 => ?_
    have b3 : Bad K H3 (.ref p3) := .tup h3 (fun y m => by rw [List.eq_of_mem_replicate m]; exact Part.int _) (by decide) (allO_len (by decide)) (allO_len (by decide))
    refine ⟨by show 1 ≤ sizeLine; decide, fun q4 g4 => ⟨_, rfl, q4, n, _, rfl, rfl, upd_same, by omega, by omega, ?_, fun p4 f4 => ?_⟩⟩
    · show 1 * (n : Int).toNat ≤ sizeLine
      exact Nat.le_trans (show 1 * (n : Int).toNat ≤ 5 by omega) (by decide)
    have s4 := (same_new (o := HO.lst [.str ""]) g4).trans (same_new (o := .lst (List.replicate (n : Int).toNat [V.str ""]).flatten) f4)
    have b4 : Bad K _ (.ref p4) := .oth (.base (.lst (upd_same (o := .lst (List.replicate (n : Int).toNat [V.str ""]).flatten) (H := upd H3 q4 (.lst [.str ""]))))) (by decide) (by decide)
    refine rd_times rfl n1 (by omega) fun p5 H5 s5 f5 h5 => ?_
    have b5 : Bad K H5 (.ref p5) := .rep h5 (pl _ (Nat.le_of_ble_eq_true rfl)) n1 (by omega) (by decide +kernel) rfl
    refine rd_times rfl n1 (by omega) fun p6 H6 s6 f6 h6 => ?_
    have b6 : Bad K H6 (.ref p6) := .rep h6 (pl _ (Nat.le_of_ble_eq_true rfl)) n1 (by omega) (by decide +kernel) rfl
    refine ⟨by show 10 ≤ sizeLine; decide, fun l1 m1 => ?_⟩
    have t1 := same_new (o := HO.lst [.non, .int 5, .str "01", .bl true, .ref p1, .ref p2, .ref p3, .ref p4, .ref p5, .ref p6]) m1
    -- the second row
    refine ⟨_, rfl, ?_⟩
    refine rd_times rfl n1 (by omega) fun p7 H7 s7 f7 h7 => ?_
    have b7 : Bad K H7 (.ref p7) := .rep h7 (.int _) n1 (by omega) rfl (by decide)
    refine ⟨1, rfl, rd_times (x := .int (-1)) rfl n1 (by omega) fun p8 H8 s8 f8 h8 => ?_⟩
    have b8 : Bad K H8 (.ref p8) := .rep h8 (.int _) n1 (by omega) rfl (by decide)
    refine rd_times rfl n1 (by omega) fun p9 H9 s9 f9 h9 => ?_
    have b9 : Bad K H9 (.ref p9) := .rep h9 ⟨"bool", .base (.bl _), by decide, trivial⟩ n1 (by omega) rfl rfl
    refine rd_times rfl n1 (by omega) fun p10 H10 s10 f10 h10 => ?_
    have b10 : Bad K H10 (.ref p10) := .rep h10 ⟨"NoneType", .base .non, by decide, trivial⟩ n1 (by omega) rfl rfl
    refine ⟨by show 2 ≤ sizeLine; decide, fun p11 f11 => ?_⟩
    have s11 := same_new (o := HO.tup [.str "", .int 7]) f11
    have b11 : Bad K (upd H10 p11 (.tup [.str "", .int 7])) (.ref p11) := .tup upd_same (fun x m => by
      rcases List.mem_cons.mp m with rfl | m
      · exact pl _ (Nat.le_of_ble_eq_true rfl)
      · rw [List.mem_singleton.mp m]
        exact .int _) (by decide) (by decide +kernel) (by decide +kernel)
    refine ⟨by show 5 ≤ sizeLine; decide, fun l2 m2 => ?_⟩
    have t2 := same_new (o := HO.lst [.ref p7, .ref p8, .ref p9, .ref p10, .ref p11]) m2
    have u1 : Same _ _ := ((((s7.trans s8).trans s9).trans s10).trans s11).trans t2
    refine ⟨l1, l2, _, _, rfl, rfl, u1 _ _ upd_same, upd_same, by show 15 ≤ sizeLine; decide, fun l3 m3 => ?_⟩
    have t3 := same_new (o := HO.lst ([.non, .int 5, .str "01", .bl true, .ref p1, .ref p2, .ref p3, .ref p4, .ref p5, .ref p6] ++ [.ref p7, .ref p8, .ref p9, .ref p10, .ref p11])) m3
    -- the third row
    refine ⟨_, rfl, by show 0 ≤ sizeLine; decide, fun q12 g12 => ?_⟩
    have v12 := same_new (o := HO.lst []) g12
    refine rd_times (x := .ref q12) rfl n1 (by omega) fun p12 H12 s12 f12 h12 => ?_
    have w12 := s12 _ _ (upd_same (o := HO.lst []) (a := q12))
    have b12 : Bad K H12 (.ref p12) := .rep h12 ⟨"list", .base (.lst w12), by decide, trivial⟩ n1 (by omega) rfl rfl
    refine ⟨by show 0 ≤ sizeLine; decide, fun q13 g13 => ⟨by show 2 ≤ sizeLine; decide, fun p13 f13 => ?_⟩⟩
    have v13 := same_new (o := HO.lst []) g13
    have s13 := same_new (o := HO.tup [.str "", .ref q13]) f13
    have b13 : Bad K _ (.ref p13) := .tup (upd_same (o := HO.tup [.str "", .ref q13]) (H := upd H12 q13 (.lst []))) (fun x m => by
      rcases List.mem_cons.mp m with rfl | m
      · exact pl _ (Nat.le_of_ble_eq_true rfl)
      · rw [List.mem_singleton.mp m]
        exact ⟨"list", .base (.lst (s13 _ _ upd_same)), by decide, trivial⟩) (by show 2 ≤ 1000; decide) (by rfl) (by rfl)
    refine ⟨by show 1 ≤ sizeLine; decide, fun q14 g14 => ⟨by show 1 ≤ sizeLine; decide, fun p14 f14 => ?_⟩⟩
    have v14 := same_new (o := HO.lst [.int 0]) g14
    have s14 := same_new (o := HO.tup [.ref q14]) f14
    have b14 : Bad K _ (.ref p14) := .tup (upd_same (o := HO.tup [.ref q14]) (H := upd _ q14 (.lst [.int 0]))) (fun x m => by
      rw [List.mem_singleton.mp m]
      exact ⟨"list", .base (.lst (s14 _ _ upd_same)), by decide, trivial⟩) (by show 1 ≤ 1000; decide) (by rfl) (by rfl)
    refine ⟨by show 0 ≤ sizeLine; decide, fun q15 g15 => ⟨by show 2 ≤ sizeLine; decide, fun p15 f15 => ?_⟩⟩
    have v15 := same_new (o := HO.lst []) g15
    have s15 := same_new (o := HO.tup [.int 0, .ref q15]) f15
    have b15 : Bad K _ (.ref p15) := .tup (upd_same (o := HO.tup [.int 0, .ref q15]) (H := upd _ q15 (.lst []))) (fun x m => by
      rcases List.mem_cons.mp m with rfl | m
      · exact .int _
      · rw [List.mem_singleton.mp m]
        exact ⟨"list", .base (.lst (s15 _ _ upd_same)), by decide, trivial⟩) (by show 2 ≤ 1000; decide) (by rfl) (by rfl)
    refine ⟨by show 4 ≤ sizeLine; decide, fun l4 m4 => ?_⟩
    have t4 := same_new (o := HO.lst [.ref p12, .ref p13, .ref p14, .ref p15]) m4
    have e15 := t4
    have e14 := (v15.trans s15).trans e15
    have e13 := (v14.trans s14).trans e14
    have e12 := (v13.trans s13).trans e13
    have e11 := (t2.trans t3).trans ((v12.trans s12).trans e12)
    have e10 := s11.trans e11
    have e9 := s10.trans e10
    have e8 := s9.trans e9
    have e7 := s8.trans e8
    have e6 := t1.trans (s7.trans e7)
    have e5 := s6.trans e6
    have e4 := s5.trans e5
    have e3 := s4.trans e4
    have e2 := s3.trans e3
    have e1 := s2.trans e2
    have e0 := s1.trans e1
    refine ⟨l3, l4, _, _, rfl, rfl, ((v12.trans s12).trans e12) _ _ upd_same, upd_same, by show 19 ≤ sizeLine; decide, fun l5 m5 => ?_⟩
    have t5 := same_new (o := HO.lst ([.non, .int 5, .str "01", .bl true, .ref p1, .ref p2, .ref p3, .ref p4, .ref p5, .ref p6] ++ [.ref p7, .ref p8, .ref p9, .ref p10, .ref p11] ++ [.ref p12, .ref p13, .ref p14, .ref p15])) m5
    have es := e0.trans t5
    refine ⟨_, rfl, _, rfl, bg, l5, _, rfl, B.same es, (B.same e0).ne m5, SqL.of upd_same, by show 1 ≤ 19; decide, by show 19 < 1000; decide, fun v H' mem B' k' => ?_⟩
    refine k v H' ?_ B' (Keep.trans (Same.keep es) k')
    refine Bad.held (k'.held (B.same es) B') ?_
    have o0 : ∀ {H' : Hp}, Bad K H' .non := .oth (.base .non) (by decide) (by decide)
    rcases List.mem_append.mp mem with mem | mem
    · rcases List.mem_append.mp mem with mem | mem
      · simp only [List.mem_cons, List.not_mem_nil, or_false] at mem
        rcases mem with rfl | rfl | rfl | rfl | rfl | rfl | rfl | rfl | rfl | rfl
        · exact o0
        · exact .oth (.base (.int _)) (by decide) (by decide)
        · exact .oth (.base (.str _)) (by decide) (by decide)
        · exact .oth (.base (.bl _)) (by decide) (by decide)
        · exact b1.same (e1.trans t5)
        · exact b2.same (e2.trans t5)
        · exact b3.same (e3.trans t5)
        · exact b4.same (e4.trans t5)
        · exact b5.same (e5.trans t5)
        · exact b6.same (e6.trans t5)
      · simp only [List.mem_cons, List.not_mem_nil, or_false] at mem
        rcases mem with rfl | rfl | rfl | rfl | rfl
        · exact b7.same (e7.trans t5)
        · exact b8.same (e8.trans t5)
        · exact b9.same (e9.trans t5)
        · exact b10.same (e10.trans t5)
        · exact b11.same (e11.trans t5)
    · simp only [List.mem_cons, List.not_mem_nil, or_false] at mem
      rcases mem with rfl | rfl | rfl | rfl
      · exact b12.same (e12.trans t5)
      · exact b13.same (e13.trans t5)
      · exact b14.same (e14.trans t5)
      · exact b15.same (e15.trans t5)
end
end VQ
namespace VQ
open PySem L2 LamX
abbrev sNear : Stmt := top 42
section
variable {P : Program} {w : World} {K : PySem.W.Frag} {mg : Str → Option Value} {base : Heap}
def spNear : Sp := fun vs H Q _ => ∃ (b a : Addr) (zs : List Str), vs = [.ref b, .ref a] ∧ Bag H b ∧ BoxAt H a zs ∧ ∀ (p : Addr) (us : List Str) (H' : Hp), us.length = zs.length → (∀ u ∈ us, u ∈ begs) → H p = none → H' p = some (.tup (us.map V.str)) → Bag H' b → Keep b H H' → Q (.ref p) H'
abbrev nNear : List Str := ["_law_bag_here", "_law_box_here", "_law_found", "_law_one", "_law_way"]
theorem scNear : FnScope nNear ["_law_bag_here", "_law_box_here"] (defScope sNear) := ⟨rfl, rfl, rfl, by decide +kernel, rfl, by decide +kernel, by decide +kernel⟩
/-- one's last sign turned, read -/
theorem ok_near {f fP fG fW fF : Addr} {fd fdP fdG fdW fdF : FuncData} (F : Fun K "_law_near_box" "_law_near_box" sNear f fd) (b : Blt mg) (aP : At K mg "_law_pull" sPull ["_law_bag_here", "_law_size"] fP fdP) (aG : At K mg "_law_begin" sBegin ["_law_bag_here"] fG fdG) (aW : At K mg "_law_worth" sWorth ["_law_bag_here"] fW fdW) (aF : At K mg "_law_figs" sFigs ["_law_worth_here"] fF fdF)
    (GG : FnOk P w K mg base CX0 4 fG fdG ["_law_bag_here"] spBegin) (GW : FnOk P w K mg base CX0 3 fW fdW ["_law_bag_here"] (spDraw fun i => 0 ≤ i ∧ i < 32)) : FnOk P w K mg base CX0 5 f fd ["_law_bag_here", "_law_box_here"] spNear := by
  have GP : FnOk P w K mg base CX0 1 fP fdP ["_law_bag_here", "_law_size"] spPull := ok_pull aP.fn b.len
  have GF : FnOk P w K mg base CX0 1 fF fdF ["_law_worth_here"] spFigs := ok_figs aF.fn b.range b.str
  refine F.ok scNear (fun vs H Q E h => ?_) (fun cdv A outer s H vs Q E hr h => ?_)
  · obtain ⟨bg, a, zs, rfl, _⟩ := h
    rfl
  · obtain ⟨bg, a, zs, rfl, B, ⟨ha, hz, hl⟩, k⟩ := h
    have hr1 : Room 1 _ := hr.mono (by decide)
    have hr3 : Room 3 _ := hr.mono (by decide)
    refine ⟨_, pss_cons (ps_set (i := 2) scNear.nd rfl (.inl rfl) (pe_lst pa_nil))
      (pss_cons (ps_for PassesOwn.never rfl (pi_tup (pv 1)) (pg_name (i := 3) scNear.nd rfl (.inl rfl))
        (pss_cons (ps_set (i := 4) scNear.nd rfl (.inl rfl) (pe_call GP hr1 rfl aP.gl aP.fn.kp aP.bd .nil pass0 (pa_cons (pv 0) (pa_cons pe_int pa_nil))))
        (C8.pss_cut (ps_if (pt_cmpR op_eq (pv 4) pe_int (nomark _)) (pss_one (ps_set (i := 3) scNear.nd rfl (.inl rfl) (pe_call GG hr rfl aG.gl aG.fn.kp aG.bd .nil pass0 (pa_cons (pv 0) pa_nil)))) pss_nil)
        (C8.pss_cut (ps_if (PW.pt (pw_and (pt_cmpR op_eq (pv 4) pe_int (nomark _)) (pw_and1 (pt_cmpR op_ne (pv 3) pe_str (nomark _)))))
          (pss_one (ps_set (i := 3) scNear.nd rfl (.inl rfl) (pe_op op_add_str (pe_slice sl_str (pv 3) po_none (po_some (pe_un un_neg pe_int))) (pe_ifExp (pt_cmpR op_eq (pe_ix ix_str (pv 3) (pe_un un_neg pe_int) fun _ _ => rfl) pe_str (nomark _)) pe_str pe_str)))) pss_nil)
        (C8.pss_cut (ps_if (pt_cmpR op_eq (pv 4) pe_int (nomark _)) (pss_one (ps_set (i := 3) scNear.nd rfl (.inl rfl) (pe_slice sl_str (pv 3) po_none (po_some (pe_call GP hr1 rfl aP.gl aP.fn.kp aP.bd .nil pass0 (pa_cons (pv 0) (pa_cons (pe_op op_add (pe_callB call_len_str (by rfl) b.len PySem.boot_len (pa_cons (pv 3) pa_nil)) pe_int) pa_nil))))))) pss_nil)
        (C8.pss_cut (ps_if (pt_cmpR op_eq (pv 4) pe_int (nomark _)) (pss_one (ps_set (i := 3) scNear.nd rfl (.inl rfl) (pe_slice sl_str (pe_op op_add_str (pv 3) (pe_call GF hr1 rfl aF.gl aF.fn.kp aF.bd .nil pass0 (pa_cons (pe_call GW hr3 rfl aW.gl aW.fn.kp aW.bd .nil pass0 (pa_cons (pv 0) pa_nil)) pa_nil))) po_none (po_some pe_int)))) pss_nil)
        (pss_one (ps_expr (pe_bm PySem.F.plainAttrs_list PySem.F.slot_list_append PySem.F.type_list_append mt_append (pv 2) (pa_cons (pv 3) pa_nil)))))))))) 
      (pss_one (ps_ret (pe_callTy call_tuple_of (by rfl) b.tuple (by decide +kernel) (pa_cons (pv 2) pa_nil))))), ?_⟩
    refine ⟨by show 0 ≤ sizeLine; decide, fun D hD => ?_⟩
    obtain ⟨B1, K1⟩ := Bag.put (o := .lst []) B hD (Keep.refl bg H) B
    have Db : D ≠ bg := fun e => by
      obtain ⟨o, q⟩ := B.here
      rw [← e, hD] at q
      cases q
    refine ⟨_, rfl, a, rfl, ⟨_, SqT.of (K1.tup B ha)⟩, ?_⟩
    refine for_tup (xs := zs.map V.str) (fun i σ H' => Bag H' bg ∧ Keep bg H H' ∧ ∃ (v3 v4 : Option V) (us : List Str), σ = [some (.ref bg), some (.ref a), some (.ref D), v3, v4] ∧ us.length = i ∧ (∀ u ∈ us, u ∈ begs) ∧ H' D = some (.lst (us.map V.str)))
      ⟨B1, K1, none, none, [], rfl, rfl, (fun u m => by cases m), upd_same⟩ (fun i σ H' _ q => SqT.of (q.2.1.tup B ha)) ?_ ?_
    · rintro i x σ H2 hx ⟨B2, K2, v3, v4, us, rfl, lu, hu, h2⟩
      have hi : i < zs.length := by
        have := (List.getElem?_eq_some_iff.mp hx).1
        rw [List.length_map] at this
        exact this
      obtain ⟨z, hzm, rfl⟩ : ∃ z, z ∈ zs ∧ x = .str z := by
        obtain ⟨z, m, e⟩ := List.mem_map.mp (List.mem_of_getElem? hx)
        exact ⟨z, m, e.symm⟩
      refine ⟨_, rfl, bg, 6, rfl, B2, by decide, by decide, fun y H3 y0 y6 B3 K3 => ?_⟩
      refine ⟨fun σ' H' => ∃ u : Str, σ' = [some (.ref bg), some (.ref a), some (.ref D), some (.str u), some (.int y)] ∧ u ∈ begs ∧ Bag H' bg ∧ Keep bg H H' ∧ H' D = some (.lst (us.map V.str)), ?_, ?_⟩
      · refine ⟨_, rfl, rfl, _, rfl, ?_⟩
        have k23 := K2.trans K3
        have hD3 := K3.1 _ _ Db h2
        refine ite2 (fun _ => ?_) (fun _ => ?_)
        · refine ⟨_, rfl, bg, rfl, B3, fun u H4 hu4 B4 K4 => ?_⟩
          exact ⟨u, rfl, hu4, B4, k23.trans K4, K4.1 _ _ Db hD3⟩
        · exact ⟨z, rfl, hz z hzm, B3, k23, hD3⟩
      rintro σ' H4 ⟨u, rfl, hu4, B4, K4, hD4⟩
      refine ⟨fun σ' H' => ∃ u : Str, σ' = [some (.ref bg), some (.ref a), some (.ref D), some (.str u), some (.int y)] ∧ u ∈ begs ∧ Bag H' bg ∧ Keep bg H H' ∧ H' D = some (.lst (us.map V.str)), ?_, ?_⟩
      · refine ⟨_, rfl, rfl, _, rfl, ?_⟩
        refine ite2 (fun _ => ?_) (fun _ => ?_)
        · refine ⟨_, rfl, rfl, _, rfl, ?_⟩
          by_cases e : u = ("" : Str)
          · refine iteNS (congrArg V.str e) ?_
            exact ⟨u, rfl, hu4, B4, K4, hD4⟩
          · have e' : ¬ V.str u = V.str "" := fun q => e (V.str.inj q)
            rw [decide_eq_false e']
            refine iteT ?_
            obtain ⟨c1, c2, c3, c4⟩ := bro_cut u hu4 e
            have lz : u.length ≤ sizeLine := Nat.le_trans (begs_len u hu4) (by decide)
            have fin : ∀ t : Str, t = flip (lastC u) → t.length = 1 → (cutS u none (some (-1))).length + t.length ≤ sizeLine := fun t _ el => by
              rw [c2, el]
              exact Nat.le_trans (by omega : (dropL u).length + 1 ≤ 6) (by decide)
            refine ⟨_, rfl, 1, rfl, _, rfl, u, rfl, lz, _, rfl, 1, rfl, u, -1, lastC u, rfl, rfl, lz, c1, rfl, _, rfl, ?_⟩
            have key : ∀ t : Str, t = flip (lastC u) → (cutS u none (some (-1)) ++ t) = bro u := fun t et => by
              rw [c2, et]
              rfl
            by_cases el : lastC u = 48
            · rw [el, show decide (V.str ⟨#[48]⟩ = V.str "0") = true by decide +kernel]
              have ef : ("1" : Str) = flip (lastC u) := by rw [el]; rfl
              refine iteT ⟨_, _, rfl, rfl, fin _ ef (by decide +kernel), bro u, ?_, (bro_in u hu4 e).1, B4, K4, hD4⟩
              rw [← key _ ef]
              rfl
            · have el' : lastC u = 49 := by omega
              rw [el', show decide (V.str ⟨#[49]⟩ = V.str "0") = false by decide +kernel]
              have ef : ("0" : Str) = flip (lastC u) := by rw [el']; rfl
              refine iteF ⟨_, _, rfl, rfl, fin _ ef (by decide +kernel), bro u, ?_, (bro_in u hu4 e).1, B4, K4, hD4⟩
              rw [← key _ ef]
              rfl
        · exact ⟨u, rfl, hu4, B4, K4, hD4⟩
      rintro σ' H5 ⟨u, rfl, hu5, B5, K5, hD5⟩
      refine ⟨fun σ' H' => ∃ u : Str, σ' = [some (.ref bg), some (.ref a), some (.ref D), some (.str u), some (.int y)] ∧ u ∈ begs ∧ Bag H' bg ∧ Keep bg H H' ∧ H' D = some (.lst (us.map V.str)), ?_, ?_⟩
      · refine ⟨_, rfl, rfl, _, rfl, ?_⟩
        have lu5 := begs_len u hu5
        refine ite2 (fun _ => ?_) (fun _ => ?_)
        · refine ⟨_, rfl, _, rfl, _, rfl, u, rfl, Nat.le_trans lu5 (by decide), _, _, rfl, rfl, bg, _, rfl, B5, by omega, by omega, fun d H6 d0 d1 B6 K6 => ?_⟩
          obtain ⟨j, rfl⟩ := Int.eq_ofNat_of_zero_le d0
          refine ⟨_, rfl, u, rfl, Nat.le_trans lu5 (by decide), tk u j, ?_, m_tk u hu5 j (by omega), B6, K5.trans K6, K6.1 _ _ Db hD5⟩
          rw [← cut_to u j]
          rfl
        · exact ⟨u, rfl, hu5, B5, K5, hD5⟩
      rintro σ' H6 ⟨u, rfl, hu6, B6, K6, hD6⟩
      refine ⟨fun σ' H' => ∃ u : Str, σ' = [some (.ref bg), some (.ref a), some (.ref D), some (.str u), some (.int y)] ∧ u ∈ begs ∧ Bag H' bg ∧ Keep bg H H' ∧ H' D = some (.lst (us.map V.str)), ?_, ?_⟩
      · refine ⟨_, rfl, rfl, _, rfl, ?_⟩
        refine ite2 (fun _ => ?_) (fun _ => ?_)
        · refine ⟨_, rfl, _, rfl, bg, rfl, B6, fun d H7 hd B7 K7 => ?_⟩
          obtain ⟨wt, rfl⟩ := Int.eq_ofNat_of_zero_le hd.1
          obtain ⟨m1, m2⟩ := m_more u hu6 wt (by omega)
          have ll : u.length + (fig wt).length ≤ 10 := by
            have e : (u ++ fig wt).length = u.length + (fig wt).length := Str.length_append u (fig wt)
            omega
          refine ⟨wt, rfl, u, fig wt, rfl, rfl, Nat.le_trans ll (by decide), _, rfl, _, rfl, Nat.le_trans m2 (by decide), tk (u ++ fig wt) 5, ?_, m1, B7, K6.trans K7, K7.1 _ _ Db hD6⟩
          rw [← cut_to (u ++ fig wt) 5]
          rfl
        · exact ⟨u, rfl, hu6, B6, K6, hD6⟩
      rintro σ' H7 ⟨u, rfl, hu7, B7, K7, hD7⟩
      refine ⟨_, rfl, .inl ⟨rfl, _, SqL.of hD7⟩, _, rfl, D, _, _, rfl, rfl, hD7, ?_, ?_⟩
      · rw [List.length_map, lu]
        exact Nat.lt_of_lt_of_le (show i < 6 by omega) (by decide)
      · obtain ⟨B8, K8⟩ := Bag.put (o := .lst (us.map V.str ++ [.str u])) B hD K7 B7
        refine ⟨B8, K8, _, _, us ++ [u], rfl, by rw [List.length_append, lu]; rfl, fun t m => ?_, ?_⟩
        · rcases List.mem_append.mp m with m | m
          · exact hu t m
          · rw [List.mem_singleton.mp m]
            exact hu7
        · rw [upd_same, List.map_append]
          rfl
    · rintro σ H2 ⟨B2, K2, v3, v4, us, rfl, lu, hu, h2⟩
      rw [List.length_map] at lu
      refine ⟨_, rfl, D, _, rfl, .inl ⟨SqL.of h2, fun l hl' => ?_⟩⟩
      have hl0 : H l = none := K2.free B B2 hl'
      obtain ⟨B3, K3⟩ := Bag.put (o := .tup (us.map V.str)) B hl0 K2 B2
      exact k l us _ lu hu hl0 upd_same B3 K3
end
end VQ
namespace VQ
open PySem L2 LamX
/-! ### boxes handed in, told ones compared -/
section
variable {K : PySem.W.Frag} {H H' : Hp} {CB CU : Addr}
theorem two_ok {R : List Str → List Str → Hp → VK → Prop} {Q : VK} {E : XK} {a b : Addr} {zs ws : List Str} (ha : BoxAt H a zs) (hb : BoxAt H b ws) (h1 : 1 ≤ zs.length) (len : zs.length = ws.length) (r : R zs ws H Q) : spTwo K CB CU R [.ref a, .ref b] H Q E := by
  refine ⟨_, _, _, _, rfl, ha.thing, hb.thing, fun zs' ws' ez ew _ _ _ => ?_, fun no => ?_, fun zs' ws' ez ew _ _ ne => ?_⟩
  · rw [← strs_inj (Option.some.inj ez), ← strs_inj (Option.some.inj ew)]
    exact r
  · rw [box_allO (ha.is h1), box_allO (hb.is (by omega))] at no
    rcases no with q | q <;> cases q
  · rw [← strs_inj (Option.some.inj ez), ← strs_inj (Option.some.inj ew)] at ne
    exact absurd len ne
theorem two_bad {R : List Str → List Str → Hp → VK → Prop} {Q : VK} {E : XK} {x y : V} {o p : Option (List V)} (tx : Thing K H x o) (ty : Thing K H y p) (no : allO begB o = false ∨ allO begB p = false)
    (k : ∀ H' d, Same H H' → H' d = none → E (.ref CB) (some d) (upd H' d (calledAs "BadBox"))) : spTwo K CB CU R [x, y] H Q E := by
  have nono : ∀ {X : Prop} {zs ws : List Str}, o = some (zs.map V.str) → p = some (ws.map V.str) → IsBoxS zs → IsBoxS ws → X := fun ez ew bz bw => by
    rw [ez, ew, box_allO bz, box_allO bw] at no
    rcases no with q | q <;> cases q
  exact ⟨x, y, o, p, rfl, tx, ty, fun zs ws ez ew bz bw _ => nono ez ew bz bw, fun _ => k, fun zs ws ez ew bz bw _ => nono ez ew bz bw⟩
theorem two_unlike {R : List Str → List Str → Hp → VK → Prop} {Q : VK} {E : XK} {a b : Addr} {zs ws : List Str} (ha : BoxAt H a zs) (hb : BoxAt H b ws) (h1 : 1 ≤ zs.length) (h2 : 1 ≤ ws.length) (ne : zs.length ≠ ws.length)
    (k : ∀ H' d, Same H H' → H' d = none → E (.ref CU) (some d) (upd H' d (calledAs "Unlike"))) : spTwo K CB CU R [.ref a, .ref b] H Q E := by
  refine ⟨_, _, _, _, rfl, ha.thing, hb.thing, fun zs' ws' ez ew _ _ e => ?_, fun no => ?_, fun zs' ws' ez ew _ _ _ => k⟩
  · rw [← strs_inj (Option.some.inj ez), ← strs_inj (Option.some.inj ew)] at e
    exact absurd e ne
  · rw [box_allO (ha.is h1), box_allO (hb.is h2)] at no
    rcases no with q | q <;> cases q
/-! ### what two boxes' meeting tells -/
def MeetV (H : Hp) (xs : List V) (v : V) : Prop := (inV .non xs = true ∧ v = .non) ∨ (inV .non xs = false ∧ ∃ l, v = .ref l ∧ H l = some (.tup xs))
theorem MeetV.same {xs : List V} {v : V} (h : MeetV H xs v) (s : Same H H') : MeetV H' xs v := by
  rcases h with h | ⟨h1, l, e, h2⟩
  · exact .inl h
  · exact .inr ⟨h1, l, e, s _ _ h2⟩
end
end VQ
namespace VQ
open PySem L2 LamX
/-! ### two boxes put together: the mathematics -/
/-- brothers, by the law -/
def seamB (a b : Str) : Bool := decide (a ≠ ("" : Str)) && (decide (dropL a = dropL b) && (decide (a.length = b.length) && decide (a ≠ b)))
def jItem (a b : Str) : Option (Nat × Str) := if seamB a b = true then some (1, dropL a) else if beginsB a b = true then some (0, a) else if beginsB b a = true then some (0, b) else none
def jAdd : Option (Nat × Str) → Option (Nat × List Str) → Option (Nat × List Str)
  | some (n, u), some (m, us) => some (n + m, u :: us)
  | _, _ => none
def joinL : List Str → List Str → Option (Nat × List Str)
  | a :: zs, b :: ws => jAdd (jItem a b) (joinL zs ws)
  | _, _ => some (0, [])
def joinM (zs ws : List Str) : Option (List Str) := match joinL zs ws with
  | some (1, us) => some us
  | _ => none
def isNon (x : V) : Bool := eqV x .non
def cntN (zs ws : List Str) : Nat := (longsL zs ws).countP isNon
theorem longV_non {a b : Str} : longV a b = .non ↔ beginsB a b = false ∧ beginsB b a = false := by
  unfold longV
  rw [st_eq, st_eq]
  cases beginsB a b <;> cases beginsB b a <;> simp
theorem longV_cases (a b : Str) : (longV a b = .non ∧ beginsB a b = false ∧ beginsB b a = false) ∨ ∃ u, longV a b = .str u ∧ isNon (longV a b) = false ∧ jItem a b = some (0, u) := by
  unfold longV jItem
  rw [st_eq, st_eq]
  cases e1 : beginsB a b with
  | true =>
    have ns : seamB a b = false := by
      unfold seamB
      by_cases l : a.length = b.length
      · rw [begins_eq e1 (by omega)]
        simp
      · rw [decide_eq_false l]
        simp
    exact .inr ⟨a, rfl, rfl, by rw [ns]; rfl⟩
  | false =>
    cases e2 : beginsB b a with
    | true =>
      have ns : seamB a b = false := by
        unfold seamB
        by_cases l : a.length = b.length
        · rw [begins_eq e2 (by omega)]
          simp
        · rw [decide_eq_false l]
          simp
      exact .inr ⟨b, rfl, rfl, by rw [ns]; rfl⟩
    | false => exact .inl ⟨rfl, rfl, rfl⟩
theorem app_empty (a : Str) : beginsB a ("" : Str) = true := decide_eq_true rfl
theorem non_ne {a b : Str} (h : longV a b = .non) : a ≠ ("" : Str) ∧ b ≠ ("" : Str) := by
  obtain ⟨e1, e2⟩ := longV_non.mp h
  refine ⟨fun e => ?_, fun e => ?_⟩
  · rw [e, app_empty] at e2
    cases e2
  · rw [e, app_empty] at e1
    cases e1
theorem bro_facts : ∀ b ∈ begs, b ≠ ("" : Str) → dropL (bro b) = dropL b ∧ (bro b).length = b.length ∧ bro b ≠ b := by decide +kernel
theorem drop_two {a b : Str} (ha : a ∈ begs) (hb : b ∈ begs) (na : a ≠ ("" : Str)) (nb : b ≠ ("" : Str)) (e : dropL a = dropL b) (ne : a ≠ b) : a = bro b := by
  have back : ∀ z : Str, z ∈ begs → z ≠ ("" : Str) → z = dropL z ++ (⟨#[lastC z]⟩ : Str) := by decide +kernel
  have ea := back a ha na
  have eb := back b hb nb
  obtain ⟨_, _, _, la⟩ := bro_cut a ha na
  obtain ⟨_, _, _, lb⟩ := bro_cut b hb nb
  have ln : lastC a ≠ lastC b := fun q => ne (by rw [ea, eb, e, q])
  unfold bro
  rw [ea, e]
  rcases la with la | la <;> rcases lb with lb | lb
  · exact absurd (la.trans lb.symm) ln
  · rw [la, lb]
    rfl
  · rw [la, lb]
    rfl
  · exact absurd (la.trans lb.symm) ln
/-- where two beginnings part: brothers by the law, or nothing -/
theorem part_item {a b : Str} (ha : a ∈ begs) (hb : b ∈ begs) (h : longV a b = .non) : (a = bro b → jItem a b = some (1, dropL a)) ∧ (a ≠ bro b → jItem a b = none) := by
  obtain ⟨na, nb⟩ := non_ne h
  obtain ⟨e1, e2⟩ := longV_non.mp h
  have ne : a ≠ b := fun q => by
    rw [q, begins_self] at e1
    cases e1
  unfold jItem
  refine ⟨fun e => ?_, fun e => ?_⟩
  · obtain ⟨b1, b2, b3⟩ := bro_facts b hb nb
    have s : seamB a b = true := by
      unfold seamB
      rw [e]
      rw [decide_eq_true (by rw [← e]; exact na), decide_eq_true b1, decide_eq_true b2, decide_eq_true b3]
      rfl
    rw [s, if_pos rfl]
  · have s : seamB a b = false := by
      unfold seamB
      by_cases q : dropL a = dropL b
      · exact absurd (drop_two ha hb na nb q ne) e
      · rw [decide_eq_false q]
        simp
    rw [s, e1, e2]
    rfl
theorem join_none : ∀ {zs ws : List Str}, cntN zs ws = 0 → zs.length = ws.length → ∃ us : List Str, joinL zs ws = some (0, us) ∧ longsL zs ws = us.map V.str
  | [], ws, _, _ => by
    cases ws <;> exact ⟨[], rfl, rfl⟩
  | _ :: _, [], _, l => by cases l
  | z :: zs, w :: ws, h, l => by
    have el : longsL (z :: zs) (w :: ws) = longV z w :: longsL zs ws := rfl
    unfold cntN at h
    rw [el, List.countP_cons] at h
    obtain ⟨us, e1, e2⟩ := join_none (zs := zs) (ws := ws) (by unfold cntN; omega) (by simpa using l)
    rcases longV_cases z w with ⟨q, _⟩ | ⟨u, q1, q2, q3⟩
    · rw [q, show isNon .non = true from rfl, if_pos rfl] at h
      omega
    · refine ⟨u :: us, ?_, by rw [el, q1, e2]; rfl⟩
      show jAdd (jItem z w) (joinL zs ws) = _
      rw [q3, e1]
      rfl
theorem join_count : ∀ {zs ws : List Str} {n : Nat} {us : List Str}, (∀ z ∈ zs, z ∈ begs) → (∀ z ∈ ws, z ∈ begs) → joinL zs ws = some (n, us) → n = cntN zs ws ∧ us.length = min zs.length ws.length
  | [], ws, n, us, _, _, h => by
    cases ws <;> (cases h; exact ⟨rfl, by simp⟩)
  | _ :: _, [], n, us, _, _, h => by cases h; exact ⟨rfl, rfl⟩
  | z :: zs, w :: ws, n, us, hz, hw, h => by
    have h : jAdd (jItem z w) (joinL zs ws) = some (n, us) := h
    have el : longsL (z :: zs) (w :: ws) = longV z w :: longsL zs ws := rfl
    cases e : joinL zs ws with
    | none =>
      rw [e] at h
      cases q : jItem z w <;> rw [q] at h <;> cases h
    | some p =>
      obtain ⟨m, vs⟩ := p
      obtain ⟨i1, i2⟩ := join_count (fun u mu => hz u (List.mem_cons_of_mem _ mu)) (fun u mu => hw u (List.mem_cons_of_mem _ mu)) e
      rw [e] at h
      unfold cntN
      rw [el, List.countP_cons]
      have i1 : m = (longsL zs ws).countP isNon := i1
      rcases longV_cases z w with ⟨q, _⟩ | ⟨u, q1, q2, q3⟩
      · obtain ⟨p1, p2⟩ := part_item (hz z List.mem_cons_self) (hw w List.mem_cons_self) q
        by_cases b : z = bro w
        · rw [p1 b] at h
          cases h
          rw [q, show isNon .non = true from rfl, if_pos rfl]
          exact ⟨by omega, by simp [i2, Nat.succ_min_succ]⟩
        · rw [p2 b] at h
          cases h
      · rw [q3] at h
        cases h
        rw [q2]
        exact ⟨by simp; omega, by simp [i2, Nat.succ_min_succ]⟩
theorem join_one : ∀ {zs ws : List Str}, (∀ z ∈ zs, z ∈ begs) → (∀ z ∈ ws, z ∈ begs) → cntN zs ws = 1 → zs.length = ws.length →
    ∃ (k : Nat) (z w : Str), zs[k]? = some z ∧ ws[k]? = some w ∧ longV z w = .non ∧ (longsL zs ws)[k]? = some .non ∧ (∀ (j : Nat) (x : V), j < k → (longsL zs ws)[j]? = some x → eqV x .non = false) ∧
      (z = bro w → ∃ us, joinL zs ws = some (1, us) ∧ (longsL zs ws).set k (.str (dropL z)) = us.map V.str) ∧ (z ≠ bro w → joinL zs ws = none)
  | [], ws, _, _, h, _ => by
    cases ws <;> cases h
  | _ :: _, [], _, _, h, _ => by cases h
  | z :: zs, w :: ws, hz, hw, h, l => by
    have el : longsL (z :: zs) (w :: ws) = longV z w :: longsL zs ws := rfl
    have ej : joinL (z :: zs) (w :: ws) = jAdd (jItem z w) (joinL zs ws) := rfl
    unfold cntN at h
    rw [el, List.countP_cons] at h
    have hz' : ∀ u ∈ zs, u ∈ begs := fun u mu => hz u (List.mem_cons_of_mem _ mu)
    have hw' : ∀ u ∈ ws, u ∈ begs := fun u mu => hw u (List.mem_cons_of_mem _ mu)
    have l' : zs.length = ws.length := by simpa using l
    rcases longV_cases z w with ⟨q, _⟩ | ⟨u, q1, q2, q3⟩
    · rw [q, show isNon .non = true from rfl, if_pos rfl] at h
      obtain ⟨us, e1, e2⟩ := join_none (zs := zs) (ws := ws) (by unfold cntN; omega) l'
      obtain ⟨p1, p2⟩ := part_item (hz z List.mem_cons_self) (hw w List.mem_cons_self) q
      refine ⟨0, z, w, rfl, rfl, q, by rw [el, q]; rfl, fun j x hj => absurd hj (Nat.not_lt_zero _), fun b => ?_, fun b => ?_⟩
      · refine ⟨dropL z :: us, ?_, ?_⟩
        · rw [ej, p1 b, e1]
          rfl
        · rw [el, e2]
          rfl
      · rw [ej, p2 b]
        cases joinL zs ws <;> rfl
    · rw [q2] at h
      obtain ⟨k, z', w', a1, a2, a3, a4, a5, a6, a7⟩ := join_one (zs := zs) (ws := ws) hz' hw' (by unfold cntN; simpa using h) l'
      refine ⟨k + 1, z', w', a1, a2, a3, by rw [el]; exact a4, fun j x hj e => ?_, fun b => ?_, fun b => ?_⟩
      · rw [el] at e
        cases j with
        | zero =>
          cases e
          exact q2
        | succ j => exact a5 j x (by omega) e
      · obtain ⟨us, e1, e2⟩ := a6 b
        refine ⟨u :: us, ?_, ?_⟩
        · rw [ej, q3, e1]
          rfl
        · rw [el, List.set_cons_succ, e2, q1]
          rfl
      · rw [ej, a7 b]
        cases jItem z w <;> rfl
/-- either way about -/
theorem item_comm {a b : Str} (ha : a ∈ begs) (hb : b ∈ begs) : jItem b a = jItem a b := by
  unfold jItem
  have sc : seamB b a = seamB a b := by
    unfold seamB
    by_cases e : dropL a = dropL b
    · by_cases l : a.length = b.length
      · have l0 : ∀ z : Str, z = ("" : Str) ↔ z.length = 0 := fun z => by
          constructor
          · intro q; rw [q]; rfl
          · intro q
            have q' : z.cps.size = 0 := q
            exact Str.ext' (Array.eq_empty_of_size_eq_zero q')
        have ea : (a ≠ ("" : Str)) = (b ≠ ("" : Str)) := by
          rw [ne_eq, ne_eq, l0, l0, l]
        simp only [ea, e, l, ne_comm (a := a) (b := b)]
      · rw [decide_eq_false l, decide_eq_false (show ¬ b.length = a.length from fun q => l q.symm)]
        simp
    · rw [decide_eq_false e, decide_eq_false (show ¬ dropL b = dropL a from fun q => e q.symm)]
      simp
  rw [sc]
  cases s : seamB a b with
  | true =>
    unfold seamB at s
    simp only [Bool.and_eq_true, decide_eq_true_eq] at s
    rw [if_pos rfl, if_pos rfl, s.2.1]
  | false =>
    cases e1 : beginsB a b with
    | true =>
      cases e2 : beginsB b a with
      | true =>
        rw [begins_eq e1 (begins_len e2)]
      | false => rfl
    | false =>
      cases e2 : beginsB b a <;> rfl
theorem joinL_comm : ∀ {zs ws : List Str}, (∀ z ∈ zs, z ∈ begs) → (∀ z ∈ ws, z ∈ begs) → joinL ws zs = joinL zs ws
  | [], ws, _, _ => by cases ws <;> rfl
  | _ :: _, [], _, _ => rfl
  | z :: zs, w :: ws, hz, hw => by
    show jAdd (jItem w z) (joinL ws zs) = jAdd (jItem z w) (joinL zs ws)
    rw [item_comm (hz z List.mem_cons_self) (hw w List.mem_cons_self), joinL_comm (fun u mu => hz u (List.mem_cons_of_mem _ mu)) (fun u mu => hw u (List.mem_cons_of_mem _ mu))]
theorem joinM_comm {zs ws : List Str} (hz : ∀ z ∈ zs, z ∈ begs) (hw : ∀ z ∈ ws, z ∈ begs) : joinM ws zs = joinM zs ws := by
  unfold joinM
  rw [joinL_comm hz hw]
theorem cnt_self : ∀ zs : List Str, cntN zs zs = 0
  | [] => rfl
  | z :: zs => by
    have el : longsL (z :: zs) (z :: zs) = longV z z :: longsL zs zs := rfl
    have ih := cnt_self zs
    unfold cntN at ih ⊢
    rw [el, List.countP_cons, ih]
    rcases longV_cases z z with ⟨q, e, _⟩ | ⟨u, q1, q2, q3⟩
    · rw [begins_self] at e
      cases e
    · rw [q2]
      rfl
theorem joinM_self {zs : List Str} (hz : ∀ z ∈ zs, z ∈ begs) : joinM zs zs = none := by
  unfold joinM
  cases e : joinL zs zs with
  | none => rfl
  | some p =>
    obtain ⟨n, us⟩ := p
    have := (join_count hz hz e).1
    rw [cnt_self] at this
    subst this
    rfl
end VQ
namespace VQ
open PySem L2 LamX
abbrev sJoined : Stmt := top 28
/-- what putting together tells -/
def JoinV (H : Hp) : Option (List Str) → V → Prop
  | none, v => v = .non
  | some us, v => ∃ l, v = .ref l ∧ H l = some (.tup (us.map V.str))
theorem JoinV.same {H H' : Hp} {o : Option (List Str)} {v : V} (h : JoinV H o v) (s : Same H H') : JoinV H' o v := by
  cases o with
  | none => exact h
  | some us =>
    obtain ⟨l, e, hl⟩ := h
    exact ⟨l, e, s _ _ hl⟩
def rJoin (zs ws : List Str) (H : Hp) (Q : VK) : Prop := ∀ (v : V) (H' : Hp), Same H H' → JoinV H' (joinM zs ws) v → Q v H'
theorem box_begs {zs : List Str} (h : IsBoxS zs) : ∀ z ∈ zs, z ∈ begs := fun z m => let q := begB_iff.mp (h.beg z m); beg_mem q.1 q.2
theorem ixN_at {n k : Nat} (h : k < n) : ixN n (k : Int) = some k := by
  unfold ixN
  rw [if_pos (by omega), if_pos (by omega)]
  rfl
section
variable {P : Program} {w : World} {K : PySem.W.Frag} {mg : Str → Option Value} {base : Heap}
theorem scJoined : FnScope ["one", "other", "made", "at"] ["one", "other"] (defScope sJoined) := ⟨rfl, rfl, rfl, by decide +kernel, rfl, by decide +kernel, by decide +kernel⟩
theorem ok_joined {f fN fS fR CB CU CG : Addr} {fd fdN fdS fdR : FuncData} (F : Fun K "joined" "joined" sJoined f fd) (b : Blt mg) (aN : At K mg "need_boxes" sNeedBoxes ["one", "other"] fN fdN) (aS : At K mg "longer_ones" sLongers ["one", "other"] fS fdS) (aR : At K mg "brother" sBrother ["beginning"] fR fdR)
    (GN : FnOk P w K mg base (L2.CX P w) 4 fN fdN ["one", "other"] (spTwo K CB CU fun _ _ H Q => ∀ H', Same H H' → Q .non H')) (GS : FnOk P w K mg base CX0 2 fS fdS ["one", "other"] spLongers) (GR : FnOk P w K mg base (L2.CX P w) 4 fR fdR ["beginning"] (spBrother K CG)) :
    FnOk P w K mg base (L2.CX P w) 5 f fd ["one", "other"] (spTwo K CB CU rJoin) := by
  refine F.okX scJoined (fun vs H Q E h => ?_) (fun cdv A outer s H vs Q E hr h => ?_)
  · obtain ⟨x, y, o, p, rfl, _⟩ := h
    rfl
  · obtain ⟨x, y, o, p, rfl, tx, ty, k1, k2, k3⟩ := h
    have hr2 : Room 2 _ := hr.mono (by decide)
    refine ⟨_, pss_cons (ps_expr (pe_call GN hr rfl aN.gl aN.fn.kp aN.bd .nil (passes_call (takes_of rfl rfl rfl rfl) (fun _ _ _ _ h => h)) (pa_cons (pv 0) (pa_cons (pv 1) pa_nil))))
      (pss_cons (ps_set (i := 2) scJoined.nd rfl (.inl rfl) (pe_call GS hr2 rfl aS.gl aS.fn.kp aS.bd .nil pass0 (pa_cons (pv 0) (pa_cons (pv 1) pa_nil))))
      (pss_cons (ps_if (pt_cmpR op_ne (pe_bm PySem.F.plainAttrs_list PySem.F.slot_list_count PySem.F.type_list_count mt_countF (pv 2) (pa_cons pe_non pa_nil)) pe_int (nomark _)) (pss_one (ps_ret pe_non)) pss_nil)
      (pss_cons (ps_set (i := 3) scJoined.nd rfl (.inl rfl) (pe_bm PySem.F.plainAttrs_list PySem.F.slot_list_index PySem.F.type_list_index mt_index (pv 2) (pa_cons pe_non pa_nil)))
      (pss_cons (ps_if (pt_cmpR op_ne (pe_ix ix_tup (pv 0) (pv 3) fun _ _ => rfl) (pe_call GR hr rfl aR.gl aR.fn.kp aR.bd .nil (passes_call (takes_of rfl rfl rfl rfl) (fun _ _ _ _ h => h)) (pa_cons (pe_ix ix_tup (pv 1) (pv 3) fun _ _ => rfl) pa_nil)) (nomark _)) (pss_one (ps_ret pe_non)) pss_nil)
      (pss_cons (ps_asg (pe_slice sl_str (pe_ix ix_tup (pv 0) (pv 3) fun _ _ => rfl) po_none (po_some (pe_un un_neg pe_int))) (pg_sub (pv 2) (pv 3) set_list))
      (pss_one (ps_ret (pe_callTy call_tuple_of (by rfl) b.tuple (by decide +kernel) (pa_cons (pv 2) pa_nil))))))))), ?_⟩
    refine ⟨_, rfl, _, rfl, x, y, o, p, rfl, tx, ty, fun zs ws ez ew bz bw len H1 s1 => ?_, k2, k3⟩
    subst ez ew
    cases tx with
    | @tup a _ ha _ _ =>
      cases ty with
      | @tup a' _ ha' _ _ =>
        have kk : rJoin zs ws H Q := k1 zs ws rfl rfl bz bw len
        have hz := box_begs bz
        have hw := box_begs bw
        refine ⟨_, rfl, _, rfl, a, a', zs, ws, rfl, s1 _ _ ha, s1 _ _ ha', len, Nat.le_trans bz.hi (by decide), fun D H2 hD s2 h2 => ?_⟩
        have s12 := s1.trans s2
        refine ⟨_, rfl, .inl ⟨rfl, _, SqL.of h2⟩, D, _, .non, rfl, rfl, SqL.of h2, rfl, longs_flat zs ws, rfl, _, rfl, ?_⟩
        by_cases e : cntN zs ws = 1
        · refine iteNS (congrArg (fun n : Nat => V.int (n : Int)) e) ?_
          obtain ⟨j, z, u, z1, u1, non, l1, first, yes, no⟩ := join_one hz hw e len
          have zb := hz z (List.mem_of_getElem? z1)
          have ub := hw u (List.mem_of_getElem? u1)
          obtain ⟨nz, nu⟩ := non_ne non
          refine ⟨_, rfl, .inl ⟨rfl, _, SqL.of h2⟩, D, _, .non, j, .non, rfl, rfl, SqL.of h2, rfl, longs_flat zs ws, l1, rfl, first, ?_⟩
          have atz : atI (zs.map V.str) (j : Int) = some (.str z) := atI_nat (by rw [List.getElem?_map, z1]; rfl)
          have atu : atI (ws.map V.str) (j : Int) = some (.str u) := atI_nat (by rw [List.getElem?_map, u1]; rfl)
          refine ⟨_, rfl, _, rfl, a, _, _, _, rfl, rfl, SqT.of (s12 _ _ ha), atz, _, rfl, _, rfl, a', _, _, _, rfl, rfl, SqT.of (s12 _ _ ha'), atu, ?_⟩
          refine ⟨.str u, "str", rfl, .base (.str u), by decide, Nat.le_trans (begs_len u ub) (by decide), fun v ev _ _ H3 s3 => ?_, fun bad => ?_, .inl ⟨u, rfl, ub⟩⟩
          · cases ev
            have s13 := s12.trans s3
            refine ⟨rfl, _, rfl, ?_⟩
            by_cases br : z = bro u
            · refine iteNS (congrArg V.str br) ?_
              obtain ⟨us, j1, j2⟩ := yes br
              have lz : z.length ≤ sizeLine := Nat.le_trans (begs_len z zb) (by decide)
              refine ⟨_, rfl, _, rfl, a, _, _, _, rfl, rfl, SqT.of (s13 _ _ ha), atz, 1, rfl, _, rfl, z, rfl, lz, _, rfl, _, rfl, D, _, j, j, rfl, rfl, s3 _ _ h2, ixN_at (List.getElem?_eq_some_iff.mp l1).1, ?_⟩
              rw [(bro_cut z zb nz).2.1, j2]
              refine ⟨_, rfl, D, _, rfl, .inl ⟨SqL.of upd_same, fun l hl => ?_⟩⟩
              have ss : Same H (upd H3 D (.lst (us.map V.str))) := fun q o z' => by
                rw [upd_ne (fun y => by rw [y, s1.free hD] at z'; cases z')]
                exact s13 _ _ z'
              refine kk _ _ (ss.trans (same_new hl)) ?_
              have ej : joinM zs ws = some us := by
                unfold joinM
                rw [j1]
                rfl
              rw [ej]
              exact ⟨l, rfl, upd_same⟩
            · rw [decide_eq_false (show ¬ V.str z = V.str (bro u) from fun q => br (V.str.inj q))]
              refine iteT ?_
              refine kk _ _ s13 ?_
              have ej : joinM zs ws = none := by
                unfold joinM
                rw [no br]
              rw [ej]
              exact rfl
          · rcases bad with q | q
            · exact absurd (V.str.inj q) nu
            · rw [begs_yes u ub] at q
              cases q
        · have ne : ¬ V.int ((longsL zs ws).countP (fun z => eqV z .non) : Nat) = V.int 1 := fun q => by
            injection q with q
            exact e (by unfold cntN; exact Int.ofNat.inj q)
          rw [decide_eq_false ne]
          refine iteT ?_
          refine kk _ _ s12 ?_
          have ej : joinM zs ws = none := by
            unfold joinM
            cases q : joinL zs ws with
            | none => rfl
            | some t =>
              obtain ⟨n, us⟩ := t
              have c1 := (join_count hz hw q).1
              match n, c1 with
              | 0, _ => rfl
              | 1, c1 => exact absurd c1.symm e
              | n + 2, _ => rfl
          rw [ej]
          exact rfl
end
end VQ
namespace VQ
open PySem L2 LamX
abbrev sLongerL : Stmt := top 45
abbrev sSeam : Stmt := top 43
section
variable {P : Program} {w : World} {K : PySem.W.Frag} {mg : Str → Option Value} {base : Heap}
/-- a beginning drawn from a beginning -/
def spLongerL : Sp := fun vs H Q _ => ∃ (b : Addr) (z : Str), vs = [.ref b, .str z] ∧ Bag H b ∧ z ∈ begs ∧ ∀ (u : Str) (H' : Hp), u ∈ begs → Bag H' b → Keep b H H' → Q (.str u) H'
theorem scLongerL : FnScope ["_law_bag_here", "_law_one", "_law_more"] ["_law_bag_here", "_law_one"] (defScope sLongerL) := ⟨rfl, rfl, rfl, by decide +kernel, rfl, by decide +kernel, by decide +kernel⟩
theorem ok_longerL {f fP fW fF : Addr} {fd fdP fdW fdF : FuncData} (F : Fun K "_law_longer" "_law_longer" sLongerL f fd) (b : Blt mg) (aP : At K mg "_law_pull" sPull ["_law_bag_here", "_law_size"] fP fdP) (aW : At K mg "_law_worth" sWorth ["_law_bag_here"] fW fdW) (aF : At K mg "_law_figs" sFigs ["_law_worth_here"] fF fdF)
    (GW : FnOk P w K mg base CX0 3 fW fdW ["_law_bag_here"] (spDraw fun i => 0 ≤ i ∧ i < 32)) : FnOk P w K mg base CX0 4 f fd ["_law_bag_here", "_law_one"] spLongerL := by
  have GP : FnOk P w K mg base CX0 1 fP fdP ["_law_bag_here", "_law_size"] spPull := ok_pull aP.fn b.len
  have GF : FnOk P w K mg base CX0 1 fF fdF ["_law_worth_here"] spFigs := ok_figs aF.fn b.range b.str
  refine F.ok scLongerL (fun vs H Q E h => ?_) (fun cdv A outer s H vs Q E hr h => ?_)
  · obtain ⟨bg, z, rfl, _⟩ := h
    rfl
  · obtain ⟨bg, z, rfl, B, hz, k⟩ := h
    have hr1 : Room 1 _ := hr.mono (by decide)
    refine ⟨_, pss_cons (ps_set (i := 2) scLongerL.nd rfl (.inl rfl) (pe_op op_add_str (pv 1) (pe_call GF hr1 rfl aF.gl aF.fn.kp aF.bd .nil pass0 (pa_cons (pe_call GW hr rfl aW.gl aW.fn.kp aW.bd .nil pass0 (pa_cons (pv 0) pa_nil)) pa_nil))))
      (pss_one (ps_ret (pe_slice sl_str (pv 2) po_none (po_some (pe_op op_add (pe_callB call_len_str (by rfl) b.len PySem.boot_len (pa_cons (pv 1) pa_nil))
        (pe_call GP hr1 rfl aP.gl aP.fn.kp aP.bd .nil pass0 (pa_cons (pv 0) (pa_cons (pe_op op_sub pe_int (pe_callB call_len_str (by rfl) b.len PySem.boot_len (pa_cons (pv 1) pa_nil))) pa_nil)))))))), ?_⟩
    have lz := begs_len z hz
    have lzs : z.length ≤ sizeLine := Nat.le_trans lz (by decide)
    refine ⟨_, rfl, _, rfl, bg, rfl, B, fun d H1 hd B1 k1 => ?_⟩
    obtain ⟨wt, rfl⟩ := Int.eq_ofNat_of_zero_le hd.1
    have ll : (z ++ fig wt).length ≤ 10 := (m_more z hz wt (by omega)).2
    refine ⟨wt, rfl, z, fig wt, rfl, rfl, by rw [fig_len]; exact Nat.le_trans (show z.length + 5 ≤ 10 by omega) (by decide), ?_⟩
    refine ⟨_, rfl, _, rfl, z, rfl, lzs, _, rfl, _, rfl, z, rfl, lzs, _, _, rfl, rfl, bg, _, rfl, B1, by omega, by omega, fun d H2 d0 d1 B2 k2 => ?_⟩
    obtain ⟨j, rfl⟩ := Int.eq_ofNat_of_zero_le d0
    refine ⟨_, _, rfl, rfl, _, rfl, _, rfl, Nat.le_trans ll (by decide), ?_⟩
    rw [show ((z.length : Nat) : Int) + (j : Int) = ((z.length + j : Nat) : Int) by omega, cut_to]
    exact k _ H2 (tk_beg (app_signs (beg_signs hz) (fig_signs wt)) (by omega)) B2 (k1.trans k2)
/-- a box drawn from a box: as many beginnings -/
def spSeam : Sp := fun vs H Q _ => ∃ (b a : Addr) (zs : List Str), vs = [.ref b, .ref a] ∧ Bag H b ∧ BoxAt H a zs ∧ 1 ≤ zs.length ∧ ∀ (p : Addr) (us : List Str) (H' : Hp), us.length = zs.length → (∀ u ∈ us, u ∈ begs) → H p = none → H' p = some (.tup (us.map V.str)) → Bag H' b → Keep b H H' → Q (.ref p) H'
abbrev nSeam : List Str := ["_law_bag_here", "_law_box_here", "_law_at", "_law_found", "_law_k", "_law_one"]
theorem scSeam : FnScope nSeam ["_law_bag_here", "_law_box_here"] (defScope sSeam) := ⟨rfl, rfl, rfl, by decide +kernel, rfl, by decide +kernel, by decide +kernel⟩
theorem ok_seam {f fP fL : Addr} {fd fdP fdL : FuncData} (F : Fun K "_law_seam_box" "_law_seam_box" sSeam f fd) (b : Blt mg) (en : mg "enumerate" = none) (aP : At K mg "_law_pull" sPull ["_law_bag_here", "_law_size"] fP fdP) (aL : At K mg "_law_longer" sLongerL ["_law_bag_here", "_law_one"] fL fdL)
    (GL : FnOk P w K mg base CX0 4 fL fdL ["_law_bag_here", "_law_one"] spLongerL) : FnOk P w K mg base CX0 5 f fd ["_law_bag_here", "_law_box_here"] spSeam := by
  have GP : FnOk P w K mg base CX0 1 fP fdP ["_law_bag_here", "_law_size"] spPull := ok_pull aP.fn b.len
  refine F.ok scSeam (fun vs H Q E h => ?_) (fun cdv A outer s H vs Q E hr h => ?_)
  · obtain ⟨bg, a, zs, rfl, _⟩ := h
    rfl
  · obtain ⟨bg, a, zs, rfl, B, ⟨ha, hz, hl⟩, l1, k⟩ := h
    have hr1 : Room 1 _ := hr.mono (by decide)
    refine ⟨_, pss_cons (ps_set (i := 2) scSeam.nd rfl (.inl rfl) (pe_call GP hr1 rfl aP.gl aP.fn.kp aP.bd .nil pass0 (pa_cons (pv 0) (pa_cons (pe_callB call_len_seq (by rfl) b.len PySem.boot_len (pa_cons (pv 1) pa_nil)) pa_nil))))
      (pss_cons (ps_set (i := 3) scSeam.nd rfl (.inl rfl) (pe_lst pa_nil))
      (pss_cons (ps_for PassesOwn.never rfl (pi_enumT rfl en (pa_cons (pv 1) pa_nil)) (pg_tup rfl (pgs_cons (pg_name (i := 4) scSeam.nd rfl (.inl rfl)) (pgs_cons (pg_name (i := 5) scSeam.nd rfl (.inl rfl)) pgs_nil)))
        (pss_one (ps_if (PW.pt (pw_and (pt_cmpR op_eq (pv 4) (pv 2) (nomark _)) (pw_and1 (pt_cmpR op_ne (pv 5) pe_str (nomark _)))))
          (pss_one (ps_expr (pe_bm PySem.F.plainAttrs_list PySem.F.slot_list_append PySem.F.type_list_append mt_append (pv 3) (pa_cons
            (pe_op op_add_str (pe_slice sl_str (pv 5) po_none (po_some (pe_un un_neg pe_int))) (pe_ifExp (pt_cmpR op_eq (pe_ix ix_str (pv 5) (pe_un un_neg pe_int) fun _ _ => rfl) pe_str (nomark _)) pe_str pe_str)) pa_nil))))
          (pss_one (ps_if (pt_cmpR op_eq (pe_call GP hr1 rfl aP.gl aP.fn.kp aP.bd .nil pass0 (pa_cons (pv 0) (pa_cons pe_int pa_nil))) pe_int (nomark _))
            (pss_one (ps_expr (pe_bm PySem.F.plainAttrs_list PySem.F.slot_list_append PySem.F.type_list_append mt_append (pv 3) (pa_cons
              (pe_slice sl_str (pv 5) po_none (po_some (pe_call GP hr1 rfl aP.gl aP.fn.kp aP.bd .nil pass0 (pa_cons (pv 0) (pa_cons (pe_op op_add (pe_callB call_len_str (by rfl) b.len PySem.boot_len (pa_cons (pv 5) pa_nil)) pe_int) pa_nil))))) pa_nil))))
            (pss_one (ps_expr (pe_bm PySem.F.plainAttrs_list PySem.F.slot_list_append PySem.F.type_list_append mt_append (pv 3) (pa_cons
              (pe_call GL hr rfl aL.gl aL.fn.kp aL.bd .nil pass0 (pa_cons (pv 0) (pa_cons (pv 5) pa_nil))) pa_nil)))))))))
      (pss_one (ps_ret (pe_callTy call_tuple_of (by rfl) b.tuple (by decide +kernel) (pa_cons (pv 3) pa_nil)))))), ?_⟩
    have lm : (zs.map V.str).length = zs.length := List.length_map ..
    refine ⟨_, rfl, _, rfl, a, _, rfl, .inr (SqT.of ha), bg, _, rfl, B, by omega, by omega, fun pl H1 p0 p1 B1 k1 => ?_⟩
    refine ⟨by show 0 ≤ sizeLine; decide, fun D hD => ?_⟩
    have hD0 : H D = none := k1.free B B1 hD
    obtain ⟨B2, K2⟩ := Bag.put (o := .lst []) B hD0 k1 B1
    have Db : D ≠ bg := B.ne hD0
    refine ⟨_, rfl, a, _, rfl, SqT.of (K2.tup B ha), ?_⟩
    refine for_enumT (xs := zs.map V.str) (fun i σ H' => Bag H' bg ∧ Keep bg H H' ∧ ∃ (v4 v5 : Option V) (us : List Str), σ = [some (.ref bg), some (.ref a), some (.int pl), some (.ref D), v4, v5] ∧ us.length = i ∧ (∀ u ∈ us, u ∈ begs) ∧ H' D = some (.lst (us.map V.str)))
      ⟨B2, K2, none, none, [], rfl, rfl, (fun u m => by cases m), upd_same⟩ (fun i σ H' q => SqT.of (q.2.1.tup B ha)) ?_ ?_
    · rintro i x T σ H3 hx ⟨B3, K3, v4, v5, us, rfl, lu, hu, h3⟩ nT
      obtain ⟨z, ez, rfl⟩ := map_get hx
      have li : i < zs.length := (List.getElem?_eq_some_iff.mp ez).1
      have zb := hz z (List.mem_of_getElem? ez)
      have lz := begs_len z zb
      have lzs : z.length ≤ sizeLine := Nat.le_trans lz (by decide)
      have hT0 : H T = none := K3.free B B3 nT
      obtain ⟨B4, K4⟩ := Bag.put (o := .tup [.int (i : Nat), .str z]) B hT0 K3 B3
      have DT : D ≠ T := fun q => by
        rw [← q, h3] at nT
        cases nT
      have h4 : upd H3 T (.tup [.int (i : Nat), .str z]) D = some (.lst (us.map V.str)) := (upd_ne DT).trans h3
      have fin : ∀ (u : Str) (H' : Hp) (v4 v5 : Option V), u ∈ begs → Bag H' bg → Keep bg H H' → Bag (upd H' D (.lst (us.map V.str ++ [.str u]))) bg ∧ Keep bg H (upd H' D (.lst (us.map V.str ++ [.str u]))) ∧ ∃ (v4' v5' : Option V) (us' : List Str), [some (V.ref bg), some (.ref a), some (.int pl), some (.ref D), v4, v5] = [some (.ref bg), some (.ref a), some (.int pl), some (.ref D), v4', v5'] ∧ us'.length = i + 1 ∧ (∀ u ∈ us', u ∈ begs) ∧ upd H' D (.lst (us.map V.str ++ [.str u])) D = some (.lst (us'.map V.str)) := fun u H' v4 v5 ub B' K' => by
        obtain ⟨B5, K5⟩ := Bag.put (o := .lst (us.map V.str ++ [.str u])) B hD0 K' B'
        refine ⟨B5, K5, v4, v5, us ++ [u], rfl, by rw [List.length_append, lu]; rfl, fun t m => ?_, ?_⟩
        · rcases List.mem_append.mp m with m | m
          · exact hu t m
          · rw [List.mem_singleton.mp m]
            exact ub
        · rw [upd_same, List.map_append]
          rfl
      have room : (us.map V.str).length < sizeLine := by
        rw [List.length_map, lu]
        exact Nat.lt_of_lt_of_le (show i < 6 by omega) (by decide)
      refine ⟨T, _, rfl, SqT.of upd_same, rfl, _, _, rfl, _, _, rfl, rfl, ?_⟩
      refine ⟨_, rfl, _, rfl, rfl, _, rfl, ?_⟩
      refine ite2 (fun _ => ?_) (fun _ => ?_)
      · refine ⟨_, rfl, rfl, _, rfl, ?_⟩
        by_cases e : z = ("" : Str)
        · refine iteNS (congrArg V.str e) ?_
          refine ⟨_, rfl, bg, 2, rfl, B4, by decide, by decide, fun d H5 d0 d1 B5 K5 => ⟨rfl, _, rfl, ?_⟩⟩
          have K45 := K4.trans K5
          have h5 := K5.1 _ _ Db h4
          refine ite2 (fun _ => ?_) (fun _ => ?_)
          · refine ⟨_, rfl, .inl ⟨rfl, _, SqL.of h5⟩, _, rfl, _, rfl, _, rfl, z, rfl, lzs, _, _, rfl, rfl, bg, _, rfl, B5, by omega, by omega, fun d H6 d0 d1 B6 K6 => ?_⟩
            obtain ⟨j, rfl⟩ := Int.eq_ofNat_of_zero_le d0
            refine ⟨_, rfl, z, rfl, lzs, D, _, _, rfl, rfl, K6.1 _ _ Db h5, room, ?_⟩
            rw [cut_to]
            exact fin _ H6 _ _ (m_tk z zb j (by omega)) B6 (K45.trans K6)
          · refine ⟨_, rfl, .inl ⟨rfl, _, SqL.of h5⟩, _, rfl, _, rfl, bg, z, rfl, B5, zb, fun u H6 hu6 B6 K6 => ?_⟩
            refine ⟨D, _, _, rfl, rfl, K6.1 _ _ Db h5, room, ?_⟩
            exact fin u H6 _ _ hu6 B6 (K45.trans K6)
        · have e' : ¬ V.str z = V.str "" := fun q => e (V.str.inj q)
          rw [decide_eq_false e']
          refine iteT ?_
          obtain ⟨c1, c2, c3, c4⟩ := bro_cut z zb e
          have short : ∀ t : Str, t.length = 1 → (cutS z none (some (-1))).length + t.length ≤ sizeLine := fun t el => by
            rw [c2, el]
            exact Nat.le_trans (by omega : (dropL z).length + 1 ≤ 6) (by decide)
          have key : ∀ t : Str, t = flip (lastC z) → (cutS z none (some (-1)) ++ t) = bro z := fun t et => by
            rw [c2, et]
            rfl
          refine ⟨_, rfl, .inl ⟨rfl, _, SqL.of h4⟩, _, rfl, 1, rfl, _, rfl, z, rfl, lzs, _, rfl, 1, rfl, z, -1, lastC z, rfl, rfl, lzs, c1, rfl, _, rfl, ?_⟩
          by_cases el : lastC z = 48
          · rw [el, show decide (V.str ⟨#[48]⟩ = V.str "0") = true by decide +kernel]
            have ef : ("1" : Str) = flip (lastC z) := by rw [el]; rfl
            refine iteT ⟨_, _, rfl, rfl, short _ (by decide +kernel), D, _, _, rfl, rfl, h4, room, ?_⟩
            rw [key _ ef]
            exact fin _ _ _ _ (bro_in z zb e).1 B4 K4
          · have el' : lastC z = 49 := by omega
            rw [el', show decide (V.str ⟨#[49]⟩ = V.str "0") = false by decide +kernel]
            have ef : ("0" : Str) = flip (lastC z) := by rw [el']; rfl
            refine iteF ⟨_, _, rfl, rfl, short _ (by decide +kernel), D, _, _, rfl, rfl, h4, room, ?_⟩
            rw [key _ ef]
            exact fin _ _ _ _ (bro_in z zb e).1 B4 K4
      · refine ⟨_, rfl, bg, 2, rfl, B4, by decide, by decide, fun d H5 d0 d1 B5 K5 => ⟨rfl, _, rfl, ?_⟩⟩
        have K45 := K4.trans K5
        have h5 := K5.1 _ _ Db h4
        refine ite2 (fun _ => ?_) (fun _ => ?_)
        · refine ⟨_, rfl, .inl ⟨rfl, _, SqL.of h5⟩, _, rfl, _, rfl, _, rfl, z, rfl, lzs, _, _, rfl, rfl, bg, _, rfl, B5, by omega, by omega, fun d H6 d0 d1 B6 K6 => ?_⟩
          obtain ⟨j, rfl⟩ := Int.eq_ofNat_of_zero_le d0
          refine ⟨_, rfl, z, rfl, lzs, D, _, _, rfl, rfl, K6.1 _ _ Db h5, room, ?_⟩
          rw [cut_to]
          exact fin _ H6 _ _ (m_tk z zb j (by omega)) B6 (K45.trans K6)
        · refine ⟨_, rfl, .inl ⟨rfl, _, SqL.of h5⟩, _, rfl, _, rfl, bg, z, rfl, B5, zb, fun u H6 hu6 B6 K6 => ?_⟩
          refine ⟨D, _, _, rfl, rfl, K6.1 _ _ Db h5, room, ?_⟩
          exact fin u H6 _ _ hu6 B6 (K45.trans K6)
    · rintro σ H3 ⟨B3, K3, v4, v5, us, rfl, lu, hu, h3⟩
      rw [lm] at lu
      refine ⟨_, rfl, D, _, rfl, .inl ⟨SqL.of h3, fun l hl' => ?_⟩⟩
      have hl0 : H l = none := K3.free B B3 hl'
      obtain ⟨B4, K4⟩ := Bag.put (o := .tup (us.map V.str)) B hl0 K3 B3
      exact k l us _ lu hu hl0 upd_same B4 K4
end
end VQ
namespace VQ
open PySem L2 LamX
abbrev sJoinL : Stmt := top 44
/-! ### place by place -/
def jSnoc : Option (Nat × List Str) → Option (Nat × Str) → Option (Nat × List Str)
  | some (m, us), some (n, u) => some (m + n, us ++ [u])
  | _, _ => none
theorem joinL_snoc {a b : Str} : ∀ {xs ys : List Str}, xs.length = ys.length → joinL (xs ++ [a]) (ys ++ [b]) = jSnoc (joinL xs ys) (jItem a b)
  | [], [], _ => by
    show jAdd (jItem a b) (some (0, [])) = jSnoc (some (0, [])) (jItem a b)
    cases jItem a b with
    | none => rfl
    | some p =>
      obtain ⟨n, u⟩ := p
      show some (n + 0, [u]) = some (0 + n, [u])
      rw [Nat.zero_add, Nat.add_zero]
  | [], _ :: _, l => by cases l
  | _ :: _, [], l => by cases l
  | x :: xs, y :: ys, l => by
    show jAdd (jItem x y) (joinL (xs ++ [a]) (ys ++ [b])) = jSnoc (jAdd (jItem x y) (joinL xs ys)) (jItem a b)
    rw [joinL_snoc (by simpa using l)]
    cases jItem x y with
    | none => cases joinL xs ys <;> cases jItem a b <;> rfl
    | some p =>
      cases joinL xs ys with
      | none => cases jItem a b <;> rfl
      | some q =>
        cases jItem a b with
        | none => rfl
        | some r =>
          obtain ⟨n, u⟩ := p
          obtain ⟨m, us⟩ := q
          obtain ⟨o, v⟩ := r
          show some (n + (m + o), _) = some (n + m + o, _)
          rw [Nat.add_assoc]
          rfl
theorem joinL_stop {a b : Str} : ∀ {zs ws : List Str} {j : Nat}, zs[j]? = some a → ws[j]? = some b → jItem a b = none → joinL zs ws = none
  | [], _, j, h, _, _ => by cases h
  | _ :: _, [], j, _, h, _ => by cases h
  | z :: zs, w :: ws, 0, h, h', e => by
    cases h
    cases h'
    show jAdd (jItem a b) _ = none
    rw [e]
    cases joinL zs ws <;> rfl
  | z :: zs, w :: ws, j + 1, h, h', e => by
    show jAdd (jItem z w) (joinL zs ws) = none
    rw [joinL_stop (zs := zs) (ws := ws) (j := j) h h' e]
    cases jItem z w <;> rfl
theorem cut_last : ∀ z ∈ begs, cutS z none (some (-1)) = dropL z ∧ (dropL z).length ≤ 5 := by decide +kernel
abbrev rLenT : List V → Hp → VK → Prop := fun xs H Q => ∃ z, xs = [.str z] ∧ z.length ≤ sizeLine ∧ Q (.int z.length) H
abbrev tLess (i : Nat) : TE := tSl rSlS (tVar i) tNoPart (tPart (tUn (rU fun i => .int (-i)) (tC (.int 1))))
/-- the law's test whether two beginnings are brothers -/
theorem seam_test {σ : L2.St} {H : Hp} {z u : Str} {Q : Bool → Hp → Prop} (h4 : σ[4]? = some (some (.str z))) (h5 : σ[5]? = some (some (.str u))) (zb : z ∈ begs) (ub : u ∈ begs) (k : Q (seamB z u) H) :
    tAnd (tTest (tOp rNe (tVar 4) (tC (.str "")))) (tAnd (tTest (tOp rEq (tLess 4) (tLess 5))) (tAnd (tTest (tOp rEq (tCB rLenT (tCons (tVar 4) tNil)) (tCB rLenT (tCons (tVar 5) tNil)))) (tTest (tOp rNe (tVar 4) (tVar 5))))) σ H Q := by
  have l1s : z.length ≤ sizeLine := Nat.le_trans (begs_len z zb) (by decide)
  have l2s : u.length ≤ sizeLine := Nat.le_trans (begs_len u ub) (by decide)
  refine ⟨_, h4, rfl, _, rfl, ?_⟩
  unfold seamB at k
  by_cases e1 : z = ("" : Str)
  · rw [decide_eq_false (fun q : z ≠ _ => q e1)] at k
    exact iteNS (congrArg V.str e1) k
  rw [decide_eq_true e1, Bool.true_and] at k
  rw [decide_eq_false (show ¬ V.str z = V.str "" from fun q => e1 (V.str.inj q))]
  refine iteT ⟨_, h4, 1, rfl, _, rfl, z, rfl, l1s, _, h5, 1, rfl, _, rfl, u, rfl, l2s, rfl, _, rfl, ?_⟩
  rw [(cut_last z zb).1, (cut_last u ub).1]
  by_cases e2 : dropL z = dropL u
  · rw [decide_eq_true e2, Bool.true_and] at k
    rw [decide_eq_true (congrArg V.str e2)]
    refine iteT ⟨_, h4, z, rfl, l1s, _, h5, u, rfl, l2s, rfl, _, rfl, ?_⟩
    by_cases e3 : z.length = u.length
    · rw [decide_eq_true e3, Bool.true_and] at k
      rw [decide_eq_true (congrArg (fun n : Nat => V.int (n : Int)) e3)]
      refine iteT ⟨_, h4, _, h5, rfl, _, rfl, ?_⟩
      by_cases e4 : z = u
      · rw [decide_eq_false (fun q : z ≠ u => q e4)] at k
        rw [decide_eq_true (congrArg V.str e4)]
        exact k
      · rw [decide_eq_true e4] at k
        rw [decide_eq_false (show ¬ V.str z = V.str u from fun q => e4 (V.str.inj q))]
        exact k
    · rw [decide_eq_false e3] at k
      rw [decide_eq_false (show ¬ V.int ((z.length : Nat) : Int) = V.int ((u.length : Nat) : Int) from fun q => e3 (by injection q with q; exact Int.ofNat.inj q))]
      exact iteF k
  · rw [decide_eq_false e2] at k
    rw [decide_eq_false (show ¬ V.str (dropL z) = V.str (dropL u) from fun q => e2 (V.str.inj q))]
    exact iteF k
section
variable {P : Program} {w : World} {K : PySem.W.Frag} {mg : Str → Option Value} {base : Heap}
def spJoinL : Sp := fun vs H Q _ => ∃ (a b : Addr) (zs ws : List Str), vs = [.ref a, .ref b] ∧ BoxAt H a zs ∧ BoxAt H b ws ∧ zs.length = ws.length ∧ rJoin zs ws H Q
abbrev nJoinL : List Str := ["_law_one", "_law_other", "_law_found", "_law_seams", "_law_a", "_law_b"]
theorem scJoinL : FnScope nJoinL ["_law_one", "_law_other"] (defScope sJoinL) := ⟨rfl, rfl, rfl, by decide +kernel, rfl, by decide +kernel, by decide +kernel⟩
theorem ok_joinL {f fS : Addr} {fd fdS : FuncData} (F : Fun K "_law_joined" "_law_joined" sJoinL f fd) (b : Blt mg) (zp : mg "zip" = none) (aS : At K mg "_law_starts" sStarts ["_law_one", "_law_other"] fS fdS) : FnOk P w K mg base CX0 2 f fd ["_law_one", "_law_other"] spJoinL := by
  have GS : FnOk P w K mg base CX0 1 fS fdS ["_law_one", "_law_other"] spStarts := ok_starts aS.fn b
  refine F.ok scJoinL (fun vs H Q E h => ?_) (fun cdv A outer s H vs Q E hr h => ?_)
  · obtain ⟨a, b, zs, ws, rfl, _⟩ := h
    rfl
  · obtain ⟨a, a', zs, ws, rfl, ⟨ha, hz, lz⟩, ⟨hb, hw, lw⟩, len, k⟩ := h
    refine ⟨_, pss_cons (ps_par (i := 2) (j := 3) rfl scJoinL.nd rfl rfl (by decide) rfl rfl (pa_cons (pe_lst pa_nil) (pa_cons pe_int pa_nil)) rfl)
      (pss_cons (ps_for PassesOwn.never rfl (RZ.pi_zipA rfl zp (pa_cons (pv 0) (pa_cons (pv 1) pa_nil))) (pg_tup rfl (pgs_cons (pg_name (i := 4) scJoinL.nd rfl (.inl rfl)) (pgs_cons (pg_name (i := 5) scJoinL.nd rfl (.inl rfl)) pgs_nil)))
        (pss_one (ps_if (PW.pt (pw_and (pt_cmpR op_ne (pv 4) pe_str (nomark _)) (pw_and (pt_cmpR op_eq (pe_slice sl_str (pv 4) po_none (po_some (pe_un un_neg pe_int))) (pe_slice sl_str (pv 5) po_none (po_some (pe_un un_neg pe_int))) (nomark _))
            (pw_and (pt_cmpR op_eq (pe_callB call_len_str (by rfl) b.len PySem.boot_len (pa_cons (pv 4) pa_nil)) (pe_callB call_len_str (by rfl) b.len PySem.boot_len (pa_cons (pv 5) pa_nil)) (nomark _)) (pw_and1 (pt_cmpR op_ne (pv 4) (pv 5) (nomark _)))))))
          (pss_cons (ps_set (i := 3) scJoinL.nd rfl (.inl rfl) (pe_op op_add (pv 3) pe_int))
          (pss_one (ps_expr (pe_bm PySem.F.plainAttrs_list PySem.F.slot_list_append PySem.F.type_list_append mt_append (pv 2) (pa_cons (pe_slice sl_str (pv 4) po_none (po_some (pe_un un_neg pe_int))) pa_nil)))))
          (pss_cons (ps_expr (pe_bm PySem.F.plainAttrs_list PySem.F.slot_list_append PySem.F.type_list_append mt_append (pv 2) (pa_cons (pe_ifExp (pt_val (pe_call GS hr rfl aS.gl aS.fn.kp aS.bd .nil pass0 (pa_cons (pv 4) (pa_cons (pv 5) pa_nil)))) (pv 4) (pv 5)) pa_nil)))
          (pss_one (ps_if (PW.pt (pw_and (pt_not (pt_val (pe_call GS hr rfl aS.gl aS.fn.kp aS.bd .nil pass0 (pa_cons (pv 4) (pa_cons (pv 5) pa_nil))))) (pw_and1 (pt_not (pt_val (pe_call GS hr rfl aS.gl aS.fn.kp aS.bd .nil pass0 (pa_cons (pv 5) (pa_cons (pv 4) pa_nil))))))))
            (pss_one (ps_ret pe_non)) pss_nil))))))
      (pss_one (ps_ret (pe_ifExp (pt_cmpR op_eq (pv 3) pe_int (nomark _)) (pe_callTy call_tuple_of (by rfl) b.tuple (by decide +kernel) (pa_cons (pv 2) pa_nil)) pe_non)))), ?_⟩
    refine ⟨by show 0 ≤ sizeLine; decide, fun D hD => ⟨_, _, rfl, ?_⟩⟩
    have s1 := same_new (o := HO.lst []) hD
    refine ⟨_, rfl, _, rfl, a, a', _, _, rfl, .inr ⟨SqT.of (s1 _ _ ha), SqT.of (s1 _ _ hb), ?_⟩⟩
    refine for_zipT (xs := zs.map V.str) (ys := ws.map V.str) (by rw [List.length_map, List.length_map]; exact len) (fun i σ H' => Same H H' ∧ ∃ (n : Nat) (us : List Str) (v4 v5 : Option V), σ = [some (.ref a), some (.ref a'), some (.ref D), some (.int (n : Int)), v4, v5] ∧ joinL (zs.take i) (ws.take i) = some (n, us) ∧ us.length = i ∧ H' D = some (.lst (us.map V.str)))
      ⟨s1, 0, [], none, none, rfl, rfl, rfl, upd_same⟩ (fun i σ H' q => ⟨SqT.of (q.1 _ _ ha), SqT.of (q.1 _ _ hb)⟩) ?_ ?_
    · rintro i x y T σ H2 hx hy ⟨s2, n, us, v4, v5, rfl, ej, lu, h2⟩ nT
      obtain ⟨z, ez, rfl⟩ := map_get hx
      obtain ⟨u, eu, rfl⟩ := map_get hy
      have li : i < zs.length := (List.getElem?_eq_some_iff.mp ez).1
      have zb := hz z (List.mem_of_getElem? ez)
      have ub := hw u (List.mem_of_getElem? eu)
      have l1 : z.length ≤ 1000 := Nat.le_trans (begs_len z zb) (by decide)
      have l2 : u.length ≤ 1000 := Nat.le_trans (begs_len u ub) (by decide)
      have l1s : z.length ≤ sizeLine := Nat.le_trans l1 (by decide)
      have l2s : u.length ≤ sizeLine := Nat.le_trans l2 (by decide)
      have DT : D ≠ T := fun q => by
        rw [← q, h2] at nT
        cases nT
      have h3 : upd H2 T (.tup [.str z, .str u]) D = some (.lst (us.map V.str)) := (upd_ne DT).trans h2
      have s3 : Same H (upd H2 T (.tup [.str z, .str u])) := s2.trans (same_new nT)
      have room : (us.map V.str).length < sizeLine := by
        rw [List.length_map, lu]
        exact Nat.lt_of_lt_of_le (show i < 6 by omega) (by decide)
      have next : jItem z u = none ∨ ∃ m t, jItem z u = some (m, t) ∧ joinL (zs.take (i + 1)) (ws.take (i + 1)) = some (n + m, us ++ [t]) := by
        cases q : jItem z u with
        | none => exact .inl rfl
        | some p =>
          obtain ⟨m, t⟩ := p
          refine .inr ⟨m, t, rfl, ?_⟩
          rw [List.take_add_one, List.take_add_one, ez, eu]
          show joinL (zs.take i ++ [z]) (ws.take i ++ [u]) = _
          rw [joinL_snoc (by rw [List.length_take, List.length_take]; omega), ej, q]
          rfl
      have fin : ∀ (m : Nat) (t : Str) (v4 v5 : Option V), jItem z u = some (m, t) → Same H (upd (upd H2 T (.tup [.str z, .str u])) D (.lst (us.map V.str ++ [.str t]))) ∧ ∃ (n' : Nat) (us' : List Str) (v4' v5' : Option V), [some (V.ref a), some (.ref a'), some (.ref D), some (.int ((n + m : Nat) : Int)), v4, v5] = [some (.ref a), some (.ref a'), some (.ref D), some (.int (n' : Int)), v4', v5'] ∧ joinL (zs.take (i + 1)) (ws.take (i + 1)) = some (n', us') ∧ us'.length = i + 1 ∧ upd (upd H2 T (.tup [.str z, .str u])) D (.lst (us.map V.str ++ [.str t])) D = some (.lst (us'.map V.str)) := fun m t v4 v5 q => by
        rcases next with q' | ⟨m', t', q', e'⟩
        · rw [q] at q'
          cases q'
        · rw [q] at q'
          cases q'
          refine ⟨fun c o z' => ?_, n + m, us ++ [t], v4, v5, rfl, e', by rw [List.length_append, lu]; rfl, by rw [upd_same, List.map_append]; rfl⟩
          rw [upd_ne (fun y => by rw [y, hD] at z'; cases z')]
          exact s3 _ _ z'
      refine ⟨T, _, rfl, SqT.of upd_same, rfl, _, _, rfl, _, _, rfl, rfl, ?_⟩
      refine seam_test rfl rfl zb ub ?_
      cases ns : seamB z u with
      | true =>
        refine iteT ⟨_, rfl, _, _, rfl, rfl, ?_⟩
        refine ⟨_, rfl, .inl ⟨rfl, _, SqL.of h3⟩, _, rfl, 1, rfl, _, rfl, z, rfl, l1s, D, _, _, rfl, rfl, h3, room, ?_⟩
        rw [(cut_last z zb).1]
        refine fin 1 (dropL z) _ _ ?_
        unfold jItem
        rw [ns, if_pos rfl]
      | false =>
        refine iteF ?_
        refine ⟨_, rfl, .inl ⟨rfl, _, SqL.of h3⟩, _, rfl, _, rfl, z, u, rfl, l1, l2, _, rfl, ?_⟩
        cases b1 : beginsB z u with
        | true =>
          have ji : jItem z u = some (0, z) := by
            unfold jItem
            rw [ns, b1]
            rfl
          refine iteT ⟨_, rfl, D, _, _, rfl, rfl, h3, room, ?_⟩
          refine ⟨_, rfl, _, rfl, z, u, rfl, l1, l2, _, rfl, ?_⟩
          rw [b1]
          exact iteF (fin 0 z _ _ ji)
        | false =>
          refine iteF ⟨_, rfl, D, _, _, rfl, rfl, h3, room, ?_⟩
          refine ⟨_, rfl, _, rfl, z, u, rfl, l1, l2, _, rfl, ?_⟩
          rw [b1]
          refine iteT ⟨_, rfl, _, rfl, u, z, rfl, l2, l1, _, rfl, ?_⟩
          cases b2 : beginsB u z with
          | true =>
            have ji : jItem z u = some (0, u) := by
              unfold jItem
              rw [ns, b1, b2]
              rfl
            exact iteF (fin 0 u _ _ ji)
          | false =>
            have ji : jItem z u = none := by
              unfold jItem
              rw [ns, b1, b2]
              rfl
            refine iteT ?_
            refine k _ _ (fun c o z' => ?_) ?_
            · rw [upd_ne (fun y => by rw [y, hD] at z'; cases z')]
              exact s3 _ _ z'
            · have jm : joinM zs ws = none := by
                unfold joinM
                rw [joinL_stop ez eu ji]
              rw [jm]
              exact rfl
    · rintro σ H2 ⟨s2, n, us, v4, v5, rfl, ej, lu, h2⟩
      rw [List.length_map, List.take_of_length_le (Nat.le_refl _), List.take_of_length_le (by omega)] at ej
      refine ⟨_, rfl, rfl, _, rfl, ?_⟩
      by_cases e : n = 1
      · subst e
        rw [show decide (V.int ((1 : Nat) : Int) = V.int 1) = true by decide]
        refine iteT ⟨_, rfl, D, _, rfl, .inl ⟨SqL.of h2, fun l hl => ?_⟩⟩
        refine k _ _ (s2.trans (same_new hl)) ?_
        have jm : joinM zs ws = some us := by
          unfold joinM
          rw [ej]
          rfl
        rw [jm]
        exact ⟨l, rfl, upd_same⟩
      · rw [decide_eq_false (show ¬ V.int ((n : Nat) : Int) = V.int 1 from fun q => e (by injection q with q; exact Int.ofNat.inj q))]
        refine iteF (k _ _ s2 ?_)
        have jm : joinM zs ws = none := by
          unfold joinM
          rw [ej]
          match n, e with
          | 0, _ => rfl
          | 1, e => exact absurd rfl e
          | n + 2, _ => rfl
        rw [jm]
        exact rfl
end
end VQ
namespace VQ
open PySem L2 LamX
abbrev sLaw : Stmt := top 46
abbrev nLaw : List Str := ["_law_script", "_law_bag_here", "_law_turn", "_law_many", "_law_one", "_law_other", "_law_due", "_law_odd", "_law_short", "_law_words"]
section
variable {P : Program} {w : World} {K : PySem.W.Frag} {mg : Str → Option Value} {base : Heap} {Ta NT NR BT Uf Fu TM QE No : Addr}
theorem scLaw : FnScope nLaw ["_law_script"] (defScope sLaw) := ⟨rfl, rfl, rfl, by decide +kernel, rfl, by decide +kernel, by decide +kernel⟩
theorem join_alike {H : Hp} {n : Nat} {o : Option (List Str)} {v u : V} (h : JoinV H o v) (h' : JoinV H o u) (hl : ∀ us, o = some us → us.length ≤ 1000) : Alike H (n + 1) v u := by
  cases o with
  | none =>
    cases h
    cases h'
    exact .non _
  | some us =>
    obtain ⟨l, rfl, e⟩ := h
    obtain ⟨l', rfl, e'⟩ := h'
    exact alike_strs e e' (hl us rfl)
theorem joinM_len {zs ws us : List Str} (hz : ∀ z ∈ zs, z ∈ begs) (hw : ∀ z ∈ ws, z ∈ begs) (h : joinM zs ws = some us) : us.length ≤ zs.length := by
  unfold joinM at h
  cases e : joinL zs ws with
  | none => rw [e] at h; cases h
  | some p =>
    obtain ⟨n, vs⟩ := p
    rw [e] at h
    have l := (join_count hz hw e).2
    match n, h with
    | 1, h =>
      cases h
      omega
theorem ok_law {f c Pt : Addr} {kV doc pm ct oc : Value} {an od : Option Addr} {osl : Array (Option Value)} {fB fP fO fS fT fWd fW fG fBg fBx fSt fOt fNr fSe fJl fLl fIb fNe fBr fIp fIx fNb fNa fNs fLo fLs fJo CB fIB CU fIU CG fIG : Addr}
    {fdB fdP fdO fdS fdT fdWd fdW fdG fdBg fdBx fdSt fdOt fdNr fdSe fdJl fdLl fdIb fdNe fdBr fdIp fdIx fdNb fdNa fdNs fdLo fdLs fdJo fdIB fdIU fdIG : FuncData} {tk5 tkM : Tok}
    (lk : K.lookup f = some ⟨oc, od, .func (PySem.W.fnOf "law" "law" (defArgs sLaw) (defBody sLaw) (defScope sLaw) .none kV doc pm an (.ref c) ct), osl⟩) (hcd : PySem.W.codeIn K (.ref c) "law" = true) (TB : TabB base mg c Pt)
    (b : Blt mg) (zp : mg "zip" = none) (en : mg "enumerate" = none) (Fg : mg "FIGURES" = some (.int 5 tk5)) (M : mg "MOST_PLACES" = some (.int 5 tkM)) (ER : Errs mg Ta NT NR BT Uf Fu TM QE No) (PB : Plain K Ta NT NR BT Uf Fu TM QE No CB) (PU : Plain K Ta NT NR BT Uf Fu TM QE No CU)
    (aB : At K mg "_law_bag" sBag ["_law_script"] fB fdB) (aP : At K mg "_law_pull" sPull ["_law_bag_here", "_law_size"] fP fdP) (aO : At K mg "_law_of" sOf ["_law_bag_here", "_law_some"] fO fdO)
    (aS : At K mg "_law_same" sSame ["_law_found", "_law_due"] fS fdS) (aT : At K mg "_law_tried" sTried ["_law_ask"] fT fdT) (aWd : At K mg "_law_word" sWord ["_law_ask"] fWd fdWd)
    (aW : At K mg "_law_worth" sWorth ["_law_bag_here"] fW fdW) (aG : At K mg "_law_figs" sFigs ["_law_worth_here"] fG fdG) (aBg : At K mg "_law_begin" sBegin ["_law_bag_here"] fBg fdBg) (aBx : At K mg "_law_box" sBox ["_law_bag_here", "_law_many"] fBx fdBx)
    (aSt : At K mg "_law_starts" sStarts ["_law_one", "_law_other"] fSt fdSt) (aOt : At K mg "_law_odd_thing" sOddThing ["_law_bag_here", "_law_many"] fOt fdOt) (aNr : At K mg "_law_near_box" sNear ["_law_bag_here", "_law_box_here"] fNr fdNr)
    (aSe : At K mg "_law_seam_box" sSeam ["_law_bag_here", "_law_box_here"] fSe fdSe) (aJl : At K mg "_law_joined" sJoinL ["_law_one", "_law_other"] fJl fdJl) (aLl : At K mg "_law_longer" sLongerL ["_law_bag_here", "_law_one"] fLl fdLl)
    (aIb : At K mg "is_beginning" sIsBeg ["thing"] fIb fdIb) (aNe : At K mg "need_beginning" sNeedBeg ["beginning"] fNe fdNe) (aBr : At K mg "brother" sBrother ["beginning"] fBr fdBr) (aIp : At K mg "is_places" sIsPlaces ["thing"] fIp fdIp) (aIx : At K mg "is_box" sIsBox ["thing"] fIx fdIx)
    (aNb : At K mg "need_box" sNeedBox ["box"] fNb fdNb) (aNa : At K mg "need_alike" sNeedAlike ["one", "other"] fNa fdNa) (aNs : At K mg "need_boxes" sNeedBoxes ["one", "other"] fNs fdNs)
    (aLo : At K mg "longer" sLonger ["one", "other"] fLo fdLo) (aLs : At K mg "longer_ones" sLongers ["one", "other"] fLs fdLs) (aJo : At K mg "joined" sJoined ["one", "other"] fJo fdJo)
    (EB : ErrC K mg "BadBox" CB fIB fdIB "BadBox.__init__" sBadBox) (EU : ErrC K mg "Unlike" CU fIU fdIU "Unlike.__init__" sUnlike) (EG : ErrC K mg "BadBeginning" CG fIG fdIG "BadBeginning.__init__" sBadBeg) :
    FnOk P w K mg base CX0 9 f (PySem.W.fnOf "law" "law" (defArgs sLaw) (defBody sLaw) (defScope sLaw) .none kV doc pm an (.ref c) ct) ["_law_script"] (spLaw K Pt) := by
  have GB : FnOk P w K mg base CX0 1 fB fdB ["_law_script"] (spBag K) := ok_bag aB.fn b.list
  have GP : FnOk P w K mg base CX0 1 fP fdP ["_law_bag_here", "_law_size"] spPull := ok_pull aP.fn b.len
  have GS : FnOk P w K mg base CX0 3 fS fdS ["_law_found", "_law_due"] (spSame 2) := ok_same aS b 2
  have GW : FnOk P w K mg base CX0 3 fW fdW ["_law_bag_here"] (spDraw fun i => 0 ≤ i ∧ i < 32) := ok_worth aW.fn b.len aP aO
  have GBg : FnOk P w K mg base CX0 4 fBg fdBg ["_law_bag_here"] spBegin := ok_begin aBg.fn b aP aO aW aG
  have GBx : FnOk P w K mg base CX0 5 fBx fdBx ["_law_bag_here", "_law_many"] (spTupDraw IsBeg) := ok_box aBx.fn b aBg GBg
  have GNr : FnOk P w K mg base CX0 5 fNr fdNr ["_law_bag_here", "_law_box_here"] spNear := ok_near aNr.fn b aP aBg aW aG GBg GW
  have GLl : FnOk P w K mg base CX0 4 fLl fdLl ["_law_bag_here", "_law_one"] spLongerL := ok_longerL aLl.fn b aP aW aG GW
  have GSe : FnOk P w K mg base CX0 5 fSe fdSe ["_law_bag_here", "_law_box_here"] spSeam := ok_seam aSe.fn b en aP aLl GLl
  have GJl : FnOk P w K mg base CX0 2 fJl fdJl ["_law_one", "_law_other"] spJoinL := ok_joinL aJl.fn b zp aSt
  have GOt : FnOk P w K mg base CX0 3 fOt fdOt ["_law_bag_here", "_law_many"] (spOddThing K) := ok_oddthing aOt.fn b aP aO
  have GNs : FnOk P w K mg base (L2.CX P w) 4 fNs fdNs ["one", "other"] (spTwo K CB CU fun _ _ H Q => ∀ H', Same H H' → Q .non H') := ok_needboxes aNs.fn b M Fg aIb aIp aIx aNb aNa EB EU
  have GLs : FnOk P w K mg base CX0 2 fLs fdLs ["one", "other"] spLongers := ok_longers aLs.fn zp aLo
  have GBr : FnOk P w K mg base (L2.CX P w) 4 fBr fdBr ["beginning"] (spBrother K CG) := ok_brother aBr.fn b Fg aIb aNe EG
  have GJ : FnOk P w K mg base (L2.CX P w) 5 fJo fdJo ["one", "other"] (spTwo K CB CU rJoin) := ok_joined aJo.fn b aNs aLs aBr GNs GLs GBr
  obtain ⟨cdv1, D1⟩ := one_of aWd scWord rfl (.inl rfl) (by decide) (by decide) (by decide)
  obtain ⟨cdv2, D2⟩ := one_of aT scTried rfl (.inl rfl) (by decide) (by decide) (by decide)
  refine fn_of lk hcd scLaw (fun vs H Q E h => ?_) (fun A outer s H vs Q E hr h => ?_)
  · obtain ⟨a, ns, rfl, _⟩ := h
    rfl
  · obtain ⟨a, ns, rfl, hS, hlen, hP, k⟩ := h
    have hr1 : Room 1 _ := hr.mono (by decide)
    have hr2 : Room 2 _ := hr.mono (by decide)
    have hr3 : Room 3 _ := hr.mono (by decide)
    have hr5 : Room 5 _ := hr.mono (by decide)
    have hu : (A.deeper (PyProof.Rows.envOfC "law" (defScope sLaw) s.heap.objs.size f (.ref c))).units + 64 < cLine := hr.units
    refine ⟨_, PSs.nox (pss_cons (ps_set (i := 1) scLaw.nd rfl (.inl rfl) (pe_call GB hr1 rfl aB.gl aB.fn.kp aB.bd .nil pass0 (pa_cons (pv 0) pa_nil)))
      (pss_cons (ps_for PassesOwn.never rfl (pi_range1 rfl b.range (pa_cons pe_int pa_nil)) (pg_name (i := 2) scLaw.nd rfl (.inl rfl))
        (pss_cons (ps_set (i := 3) scLaw.nd rfl (.inl rfl) (pe_op op_add pe_int (pe_call GP hr1 rfl aP.gl aP.fn.kp aP.bd .nil pass0 (pa_cons (pv 1) (pa_cons pe_int pa_nil)))))
        (pss_cons (ps_set (i := 4) scLaw.nd rfl (.inr rfl) (pe_call GBx hr5 rfl aBx.gl aBx.fn.kp aBx.bd .nil pass0 (pa_cons (pv 1) (pa_cons (pv 3) pa_nil))))
        (C8.pss_cut (ps_set (i := 5) scLaw.nd rfl (.inl rfl) (pe_ifExp (pt_cmpR op_gt (pe_call GP hr1 rfl aP.gl aP.fn.kp aP.bd .nil pass0 (pa_cons (pv 1) (pa_cons pe_int pa_nil))) pe_int (nomark _))
            (pe_call GSe hr5 rfl aSe.gl aSe.fn.kp aSe.bd .nil pass0 (pa_cons (pv 1) (pa_cons (pv 4) pa_nil))) (pe_call GNr hr5 rfl aNr.gl aNr.fn.kp aNr.bd .nil pass0 (pa_cons (pv 1) (pa_cons (pv 4) pa_nil)))))
        (pss_cons (ps_set (i := 6) scLaw.nd rfl (.inl rfl) (pe_call GJl hr2 rfl aJl.gl aJl.fn.kp aJl.bd .nil pass0 (pa_cons (pv 4) (pa_cons (pv 5) pa_nil))))
        (pss_cons (ps_if (pt_not (pt_val (pe_call GS hr3 rfl aS.gl aS.fn.kp aS.bd .nil pass0 (pa_cons (pe_lst (pa_cons (pe_call GJ hr5 rfl aJo.gl aJo.fn.kp aJo.bd .nil passCX (pa_cons (pv 4) (pa_cons (pv 5) pa_nil)))
            (pa_cons (pe_call GJ hr5 rfl aJo.gl aJo.fn.kp aJo.bd .nil passCX (pa_cons (pv 5) (pa_cons (pv 4) pa_nil))) (pa_cons (pe_call GJ hr5 rfl aJo.gl aJo.fn.kp aJo.bd .nil passCX (pa_cons (pv 4) (pa_cons (pv 4) pa_nil))) pa_nil))))
            (pa_cons (pe_lst (pa_cons (pv 6) (pa_cons (pv 6) (pa_cons pe_non pa_nil)))) pa_nil))))) (pss_one (ps_ret pe_bl)) pss_nil)
        (pss_cons (ps_set (i := 7) scLaw.nd rfl (.inr rfl) (pe_call GOt hr3 rfl aOt.gl aOt.fn.kp aOt.bd .nil pass0 (pa_cons (pv 1) (pa_cons (pv 3) pa_nil))))
        (C8.pss_cut (ps_set (i := 8) scLaw.nd rfl (.inr rfl) (pe_ifExp (pt_cmpR op_gt (pv 3) pe_int (nomark _)) (pe_slice sl_tup (pv 4) (po_some pe_int) po_none) (pe_op op_catT (pv 4) (pe_tup (pa_cons pe_str pa_nil)))))
        (pss_cons (ps_set (i := 9) scLaw.nd rfl (.inl rfl) (pe_lst (pa_cons
            (pe_word (k := 5) (T := [(Pt, _)]) (t := fun E => tCall (spTwo K CB CU rJoin) [] E (tCons (tVar 7) (tCons (tVar 8) tNil))) rfl D1 rfl D2 (tried_gives ER) (mk_plain TB rfl (List.mem_singleton.mpr rfl) (fun p hp _ => by rw [List.mem_singleton.mp hp]) (lamS2_by (N := nLaw) (sc := defScope sLaw) (by decide +kernel) rfl rfl) rfl (fun _ _ _ _ _ => rfl)) hr
              (fun f c' E A outer s H hr' => pe_call GJ hr' rfl aJo.gl aJo.fn.kp aJo.bd .nil (passes_call (takes_of rfl rfl rfl rfl) (fun _ _ _ _ h => h)) (pa_cons (pv 7) (pa_cons (pv 8) pa_nil))))
            (pa_cons (pe_word (k := 5) (T := [(Pt, _)]) (t := fun E => tCall (spTwo K CB CU rJoin) [] E (tCons (tVar 4) (tCons (tVar 8) tNil))) rfl D1 rfl D2 (tried_gives ER) (mk_dflt (y := "_law_a") TB rfl (List.mem_singleton.mpr rfl) (fun p hp _ => by rw [List.mem_singleton.mp hp]) (lamS2_by (N := nLaw) (sc := defScope sLaw) (by decide +kernel) rfl rfl) rfl rfl rfl (fun _ _ _ _ _ _ _ => ⟨_, rfl, rfl⟩)) hr
              (fun f c' E A outer s H hr' => pe_call GJ hr' rfl aJo.gl aJo.fn.kp aJo.bd .nil (passes_call (takes_of rfl rfl rfl rfl) (fun _ _ _ _ h => h)) (pa_cons (pv 4) (pa_cons (pv 8) pa_nil)))) pa_nil))))
        (pss_one (ps_if (pt_cmpR (op_neD hu) (pv 9) (pe_lst (pa_cons pe_str (pa_cons pe_str pa_nil))) (nomark _)) (pss_one (ps_ret pe_bl)) pss_nil)))))))))))
      (pss_one (ps_ret (pe_and (pe_cmpR (op_eqD hu) (pe_call GJ hr5 rfl aJo.gl aJo.fn.kp aJo.bd .nil passCX (pa_cons (pe_tup (pa_cons pe_str (pa_cons pe_str pa_nil))) (pa_cons (pe_tup (pa_cons pe_str (pa_cons pe_str pa_nil))) pa_nil))) (pe_tup (pa_cons pe_str (pa_cons pe_str pa_nil))) (nomark _))
        (pe_one (pe_cmpR op_isN (pe_call GJ hr5 rfl aJo.gl aJo.fn.kp aJo.bd .nil passCX (pa_cons (pe_tup (pa_cons pe_str (pa_cons pe_str pa_nil))) (pa_cons (pe_tup (pa_cons pe_str (pa_cons pe_str pa_nil))) pa_nil))) pe_non (nomark _)))))))), ?_⟩
    refine ⟨_, rfl, a, ns, rfl, hS, hlen, fun bg H1 nb B1 s1 => ?_⟩
    refine ⟨8, rfl, by decide, by decide, for_range (lo := 0) (n := 8) (fun i σ H' => Bag H' bg ∧ Tabs [(Pt, (PyProof.Rows.envOfC "law" (defScope sLaw) s.heap.objs.size f (.ref c)).qual ++ "<lambda>")] H' ∧ ∃ v2 v3 v4 v5 v6 v7 v8 v9 : Option V, σ = [some (.ref a), some (.ref bg), v2, v3, v4, v5, v6, v7, v8, v9]) ?_ ?_ ?_⟩
    · refine ⟨B1, fun p hp => ?_, none, none, none, none, none, none, none, none, rfl⟩
      rw [List.mem_singleton.mp hp]
      exact TabS.nil (s1 _ _ hP)
    · rintro i σ H2 hi ⟨B2, T2, v2, v3, v4, v5, v6, v7, v8, v9, rfl⟩
      refine ⟨_, rfl, bg, 5, rfl, B2, by decide, by decide, fun d H3 d0 d5 B3 k3 => ⟨1, d, rfl, rfl, ?_⟩⟩
      have T3 := Tabs.keep T2 B2 k3
      obtain ⟨m, rfl⟩ := Int.eq_ofNat_of_zero_le d0
      have em : (1 : Int) + (m : Int) = ((m + 1 : Nat) : Int) := by omega
      refine ⟨_, rfl, _, rfl, bg, m + 1, congrArg (fun t : Int => [V.ref bg, V.int t]) em, B3, by omega, fun q1 xs H4 lx ex n1 h4 B4 k4 => ?_⟩
      have T4 := Tabs.keep T3 B3 k4
      obtain ⟨zs, rfl, hzs⟩ := begs_of ex
      rw [List.length_map] at lx
      have x4 : BoxAt H4 q1 zs := ⟨h4, hzs, by omega⟩
      have z1 : 1 ≤ zs.length := by omega
      -- the other one
      refine ⟨fun σ' H' => Bag H' bg ∧ Tabs [(Pt, (PyProof.Rows.envOfC "law" (defScope sLaw) s.heap.objs.size f (.ref c)).qual ++ "<lambda>")] H' ∧ BoxAt H' q1 zs ∧ ∃ (q2 : Addr) (ws : List Str), σ' = [some (.ref a), some (.ref bg), some (.int (0 + (i : Int))), some (.int (1 + (m : Int))), some (.ref q1), some (.ref q2), v6, v7, v8, v9] ∧ BoxAt H' q2 ws ∧ ws.length = zs.length, ?_, ?_⟩
      · refine ⟨_, rfl, bg, 3, rfl, B4, by decide, by decide, fun d H5 _ _ B5 k5 => ⟨_, _, rfl, rfl, _, rfl, ?_⟩⟩
        have T5 := Tabs.keep T4 B4 k5
        have x5 := x4.keep B4 k5
        refine ite2 (fun _ => ?_) (fun _ => ?_)
        · refine ⟨_, rfl, _, rfl, bg, q1, zs, rfl, B5, x5, z1, fun q2 ws H6 lw hws n2 h6 B6 k6 => ?_⟩
          exact ⟨B6, Tabs.keep T5 B5 k6, x5.keep B5 k6, q2, ws, rfl, ⟨h6, hws, by omega⟩, lw⟩
        · refine ⟨_, rfl, _, rfl, bg, q1, zs, rfl, B5, x5, fun q2 ws H6 lw hws n2 h6 B6 k6 => ?_⟩
          exact ⟨B6, Tabs.keep T5 B5 k6, x5.keep B5 k6, q2, ws, rfl, ⟨h6, hws, by omega⟩, lw⟩
      rintro σ' H5 ⟨B5, T5, x1, q2, ws, rfl, x2, lw⟩
      have hws := x2.2.1
      have w1 : 1 ≤ ws.length := by omega
      -- due
      refine ⟨_, rfl, _, rfl, q1, q2, zs, ws, rfl, x1, x2, lw.symm, fun due H6 s6 du => ?_⟩
      have y1 := x1.same s6
      have y2 := x2.same s6
      refine ⟨_, rfl, _, rfl, two_ok y1 y2 z1 lw.symm fun r1 H7 s7 g1 => ?_⟩
      refine ⟨_, rfl, _, rfl, two_ok (y2.same s7) (y1.same s7) w1 lw fun r2 H8 s8 g2 => ?_⟩
      have s68 := s7.trans s8
      refine ⟨_, rfl, _, rfl, two_ok (y1.same s68) (y1.same s68) z1 rfl fun r3 H9 s9 g3 => ?_⟩
      refine ⟨by show 3 ≤ sizeLine; decide, fun p1 f1 => ⟨_, rfl, _, rfl, by show 3 ≤ sizeLine; decide, fun p2 f2 => ?_⟩⟩
      have t1 := same_new (o := HO.lst [r1, r2, r3]) f1
      have t2 := same_new (o := HO.lst [due, due, .non]) f2
      have s6e := (s68.trans s9).trans (t1.trans t2)
      rw [joinM_comm hzs hws] at g2
      rw [joinM_self hzs] at g3
      have r3n : r3 = .non := g3
      subst r3n
      have ll : ∀ us, joinM zs ws = some us → us.length ≤ 1000 := fun us e => Nat.le_trans (joinM_len hzs hws e) (by omega)
      have du' := du.same s6e
      refine ⟨_, _, rfl, alike_list (t2 _ _ upd_same) upd_same (by show 3 ≤ 1000; decide) (.cons (join_alike (g1.same ((s8.trans s9).trans (t1.trans t2))) du' ll) (.cons (join_alike (g2.same (s9.trans (t1.trans t2))) du' ll) (.cons (.non _) .nil))), fun H10 s10 => ⟨_, rfl, iteF ?_⟩⟩
      have s510 := s6.trans (s6e.trans s10)
      have B10 := B5.same s510
      have T10 := Tabs.ext T5 s510
      have w10 := x1.same s510
      -- odd
      refine ⟨_, rfl, _, rfl, bg, m + 1, congrArg (fun t : Int => [V.ref bg, V.int t]) em, B10, by omega, by omega, fun odd H19 hod B19 k19 => ?_⟩
      have T19 := Tabs.keep T10 B10 k19
      have w19 := w10.keep B10 k19
      -- short
      refine ⟨fun σ' H' => Same H19 H' ∧ ∃ (q3 : Addr) (us : List Str), σ' = [some (.ref a), some (.ref bg), some (.int (0 + (i : Int))), some (.int (1 + (m : Int))), some (.ref q1), some (.ref q2), some due, some odd, some (.ref q3), v9] ∧ BoxAt H' q3 us ∧ 1 ≤ us.length ∧ us.length ≠ zs.length, ?_, ?_⟩
      · refine ⟨_, rfl, _, 1, rfl, rfl, _, rfl, ?_⟩
        refine ite2 (fun gt => ?_) (fun le => ?_)
        · have hm : 1 ≤ m := by
            have := of_decide_eq_true gt
            omega
          have c1 : cutV (zs.map V.str) (some 1) none = (zs.drop 1).map V.str := by
            rw [show (1 : Int) = ((1 : Nat) : Int) from rfl, cut_from _ (by rw [List.length_map]; omega), List.map_drop]
          have c2 := from_part (n := (zs.map V.str).length) (k := 1) (Nat.le_refl _) (by rw [List.length_map]; omega)
          refine ⟨_, rfl, _, rfl, q1, _, rfl, SqT.of w19.1, c2, fun q3 f3 => ?_⟩
          rw [c1]
          refine ⟨same_new f3, q3, zs.drop 1, rfl, ⟨upd_same, fun z mz => hzs z (List.mem_of_mem_drop mz), by rw [List.length_drop]; omega⟩, by rw [List.length_drop]; omega, by rw [List.length_drop]; omega⟩
        · have hm : m = 0 := by
            have : ¬ (1 : Int) < 1 + (m : Int) := fun z => le (decide_eq_true z)
            omega
          subst hm
          refine ⟨_, rfl, by show 1 ≤ sizeLine; decide, fun p5 f5 => ?_⟩
          have t5 := same_new (o := HO.tup [.str ""]) f5
          refine ⟨q1, p5, _, _, rfl, rfl, SqT.of (t5 _ _ w19.1), SqT.of upd_same, fun e => ?_, ?_, (fun e => by cases e), fun _ q3 f3 => ?_⟩
          · have := congrArg List.length e
            rw [List.length_map] at this
            exact absurd this (by rw [lx]; decide)
          · rw [List.length_map, lx]
            show 2 ≤ sizeLine
            decide
          · refine ⟨t5.trans (same_new f3), q3, zs ++ [("" : Str)], rfl, ⟨by rw [upd_same, List.map_append]; rfl, fun z mz => ?_, by rw [List.length_append, lx]; decide⟩, by rw [List.length_append]; omega, by rw [List.length_append]; simp⟩
            rcases List.mem_append.mp mz with mz | mz
            · exact hzs z mz
            · rw [List.mem_singleton.mp mz]
              decide +kernel
      rintro σ' H20 ⟨s20, q3, us, rfl, x3, l3, ne3⟩
      have B20 := B19.same s20
      have T20 := Tabs.ext T19 s20
      have w20 := w19.same s20
      have o20 := hod.same s20
      -- words
      refine word_refused (nm := "BadBox") PB T20 (fun H21 Q21 E21 e21 raise => ?_) fun H21 e21 T21 => ?_
      · obtain ⟨oo, th, nb, _⟩ := o20.held (ExtN.held e21)
        exact ⟨_, rfl, _, rfl, two_bad th (x3.extN e21).thing (.inl nb) fun H' d s' hd => raise H' d s' hd⟩
      have w21 := w20.extN e21
      have x21 := x3.extN e21
      refine word_refused (nm := "Unlike") PU T21 (fun H22 Q22 E22 e22 raise => ?_) fun H22 e22 T22 => ?_
      · exact ⟨_, rfl, _, rfl, two_unlike (w21.extN e22) (x21.extN e22) z1 l3 (fun z => ne3 z.symm) fun H' d s' hd => raise H' d s' hd⟩
      refine ⟨by show 2 ≤ sizeLine; decide, fun p7 f7 => ?_⟩
      have t7 := same_new (o := HO.lst [.str "BadBox", .str "Unlike"]) f7
      refine ⟨_, rfl, by show 2 ≤ sizeLine; decide, fun p8 f8 => ?_⟩
      have t8 := same_new (o := HO.lst [.str "BadBox", .str "Unlike"]) f8
      refine ⟨.list [.str "BadBox", .str "Unlike"], .list [.str "BadBox", .str "Unlike"], .lst (SqL.of (t8 _ _ upd_same)) (.cons (.str _) (.cons (.str _) .nil)), .lst (SqL.of upd_same) (.cons (.str _) (.cons (.str _) .nil)), by decide +kernel, by decide +kernel, _, rfl, ?_⟩
      rw [SeqAt.eqv_refl _ (by decide +kernel)]
      refine iteF ?_
      have ss := t7.trans t8
      exact ⟨(B20.extN (e21.trans e22)).same ss, Tabs.ext T22 ss, _, _, _, _, _, _, _, _, rfl⟩
    · rintro σ H2 _
      have two : ∀ {H' : Hp} {p : Addr} (x y : Str), x ∈ begs → y ∈ begs → H' p = some (.tup [.str x, .str y]) → BoxAt H' p [x, y] := fun x y hx hy e => ⟨e, fun z mz => by
        rcases List.mem_cons.mp mz with rfl | mz
        · exact hx
        · rw [List.mem_singleton.mp mz]
          exact hy, by show 2 ≤ 5; decide⟩
      refine ⟨by show 2 ≤ sizeLine; decide, fun p1 f1 => ⟨by show 2 ≤ sizeLine; decide, fun p2 f2 => ?_⟩⟩
      have t1 := same_new (o := HO.tup [.str "0", .str "01"]) f1
      have t2 := same_new (o := HO.tup [.str "1", .str ""]) f2
      refine two_ok (two "0" "01" (by decide +kernel) (by decide +kernel) (t2 _ _ upd_same)) (two "1" "" (by decide +kernel) (by decide +kernel) upd_same) (by decide) rfl fun v H3 s3 hv => ?_
      rw [show joinM [("0" : Str), ("01" : Str)] [("1" : Str), ("" : Str)] = some [("" : Str), ("01" : Str)] by decide +kernel] at hv
      obtain ⟨l, rfl, hl⟩ := hv
      refine ⟨by show 2 ≤ sizeLine; decide, fun p3 f3 => ?_⟩
      have t3 := same_new (o := HO.tup [.str "", .str "01"]) f3
      refine ⟨.tuple [.str "", .str "01"], .tuple [.str "", .str "01"], .tup (SqT.of (t3 _ _ hl)) (.cons (.str _) (.cons (.str _) .nil)), .tup (SqT.of upd_same) (.cons (.str _) (.cons (.str _) .nil)), by decide +kernel, by decide +kernel, _, rfl, ?_⟩
      rw [SeqAt.eqv_refl _ (by decide +kernel)]
      refine iteT ⟨by show 2 ≤ sizeLine; decide, fun p4 f4 => ⟨by show 2 ≤ sizeLine; decide, fun p5 f5 => ?_⟩⟩
      have t4 := same_new (o := HO.tup [.str "0", .str "0"]) f4
      refine two_ok (two "0" "0" (by decide +kernel) (by decide +kernel) ((same_new (o := HO.tup [.str "1", .str "1"]) f5) _ _ upd_same)) (two "1" "1" (by decide +kernel) (by decide +kernel) upd_same) (by decide) rfl fun v H6 s6 hv => ?_
      rw [show joinM [("0" : Str), ("0" : Str)] [("1" : Str), ("1" : Str)] = none by decide +kernel] at hv
      have vn : v = .non := hv
      subst vn
      exact ⟨rfl, k _⟩
end
end VQ
namespace VQ
open PySem L2 LamX
/-! ### what the top has left -/
def oexB (K : PySem.W.Frag) (C : Addr) : Bool := match K.lookup C with
  | some ⟨cl, _, .cls cd, sl⟩ => decide (cl = .type "type") && (match cd.mro with
    | top :: bm => decide (top = .ref C) && PySem.HandSPX.refsVE bm
    | [] => false) && decide (sl.size = 6) && decide (sl[4]? = some (some (.builtin "ValueError.__new__"))) && cd.hasDict && !cd.hasDel
  | _ => false
theorem six {sl : Array (Option Value)} {v : Option Value} (h : sl.size = 6) (e : sl[4]? = some v) : ∃ k0 k1 k2 k3 k5, sl = #[k0, k1, k2, k3, v, k5] := by
  obtain ⟨l⟩ := sl
  match l, h, e with
  | [k0, k1, k2, k3, k4, k5], _, e =>
    cases e
    exact ⟨k0, k1, k2, k3, k5, rfl⟩
theorem oexB_ok {K : PySem.W.Frag} {C : Addr} (q : oexB K C = true) : ∃ nm q N bs bm sn sub ab col dd k0 k1 k2 k3 k5, K.lookup C = some (excClassObj nm q C N bs bm true sn sub ab col dd k0 k1 k2 k3 k5 "ValueError.__new__") ∧ PySem.HandSPX.refsVE bm = true := by
  unfold oexB at q
  cases here : K.lookup C with
  | none => rw [here] at q; cases q
  | some o =>
    obtain ⟨cl, dc, dt, sl⟩ := o
    rw [here] at q
    cases dt with
    | cls cd =>
      obtain ⟨nm, bs, mro, ns, qn, hasD, sn, sub, ab, col, del⟩ := cd
      cases mro with
      | nil => simp at q
      | cons first bm =>
        simp only [Bool.and_eq_true, decide_eq_true_eq, Bool.not_eq_true'] at q
        obtain ⟨⟨⟨⟨⟨q1, q2, q3⟩, q4⟩, q5⟩, q6⟩, q7⟩ := q
        obtain ⟨k0, k1, k2, k3, k5, rfl⟩ := six q4 q5
        subst q1 q2 q6 q7
        exact ⟨nm, qn, ns, bs, bm, sn, sub, ab, col, dc, k0, k1, k2, k3, k5, rfl, q3⟩
    | _ => cases q
/-- an error class of the program: made by its own __init__, its field called -/
def errB (K : PySem.W.Frag) (x : Str) : Bool := oexB K (He.ga K x) && (decide (PySem.W.findIn K (.ref (He.ga K x)) "__setattr__" = some (some (.builtin "object.__setattr__"))) &&
  (decide (PySem.W.subIn K (.ref (He.ga K x)) (.type "BaseException") = some true) && (decide (PySem.W.typeIn K (.ref (He.ga K x)) = some (.type "type")) && (PySem.W.keepIn K (.ref (He.ga K x)) &&
  (decide (PySem.W.findIn K (.ref (He.ga K x)) "__init__" = some (some (.ref (He.ma K (He.ga K x) "__init__")))) && (decide (PySem.W.typeIn K (.ref (He.ma K (He.ga K x) "__init__")) = some (.type "function")) &&
  decide (PySem.W.findIn K (.ref (He.ga K x)) "called" = some none)))))))
theorem errB_ok {K : PySem.W.Frag} {mg : Str → Option Value} {x qual : Str} {st : Stmt} {fd : FuncData} (h : errB K x = true) (gl : mg x = some (.ref (He.ga K x))) (fn : Fun K "__init__" qual st (He.ma K (He.ga K x) "__init__") fd) (bd : Binds K fd ["self"] []) :
    ErrC K mg x (He.ga K x) (He.ma K (He.ga K x) "__init__") fd qual st := by
  obtain ⟨h1, h⟩ := He.ba h
  obtain ⟨h2, h⟩ := He.ba h
  obtain ⟨h3, h⟩ := He.ba h
  obtain ⟨h4, h⟩ := He.ba h
  obtain ⟨h5, h⟩ := He.ba h
  obtain ⟨h6, h⟩ := He.ba h
  obtain ⟨h7, h8⟩ := He.ba h
  exact ⟨gl, ⟨oexB_ok h1, of_decide_eq_true h2, of_decide_eq_true h3, of_decide_eq_true h4, h5⟩, of_decide_eq_true h6, of_decide_eq_true h7, of_decide_eq_true h8, fn, bd⟩
theorem fun_of_D {K : PySem.W.Frag} {x qual : Str} {st : Stmt} {f : Addr} {fd : FuncData} (F : FunD K x qual (defArgs st) (defBody st) (defScope st) [] [] f fd) : Fun K x qual st f fd := by
  obtain ⟨oc, od, dV, kV, doc, pm, an, cdv, ct, osl, e, lk, cd, dv, kw⟩ := F.ex
  rcases dv with ⟨_, rfl⟩ | ⟨z, _⟩
  · exact ⟨⟨oc, od, kV, doc, pm, an, cdv, ct, osl, e, lk, cd⟩, F.kp⟩
  · exact absurd rfl z
/-- a def of the top -/
def dd (x : Str) (st : Stmt) : He.DefD := ⟨(x, none), x, x, defArgs st, defBody st, defScope st, [], []⟩
def dm (c m q : Str) (st : Stmt) : He.DefD := ⟨(c, some m), m, q, defArgs st, defBody st, defScope st, [], []⟩
end VQ
namespace VQ
open PySem L2 LamX
def plainB (K : PySem.W.Frag) (x : Str) : Bool := decide (PySem.W.exmAny K (.ref (He.ga K x)) [.ref (He.ga K "Taken"), .ref (He.ga K "NoTable"), .ref (He.ga K "NoRow")] = some false) &&
  (decide (PySem.W.exmAny K (.ref (He.ga K x)) [.ref (He.ga K "BadText"), .ref (He.ga K "Unfit")] = some false) && (decide (PySem.W.exmAny K (.ref (He.ga K x)) [.ref (He.ga K "Full")] = some false) &&
  (decide (PySem.W.exmAny K (.ref (He.ga K x)) [.ref (He.ga K "TooMany")] = some false) && (decide (PySem.W.exmAny K (.ref (He.ga K x)) [.ref (He.ga K "QuiltError"), .ref (He.ga K "Nothing")] = some true) &&
  (xfB K (He.ga K x) && decide (PySem.W.findIn K (.ref (He.ga K x)) "called" = some none))))))
theorem plainB_ok {K : PySem.W.Frag} {x : Str} (h : plainB K x = true) : Plain K (He.ga K "Taken") (He.ga K "NoTable") (He.ga K "NoRow") (He.ga K "BadText") (He.ga K "Unfit") (He.ga K "Full") (He.ga K "TooMany") (He.ga K "QuiltError") (He.ga K "Nothing") (He.ga K x) := by
  obtain ⟨h1, h⟩ := He.ba h
  obtain ⟨h2, h⟩ := He.ba h
  obtain ⟨h3, h⟩ := He.ba h
  obtain ⟨h4, h⟩ := He.ba h
  obtain ⟨h5, h⟩ := He.ba h
  obtain ⟨h6, h7⟩ := He.ba h
  exact ⟨of_decide_eq_true h1, of_decide_eq_true h2, of_decide_eq_true h3, of_decide_eq_true h4, of_decide_eq_true h5, xfB_ok h6, of_decide_eq_true h7⟩
end VQ
/-! ### the head: what the top has left, by names -/
namespace VQ
open PySem L2 LamX
def fn : List He.DefD := [dd "_law_bag" sBag, dd "_law_pull" sPull, dd "_law_of" sOf, dd "_law_same" sSame, dd "_law_tried" sTried, dd "_law_word" sWord, dd "_law_worth" sWorth, dd "_law_figs" sFigs, dd "_law_begin" sBegin, dd "_law_box" sBox, dd "_law_starts" sStarts, dd "_law_odd_thing" sOddThing, dd "_law_near_box" sNear, dd "_law_seam_box" sSeam, dd "_law_joined" sJoinL, dd "_law_longer" sLongerL, dd "is_beginning" sIsBeg, dd "need_beginning" sNeedBeg, dd "brother" sBrother, dd "is_places" sIsPlaces, dd "is_box" sIsBox, dd "need_box" sNeedBox, dd "need_alike" sNeedAlike, dd "need_boxes" sNeedBoxes, dd "longer" sLonger, dd "longer_ones" sLongers, dd "joined" sJoined, dm "BadBox" "__init__" "BadBox.__init__" sBadBox, dm "Unlike" "__init__" "Unlike.__init__" sUnlike, dm "BadBeginning" "__init__" "BadBeginning.__init__" sBadBeg, dd "law" sLaw]
def fa : List He.Fa := [.free "isinstance", .free "int", .free "bool", .free "str", .free "list", .free "tuple", .free "len", .free "all", .free "range", .free "zip", .free "enumerate", .int "FIGURES" 5, .int "MOST_PLACES" 5, .glo "Taken", .glo "NoTable", .glo "NoRow", .glo "BadText", .glo "Unfit", .glo "Full", .glo "TooMany", .glo "QuiltError", .glo "Nothing", .glo "_law_bag", .glo "_law_pull", .glo "_law_of", .glo "_law_same", .glo "_law_tried", .glo "_law_word", .glo "_law_worth", .glo "_law_figs", .glo "_law_begin", .glo "_law_box", .glo "_law_starts", .glo "_law_odd_thing", .glo "_law_near_box", .glo "_law_seam_box", .glo "_law_joined", .glo "_law_longer", .glo "is_beginning", .glo "need_beginning", .glo "brother", .glo "is_places", .glo "is_box", .glo "need_box", .glo "need_alike", .glo "need_boxes", .glo "longer", .glo "longer_ones", .glo "joined", .glo "BadBox", .glo "Unlike", .glo "BadBeginning", .glo "law"]
def ex (K : PySem.W.Frag) : Bool := (errB K "BadBox" && plainB K "BadBox") && (errB K "Unlike" && plainB K "Unlike") && (errB K "BadBeginning" && plainB K "BadBeginning")
abbrev Rw : PySem.W.OpenRow := PySem.W.OpenLaw.row PySem.Challenge.rw_voidquilt_k06_boxes_put_together
abbrev hk : PySem.W.Hook := He.hookX 6 fa fn [] [("law", none)] ex
def ob (s : PySem.W.SharedT) : He.AlX := He.obsX 6 fa fn [] [("law", none)] ex (HandSHeadRun.getT s)
theorem ob_eq (s : PySem.W.SharedT) : ob s = hk.obs s.abs := He.obsX_eq (HandSHeadRun.getT_eq s)
def loose : List PySem.Str := (["QuiltError", "BadBeginning", "BadBox", "Unlike", "Taken", "Full", "BadText", "Unfit", "TooMany", "Missing", "NoTable", "NoRow", "Nothing", "FIGURES", "is_beginning", "need_beginning", "brother", "MOST_PLACES", "is_places", "is_box", "need_box", "need_alike", "need_boxes", "longer", "longer_ones", "joined", "_law_bag", "_law_pull", "_law_of", "_law_same"] : List PySem.Str) ++ (["_law_tried", "_law_word", "_law_worth", "_law_figs", "_law_begin", "_law_box", "_law_starts", "_law_odd_thing", "_law_near_box", "_law_seam_box", "_law_joined", "_law_longer"] : List PySem.Str)
theorem run (w : World) : HandSHeadRun.RunEq Rw (PySem.W.view Rw.prog [46]) hk ob 40000 loose w := by
  intro os
  kernel_rfl
theorem at_of {K : PySem.W.Frag} {h : Heap} {mg : Str → Option Value} (X : K.In h) (G : h.Ns mainGlobals mg) {x : Str} {st : Stmt} {ps : List Str} (c : He.SaysD fa fn K) (m : dd x st ∈ fn) (g : He.Fa.glo x ∈ fa)
    (hb : ∀ (kV doc pm : Value) (an : Option Addr) (cdv ct : Value) (us : List Value), us.length = ps.length → bindArgs (PySem.W.fnOf x x (defArgs st) (defBody st) (defScope st) .none kV doc pm an cdv ct) ⟨us, []⟩ = pure (ps.zip us)) : ∃ fd, At K mg x st ps (He.ga K x) fd := by
  obtain ⟨fd, F⟩ := c.defs m
  have F' : Fun K x x st (He.ga K x) fd := fun_of_D F
  exact ⟨fd, F', He.glo_ok X G (c.facts g), F'.binds hb⟩
theorem facts {l : PySem.W.OpenLaw} {w : World} {K : PySem.W.Frag} {h : Heap} {mg : Str → Option Value} {f : Addr} (X : K.In h) (G : h.Ns mainGlobals mg) (hfa : mg ("law" : Str) = some (.ref f)) (S : He.SaysX fa fn [] [("law", none)] ex w h K) : LawAtS l w K CX0 9 63 "_law_script" mg f h := by
  have c : He.SaysD fa fn K := S.t.d
  have gl : ∀ {x : Str}, He.Fa.glo x ∈ fa → mg x = some (.ref (He.ga K x)) := fun m => He.glo_ok X G (c.facts m)
  have fr : ∀ {x : Str}, He.Fa.free x ∈ fa → mg x = none := fun m => He.free_ok X G (c.facts m)
  obtain ⟨tkFIGURES, iFIGURES⟩ := He.int_ok X G (x := "FIGURES") (i := 5) (c.facts (by simp [fa]))
  obtain ⟨tkMOST_PLACES, iMOST_PLACES⟩ := He.int_ok X G (x := "MOST_PLACES") (i := 5) (c.facts (by simp [fa]))
  have b : Blt mg := ⟨fr (by simp [fa]), fr (by simp [fa]), fr (by simp [fa]), fr (by simp [fa]), fr (by simp [fa]), fr (by simp [fa]), fr (by simp [fa]), fr (by simp [fa]), fr (by simp [fa])⟩
  have fzip : mg "zip" = none := fr (by simp [fa])
  have fenumerate : mg "enumerate" = none := fr (by simp [fa])
  have ER : Errs mg (He.ga K "Taken") (He.ga K "NoTable") (He.ga K "NoRow") (He.ga K "BadText") (He.ga K "Unfit") (He.ga K "Full") (He.ga K "TooMany") (He.ga K "QuiltError") (He.ga K "Nothing") :=
    ⟨gl (by simp [fa]), gl (by simp [fa]), gl (by simp [fa]), gl (by simp [fa]), gl (by simp [fa]), gl (by simp [fa]), gl (by simp [fa]), gl (by simp [fa]), gl (by simp [fa])⟩
  have more : ex K = true := S.more
  unfold ex at more
  simp only [Bool.and_eq_true] at more
  obtain ⟨⟨⟨r0, s0⟩, r1, s1⟩, r2, s2⟩ := more
  obtain ⟨fdIBadBox, FIBadBox⟩ := c.defs (d := dm "BadBox" "__init__" "BadBox.__init__" sBadBox) (by simp [fn])
  have FJBadBox : Fun K "__init__" "BadBox.__init__" sBadBox (He.ma K (He.ga K "BadBox") "__init__") fdIBadBox := fun_of_D FIBadBox
  have bIBadBox : Binds K fdIBadBox ["self"] [] := FJBadBox.binds fun _ _ _ _ _ _ us hl => match us, hl with | [_], _ => rfl
  have EBadBox := errB_ok (qual := "BadBox.__init__") (st := sBadBox) r0 (gl (x := "BadBox") (by simp [fa])) FJBadBox bIBadBox
  have PBadBox := plainB_ok s0
  obtain ⟨fdIUnlike, FIUnlike⟩ := c.defs (d := dm "Unlike" "__init__" "Unlike.__init__" sUnlike) (by simp [fn])
  have FJUnlike : Fun K "__init__" "Unlike.__init__" sUnlike (He.ma K (He.ga K "Unlike") "__init__") fdIUnlike := fun_of_D FIUnlike
  have bIUnlike : Binds K fdIUnlike ["self"] [] := FJUnlike.binds fun _ _ _ _ _ _ us hl => match us, hl with | [_], _ => rfl
  have EUnlike := errB_ok (qual := "Unlike.__init__") (st := sUnlike) r1 (gl (x := "Unlike") (by simp [fa])) FJUnlike bIUnlike
  have PUnlike := plainB_ok s1
  obtain ⟨fdIBadBeginning, FIBadBeginning⟩ := c.defs (d := dm "BadBeginning" "__init__" "BadBeginning.__init__" sBadBeg) (by simp [fn])
  have FJBadBeginning : Fun K "__init__" "BadBeginning.__init__" sBadBeg (He.ma K (He.ga K "BadBeginning") "__init__") fdIBadBeginning := fun_of_D FIBadBeginning
  have bIBadBeginning : Binds K fdIBadBeginning ["self"] [] := FJBadBeginning.binds fun _ _ _ _ _ _ us hl => match us, hl with | [_], _ => rfl
  have EBadBeginning := errB_ok (qual := "BadBeginning.__init__") (st := sBadBeg) r2 (gl (x := "BadBeginning") (by simp [fa])) FJBadBeginning bIBadBeginning
  have PBadBeginning := plainB_ok s2
  obtain ⟨fd_law_bag, a_law_bag⟩ := at_of (x := "_law_bag") (st := sBag) (ps := ["_law_script"]) X G c (by simp [fn]) (by simp [fa]) fun _ _ _ _ _ _ us hl => match us, hl with | [_], _ => rfl
  obtain ⟨fd_law_pull, a_law_pull⟩ := at_of (x := "_law_pull") (st := sPull) (ps := ["_law_bag_here", "_law_size"]) X G c (by simp [fn]) (by simp [fa]) fun _ _ _ _ _ _ us hl => match us, hl with | [_, _], _ => rfl
  obtain ⟨fd_law_of, a_law_of⟩ := at_of (x := "_law_of") (st := sOf) (ps := ["_law_bag_here", "_law_some"]) X G c (by simp [fn]) (by simp [fa]) fun _ _ _ _ _ _ us hl => match us, hl with | [_, _], _ => rfl
  obtain ⟨fd_law_same, a_law_same⟩ := at_of (x := "_law_same") (st := sSame) (ps := ["_law_found", "_law_due"]) X G c (by simp [fn]) (by simp [fa]) fun _ _ _ _ _ _ us hl => match us, hl with | [_, _], _ => rfl
  obtain ⟨fd_law_tried, a_law_tried⟩ := at_of (x := "_law_tried") (st := sTried) (ps := ["_law_ask"]) X G c (by simp [fn]) (by simp [fa]) fun _ _ _ _ _ _ us hl => match us, hl with | [_], _ => rfl
  obtain ⟨fd_law_word, a_law_word⟩ := at_of (x := "_law_word") (st := sWord) (ps := ["_law_ask"]) X G c (by simp [fn]) (by simp [fa]) fun _ _ _ _ _ _ us hl => match us, hl with | [_], _ => rfl
  obtain ⟨fd_law_worth, a_law_worth⟩ := at_of (x := "_law_worth") (st := sWorth) (ps := ["_law_bag_here"]) X G c (by simp [fn]) (by simp [fa]) fun _ _ _ _ _ _ us hl => match us, hl with | [_], _ => rfl
  obtain ⟨fd_law_figs, a_law_figs⟩ := at_of (x := "_law_figs") (st := sFigs) (ps := ["_law_worth_here"]) X G c (by simp [fn]) (by simp [fa]) fun _ _ _ _ _ _ us hl => match us, hl with | [_], _ => rfl
  obtain ⟨fd_law_begin, a_law_begin⟩ := at_of (x := "_law_begin") (st := sBegin) (ps := ["_law_bag_here"]) X G c (by simp [fn]) (by simp [fa]) fun _ _ _ _ _ _ us hl => match us, hl with | [_], _ => rfl
  obtain ⟨fd_law_box, a_law_box⟩ := at_of (x := "_law_box") (st := sBox) (ps := ["_law_bag_here", "_law_many"]) X G c (by simp [fn]) (by simp [fa]) fun _ _ _ _ _ _ us hl => match us, hl with | [_, _], _ => rfl
  obtain ⟨fd_law_starts, a_law_starts⟩ := at_of (x := "_law_starts") (st := sStarts) (ps := ["_law_one", "_law_other"]) X G c (by simp [fn]) (by simp [fa]) fun _ _ _ _ _ _ us hl => match us, hl with | [_, _], _ => rfl
  obtain ⟨fd_law_odd_thing, a_law_odd_thing⟩ := at_of (x := "_law_odd_thing") (st := sOddThing) (ps := ["_law_bag_here", "_law_many"]) X G c (by simp [fn]) (by simp [fa]) fun _ _ _ _ _ _ us hl => match us, hl with | [_, _], _ => rfl
  obtain ⟨fd_law_near_box, a_law_near_box⟩ := at_of (x := "_law_near_box") (st := sNear) (ps := ["_law_bag_here", "_law_box_here"]) X G c (by simp [fn]) (by simp [fa]) fun _ _ _ _ _ _ us hl => match us, hl with | [_, _], _ => rfl
  obtain ⟨fd_law_seam_box, a_law_seam_box⟩ := at_of (x := "_law_seam_box") (st := sSeam) (ps := ["_law_bag_here", "_law_box_here"]) X G c (by simp [fn]) (by simp [fa]) fun _ _ _ _ _ _ us hl => match us, hl with | [_, _], _ => rfl
  obtain ⟨fd_law_joined, a_law_joined⟩ := at_of (x := "_law_joined") (st := sJoinL) (ps := ["_law_one", "_law_other"]) X G c (by simp [fn]) (by simp [fa]) fun _ _ _ _ _ _ us hl => match us, hl with | [_, _], _ => rfl
  obtain ⟨fd_law_longer, a_law_longer⟩ := at_of (x := "_law_longer") (st := sLongerL) (ps := ["_law_bag_here", "_law_one"]) X G c (by simp [fn]) (by simp [fa]) fun _ _ _ _ _ _ us hl => match us, hl with | [_, _], _ => rfl
  obtain ⟨fdis_beginning, ais_beginning⟩ := at_of (x := "is_beginning") (st := sIsBeg) (ps := ["thing"]) X G c (by simp [fn]) (by simp [fa]) fun _ _ _ _ _ _ us hl => match us, hl with | [_], _ => rfl
  obtain ⟨fdneed_beginning, aneed_beginning⟩ := at_of (x := "need_beginning") (st := sNeedBeg) (ps := ["beginning"]) X G c (by simp [fn]) (by simp [fa]) fun _ _ _ _ _ _ us hl => match us, hl with | [_], _ => rfl
  obtain ⟨fdbrother, abrother⟩ := at_of (x := "brother") (st := sBrother) (ps := ["beginning"]) X G c (by simp [fn]) (by simp [fa]) fun _ _ _ _ _ _ us hl => match us, hl with | [_], _ => rfl
  obtain ⟨fdis_places, ais_places⟩ := at_of (x := "is_places") (st := sIsPlaces) (ps := ["thing"]) X G c (by simp [fn]) (by simp [fa]) fun _ _ _ _ _ _ us hl => match us, hl with | [_], _ => rfl
  obtain ⟨fdis_box, ais_box⟩ := at_of (x := "is_box") (st := sIsBox) (ps := ["thing"]) X G c (by simp [fn]) (by simp [fa]) fun _ _ _ _ _ _ us hl => match us, hl with | [_], _ => rfl
  obtain ⟨fdneed_box, aneed_box⟩ := at_of (x := "need_box") (st := sNeedBox) (ps := ["box"]) X G c (by simp [fn]) (by simp [fa]) fun _ _ _ _ _ _ us hl => match us, hl with | [_], _ => rfl
  obtain ⟨fdneed_alike, aneed_alike⟩ := at_of (x := "need_alike") (st := sNeedAlike) (ps := ["one", "other"]) X G c (by simp [fn]) (by simp [fa]) fun _ _ _ _ _ _ us hl => match us, hl with | [_, _], _ => rfl
  obtain ⟨fdneed_boxes, aneed_boxes⟩ := at_of (x := "need_boxes") (st := sNeedBoxes) (ps := ["one", "other"]) X G c (by simp [fn]) (by simp [fa]) fun _ _ _ _ _ _ us hl => match us, hl with | [_, _], _ => rfl
  obtain ⟨fdlonger, alonger⟩ := at_of (x := "longer") (st := sLonger) (ps := ["one", "other"]) X G c (by simp [fn]) (by simp [fa]) fun _ _ _ _ _ _ us hl => match us, hl with | [_, _], _ => rfl
  obtain ⟨fdlonger_ones, alonger_ones⟩ := at_of (x := "longer_ones") (st := sLongers) (ps := ["one", "other"]) X G c (by simp [fn]) (by simp [fa]) fun _ _ _ _ _ _ us hl => match us, hl with | [_, _], _ => rfl
  obtain ⟨fdjoined, ajoined⟩ := at_of (x := "joined") (st := sJoined) (ps := ["one", "other"]) X G c (by simp [fn]) (by simp [fa]) fun _ _ _ _ _ _ us hl => match us, hl with | [_, _], _ => rfl
  obtain ⟨fd, F⟩ := c.defs (d := dd "law" sLaw) (by simp [fn])
  have ef : f = He.ga K "law" := by
    have e := hfa.symm.trans (gl (x := "law") (by simp [fa]))
    injection e with e
    injection e
  subst ef
  have F' : Fun K "law" "law" sLaw (He.ga K "law") fd := fun_of_D F
  obtain ⟨oc, od, kV, doc, pm, an, cdv, ct, osl, efd, lk, hcd⟩ := F'.ex
  obtain ⟨cc, rfl⟩ := He.codeIn_ref hcd
  have ec : He.codeOf K ("law", none) = cc := He.codeOf_eq (p := ("law", none)) lk (by rw [efd])
  refine ⟨fd, [He.cT K ("law", none)], spLaw K (He.cT K ("law", none)).2, fun p hp => ?_, fun p hp => ?_, fun p hp => ?_, fun s u => ?_, fun H a ns hn _ hT hS => ?_, fun base KB GB TB => ?_⟩
  · obtain rfl := List.mem_singleton.mp hp
    exact S.empty _ (by simp)
  · obtain rfl := List.mem_singleton.mp hp
    exact S.out _ (by simp)
  · obtain rfl := List.mem_singleton.mp hp
    exact PySem.W.codeHd_of_K X (S.hd _ (by simp))
  · rw [efd]
    exact .of_eq rfl
  · exact ⟨a, ns, rfl, hS, hn, hT _ (List.mem_singleton.mpr rfl), fun _ => rfl⟩
  · have TB' := TB _ (List.mem_singleton.mpr rfl)
    have e1 : (He.cT K ("law", none)).1 = cc := ec
    rw [e1] at TB'
    rw [efd] at lk ⊢
    exact ok_law lk hcd TB' b fzip fenumerate iFIGURES iMOST_PLACES ER PBadBox PUnlike a_law_bag a_law_pull a_law_of a_law_same a_law_tried a_law_word a_law_worth a_law_figs a_law_begin a_law_box a_law_starts a_law_odd_thing a_law_near_box a_law_seam_box a_law_joined a_law_longer ais_beginning aneed_beginning abrother ais_places ais_box aneed_box aneed_alike aneed_boxes alonger alonger_ones ajoined EBadBox EUnlike EBadBeginning
end VQ
open PySem PySem.W PySem.Calls PyProof.Rows
set_option maxRecDepth 100000 in
set_option maxHeartbeats 0 in
theorem PySem.Challenge.cw_voidquilt_k06_boxes_put_together_holds : PySem.Challenge.rw_voidquilt_k06_boxes_put_together.Holds := by
  w_on; o_law
  refine HandSHeadRun.head_any (r := PySem.W.OpenLaw.row PySem.Challenge.rw_voidquilt_k06_boxes_put_together) (q := view (PySem.W.OpenLaw.row PySem.Challenge.rw_voidquilt_k06_boxes_put_together).prog [46]) (H := VQ.hk) (ob := VQ.ob) (M := 40000) (loose := VQ.loose) (d := HandSHeadRun.topDef (PySem.W.OpenLaw.row PySem.Challenge.rw_voidquilt_k06_boxes_put_together).prog 46) (kwd := []) VQ.ob_eq
    (by kernel_rfl) (fun s => by kernel_rfl) VQ.run (by kernel_rfl) (by kernel_rfl) (by kernel_rfl) (by rfl) (by first | assumption | decide +kernel) (by decide +kernel) ⟨rfl, rfl, rfl, rfl, rfl, by decide +kernel⟩ ?hw ?hc
  case hw => w_witness2
  case hc =>
    refine LamX.walk_ofTsE (l := PySem.Challenge.rw_voidquilt_k06_boxes_put_together) (n := 63) (k := 9) (x := "_law_script") (CX := fun _ => L2.CX0) rfl (by decide) (by kernel_rfl) ⟨rfl, by decide, by decide⟩ ?F (fun _ _ _ _ _ z => z)
    intro w mg fa h Y G hmg0
    obtain ⟨K, KX, S⟩ := Y
    have hmg : mg ("law" : PySem.Str) = some (.ref fa) := by
      have e : (HandSHeadRun.topDef (PySem.W.OpenLaw.row PySem.Challenge.rw_voidquilt_k06_boxes_put_together).prog 46).name = ("law" : PySem.Str) := by kernel_rfl
      rw [← e]
      exact hmg0
    exact ⟨K, KX, VQ.facts KX G hmg S⟩
