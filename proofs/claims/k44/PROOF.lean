import PyProof.Rows.All
import Wide.All
import OpenK.AllK
import Wide.FinOn
import HandS.Base
import HandS.Call
import HandS.List
import HandS.Words
import HandS.WordsList
import HandS.Codes
import HandS.FStr
import PyProof.FString3
import PyProof.Rows.StrIntSpec
import PyProof.FactsAll.int_2
import KE.KxField
import HandS.Ends
import HandS.Exc
import HandS.ExcInit
import HandS.ExcField
import HandS.TryMany
import KE.KTryMore
import HandS.Lambda
import HandS.Defaults
import PyProof.DefMake
import PyProof.DefCall
import HandS.TupMul
import HandS.TupAny
import HandS.Zip
import HandS.Comp
import HandS.Iter
import KE.GoesMore
import HandS.SetFor
import HandS.Strs
import HandS.TupSets
import HandS.SortOrd
import HandS.SortRule
import PyProof.CompFree
import PyProof.RaisesMany
import HandS.IsInst
import HandS.StrMore
import HandS.WordsExc
import HandS.Text
import PyProof.StrLaws
import PyProof.StrLawsAffix
import HandS.EndTab
import HandS.HeadWalk
import HandS.Deep
import HandS.SetKeys
import HandS.ForMost
import HandS.NoneIn
import KE.KUnpackStar
import HandS.More
import HandS.Dict
import HandS.WordsDict
import PyProof.DictCopy
import PyProof.DictUpdate
import PyProof.DictIter
import HandS.CallLocal
import HandS.Star
import HandS.ExcValue
import KE.KDictZip
import HandS.Conv
import HandS.DictComp
import HandS.DictTup
import HandS.Head0
import HandS.Head1
import HandS.Head2
import HandS.HeadEnd
import HandS.HeadHook1
import HandS.HeadHook2
import HandS.HeadHook3
import HandS.HeadHook4
import HandS.Head4
import PySem.Challenge.RW_voidquilt_k44_whole_lessened_ties_lose_n
set_option Elab.async false
set_option linter.all false
set_option maxRecDepth 100000
set_option maxHeartbeats 3000000
namespace VQ
open PySem L2
def top (i : Nat) : Stmt := PySem.Challenge.pw_voidquilt_k44_whole_lessened_ties_lose_n.main.body.getD i (.Pass ⟨0, 0, 0, 0⟩)
abbrev sBag : Stmt := top 68
abbrev sPull : Stmt := top 69
abbrev sOf : Stmt := top 70
/-- a drawing bag stands at b -/
def Bag (H : Hp) (b : Addr) : Prop := ∃ (l : Addr) (ns : List Int) (i r x n : Int), l ≠ b ∧ H b = some (.lst [.ref l, .int i, .int r, .int x, .int n]) ∧ H l = some (.lst (ns.map V.int)) ∧ 0 ≤ i ∧ 0 ≤ x ∧ x < 2147483629
/-- all but b is as it was, and the list in b's first place is the same one -/
def Keep (b : Addr) (H H' : Hp) : Prop := (∀ a o, a ≠ b → H a = some o → H' a = some o) ∧ ∀ l r, H b = some (.lst (.ref l :: r)) → ∃ r', H' b = some (.lst (.ref l :: r'))
theorem Keep.refl (b : Addr) (H : Hp) : Keep b H H := ⟨fun _ _ _ h => h, fun _ r h => ⟨r, h⟩⟩
theorem Keep.trans {b : Addr} {H H1 H2 : Hp} (h1 : Keep b H H1) (h2 : Keep b H1 H2) : Keep b H H2 := ⟨fun a o n h => h2.1 a o n (h1.1 a o n h), fun l r h => let ⟨r1, e⟩ := h1.2 l r h; h2.2 l r1 e⟩
theorem Keep.upd {b l : Addr} {H : Hp} {r r' : List V} (h : H b = some (.lst (.ref l :: r))) : Keep b H (upd H b (.lst (.ref l :: r'))) := ⟨fun a u n h => by rw [upd_ne n]; exact h, fun l' r1 e => by
  rw [h] at e
  cases e
  exact ⟨r', upd_same⟩⟩
theorem Same.keep {b : Addr} {H H' : Hp} (h : Same H H') : Keep b H H' := ⟨fun a o _ e => h a o e, fun l r e => ⟨r, h _ _ e⟩⟩
theorem same_new {H : Hp} {p : Addr} {o : HO} (h : H p = none) : Same H (upd H p o) := fun a u e => by rw [upd_ne (ne_of_none e h)]; exact e
theorem Bag.here {H : Hp} {b : Addr} (h : Bag H b) : ∃ o, H b = some o := by
  obtain ⟨l, ns, i, r, x, n, _, h1, _⟩ := h
  exact ⟨_, h1⟩
theorem Bag.same {H H' : Hp} {b : Addr} (h : Bag H b) (s : Same H H') : Bag H' b := by
  obtain ⟨l, ns, i, r, x, n, nl, h1, h2, h3⟩ := h
  exact ⟨l, ns, i, r, x, n, nl, s _ _ h1, s _ _ h2, h3⟩
theorem Keep.free {b p : Addr} {H H' : Hp} (k : Keep b H H') (h : Bag H b) (h' : Bag H' b) (hp : H' p = none) : H p = none := by
  cases q : H p with
  | none => rfl
  | some o =>
    by_cases e : p = b
    · obtain ⟨o', z⟩ := h'.here
      rw [e, z] at hp
      cases hp
    · rw [k.1 p o e q] at hp
      cases hp
/-- something new is written while the bag is kept -/
theorem Bag.put {b D : Addr} {H0 H : Hp} {o : HO} (B0 : Bag H0 b) (hD : H0 D = none) (k : Keep b H0 H) (B : Bag H b) : Bag (upd H D o) b ∧ Keep b H0 (upd H D o) := by
  obtain ⟨l, ns, i, r, x, n, nl, h1, h2, h3⟩ := B0
  obtain ⟨l', ns', i', r', x', n', nl', g1, g2, g3⟩ := B
  obtain ⟨rr, e⟩ := k.2 l _ h1
  rw [g1] at e
  cases e
  have bD : b ≠ D := ne_of_none h1 hD
  have lD : l ≠ D := ne_of_none h2 hD
  refine ⟨⟨l, ns', i', r', x', n', nl', (upd_ne bD).trans g1, (upd_ne lD).trans g2, g3⟩, fun a u ne e => ?_, fun l2 r2 e => ?_⟩
  · rw [upd_ne (ne_of_none e hD)]
    exact k.1 a u ne e
  · rw [upd_ne bD]
    exact k.2 l2 r2 e
theorem Keep.tup {b a : Addr} {H H' : Hp} {xs : List V} (k : Keep b H H') (B : Bag H b) (h : H a = some (.tup xs)) : H' a = some (.tup xs) := by
  refine k.1 a _ (fun e => ?_) h
  obtain ⟨l, ns, i, r, x, n, nl, h1, _⟩ := B
  rw [e, h1] at h
  cases h
def spPull : Sp := fun vs H Q _ => ∃ (b : Addr) (s : Int), vs = [.ref b, .int s] ∧ Bag H b ∧ 1 ≤ s ∧ s < 1073741824 ∧
  ∀ (d : Int) (H' : Hp), 0 ≤ d → d < s → Bag H' b → Keep b H H' → Q (.int d) H'
section
variable {P : Program} {w : World} {K : PySem.W.Frag} {mg : Str → Option Value} {base : Heap}
theorem scPull : FnScope ["_law_bag_here", "_law_size", "_law_cell", "_law_digit"] ["_law_bag_here", "_law_size"] (defScope sPull) := ⟨rfl, rfl, rfl, by decide +kernel, rfl, by decide +kernel, by decide +kernel⟩
theorem ok_pull {f : Addr} {fd : FuncData} (F : Fun K "_law_pull" "_law_pull" sPull f fd) (len : mg "len" = none) : FnOk P w K mg base CX0 1 f fd ["_law_bag_here", "_law_size"] spPull := by
  refine F.ok scPull (fun vs H Q E h => ?_) (fun cdv A outer s H vs Q E hr h => ?_)
  · obtain ⟨b, s, rfl, _⟩ := h
    rfl
  · obtain ⟨b, z, rfl, B, z1, z2, k⟩ := h
    refine ⟨_, C8.pss_cut (ps_if (PW.pt (pw_and (pt_cmpR op_lt (pe_ix ix_list (pv 0) pe_int fun _ _ => rfl) (pv 1) (nomark _)) (pw_and1 (pt_cmpR op_lt (pe_ix ix_list (pv 0) pe_int fun _ _ => rfl)
          (pe_callB call_len_seq (by rfl) len PySem.boot_len (pa_cons (pe_ix ix_list (pv 0) pe_int fun _ _ => rfl) pa_nil)) (nomark _)))))
        (pss_cons (ps_set (i := 2) scPull.nd rfl (.inl rfl) (pe_ix ix_list (pe_ix ix_list (pv 0) pe_int fun _ _ => rfl) (pe_ix ix_list (pv 0) pe_int fun _ _ => rfl) fun _ _ => rfl))
        (pss_cons (ps_asg (pe_op op_add (pe_ix ix_list (pv 0) pe_int fun _ _ => rfl) pe_int) (pg_sub (pv 0) pe_int set_list))
        (pss_cons (ps_asg (pe_ifExp (pt_cmpR op_ge (pv 2) (pe_op op_pow pe_int pe_int) (nomark _)) (pe_op op_sub (pv 2) (pe_op op_pow pe_int pe_int)) pe_int) (pg_sub (pv 0) pe_int set_list))
        (pss_one (ps_asg (pe_op op_mod (pe_op op_add (pe_op op_add (pe_op op_mul (pe_ix ix_list (pv 0) pe_int fun _ _ => rfl) pe_int) (pe_op op_mul (pv 2) pe_int)) (pe_ix ix_list (pv 0) pe_int fun _ _ => rfl)) pe_int) (pg_sub (pv 0) pe_int set_list))))))
        pss_nil)
      (pss_cons (ps_if (pt_cmpR op_ge (pe_ix ix_list (pv 0) pe_int fun _ _ => rfl) (pv 1) (nomark _))
        (pss_cons (ps_set (i := 3) scPull.nd rfl (.inl rfl) (pe_op op_mod (pe_ix ix_list (pv 0) pe_int fun _ _ => rfl) (pv 1)))
        (pss_cons (ps_asg (pe_op op_fdiv (pe_ix ix_list (pv 0) pe_int fun _ _ => rfl) (pv 1)) (pg_sub (pv 0) pe_int set_list))
        (pss_one (ps_ret (pv 3)))))
        pss_nil)
      (pss_cons (ps_asg (pe_op op_add (pe_ix ix_list (pv 0) pe_int fun _ _ => rfl) pe_int) (pg_sub (pv 0) pe_int set_list))
      (pss_cons (ps_asg (pe_op op_mod (pe_op op_add (pe_op op_add (pe_op op_add (pe_op op_pow (pe_ix ix_list (pv 0) pe_int fun _ _ => rfl) pe_int) (pe_op op_mul pe_int (pe_ix ix_list (pv 0) pe_int fun _ _ => rfl))) (pe_op op_fdiv (pe_ix ix_list (pv 0) pe_int fun _ _ => rfl) pe_int)) pe_int) pe_int) (pg_sub (pv 0) pe_int set_list))
      (pss_one (ps_ret (pe_op op_mod (pe_op op_fdiv (pe_ix ix_list (pv 0) pe_int fun _ _ => rfl) pe_int) (pv 1)))))))
      , ?_⟩
    refine ⟨fun σ' H' => ∃ (c e : Option V), σ' = [some (.ref b), some (.int z), c, e] ∧ Bag H' b ∧ Keep b H H', ?_, ?_⟩
    · obtain ⟨l, ns, i, r, x, n, nl, h1, h2, i0, x0, x1⟩ := id B
      have m53 : ∀ y : Int, 0 ≤ y % 2147483629 ∧ y % 2147483629 < 2147483629 := fun y => ⟨Int.emod_nonneg _ (by decide), Int.emod_lt_of_pos _ (by decide)⟩
      refine ⟨_, rfl, _, _, _, _, rfl, rfl, SqL.of h1, (show atI [V.ref l, .int i, .int r, .int x, .int n] 2 = some (.int r) from rfl), _, rfl, _, _, rfl, rfl, _, rfl, ?_⟩
      refine ite2 (fun _ => ?_) (fun _ => ?_)
      · refine ⟨_, rfl, _, _, _, _, rfl, rfl, SqL.of h1, (show atI [V.ref l, .int i, .int r, .int x, .int n] 1 = some (.int i) from rfl), _, rfl, _, _, _, _, rfl, rfl, SqL.of h1, (show atI [V.ref l, .int i, .int r, .int x, .int n] 0 = some (.ref l) from rfl), l, _, rfl, .inl (SqL.of h2), _, _, rfl, rfl, _, rfl, ?_⟩
        refine ite2 (fun hlt => ?_) (fun _ => ?_)
        · have hi : i < (ns.length : Int) := by
            have q := of_decide_eq_true hlt
            rw [List.length_map] at q
            exact q
          obtain ⟨j, rfl⟩ := Int.eq_ofNat_of_zero_le i0
          have hj : j < ns.length := Int.ofNat_lt.mp hi
          have at1 : atI (ns.map V.int) (j : Int) = some (V.int (ns[j]'hj)) := atI_nat (by rw [List.getElem?_map, List.getElem?_eq_getElem hj]; rfl)
          generalize ns[j]'hj = cell at at1
          refine ⟨_, rfl, _, _, _, _, rfl, rfl, SqL.of h1, (show atI [V.ref l, .int j, .int r, .int x, .int n] 0 = some (.ref l) from rfl), _, rfl, _, _, _, _, rfl, rfl, SqL.of h1, (show atI [V.ref l, .int j, .int r, .int x, .int n] 1 = some (.int j) from rfl), l, _, _, _, rfl, rfl, SqL.of h2, at1, ?_⟩
          -- bag[1] = bag[1] + 1
          refine ⟨_, rfl, _, _, _, _, rfl, rfl, SqL.of h1, (show atI [V.ref l, .int j, .int r, .int x, .int n] 1 = some (.int j) from rfl), _, _, rfl, rfl, _, rfl, b, _, 1, 1, rfl, rfl, h1, rfl, ?_⟩
          -- bag[2] = ..
          refine ⟨_, rfl, 10, 18, rfl, rfl, ⟨by decide, by decide, by decide⟩, _, _, rfl, rfl, _, rfl, ?_⟩
          refine ite2 (fun _ => ?_) (fun _ => ?_)
          · refine ⟨_, rfl, 10, 18, rfl, rfl, ⟨by decide, by decide, by decide⟩, _, _, rfl, rfl, _, rfl, b, _, 2, 2, rfl, rfl, upd_same, rfl, ?_⟩
            refine ⟨_, rfl, b, _, _, _, rfl, rfl, SqL.of upd_same, rfl, _, 69069, rfl, rfl, .inr ⟨by decide, by decide⟩, _, rfl, _, 5, rfl, rfl, .inr ⟨by decide, by decide⟩, _, _, rfl, rfl, _, rfl, b, _, _, _, rfl, rfl, SqL.of upd_same, rfl, _, _, rfl, rfl, _, 2147483629, rfl, rfl, (show (0 : Int) < 2147483629 by decide), _, rfl, b, _, 3, 3, rfl, rfl, upd_same, rfl, ?_⟩
            refine ⟨_, _, rfl, ⟨l, ns, _, _, _, _, nl, upd_same, ?_, ?_, (m53 _).1, (m53 _).2⟩, ?_⟩
            · rw [upd_ne nl, upd_ne nl, upd_ne nl]
              exact h2
            · omega
            · exact Keep.trans (Keep.trans (Keep.upd h1) (Keep.upd upd_same)) (Keep.upd upd_same)
          · refine ⟨_, rfl, b, _, 2, 2, rfl, rfl, upd_same, rfl, ?_⟩
            refine ⟨_, rfl, b, _, _, _, rfl, rfl, SqL.of upd_same, rfl, _, 69069, rfl, rfl, .inr ⟨by decide, by decide⟩, _, rfl, _, 5, rfl, rfl, .inr ⟨by decide, by decide⟩, _, _, rfl, rfl, _, rfl, b, _, _, _, rfl, rfl, SqL.of upd_same, rfl, _, _, rfl, rfl, _, 2147483629, rfl, rfl, (show (0 : Int) < 2147483629 by decide), _, rfl, b, _, 3, 3, rfl, rfl, upd_same, rfl, ?_⟩
            refine ⟨_, _, rfl, ⟨l, ns, _, _, _, _, nl, upd_same, ?_, ?_, (m53 _).1, (m53 _).2⟩, ?_⟩
            · rw [upd_ne nl, upd_ne nl, upd_ne nl]
              exact h2
            · omega
            · exact Keep.trans (Keep.trans (Keep.upd h1) (Keep.upd upd_same)) (Keep.upd upd_same)
        · exact ⟨none, none, rfl, B, Keep.refl b H⟩
      · exact ⟨none, none, rfl, B, Keep.refl b H⟩
    · rintro σ' H' ⟨c, e, rfl, B', kp⟩
      obtain ⟨l, ns, i, r, x, n, nl, h1, h2, i0, x0, x1⟩ := id B'
      refine ⟨_, rfl, _, _, _, _, rfl, rfl, SqL.of h1, (show atI [V.ref l, .int i, .int r, .int x, .int n] 2 = some (.int r) from rfl), _, rfl, _, _, rfl, rfl, _, rfl, ?_⟩
      have m53 : ∀ y : Int, 0 ≤ y % 2147483629 ∧ y % 2147483629 < 2147483629 := fun y => ⟨Int.emod_nonneg _ (by decide), Int.emod_lt_of_pos _ (by decide)⟩
      have mz : ∀ y : Int, 0 ≤ y % z ∧ y % z < z := fun y => ⟨Int.emod_nonneg _ (by omega), Int.emod_lt_of_pos _ (by omega)⟩
      refine ite2 (fun _ => ?_) (fun _ => ?_)
      · refine ⟨_, rfl, b, _, _, _, rfl, rfl, SqL.of h1, rfl, _, rfl, _, _, rfl, rfl, (show (0 : Int) < z by omega), ?_⟩
        refine ⟨_, rfl, b, _, _, _, rfl, rfl, SqL.of h1, rfl, _, rfl, _, _, rfl, rfl, ⟨(show (0 : Int) < z by omega), z2⟩, _, rfl, b, _, 2, 2, rfl, rfl, h1, rfl, ?_⟩
        refine ⟨_, rfl, ?_⟩
        exact k _ _ (mz _).1 (mz _).2 ⟨l, ns, _, _, _, _, nl, upd_same, by rw [upd_ne nl]; exact h2, i0, x0, x1⟩ (kp.trans (Keep.upd h1))
      · refine ⟨_, rfl, b, _, _, _, rfl, rfl, SqL.of h1, rfl, _, _, rfl, rfl, _, rfl, b, _, 4, 4, rfl, rfl, h1, rfl, ?_⟩
        refine ⟨_, rfl, b, _, _, _, rfl, rfl, SqL.of upd_same, rfl, _, 3, rfl, rfl, ⟨by decide, by decide, by omega⟩, _, rfl, b, _, _, _, rfl, rfl, SqL.of upd_same, rfl, 40507, _, rfl, rfl, .inl ⟨by decide, by decide⟩, _, _, rfl, rfl, _, rfl, b, _, _, _, rfl, rfl, SqL.of upd_same, rfl, _, 101, rfl, rfl, ⟨by decide, by decide⟩, _, _, rfl, rfl, _, _, rfl, rfl, _, 2147483629, rfl, rfl, (show (0 : Int) < 2147483629 by decide), _, rfl, b, _, 3, 3, rfl, rfl, upd_same, rfl, ?_⟩
        refine ⟨_, rfl, b, _, _, _, rfl, rfl, SqL.of upd_same, rfl, _, 19, rfl, rfl, ⟨by decide, by decide⟩, _, rfl, _, _, rfl, rfl, (show (0 : Int) < z by omega), ?_⟩
        exact k _ _ (mz _).1 (mz _).2 ⟨l, ns, _, _, _, _, nl, upd_same, by rw [upd_ne nl, upd_ne nl]; exact h2, i0, (m53 _).1, (m53 _).2⟩ (kp.trans (Keep.trans (Keep.upd h1) (Keep.upd upd_same)))
/-- an item of a list that is read, drawn by the bag -/
def spOf (K : PySem.W.Frag) : Sp := fun vs H Q _ => ∃ (b p : Addr) (xs : List V), vs = [.ref b, .ref p] ∧ Bag H b ∧ p ≠ b ∧ SqL K H p xs ∧ 1 ≤ xs.length ∧ xs.length < 1000 ∧
  ∀ (v : V) (H' : Hp), v ∈ xs → Bag H' b → Keep b H H' → Q v H'
theorem Keep.seq {b a : Addr} {H H' : Hp} {xs : List V} (k : Keep b H H') (n : a ≠ b) (h : SqL K H a xs) : SqL K H' a xs := by
  rcases h with (z | ⟨o, z⟩) | z
  · exact .inl (.inl (k.1 _ _ n z))
  · exact .inl (.inr ⟨o, k.1 _ _ n z⟩)
  · exact .inr z
/-- where a def stands -/
structure At (K : PySem.W.Frag) (mg : Str → Option Value) (x : Str) (st : Stmt) (ps : List Str) (f : Addr) (fd : FuncData) : Prop where
  fn : Fun K x x st f fd
  gl : mg x = some (.ref f)
  bd : Binds K fd ps []
theorem scOf : FnScope ["_law_bag_here", "_law_some"] ["_law_bag_here", "_law_some"] (defScope sOf) := ⟨rfl, rfl, rfl, by decide +kernel, rfl, by decide +kernel, by decide +kernel⟩
theorem ok_of {f fP : Addr} {fd fdP : FuncData} (F : Fun K "_law_of" "_law_of" sOf f fd) (len : mg "len" = none) (P1 : At K mg "_law_pull" sPull ["_law_bag_here", "_law_size"] fP fdP) : FnOk P w K mg base CX0 2 f fd ["_law_bag_here", "_law_some"] (spOf K) := by
  have G : FnOk P w K mg base CX0 1 fP fdP ["_law_bag_here", "_law_size"] spPull := ok_pull P1.fn len
  refine F.ok scOf (fun vs H Q E h => ?_) (fun cdv A outer s H vs Q E hr h => ?_)
  · obtain ⟨b, p, xs, rfl, _⟩ := h
    rfl
  · obtain ⟨b, p, xs, rfl, B, np, hx, l1, l2, k⟩ := h
    refine ⟨_, pss_one (ps_ret (pe_ix ix_list (pv 1) (pe_call G hr rfl P1.gl P1.fn.kp P1.bd .nil pass0 (pa_cons (pv 0) (pa_cons (pe_callB call_len_seq (by rfl) len PySem.boot_len (pa_cons (pv 1) pa_nil)) pa_nil))) fun _ _ => rfl)), ?_⟩
    refine ⟨_, rfl, _, rfl, _, rfl, p, xs, rfl, .inl hx, b, _, rfl, B, by omega, by omega, fun d H' d0 d1 B' kp => ?_⟩
    obtain ⟨j, rfl⟩ := Int.eq_ofNat_of_zero_le d0
    have hj : j < xs.length := Int.ofNat_lt.mp d1
    exact ⟨p, xs, _, _, rfl, rfl, kp.seq np hx, atI_nat (List.getElem?_eq_getElem hj), k _ H' (List.getElem_mem hj) B' kp⟩
def spBag (K : PySem.W.Frag) : Sp := fun vs H Q _ => ∃ (a : Addr) (ns : List Int), vs = [.ref a] ∧ SqL K H a (ns.map V.int) ∧ ns.length ≤ 63 ∧ ∀ (b : Addr) (H' : Hp), H b = none → Bag H' b → Same H H' → Q (.ref b) H'
theorem scBag : FnScope ["_law_script"] ["_law_script"] (defScope sBag) := ⟨rfl, rfl, rfl, by decide +kernel, rfl, by decide +kernel, by decide +kernel⟩
theorem ok_bag {f : Addr} {fd : FuncData} (F : Fun K "_law_bag" "_law_bag" sBag f fd) (lst : mg "list" = none) : FnOk P w K mg base CX0 1 f fd ["_law_script"] (spBag K) := by
  refine F.ok scBag (fun vs H Q E h => ?_) (fun cdv A outer s H vs Q E hr h => ?_)
  · obtain ⟨a, ns, rfl, _⟩ := h
    rfl
  · obtain ⟨a, ns, rfl, hx, hl, k⟩ := h
    refine ⟨_, pss_one (ps_ret (pe_lst (pa_cons (pe_callTy call_list_of (by rfl) lst (by decide +kernel) (pa_cons (pe_slice sl_list (pv 0) po_none (po_some pe_int)) pa_nil)) (pa_cons pe_int (pa_cons pe_int (pa_cons pe_int (pa_cons pe_int pa_nil))))))), ?_⟩
    refine ⟨_, rfl, _, rfl, a, _, rfl, hx, fun p hp => ?_⟩
    refine ⟨p, _, rfl, .inl (SqL.of upd_same), fun l hl' => ?_⟩
    refine ⟨by show 5 ≤ sizeLine; decide, fun b hb => ?_⟩
    have e : cutV (ns.map V.int) none (some 63) = ns.map V.int := by
      unfold cutV
      rw [HT.sIx_none]
      show ((ns.map V.int).drop 0).take (HT.sIx _ _ (some ((63 : Nat) : Int)) - 0) = _
      rw [HT.sIx_nat, List.drop_zero, Nat.sub_zero]
      exact List.take_of_length_le (by rw [List.length_map]; omega)
    have nl : l ≠ b := fun z => by
      rw [z, upd_same] at hb
      cases hb
    have s1 : Same H (upd H p (.lst (cutV (ns.map V.int) none (some 63)))) := same_new hp
    have s2 : Same H (upd (upd H p (.lst (cutV (ns.map V.int) none (some 63)))) l (.lst (cutV (ns.map V.int) none (some 63)))) := s1.trans (same_new hl')
    refine k b _ (s2.free hb) ⟨l, ns, 0, 0, 1, 0, nl, upd_same, ?_, by decide, by decide, by decide⟩ (s2.trans (same_new hb))
    rw [upd_ne nl, upd_same, e]
end
end VQ
namespace VQ
open PySem PySem.W L2 PyProof.Rows
open Builtin Builtin.Float Builtin.Int Builtin.Str
def binS (n : Nat) : PySem.Str := ⟨((Nat.toDigits 2 n).map Char.toNat).toArray⟩
theorem ret_text2 {M : Model} {A : Around} {E : Value → Shared → Prop} {s : Shared} {X T : PySem.Str} {Q : PySem.Fin → Shared → Prop} (e : X = T) (hL : T.length ≤ sizeLine) (h : ∀ t k, Q (.done (.ret (.str T t))) { s with toks := k }) : wpAny M A (retStr X) Q E s := by
  subst e
  exact wpAny_bind (wpAny_mkStr (by exact wpAny_pure (h _ _)) hL)
theorem ite_no2 {c : Prop} [Decidable c] {X Y : Prop} (hc : ¬ c) (h : Y) : if c then X else Y := by
  rw [if_neg hc]
  exact h
theorem wpAny_eqn {α : Type} {M : Model} {A : Around} {E : Value → Shared → Prop} {s : Shared} {Q : α → Shared → Prop} {t t' : Sem α} (e : t = t') (h : wpAny M A t' Q E s) : wpAny M A t Q E s := by
  rw [e]
  exact h
theorem parse_b : parseFormatSpec [98] "int" 62 = .ok ⟨32, 62, none, false, false, none, none, none, some 98⟩ := by kernel_rfl
theorem fmtb_run {prog : Program} {w : World} {A : Around} {R : PySem.Fin → Shared → Prop} {E : Value → Shared → Prop} {s : Shared} {a : Int} {t u : Tok} (h0 : 0 ≤ a) (h1 : a < 32)
    (h : ∀ t' k, R (.done (.ret (.str (binS a.toNat) t'))) { s with toks := k }) : wpAny (model prog w) A (Builtin.«int.__format__» ⟨[.int a t, .str (⟨#[98]⟩ : PySem.Str) u], []⟩) R E s := by
  simp only [Builtin.«int.__format__», selfAndOne, noKeywords, Int.intOfSelf, asInt?, asStr?, List.isEmpty_nil, if_true, pure_bind, bind_pure, bind_assoc, Bool.false_eq_true, if_false,
    show (Value.str (⟨#[98]⟩ : PySem.Str) u == Value.none) = false from rfl, show ((⟨#[98]⟩ : PySem.Str).length == 0) = false from rfl]
  refine wpAny_bind (wpAny_typeNameOf (T := "str") (typeIs_str _ _ _) (by decide) fun kind => ?_)
  rw [if_neg (by decide)]
  apply wpAny_bind
  apply wpAny_typeNameOfCut_int
  simp only [parse_b]
  rw [if_pos (by decide)]
  refine wpAny_eqn (t' := retStr (intField' ⟨32, 62, none, false, false, none, none, none, some 98⟩ (decide (a < 0)) [] ((Nat.toDigits 2 a.natAbs).map fun c => (if (98 : Nat) == 88 then c.toUpper else c).toNat) [] 4)) ?eq ?_
  case eq => kernel_rfl
  refine ret_text2 ?e ?l h
  case e =>
    obtain ⟨m, rfl⟩ := Int.eq_ofNat_of_zero_le h0
    have hm : m < 32 := by omega
    clear h h0 h1
    revert m
    decide +kernel
  case l =>
    obtain ⟨m, rfl⟩ := Int.eq_ofNat_of_zero_le h0
    have hm : m < 32 := by omega
    clear h h0 h1
    revert m
    decide +kernel
theorem fmtb_meets {a : Int} {t : Tok} (h0 : 0 ≤ a) (h1 : a < 32) : ∀ u, Meets (Builtin.«int.__format__» ⟨[.int a t, .str (⟨#[98]⟩ : PySem.Str) u], []⟩) (fun _ R s => ∀ t' k, R (.ok (.ret (.str (binS a.toNat) t'))) { s with toks := k }) :=
  fun u prog w A R s h => fmtb_run h0 h1 fun t' k => h t' k
def tFmtB (te : TE) : TE := fun σ H Q => te σ H fun x H1 => ∃ i : Int, x = .int i ∧ 0 ≤ i ∧ i < 32 ∧ Q (.str (binS i.toNat)) H1
theorem pe_fmtB {X : Cx} {e : Expr} {te : TE} {j : Nat} {p1 p2 pos : Pos} (he : PE X e te) : PE X (.FormattedValue e (-1) (some (.JoinedStr [.Constant (.str "b") j p1] p2)) pos) (tFmtB te) := by
  refine ⟨fun pins s σ H Q I h => ?_⟩
  refine wpAny_FormattedValue_spec (thn (he.run pins s σ H _ I h) fun v s1 ⟨x, H1, I1, r1, i, ex, h0, h1, q⟩ => ?_)
  subst ex
  obtain ⟨t, rfl⟩ := r1
  refine thn ((pe_joined1 (pe_str (X := X) (x := "b") (j := j) (pos := p1)) (pos := p2)).run pins s1 σ H1 (fun v H2 => v = .str "b" ∧ H2 = H1) I1 ⟨rfl, rfl⟩) fun r s2 ⟨y, H2, I2, r2, ey, eH⟩ => ?_
  subst ey
  obtain ⟨tk, rfl⟩ := r2
  rw [eH] at I2
  refine ⟨"b", tk, rfl, ?_⟩
  exact KXf.field_int (spec' := ⟨#[98]⟩) (by decide +kernel) (by decide) (by decide) (fmtb_meets h0 h1) fun t' k => ⟨.str (binS i.toNat), H1, I2.tok _, ⟨_, rfl⟩, q⟩
end VQ
namespace VQ
open PySem PyProof.Rows L2
/-! ### an error made without things: C() -/
/-- the end of C(): a is the new error, d its dict -/
def MadeEnd (H : Hp) (C a : Addr) (Q : XK) : VK := fun v H2 => v = .non ∧ ∃ (d : Addr) (fs : List (Str × V)), H2 a = some (exo a C (some d)) ∧ H2 d = some (exd d fs) ∧ H d = none ∧ Q (.ref C) (some d) (upd (del H2 a) d (.xd fs))
def tMkO0 (C : Addr) (sp : Sp) : L2.St → Hp → XK → Prop := fun _ H Q => ∀ a, H a = none → sp [.ref a] (upd H a (exo a C none)) (MadeEnd H C a Q) E00
  where E00 : XK := fun _ _ _ => False
theorem pmk_oex0 {X : Cx} {CX : CXT} {x : Str} {C g : Addr} {k : Nat} {fd : FuncData} {ps : List Str} {sp : Sp} {p pos : Pos} (cl : OexC X.K C) (ini : PySem.W.findIn X.K (.ref C) "__init__" = some (some (.ref g))) (ity : PySem.W.typeIn X.K (.ref g) = some (.type "function"))
    (ok : FnOk X.prog X.w X.K X.mg X.base CX k g fd ps sp) (room : Room (k + 1) X.A) (bnd : Binds X.K fd ps []) (out : Passes CX X (fun _ _ _ => False)) (isG : Gl X x) (atG : X.mg x = some (.ref C)) (nodb : (x == ("__debug__" : Str)) = false := by decide) :
    PMk X (.Call (.Name x p) [] [] pos) (tMkO0 C sp) := by
  intro pn st sl H Q inv want
  refine wpAny_Call_Name_kw (ld_glob inv isG atG (PySem.W.callWith_K0 inv.kIn cl.kC ?_) nodb)
  obtain ⟨_, _, _, _, mro, _, _, _, _, _, _, _, _, _, _, here, tail⟩ := cl.cls
  obtain ⟨h0, gn, dw, tk, osx⟩ := st
  -- the new error stands behind its empty tuple of things
  generalize eA : h0.objs.size + 1 = a
  have above : h0.objs.size ≤ a := by omega
  have promise := want a (inv.hok.fresh above)
  generalize eN : (h0.push (PySem.W.kdv_tup [])).push (PySem.HandSPX.excO C h0.objs.size) = h1
  have stays : ∀ b o, h0.get? b = some o → h1.get? b = some o := fun b o z => by
    rw [← eN]
    exact Heap.get?_push_of_some _ (Heap.get?_push_of_some _ z)
  have stands : h1.get? a = some (PySem.HandSPX.excO C h0.objs.size) := by
    rw [← eN, ← eA]
    heap_get
  have inv1 : Inv X pn sl (upd H a (exo a C none)) ⟨h1, gn, dw, tk, osx⟩ := inv.laid (t' := tk) stays above (exo_ok stands)
  have self1 : Vals [V.ref a] [Value.ref a] := .cons rfl .nil
  have cnt : ([Value.ref a] ++ ([] : List Value)).length = ps.length := (ok.len _ _ _ _ promise).symm ▸ rfl
  have binds1 := bnd ⟨h1, gn, dw, tk, osx⟩ [Value.ref a] inv1.kIn cnt
  have runs := ok.run _ X.stack ⟨h1, gn, dw, tk, osx⟩ _ ⟨[Value.ref a], []⟩ [Value.ref a] [V.ref a] _ _ (room.make C [] []) (inv1.env0.make C [] []) binds1 self1 promise
  subst eN eA
  refine wpAny_call (PySem.HandSPX.call_own F.excBase_ValueError (fun Y => PySem.HandSPX.refsVE_contains Y mro tail) (inv.kIn _ _ here) (PySem.W.looks_findIn inv.kIn ini) (fun self => PySem.W.bind_fn inv.kIn self ity) (Nat.zero_le _) (codeAny_mono runs ?_))
  rintro (er | (_ | _ | _ | u)) st2 z
  · exact out pn sl _ _ er st2 inv1 z
  · exact z.elim
  · exact z.elim
  · exact z.elim
  · obtain ⟨v, H2, z1, z2, z3, z4, z5, rfl, d, fs, y1, y2, y3, y4⟩ := z
    obtain ⟨_, _, _, _, _⟩ := st2
    exact ⟨z5, mk_end (raises_own cl.exC cl.tyC) inv above stays z3 z4 z1 z2 y1 y2 y3 y4⟩
/-! ### a try with several clauses, each «as n» -/
/-- what a clause names: one class, or a tuple of two or three -/
inductive Cte (X : Cx) : Expr → List Value → Prop
  | one {x : Str} {c : Value} {np : Pos} (h : Names X x c) : Cte X (.Name x np) [c]
  | two {x y : Str} {c e : Value} {p q r : Pos} {k : Nat} (h : Names X x c) (h' : Names X y e) : Cte X (.Tuple [.Name x p, .Name y q] k r) [c, e]
  | three {x y z : Str} {c e f : Value} {p q r t : Pos} {k : Nat} (h : Names X x c) (h' : Names X y e) (h'' : Names X z f) : Cte X (.Tuple [.Name x p, .Name y q, .Name z r] k t) [c, e, f]
section
variable {X : Cx} {a : Addr} {around : List (Addr × Obj)}
theorem names_read {pn : List (Addr × Obj)} {sl : L2.St} {H : Hp} {st : Shared} {x : Str} {c : Value} {np : Pos} {Q E : Value → Shared → Prop} (nm : Names X x c) (inv : Inv (X.suite a around) pn sl H st) (q : Q c st) :
    wpAny (model X.prog X.w) (X.A.mark (some (.ref a))) (eval (.Name x np) X.env) Q E st := by
  rcases nm with ⟨n1, n2, n3 | ⟨n3, n4, n5⟩⟩
  · exact ld_glob (X := X.suite a around) inv n1 n3 q n2
  · exact ld_blt (X := X.suite a around) inv n1 n3 n4 q n5 n2
theorem cte_run {pn : List (Addr × Obj)} {sl : L2.St} {H : Hp} {st : Shared} {te : Expr} {cs : List Value} {cls : Value} {oe : Obj} {b : Bool} {Q : Bool → Shared → Prop} {E1 E2 : Value → Shared → Prop} (ct : Cte X te cs) (inv : Inv (X.suite a around) pn sl H st)
    (at_ : st.heap.get? a = some oe) (hc : oe.cls = cls) (ans : PySem.W.exmAny X.K cls cs = some b) (q : ∀ h', (∀ b o, st.heap.get? b = some o → h'.get? b = some o) → Q b { st with heap := h' }) :
    wpAny (model X.prog X.w) (X.A.mark (some (.ref a))) (eval te X.env) (fun c s1 => wpAny (model X.prog X.w) (X.A.mark (some (.ref a))) (excMatches (.ref a) c) Q E1 s1) E2 st := by
  have ty : PySem.W.Looks (model X.prog X.w) st.heap (typeOf (.ref a)) cls := fun _ _ _ _ kp z => wpAny_typeOf_ref (kp _ _ at_) (hc ▸ z)
  have grown : ∀ (us : List Value) (b : Addr) (o : Obj), st.heap.get? b = some o → (st.heap.push { cls := .type "tuple", data := .seq us.toArray }).get? b = some o := fun us b o z => Heap.get?_push_of_some _ z
  have kin : ∀ us : List Value, X.K.In (st.heap.push { cls := .type "tuple", data := .seq us.toArray }) := fun us => (show X.K.In st.heap from inv.kIn).keeps (grown us)
  cases ct with
  | one n1 =>
    obtain ⟨b1, d1, x1, y1, z1⟩ := PySem.W.exmAny_cons ans
    cases (show some false = some d1 from y1)
    rw [Bool.or_false] at z1
    subst z1
    exact names_read n1 inv ((PySem.W.exm_one (M := model X.prog X.w) inv.kIn ty x1).here (q st.heap fun _ _ z => z))
  | @two x y c e p' q' r' k n1 n2 =>
    refine wpAny_Tuple_spliced ?_
    show wpAny _ _ (spliced [(false, eval (.Name x p') X.env), (false, eval (.Name y q') X.env)]) _ _ _
    refine Calls.spliced_cons (names_read n1 inv (Calls.spliced_cons (names_read n2 inv (Calls.spliced_nil ⟨by show 2 ≤ sizeLine; decide, ?_⟩))))
    exact (PySem.W.exm_tup2 (M := model X.prog X.w) (kin [c, e]) (ty.keeps (grown [c, e])) (Heap.get?_push_size _ rfl) ans).here (q _ (grown [c, e]))
  | @three x y z c e f p' q' r' t' k n1 n2 n3 =>
    refine wpAny_Tuple_spliced ?_
    show wpAny _ _ (spliced [(false, eval (.Name x p') X.env), (false, eval (.Name y q') X.env), (false, eval (.Name z r') X.env)]) _ _ _
    refine Calls.spliced_cons (names_read n1 inv (Calls.spliced_cons (names_read n2 inv (Calls.spliced_cons (names_read n3 inv (Calls.spliced_nil ⟨by show 3 ≤ sizeLine; decide, ?_⟩))))))
    exact (PySem.W.exm_tup3 (M := model X.prog X.w) (kin [c, e, f]) (ty.keeps (grown [c, e, f])) (Heap.get?_push_size _ rfl) ans).here (q _ (grown [c, e, f]))
end
theorem fly_keeps {B h h' : Heap} {l : List Env} {a : Addr} {Z : Obj → Prop} (f : HandSPX.FlyingZ B l a Z h) (k : ∀ b o, h.get? b = some o → h'.get? b = some o) : HandSPX.FlyingZ B l a Z h' := by
  rcases f with ⟨f1, f2, f3, oe, vs, T, oT, ts, e1, e2, e3, e4, e5, e6, e7, e8, e9⟩
  exact ⟨fun b o z => k b o (f1 b o z), f2, f3.of_keeps fun b o z _ => ⟨o, k b o z, rfl⟩, oe, vs, T, oT, ts, k _ _ e1, e2, e3, e4, e5, e6, k _ _ e7, e8, e9⟩
/-- the ends of a suite whose name (slot i) goes behind it -/
def offName (i : Nat) (D : Ends) : Ends := { nx := fun σ' H' => D.nx (σ'.set i none) H', rt := D.rt, bk := fun σ' H' => D.bk (σ'.set i none) H', ct := fun σ' H' => D.ct (σ'.set i none) H' }
abbrev Suite := Addr → Value → Option Addr → TS
/-- what the clauses wish of an error of the body -/
def wManyA (K : PySem.W.Frag) (i : Nat) (Wout : WX) (D : Ends) : List (List Value × Suite) → WX
  | [] => Wout
  | (cs, ts) :: r => fun cls d σ H => ∃ b, PySem.W.exmAny K cls cs = some b ∧ (b = true → ∀ a, H a = none → ts a cls d (offName i D) (σ.set i (some (.ref a))) H) ∧ (b = false → wManyA K i Wout D r cls d σ H)
/-- a suite walked, whatever error it has caught -/
def Suited (X : Cx) (body : List Stmt) (ts : Suite) : Prop := ∀ (a : Addr) (oe : Obj) (cls : Value) (d : Option Addr) (pn : List (Addr × Obj)), Zc cls d oe → (∃ vs, oe.data = .fields vs) → PSs (X.suite a ((a, oe) :: pn)) body (ts a cls d)
inductive HdsA (X : Cx) (n : Str) : List ExceptHandler → List (List Value × Suite) → Prop
  | nil : HdsA X n [] []
  | cons {te : Expr} {cs : List Value} {ts : Suite} {b₀ : Stmt} {more : List Stmt} {pos' : Pos} {hds : List ExceptHandler} {l : List (List Value × Suite)} (hc : Cte X te cs) (hsu : Suited X (b₀ :: more) ts) (r : HdsA X n hds l) :
      HdsA X n (.ExceptHandler (some te) (some n) (b₀ :: more) pos' :: hds) ((cs, ts) :: l)
section
variable {X : Cx} {n : Str} {i : Nat} {Wout : WX} {pins : List (Addr × Obj)} {D : Ends}
/-- one after the other, from where the error at a has landed -/
theorem hds_run (two : X.stack = X.env :: X.outer) (fr : X.env.frame = some X.env.locals) (nd : X.N.Nodup) (slot : X.N[i]? = some n) (loc : X.env.kindOf n = some .local) (tk : Takes X Wout) {a : Addr} {B : Heap} {sI s' : Shared} {σ' : L2.St} {H' : Hp} {cls : Value} {d : Option Addr}
    (inv : Inv X pins σ' H' sI) (ground : ∀ b o, sI.heap.get? b = some o → b ∉ frs X.stack → B.get? b = some o) (free : H' a = none) (notL : a ≠ X.env.locals) (notF : a ∉ X.fs) (sameOs : s'.os = sI.os) (bare : AllBare s'.gens)
    {hds : List ExceptHandler} {l : List (List Value × Suite)} (H : HdsA X n hds l) : wManyA X.K i Wout D l cls d σ' H' → ∀ h : Heap, HandSPX.FlyingZ B (X.env :: X.outer) a (Zc cls d) h → sI.heap.UpToSlots h →
    wpAny (model X.prog X.w) X.A (handleBy (.ref a) X.env hds) (SP X pins D) X.xe { s' with heap := h } := by
  induction H with
  | nil =>
    intro wish h fl up
    refine wpAny_handleBy_nil ?_
    have goOn : wpAny (model X.prog X.w) X.A (setFlight (.ref a) X.env.frame) (fun _ s4 => wpAny (model X.prog X.w) X.A (throw (.ref a) : Sem Flow) (SP X pins D) X.xe s4) X.xe { s' with heap := h } := by
      rw [fr]
      exact HandSPX.setFlight_upZ fl fun h4 held up4 => wpAny_throw (tk _ _ ⟨a, B, sI, pins, σ', H', cls, d, rfl, inv, ground, up.trans up4, .inr (.inr (two ▸ held)), free, sameOs, bare, wish⟩)
    obtain ⟨_, _, _, oe, vs, T, _, _, t1, _, t3, t4, _⟩ := id fl
    unfold PySem.passOn
    refine wpAny_bind (wpAny_field t1 t3 t4 ?_)
    have isRef : ¬ ((Value.ref T == Value.none) = true) := by simp
    rw [if_neg isRef]
    first
      | exact wpAny_bind goOn
      | exact wpAny_bind (wpAny_pure (by exact wpAny_bind goOn))
  | @cons te cs ts b₀ more pos' hds2 l2 named suited _ ih =>
    rintro ⟨b, ans, yes, no⟩ h fl up
    have onGround : ∀ {g : Heap}, HandSPX.FlyingZ B (X.env :: X.outer) a (Zc cls d) g → sI.heap.UpToSlots g → Inv X pins σ' H' { s' with heap := g } := fun f u => inv.landed ground f.1 u sameOs bare
    obtain ⟨oe, vs, t1, t2, t3⟩ := fl.there
    refine wpAny_handleBy_cons (codeAny_handlers_test (cte_run named ((onGround fl up).suite t1 t3 free notL notF) t1 t2.1 ans fun g kp => ?_)) (fun z => by cases z)
    have fl2 := fly_keeps fl kp
    have up2 := up.trans (Heap.UpToSlots.of_keeps kp)
    cases b with
    | false =>
      show wpAny _ X.A (handleBy _ X.env hds2) _ _ _
      exact ih (no rfl) g fl2 up2
    | true =>
      refine codeAny_handlers_suite_as (HandSPX.lands_againZ fl2 fun g4 fl4 up4 => ?_)
      obtain ⟨o4, _, u1, u2, u3⟩ := fl4.there
      have inv4 := (onGround fl4 (up2.trans up4)).suite u1 u3 free notL notF
      refine store_ok (X := X.suite a ((a, o4) :: (X.pn ++ pins))) (v := .ref a) inv4 nd slot (.inl loc) rfl (fun s5 inv5 => ?_) (.inr loc)
      refine wpAny_mono ((suited a o4 cls d (X.pn ++ pins) u2 ⟨_, u3⟩).run [] s5 _ H' (offName i D) inv5 (yes rfl a free)) ?_ (fun _ _ z => False.elim z)
      have nameGoes : ∀ {s6 : Shared} {σ6 : L2.St} {H6 : Hp} {Q : Shared → Prop}, Inv (X.suite a ((a, o4) :: (X.pn ++ pins))) [] σ6 H6 s6 → (∀ s7, Inv X pins (σ6.set i none) H6 s7 → Q s7) →
          wpAny (model X.prog X.w) X.A (do bindName X.env n .none; unbindBehindTheSuite X.env n pos') (fun _ s7 => Q s7) X.xe s6 := fun j z => gone_ok (j.unsuite inv.ok) nd slot loc z
      rintro (_ | _ | _ | v) s6 z
      · obtain ⟨_, _, j, z⟩ := z
        exact nameGoes j fun _ j7 => ⟨_, _, j7, z⟩
      · obtain ⟨_, _, j, z⟩ := z
        exact nameGoes j fun _ j7 => ⟨_, _, j7, z⟩
      · obtain ⟨_, _, j, z⟩ := z
        exact nameGoes j fun _ j7 => ⟨_, _, j7, z⟩
      · obtain ⟨_, _, _, j, r, z⟩ := z
        exact nameGoes j fun _ j7 => ⟨_, _, _, j7, r, z⟩
/-- try: body / except .. as n: ..  (several clauses) -/
theorem ps_try_manyA {body : List Stmt} {h₀ : ExceptHandler} {hds : List ExceptHandler} {l : List (List Value × Suite)} {pos : Pos} {tb : WX → TS} (two : X.stack = X.env :: X.outer) (fr : X.env.frame = some X.env.locals) (nd : X.N.Nodup) (slot : X.N[i]? = some n) (loc : X.env.kindOf n = some .local) (tk : Takes X Wout)
    (inside : ∀ (W : WX) (pn : List (Addr × Obj)) (xe : Value → Shared → Prop), Takes (X.tr pn xe) W → PassesOwn (model X.prog X.w) X.A X.env xe → PSs (X.tr pn xe) body (tb W))
    (clauses : HdsA X n (h₀ :: hds) l) : PS X (.Try body (h₀ :: hds) [] [] pos) (fun D σ H => tb (wManyA X.K i Wout D l) D σ H) := by
  refine ⟨fun pins st sl H D inv want => wpAny_Try_except (wpAny_mono ((inside (wManyA X.K i Wout D l) (X.pn ++ pins) _ (fun u s' air => ?_) PassesOwn.looking).run [] st sl H D (inv.toTry _) want) ?_ fun e s1 z => z)⟩
  · obtain ⟨a, B, sI, _, σ', H', cls, d, rfl, j0, ground, up, sky, free, sameOs, bare, wish⟩ := air
    have frames : X.A.frames = some (X.env :: X.outer) := two ▸ inv.ok.frames
    refine Sky.land Zc.steady frames fr (show Sky B (X.env :: X.outer) a (Zc cls d) X.env.locals s'.heap from two ▸ sky) fun h3 fl up3 => ?_
    obtain ⟨oe, vs, t1, _, t3⟩ := fl.there
    have noFrame : a ∉ frs (X.env :: X.outer) := fun m => by
      obtain ⟨_, o2, e2, nf⟩ := fl.2.2.1.mem m
      rw [t1] at e2
      cases e2
      exact nf _ t3
    refine hds_run two fr nd slot loc tk (j0.ofTry inv.ok) ground free (fun z => noFrame (List.mem_filterMap.mpr ⟨X.env, List.mem_cons_self, z ▸ fr⟩)) (fun m => ?_) sameOs bare clauses wish h3 fl (up.trans up3)
    obtain ⟨ev, m1, m2⟩ := List.mem_filterMap.mp m
    exact noFrame (List.mem_filterMap.mpr ⟨ev, List.mem_cons_of_mem _ m1, m2⟩)
  · rintro (_ | _ | _ | v) s1 z
    · obtain ⟨_, _, j, z⟩ := z
      exact wpAny_execs_nil ⟨_, _, j.ofTry inv.ok, z⟩
    · obtain ⟨_, _, j, z⟩ := z
      exact ⟨_, _, j.ofTry inv.ok, z⟩
    · obtain ⟨_, _, j, z⟩ := z
      exact ⟨_, _, j.ofTry inv.ok, z⟩
    · obtain ⟨_, _, _, j, r, z⟩ := z
      exact ⟨_, _, _, j.ofTry inv.ok, r, z⟩
end
end VQ
namespace VQ
open PySem PyProof.Rows L2 LamX
/-- kept by one part of the run, then by another one over more frames, all of which are new to the first -/
theorem un_comp {fs1 fs2 : List Addr} {H H1 H2 : Hp} {h h1 h2 : Heap} (u1 : Un fs1 [] H H1 h h1) (u2 : Un fs2 [] H1 H2 h1 h2) (sub : ∀ b ∈ fs2, b ∈ fs1 ∨ h.get? b = none) : Un fs1 [] H H2 h h2 where
  keep := fun b o e n hb hx => u2.keep b o (u1.keep b o e n hb hx) (u1.free b o e n hx) (fun m => (sub b m).elim hb fun z => nomatch z.symm.trans e) hx
  slot := fun b o e n hb hx => by
    obtain ⟨sl1, e1⟩ := u1.slot b o e n hb hx
    obtain ⟨sl2, e2⟩ := u2.any e1 (u1.free b o e n hx) hx
    exact ⟨sl2, e2⟩
  free := fun b o e n hx => let ⟨o', e1⟩ := u1.there b o e hx; u2.free b o' e1 (u1.free b o e n hx) hx
  there := fun b o e hx => let ⟨o', e1⟩ := u1.there b o e hx; u2.there b o' e1 hx
  tups := fun b xs e => u2.tups b xs (u1.tups b xs e)
  frzs := fun b o u e => u2.frzs b o u (u1.frzs b o u e)
  tbls := fun b ps e => by
    obtain ⟨m1, e1⟩ := u1.tbls b ps e
    obtain ⟨m2, e2⟩ := u2.tbls b _ e1
    rw [Array.append_assoc] at e2
    exact ⟨_, e2⟩
/-- a lambda's names: captured ones, globals, and names of its own that the maker does not have -/
structure LamS2 (X : Cx) (scope : Scope) : Prop where
  kind : scope.kind = .function
  co : scope.isCoroutine = false
  gen : scope.isGenerator = false
  noCell : ∀ y ∈ scope.names, y.2 ≠ .cell
  own : ∀ y ∈ scope.names, y.2 = .local → y.1 ∉ X.N
  free : ∀ y ∈ scope.names, y.2 = .free → X.env.scope.names.lookup y.1 = some .cell ∨ X.env.scope.names.lookup y.1 = some .free
def lamS2B (N : List Str) (sc scope : Scope) : Bool := decide (scope.kind = .function) && !scope.isCoroutine && !scope.isGenerator &&
  scope.names.all fun y => !decide (y.2 = .cell) && (!decide (y.2 = .local) || !N.contains y.1) && (!decide (y.2 = .free) || decide (sc.names.lookup y.1 = some .cell) || decide (sc.names.lookup y.1 = some .free))
theorem lamS2_by {X : Cx} {N : List Str} {sc scope : Scope} (h : lamS2B N sc scope = true) (eN : X.N = N) (es : X.env.scope = sc) : LamS2 X scope := by
  subst eN es
  simp only [lamS2B, Bool.and_eq_true, Bool.or_eq_true, Bool.not_eq_true', decide_eq_true_eq, decide_eq_false_iff_not, List.all_eq_true] at h
  obtain ⟨⟨⟨h1, h2⟩, h3⟩, h4⟩ := h
  refine ⟨h1, h2, h3, fun y m => (h4 y m).1.1, fun y m e z => ?_, fun y m e => ?_⟩
  · rcases (h4 y m).1.2 with q | q
    · exact q e
    · rw [List.contains_iff_mem.mpr z] at q
      cases q
  · rcases (h4 y m).2 with (q | q) | q
    · exact absurd e q
    · exact .inl q
    · exact .inr q
/-- the lambda of X's frame at the state st: its object at f, its code object at c -/
structure LamAt (X : Cx) (sl : L2.St) (H : Hp) (st : Shared) (body : Expr) (scope : Scope) (f c : Addr) : Prop where
  inv : ∃ pins, Inv X pins sl H st
  lam : LamS2 X scope
  new : H f = none
  nofr : f ∉ frs X.stack
  fn : ∃ (fd : FuncData) (binds : List (Str × Value)), st.heap.get? f = some { cls := .type "function", data := .func fd } ∧ fd.scope = scope ∧ fd.body = .expr body ∧ fd.code = .ref c ∧ fd.qualname = X.env.qual ++ "<lambda>" ∧ fd.globals = mainGlobals ∧ fd.builtins = builtinsNs ∧
    fd.closure = cloFrom X.env.cells scope.names [] ∧ (∀ y ∈ binds, scope.names.lookup y.1 = some .local) ∧ ∀ s1 : Shared, (∀ b o, st.heap.get? b = some o → H b = none → b ∉ frs X.stack → s1.heap.get? b = some o) → BindsTo s1 fd ⟨[], []⟩ binds
/-- its body as a reading, wherever it is entered -/
abbrev LamBody (X : Cx) (scope : Scope) (body : Expr) (k : Nat) (f c : Addr) (E : XK) (tb : TE) : Prop :=
  ∀ (A : Around) (outer : List Env) (s : Shared) (H : Hp), Room k (A.deeper (lamEnv X scope s.heap.objs.size f c)) → PE (lamCx X A outer s H E scope f c) body tb
section
variable {X : Cx} {sl : L2.St} {H : Hp} {st : Shared} {body : Expr} {scope : Scope} {f c : Addr} {k : Nat} {E : XK} {tb : TE}
/-- the closure's cells are the maker's -/
theorem clo_cell {y : Str} {d : Addr} (has : ∀ z ∈ scope.names, z.2 = .free → ∃ c, X.env.cells.lookup z.1 = some c) (e : (cloFrom X.env.cells scope.names []).lookup y = some d) : X.env.cells.lookup y = some d := by
  rcases cloFrom_mem (PySem.mem_of_lookup e) with m | ⟨m1, m2⟩
  · cases m
  · obtain ⟨c1, e1⟩ := has _ m1 rfl
    have e1 : X.env.cells.lookup y = some c1 := e1
    rw [m2, e1]
    rfl
theorem lam_enter {pins : List (Addr × Obj)} {A : Around} {outer : List Env} {s1 : Shared} {H1 : Hp} {h2 : Heap} {tk : Nat} {m : Str → Option Value} (inv : Inv X pins sl H st) (L : LamS2 X scope) (e0 : Env0 X.prog X.w X.K X.mg X.base A outer s1 H1) (cool : A.handled = none)
    (un : Un (frs X.stack) [] H H1 st.heap s1.heap) (ns : h2.Ns s1.heap.objs.size m) (grown : ∀ b o, s1.heap.get? b = some o → h2.get? b = some o) : Inv (lamCx X A outer s1 H1 E scope f c) [] sl H1 { s1 with heap := h2, toks := tk } := by
  have has : ∀ z ∈ scope.names, z.2 = .free → ∃ c, X.env.cells.lookup z.1 = some c := fun z m e => (L.free z m e).elim (fun q => inv.ok.has _ (.inl q)) (fun q => inv.ok.has _ (.inr q))
  have own : ∀ {y : Str}, scope.names.lookup y = some .free → ∃ d, (cloFrom X.env.cells scope.names []).lookup y = some d := fun {y} q => mem_lookup (cloFrom_has (cells := X.env.cells) (acc := []) (PySem.mem_of_lookup q))
  have cellOn : ∀ {d : Addr} {v : Option Value}, H d = none → st.heap.IsCell d v → h2.IsCell d v := fun {d v} z ⟨o, q1, q2⟩ => by
    obtain ⟨sl', q⟩ := un.any q1 z (by simp)
    exact ⟨_, grown _ _ q, q2⟩
  have noCell : ∀ {y : Str}, scope.names.lookup y ≠ some .cell := fun {y} q => L.noCell _ (PySem.mem_of_lookup q) rfl
  have none_ : ∀ b : Addr, b ∉ (lamCx X A outer s1 H1 E scope f c).ex := fun b z => by cases (show b ∈ ([] : List Addr) from z)
  exact {
    ok := {
      mod := e0.mod
      kind := L.kind
      glob := rfl
      blt := rfl
      above := Nat.le_refl _
      inj := fun y z d q1 q2 => inv.ok.inj y z d (clo_cell has q1) (clo_cell has q2)
      has := fun y q => q.elim (fun z => absurd (show scope.names.lookup y = some .cell from z) noCell) (fun z => own z)
      cab := fun y d z _ => by cases (show false = true from z)
      hd := fun _ => cool
      frames := Around.frames_deeper e0.frames
      stk := .inr ⟨rfl, rfl⟩
      exf := fun b z => absurd z (none_ b)
      bs := e0.bs
      bsz := e0.bsz
      noex := fun b _ _ => none_ b
      exfs := fun b z => absurd z (none_ b)
      funs := e0.funs
      frf := e0.frf }
    os := rfl
    bare := e0.bare
    base := Un.kept grown
    loc := ⟨m, ns, fun i y v q1 q2 q3 => by
      rcases (show Vis scope y from q3) with q | q | q
      · exact absurd (List.mem_of_getElem? q1) (L.own _ (PySem.mem_of_lookup q) rfl)
      · exact absurd q noCell
      · obtain ⟨m0, _, look⟩ := inv.loc
        have there := L.free _ (PySem.mem_of_lookup q) rfl
        obtain ⟨u, rel, at_⟩ := look i y v q1 q2 (.inr there)
        obtain ⟨d, hd⟩ := own q
        refine ⟨u, rel, .inr ⟨.inr q, d, hd, ?_⟩⟩
        have hd' := clo_cell has hd
        rcases at_ with ⟨z, _⟩ | ⟨_, d2, z1, z2⟩
        · have z : X.env.scope.names.lookup y = some .local := z
          rcases there with t | t <;> rw [t] at z <;> cases z
        · cases z1.symm.trans hd'
          exact cellOn (inv.freeC y _ hd') z2⟩
    cell := fun y d q => by
      obtain ⟨v, z⟩ := inv.cell y d (clo_cell has q)
      exact ⟨v, cellOn (inv.freeC y d (clo_cell has q)) z⟩
    free := e0.hok.fresh (Nat.le_refl _)
    freeC := fun y d q => by
      obtain ⟨v, o, z, _⟩ := inv.cell y d (clo_cell has q)
      exact un.free d o z (inv.freeC y d (clo_cell has q)) (by simp)
    pin := fun q m => by cases (show q ∈ ([] : List (Addr × Obj)) from m)
    hok := e0.hok.kept grown
    len := inv.len }
/-- called from the frames outer, at a state that has kept what st had -/
theorem lam_runs (L : LamAt X sl H st body scope f c) (bd : LamBody X scope body k f c E tb) {A : Around} {outer : List Env} {s1 : Shared} {H1 : Hp} {Q : VK} (room : Room (k + 1) A) (e0 : Env0 X.prog X.w X.K X.mg X.base A outer s1 H1)
    (un : Un (frs X.stack) [] H H1 st.heap s1.heap) (code : H1 c = some (CodeO c (X.env.qual ++ "<lambda>"))) (want : tb sl H1 Q) :
    codeAny (model X.prog X.w) A (.call (.ref f) ⟨[], []⟩) (CR (L2.CX X.prog X.w) outer X.prog X.w H1 s1 Q E) s1 := by
  obtain ⟨pins, inv⟩ := L.inv
  obtain ⟨⟨oc, vs, t, c1, c2, c3⟩, _⟩ := e0.hok c _ code
  obtain ⟨fd, binds, o1, o2, o3, o4, o5, o6, o7, o8, o9, o10⟩ := L.fn
  have stands := un.keep f _ o1 L.new L.nofr (by simp)
  have lim : s1.heap.NoLimit := e0.mod.nolimit.keeps fun b o z => (e0.bs b o z).1
  refine PySem.W.kla_callFunE room.depth stands rfl (by rw [o2]; exact L.lam.co) (by rw [o2]; exact L.lam.gen) o3 ⟨c, oc, vs, t, o4, c1, c2, by rw [o5]; exact c3⟩ (o10 s1 (fun b o z1 z2 z3 => un.keep b o z1 z2 z3 (by simp)) _ _ _ _ ?_)
  rw [o2, o4, o5, o6, o7, o8]
  refine wpAny_newFunctionEnv L.lam.noCell o9 (fun h2 ns but => ⟨lim.fresh _ but, ?_⟩) L.lam.kind
  have grown : ∀ b o, s1.heap.get? b = some o → h2.get? b = some o := fun b o z => but.extBut b o (Nat.ne_of_lt (Heap.lt_size z)) (Heap.get?_push_of_some _ z)
  have entered := lam_enter (E := E) (f := f) (c := c) (tk := s1.toks + binds.length) inv L.lam e0 room.hd un ns grown
  refine PySem.W.kla_codeExpr (wpAny_mono ((bd A outer s1 H1 (room.deeper _)).run [] _ _ H1 Q entered want) ?_ fun _ _ z => z)
  rintro v s2 ⟨v', H2, j, rel, q⟩
  exact ⟨v', H2, j.os, j.bare, j.base, j.hok, rel, q⟩
/-- y(), y in the i-th slot of a def that was handed the lambda, entered at s2 from the frames outer2 -/
theorem pe_actG {CXg : CXT} {Eg : XK} {N : List Str} {q : Str} {sg : Scope} {g : Addr} {cd : Value} {i : Nat} {y : Str} {pn : List (Addr × Obj)} {xe : Value → Shared → Prop} {W : WX} {p1 p2 : Pos} {A2 : Around} {outer2 : List Env} {s2 : Shared} {H2 : Hp}
    (L : LamAt X sl H st body scope f c) (bd : LamBody X scope body k f c E tb) (un2 : Un (frs X.stack) [] H H2 st.heap s2.heap) (sub : ∀ b ∈ frs outer2, b ∈ frs X.stack ∨ st.heap.get? b = none)
    (tk : Takes ((cxOf CXg X.prog X.w X.K X.mg X.base N q sg g cd A2 outer2 s2 H2 Eg).tr pn xe) W) (hW : ∀ cls d σ' H', σ'.length = N.length → E cls d H' → W cls d σ' H') (room : Room (k + 1) (A2.deeper (envOfC q sg s2.heap.objs.size g cd)))
    (slot : N[i]? = some y) (vis : Vis sg y) (n1 : (y == ("__debug__" : Str)) = false := by decide) (n2 : (y == ("__classdict__" : Str)) = false := by decide) :
    PE ((cxOf CXg X.prog X.w X.K X.mg X.base N q sg g cd A2 outer2 s2 H2 Eg).tr pn xe) (.Call (.Name y p1) [] [] p2)
      (fun σ' H' Q => σ'[i]? = some (some (.ref f)) ∧ H' c = some (CodeO c (X.env.qual ++ "<lambda>")) ∧ tb sl H' Q) := by
  refine ⟨fun pz sz σz Hz Q jz ⟨w1, w2, w3⟩ => ?_⟩
  refine wpAny_Call_Name_kw (thn ((pe_var (pos := p1) (i := i) slot vis n1 n2).run pz sz σz Hz (fun v H1 => v = .ref f ∧ H1 = Hz) jz ⟨_, w1, rfl, rfl⟩) ?_)
  rintro u s1 ⟨_, _, j, rel, rfl, rfl⟩
  cases (show u = Value.ref f from rel)
  have un := un_comp un2 (show Un (frs outer2) [] H2 _ s2.heap s1.heap from j.base) sub
  obtain ⟨fd, _, o1, _⟩ := L.fn
  refine PySem.W.callWith_F0 ⟨_, _, _, _, un.keep f _ o1 L.new L.nofr (by simp)⟩ ?_
  refine wpAny_call (codeAny_mono (lam_runs (Q := Q) L bd room j.env0 un w2 w3) ?_)
  rintro (er | (_ | _ | _ | u)) s3 z
  · exact tk er s3 (XE.of_call j (fun cls d H' y => hW cls d σz H' j.len y) z)
  · exact z.elim
  · exact z.elim
  · exact z.elim
  · exact j.after z
end
/-- a def that calls what it got, from wherever it is called -/
def Gives2 (P : Program) (w : World) (K : PySem.W.Frag) (mg : Str → Option Value) (base : Heap) (N : List Str) (x : Str) (sg : Scope) (g : Addr) (cd : Value) (bg : List Stmt) (y : Str) (q : Str) (TT : (XK → Hp → VK → Prop) → Hp → VK → Prop) : Prop :=
  ∀ (A2 : Around) (outer2 : List Env) (f c : Addr) (s : Shared) (H : Hp) (Q : VK) (tl : XK → Hp → VK → Prop),
    (∀ (W : WX) (pn : List (Addr × Obj)) (xe : Value → Shared → Prop) (E : XK) (p1 p2 : Pos), Takes ((cxOf C8.CX0 P w K mg base N x sg g cd A2 outer2 s H C8.E0).tr pn xe) W → (∀ cls d σ' H', σ'.length = N.length → E cls d H' → W cls d σ' H') →
      PE ((cxOf C8.CX0 P w K mg base N x sg g cd A2 outer2 s H C8.E0).tr pn xe) (.Call (.Name y p1) [] [] p2) (fun σ' H' Q => σ'[0]? = some (some (.ref f)) ∧ H' c = some (CodeO c q) ∧ tl E H' Q)) →
    H c = some (CodeO c q) → TT tl H Q → ∃ t, PSs (cxOf C8.CX0 P w K mg base N x sg g cd A2 outer2 s H C8.E0).nox bg t ∧ t { nx := fun _ H' => Q .non H', rt := Q } (L2.start N [.ref f]) H
/-- err.f in a suite, whatever the error's class is -/
def tXfA (K : PySem.W.Frag) (a : Addr) (cls : Value) (d : Option Addr) (f : Str) (te : TE) : TE := fun σ H Q => ∃ C, XfC K C ∧ PySem.W.findIn K (.ref C) f = some none ∧ tXf a cls d C f te σ H Q
theorem pe_xfA {X : Cx} {a : Addr} {oe : Obj} {cls : Value} {d : Option Addr} {pn : List (Addr × Obj)} {e : Expr} {te : TE} {pos : Pos} {n : Str} (z : Zc cls d oe) (rec_ : ∃ vs, oe.data = .fields vs) (he : PE (X.suite a ((a, oe) :: pn)) e te)
    (plain : attributeBase e n X.env (eval e X.env) = eval e X.env := by rfl) : PE (X.suite a ((a, oe) :: pn)) (.Attribute e n pos) (tXfA X.K a cls d n te) :=
  ⟨fun pins s σ H Q I ⟨_, xc, no, h⟩ => (pe_xf xc no z rec_ he plain).run pins s σ H Q I h⟩
/-! ### x1(lambda: body), x1: return x2(a1)[0]; x2 calls what it got -/
/-- a def as it stands: its parameter, names by slot, body -/
structure One (K : PySem.W.Frag) (mg : Str → Option Value) (x : Str) (g : Addr) (cd : Value) (N : List Str) (y : Str) (sg : Scope) (bg : List Stmt) : Prop where
  at_ : mg x = some (.ref g)
  kp : PySem.W.keepIn K (.ref g) = true
  ex : ∃ (oc : Value) (od : Option Addr) (pa : Arguments) (dV kV doc pm : Value) (an : Option Addr) (ct : Value) (osl : Array (Option Value)),
    K.lookup g = some ⟨oc, od, .func (PySem.W.fnOf x x pa bg sg dV kV doc pm an cd ct), osl⟩ ∧ L2.Binds K (PySem.W.fnOf x x pa bg sg dV kV doc pm an cd ct) [y] []
  code : PySem.W.codeIn K cd x = true
  sc : FnScope N [y] sg
  slot : N[0]? = some y
  vis : Vis sg y
  n1 : (x == ("__debug__" : Str)) = false
  n2 : (y == ("__debug__" : Str)) = false
  n3 : (y == ("__classdict__" : Str)) = false
theorem start_slot {N : List Str} {y : Str} {v : V} (h : N[0]? = some y) : (L2.start N [v])[0]? = some (some v) := by
  match N, h with
  | _ :: _, _ => rfl
section
variable {X : Cx} {x1 x2 y1 y2 : Str} {g1 g2 : Addr} {cd1 cd2 : Value} {N1 N2 : List Str} {sg1 sg2 : Scope} {bg2 : List Stmt} {j0 : Nat} {q1 q2 q3 q4 q5 q6 : Pos} {TT : (XK → Hp → VK → Prop) → Hp → VK → Prop}
abbrev handsOn (x2 y1 : Str) (j0 : Nat) (q1 q2 q3 q4 q5 q6 : Pos) : List Stmt := [.Return (some (.Subscript (.Call (.Name x2 q1) [.Name y1 q2] [] q3) (.Constant (.int 0) j0 q4) q5)) q6]
/-- in x1's frame, entered at s1 from X: x2(y1) -/
theorem pe_hand (D1 : One X.K X.mg x1 g1 cd1 N1 y1 sg1 (handsOn x2 y1 j0 q1 q2 q3 q4 q5 q6)) (D2 : One X.K X.mg x2 g2 cd2 N2 y2 sg2 bg2) (isG : sg1.names.lookup x2 = some .globalImplicit) (gives : Gives2 X.prog X.w X.K X.mg X.base N2 x2 sg2 g2 cd2 bg2 y2 (X.env.qual ++ "<lambda>") TT)
    {sl : L2.St} {H : Hp} {s1 : Shared} {body : Expr} {scope : Scope} {f c : Addr} {k : Nat} {t : XK → TE} (L : LamAt X sl H s1 body scope f c) (bd : ∀ E, LamBody X scope body k f c E (t E)) (room : Room (k + 2) (X.A.deeper (envOfC x1 sg1 s1.heap.objs.size g1 cd1))) :
    PE (cxOf C8.CX0 X.prog X.w X.K X.mg X.base N1 x1 sg1 g1 cd1 X.A X.stack s1 H C8.E0) (.Call (.Name x2 q1) [.Name y1 q2] [] q3)
      (fun σ' H' Q => σ'[0]? = some (some (.ref f)) ∧ H' c = some (CodeO c (X.env.qual ++ "<lambda>")) ∧ TT (fun E H2 Q2 => t E sl H2 Q2) H' Q) := by
  refine ⟨fun pz sz σz Hz Q jz ⟨w1, w2, w3⟩ => ?_⟩
  refine wpAny_Call_Name_kw (ld_glob jz (show (envOfC x1 sg1 s1.heap.objs.size g1 cd1).kindOf x2 = some .globalImplicit from isG) D2.at_ ?_ D2.n1)
  have arg : PA (cxOf C8.CX0 X.prog X.w X.K X.mg X.base N1 x1 sg1 g1 cd1 X.A X.stack s1 H C8.E0) [.Name y1 q2] (tCons (tVar 0) tNil) := pa_cons (pe_var (i := 0) D1.slot D1.vis D1.n2 D1.n3) pa_nil
  refine PySem.W.callWith_K (h₀ := X.base) jz.ok.mod.kin D2.kp (thn (arg.run q3 pz sz σz Hz (fun vs H2 => vs = [.ref f] ∧ H2 = Hz) jz ⟨_, w1, rfl, rfl⟩) ?_) (by rfl) (by rfl)
  rintro us s2 ⟨_, _, j, rel, rfl, rfl⟩
  obtain ⟨oc, od, pa, dV, kV, doc, pm2, an, ct, osl, lk, bnd⟩ := D2.ex
  match us, rel with
  | [_], .cons r .nil =>
    cases r
    refine ⟨j.kIn, ?_⟩
    have sub : ∀ b ∈ frs (envOfC x1 sg1 s1.heap.objs.size g1 cd1 :: X.stack), b ∈ frs X.stack ∨ s1.heap.get? b = none := fun b m => by
      obtain ⟨ev, m1, m2⟩ := List.mem_filterMap.mp m
      rcases List.mem_cons.mp m1 with rfl | m1
      · cases m2
        refine .inr (Option.eq_none_iff_forall_ne_some.mpr fun o z => ?_)
        exact Nat.lt_irrefl _ (Heap.lt_size z)
      · exact .inl (List.mem_filterMap.mpr ⟨ev, m1, m2⟩)
    have inner : codeAny (model X.prog X.w) (X.A.deeper (envOfC x1 sg1 s1.heap.objs.size g1 cd1)) (.call (.ref g2) ⟨[.ref f], []⟩) (CR C8.CX0 (envOfC x1 sg1 s1.heap.objs.size g1 cd1 :: X.stack) X.prog X.w _ s2 Q C8.E0) s2 :=
      run_ofS (N := N2) (ps := [y2]) (us := [.ref f]) (vs := [.ref f]) lk D2.code D2.sc room j.env0 (bnd s2 [.ref f] j.kIn rfl) (.cons rfl .nil) rfl fun room2 => by
        obtain ⟨tt, d1, d2⟩ := gives (X.A.deeper (envOfC x1 sg1 s1.heap.objs.size g1 cd1)) (envOfC x1 sg1 s1.heap.objs.size g1 cd1 :: X.stack) f c s2 _ Q (fun E H2 Q2 => t E sl H2 Q2)
          (fun W pn xe E p1 p2 tk hW => pe_actG (i := 0) L (bd E) (show Un (frs X.stack) [] H _ s1.heap s2.heap from j.base) sub tk hW room2 D2.slot D2.vis D2.n2 D2.n3) w2 w3
        exact ⟨tt, d1.nox, d2⟩
    refine wpAny_call (codeAny_mono inner ?_)
    rintro (er | (_ | _ | _ | u)) s3 z
    · exact (show False from z).elim
    · exact z.elim
    · exact z.elim
    · exact z.elim
    · exact j.after z
/-- the lambda is made, with whatever defaults -/
def LamMk (X : Cx) (T : List (Addr × Str)) (params : Arguments) (body : Expr) (scope : Scope) (lpos : Pos) : Prop :=
  ∀ {pins : List (Addr × Obj)} {sl : L2.St} {H : Hp} {st : Shared} {Q : Value → Shared → Prop} {E : Value → Shared → Prop}, Inv X pins sl H st → Tabs T H →
    (∀ (f c : Addr) (H1 : Hp) (s1 : Shared), Inv X pins sl H1 s1 → LamAt X sl H1 s1 body scope f c → ExtN H H1 → Tabs T H1 → H1 c = some (CodeO c (X.env.qual ++ "<lambda>")) → Q (.ref f) s1) →
    wpAny (model X.prog X.w) X.A (eval (.Lambda params body scope lpos) X.env) Q E st
theorem pe_word {T : List (Addr × Str)} {k : Nat} {params : Arguments} {body : Expr} {scope : Scope} {t : XK → TE} {p lpos pos : Pos} (isG : Gl X x1) (D1 : One X.K X.mg x1 g1 cd1 N1 y1 sg1 (handsOn x2 y1 j0 q1 q2 q3 q4 q5 q6)) (isG2 : sg1.names.lookup x2 = some .globalImplicit)
    (D2 : One X.K X.mg x2 g2 cd2 N2 y2 sg2 bg2) (gives : Gives2 X.prog X.w X.K X.mg X.base N2 x2 sg2 g2 cd2 bg2 y2 (X.env.qual ++ "<lambda>") TT) (mk : LamMk X T params body scope lpos) (room : Room (k + 3) X.A) (bd : ∀ f c' E, LamBody X scope body k f c' E (t E)) :
    PE X (.Call (.Name x1 p) [.Lambda params body scope lpos] [] pos) (tLam T (fun tl H Q => TT tl H fun v H1 => rIxT X.K v (.int 0) H1 Q) t) := by
  refine ⟨fun pins st sl H Q inv ⟨tabs, want⟩ => ?_⟩
  refine wpAny_Call_Name_kw (ld_glob inv isG D1.at_ (PySem.W.callWith_K (h₀ := X.base) inv.ok.mod.kin D1.kp ?_ (by rfl) (by rfl)) D1.n1)
  refine Calls.spliced_cons (rest := backTo pos (starEach [] X.env)) (mk inv tabs fun f c' H1 s1 inv1 LA ext tabs1 co => ?_)
  refine Calls.spliced_nil ⟨inv1.kIn, ?_⟩
  obtain ⟨oc, od, pa, dV, kV, doc, pm1, an, ct, osl, lk, bnd⟩ := D1.ex
  have outerRun : codeAny (model X.prog X.w) X.A (.call (.ref g1) ⟨[.ref f], []⟩) (CR C8.CX0 X.stack X.prog X.w H1 s1 Q C8.E0) s1 :=
    run_ofS (N := N1) (ps := [y1]) (us := [.ref f]) (vs := [.ref f]) lk D1.code D1.sc room inv1.env0 (bnd s1 [.ref f] inv1.kIn rfl) (.cons rfl .nil) rfl fun room1 =>
      ⟨_, pss_one (ps_ret (pe_ix ix_tup (pe_hand D1 D2 isG2 gives LA (bd f c') room1) pe_int fun _ _ => rfl)), start_slot D1.slot, co, want H1 ext tabs1⟩
  refine wpAny_call (codeAny_mono outerRun ?_)
  rintro (er | (_ | _ | _ | u)) s3 z
  · exact (show False from z).elim
  · exact z.elim
  · exact z.elim
  · exact z.elim
  · exact inv1.after z
end
section
variable {X : Cx} {T : List (Addr × Str)} {c P : Addr} {params : Arguments} {body : Expr} {scope : Scope} {lpos : Pos}
/-- without defaults -/
theorem mk_plain (TB : TabB X.base X.mg c P) (code : X.env.code = .ref c) (mem : (P, X.env.qual ++ "<lambda>") ∈ T) (only : ∀ p ∈ T, p.1 = P → p.2 = X.env.qual ++ "<lambda>") (L : LamS2 X scope) (nodef : defaultsOf params X.env = ([], []))
    (noargs : ∀ (q : Str) (cl : List (Str × Addr)) (pm cv ctv : Value), bindArgs (PySem.W.kla_fn "<lambda>" q params body scope cl pm cv ctv) ⟨[], []⟩ = pure []) : LamMk X T params body scope lpos := by
  intro pins sl H st Q E inv tabs k
  have has : ∀ z ∈ scope.names, z.2 = .free → ∃ c, X.env.cells.lookup z.1 = some c := fun z m e => (L.free z m e).elim (fun q => inv.ok.has _ (.inl q)) (fun q => inv.ok.has _ (.inr q))
  refine lam_make2 inv TB code mem only tabs nodef has fun f c' pm ctv H1 s1 inv1 ext tabs1 obj new nofr co => ?_
  exact k f c' H1 s1 inv1 ⟨⟨pins, inv1⟩, L, new, nofr, _, [], obj, rfl, rfl, rfl, rfl, rfl, rfl, rfl, (fun y m => by cases m), (fun s2 _ => BindsTo.of_eq (noargs _ _ _ _ _))⟩ ext tabs1 co
end
end VQ
namespace VQ
open PySem PyProof.Rows L2 LamX
/-! ### a lambda with a default -/
theorem ct_step {M : Model} {A : Around} {E : Value → Shared → Prop} {s : Shared} {b : Bool} {items : List Value} {jp : Value → Sem Value} {Q : Value → Shared → Prop} (k : ∀ (ct : Value) (h1 : Heap), (∀ b o, s.heap.get? b = some o → h1.get? b = some o) → s.heap.objs.size ≤ h1.objs.size → wpAny M A (jp ct) Q E { s with heap := h1 }) :
    wpAny M A (if b = true then (do let ct ← pure Value.none; jp ct) else (do let ct ← newTextTuple items; jp ct)) Q E s := by
  cases b with
  | true => exact wpAny_bind (wpAny_pure (k .none s.heap (fun _ _ z => z) (Nat.le_refl _)))
  | false => exact wpAny_bind (wpAny_newTextTuple (k _ _ (fun _ _ z => Heap.get?_push_of_some _ z) (by rw [Heap.size_push]; omega)))
abbrev fnDfl (q : Str) (params : Arguments) (body : Expr) (scope : Scope) (cl : List (Str × Addr)) (pm : Value) (c : Addr) (ctv dV : Value) : FuncData := { PySem.W.kla_fn "<lambda>" q params body scope cl pm (.ref c) ctv with defaults := dV }
section
variable {X : Cx} {T : List (Addr × Str)} {c P : Addr} {params : Arguments} {body : Expr} {scope : Scope} {lpos : Pos}
theorem tail_run {pins : List (Addr × Obj)} {sl : L2.St} {H : Hp} {st : Shared} {Q : Value → Shared → Prop} {E : Value → Shared → Prop} {dV : Value} (inv : Inv X pins sl H st) (TB : TabB X.base X.mg c P) (code : X.env.code = .ref c) (mem : (P, X.env.qual ++ "<lambda>") ∈ T) (only : ∀ p ∈ T, p.1 = P → p.2 = X.env.qual ++ "<lambda>") (tabs : Tabs T H)
    (has : ∀ z ∈ scope.names, z.2 = .free → ∃ c, X.env.cells.lookup z.1 = some c)
    (k : ∀ (f c' : Addr) (pm ctv : Value) (H1 : Hp) (s1 : Shared), Inv X pins sl H1 s1 → ExtN H H1 → Tabs T H1 → (∀ b o, st.heap.get? b = some o → H b = none → s1.heap.get? b = some o ∧ H1 b = none) →
      s1.heap.get? f = some { cls := .type "function", data := .func (fnDfl (X.env.qual ++ "<lambda>") params body scope (cloFrom X.env.cells scope.names []) pm c' ctv dV) } → H1 f = none → f ∉ frs X.stack → H1 c' = some (CodeO c' (X.env.qual ++ "<lambda>")) → Q (.ref f) s1) :
    wpAny (model X.prog X.w) X.A (makeTail "<lambda>" (X.env.qual ++ "<lambda>") params (.expr body) scope X.env dV .none none lpos lpos.line) Q E st := by
  obtain ⟨ps, atP, trip, known⟩ := tabs _ mem
  have rawP : st.heap.get? P = some { cls := .none, data := .fields ps } := inv.hok P _ atP
  obtain ⟨bm, ob, b1, b2, b3, b4, b5, b6, b7, b8⟩ := TB.bm.keeps inv.bk
  have noFrame : ∀ f, st.heap.objs.size ≤ f → f ∉ frs X.stack := fun f above z => by
    rcases List.mem_cons.mp (inv.stkSub _ z) with e | e
    · exact absurd inv.lt (by rw [← e]; exact Nat.not_lt.mpr above)
    · exact inv.nofs above e
  have nsG : st.heap.Ns mainGlobals X.mg := inv.mod.glob.keeps inv.bk
  unfold makeTail
  rw [closure_ok has, inv.ok.glob]
  refine wpAny_bind (wpAny_pure (ct_step fun ct h1 grown sz1 => ?_))
  have hd1 := (TB.code.keeps inv.bk).keeps grown
  have rawP1 := grown _ _ rawP
  cases found : codeAmong lpos ps.toList with
  | none =>
    refine wpAny_bind (wpAny_functionCodeX code (hd1.code rawP1 trip) (hd1.tab rawP1) found fun c' h2 tk but above below _ rec_ tab2 _ => ?_)
    have nsG2 := (nsG.keeps grown).extBut but TB.gP
    refine wpAny_bind (wpAny_builtinsFor nsG2 b1 b2 (but _ _ b4 (grown _ _ b5)) b6 b7 b8 (wpAny_bind (wpAny_nsGet nsG2 (wpAny_bind (wpAny_pure (wpAny_newObj_type ?_ (by size_fits)))))))
    obtain ⟨c2, oc, vs, t, ec, r1, r2, r3⟩ := rec_
    cases ec
    have newC : H c' = none := inv.hok.fresh (Nat.le_trans sz1 above)
    have szf : st.heap.objs.size ≤ h2.objs.size := Nat.le_trans (Nat.le_trans sz1 above) (Nat.le_of_lt below)
    have old : ∀ b o, b ≠ P → st.heap.get? b = some o → h2.get? b = some o := fun b o n z => but b o n (grown b o z)
    have inv2 := inv_table (t' := tk) (more := #[rawInt lpos.line, rawInt lpos.col, .ref c']) (h' := h2.push { cls := .type "function", data := .func (fnDfl (X.env.qual ++ "<lambda>") params body scope (cloFrom X.env.cells scope.names []) ((X.mg "__name__").getD .none) c' ct dV) }) inv atP
      (fun b o n z => Heap.get?_push_of_some _ (old b o n z)) (Heap.get?_push_of_some _ tab2.2) (Nat.le_trans sz1 above) ⟨oc, vs, t, Heap.get?_push_of_some _ r1, r2, r3⟩
    have nP : ∀ b, H b = none → b ≠ P := fun b z e => by
      rw [e, atP] at z
      cases z
    have ext : ExtN H (upd (upd H P (.tbl (ps ++ #[rawInt lpos.line, rawInt lpos.col, .ref c']))) c' (CodeO c' (X.env.qual ++ "<lambda>"))) := fun b o z n => by
      have bP : b ≠ P := fun e => by
        rw [e] at z
        exact n ps (Option.some.inj (z.symm.trans atP))
      rw [upd_ne (ne_of_none z newC), upd_ne bP]
      exact z
    have glue : (ps ++ #[rawInt lpos.line, rawInt lpos.col, Value.ref c']).toList = ps.toList ++ [rawInt lpos.line, rawInt lpos.col, .ref c'] := by simp
    refine k h2.objs.size c' _ ct _ _ inv2 ext (fun p m => ?_) (fun b o z n => ⟨Heap.get?_push_of_some _ (old b o (nP b n) z), ?_⟩) (Heap.get?_push_size _ rfl) ?_ (noFrame _ szf) upd_same
    · by_cases e : p.1 = P
      · rw [only p m e, e]
        refine ⟨_, by rw [upd_ne (ne_of_none atP newC), upd_same], by rw [glue]; exact PySem.TriplesOk_snoc _ _ _ _ trip, fun p' cv hit => ?_⟩
        rw [glue] at hit
        rcases among_app _ trip hit with z | z
        · obtain ⟨c0, z1, z2⟩ := known p' cv z
          exact ⟨c0, z1, ext _ _ z2 codeO_ne⟩
        · exact ⟨c', z, upd_same⟩
      · obtain ⟨ps', a1, a2, a3⟩ := tabs p m
        refine ⟨ps', by rw [upd_ne (ne_of_none a1 newC), upd_ne e]; exact a1, a2, fun p' cv hit => ?_⟩
        obtain ⟨c0, z1, z2⟩ := a3 p' cv hit
        exact ⟨c0, z1, ext _ _ z2 codeO_ne⟩
    · have nc : b ≠ c' := Nat.ne_of_lt (Nat.lt_of_lt_of_le (Heap.lt_size z) (Nat.le_trans sz1 above))
      rw [upd_ne nc, upd_ne (nP b n)]
      exact n
    · rw [upd_ne (Nat.ne_of_gt below), upd_ne (Nat.ne_of_gt (Nat.lt_of_lt_of_le (Heap.lt_size rawP) szf))]
      exact inv.hok.fresh szf
  | some cv =>
    obtain ⟨c', e, stands⟩ := known lpos cv found
    subst e
    have nsG1 := nsG.keeps grown
    refine wpAny_bind (wpAny_functionCode_hit code (hd1.code rawP1 trip) found (wpAny_bind (wpAny_builtinsFor nsG1 b1 b2 (grown _ _ b5) b6 b7 b8 (wpAny_bind (wpAny_nsGet nsG1 (wpAny_bind (wpAny_pure (wpAny_newObj_type ?_ (by size_fits)))))))))
    have stays : ∀ b o, st.heap.get? b = some o → (h1.push { cls := .type "function", data := .func (fnDfl (X.env.qual ++ "<lambda>") params body scope (cloFrom X.env.cells scope.names []) ((X.mg "__name__").getD .none) c' ct dV) }).get? b = some o := fun b o z => Heap.get?_push_of_some _ (grown b o z)
    exact k h1.objs.size c' _ ct H _ (inv.kept stays) (ExtN.refl H) tabs (fun b o z n => ⟨stays b o z, n⟩) (Heap.get?_push_size _ rfl) (inv.hok.fresh sz1) (noFrame _ sz1) stands
/-- one default, an int -/
theorem mk_dflt {i : Int} {j : Nat} {dp : Pos} {y : Str} (TB : TabB X.base X.mg c P) (code : X.env.code = .ref c) (mem : (P, X.env.qual ++ "<lambda>") ∈ T) (only : ∀ p ∈ T, p.1 = P → p.2 = X.env.qual ++ "<lambda>") (L : LamS2 X scope)
    (defs : defaultsOf params X.env = ([eval (.Constant (.int i) j dp) X.env], [])) (nokw : params.kwonlyargs = []) (loc : scope.names.lookup y = some .local)
    (args : ∀ (q : Str) (cl : List (Str × Addr)) (pm ctv u : Value) (cv T0 : Addr), ∃ k, bindArgs (fnDfl q params body scope cl pm cv ctv (.ref T0)) ⟨[], []⟩ = seqItems? (.ref T0) >>= k ∧ k (some #[u]) = pure [(y, u)]) : LamMk X T params body scope lpos := by
  intro pins sl H st Q E inv tabs k
  have has : ∀ z ∈ scope.names, z.2 = .free → ∃ c, X.env.cells.lookup z.1 = some c := fun z m e => (L.free z m e).elim (fun q => inv.ok.has _ (.inl q)) (fun q => inv.ok.has _ (.inr q))
  rw [arm_eval_Lambda, defs]
  show wpAny _ _ (do let dv ← evalAll [eval (.Constant (.int i) j dp) X.env]; let kdv ← holding dv (evalAllOpt []); makeFunction "<lambda>" (X.env.qual ++ "<lambda>") params (.expr body) scope X.env dv kdv [] lpos lpos.line) _ _ _
  refine wpAny_bind (wpAny_evalAll_cons (wpAny_Constant_int (wpAny_evalAll_nil (wpAny_bind (wpAny_holding (wpAny_pure ?_))))))
  rw [makeFunction_eq, nokw]
  simp only [List.zip_nil_left, List.filterMap_nil, List.isEmpty_nil, List.isEmpty_cons, if_true, Bool.false_eq_true, if_false, pure_bind]
  refine wpAny_bind (wpAny_newTextTuple ?_)
  have old : ∀ b o, st.heap.get? b = some o → (st.heap.push { cls := .type "tuple", data := .seq [Value.int i st.toks].toArray }).get? b = some o := fun b o z => Heap.get?_push_of_some _ z
  have atT : (st.heap.push { cls := .type "tuple", data := .seq [Value.int i st.toks].toArray }).get? st.heap.objs.size = some { cls := .type "tuple", data := .seq [Value.int i st.toks].toArray } := Heap.get?_push_size _ rfl
  have inv1 : Inv X pins sl H { st with heap := st.heap.push { cls := .type "tuple", data := .seq [Value.int i st.toks].toArray }, toks := st.toks + 1 } := inv.kept old
  have newT : H st.heap.objs.size = none := inv.hok.fresh (Nat.le_refl _)
  have noT : st.heap.objs.size ∉ frs X.stack := fun z => by
    rcases List.mem_cons.mp (inv.stkSub _ z) with e | e
    · exact absurd inv.lt (by rw [← e]; exact Nat.lt_irrefl _)
    · exact inv.nofs (Nat.le_refl _) e
  refine tail_run inv1 TB code mem only tabs has fun f c' pm ctv H1 s1 inv2 ext tabs1 keep obj new nofr co => ?_
  obtain ⟨t1, t2⟩ := keep _ _ atT newT
  refine k f c' H1 s1 inv2 ⟨⟨pins, inv2⟩, L, new, nofr, _, [(y, Value.int i st.toks)], obj, rfl, rfl, rfl, rfl, rfl, rfl, rfl, fun z m => ?_, fun s2 stays => ?_⟩ ext tabs1 co
  · rw [List.mem_singleton.mp m]
    exact loc
  · obtain ⟨kk, e1, e2⟩ := args (X.env.qual ++ "<lambda>") (cloFrom X.env.cells scope.names []) pm ctv (.int i st.toks) c' st.heap.objs.size
    refine BindsTo.of_looks fun M => ?_
    rw [e1]
    intro A' Q' E' s3 kp q
    have there := kp _ _ (stays _ _ t1 t2 noT)
    exact wpAny_bind (wpAny_seqItems there rfl ((PySem.W.Looks.of_pure e2 : PySem.W.Looks M s2.heap _ _) A' Q' E' s3 kp q))
end
end VQ
namespace VQ
open PySem PySem.Spec PyProof.Rows L2 LamX
/-! ### a tuple times a number from 1 on -/
theorem once_mul (l : Addr) (its : Array Value) (n : Nat) (dd : Option Addr) (sl : Array (Option Value)) (u : Tok) :
    Meets (Builtin.«tuple.__mul__» ⟨[.ref l, .int 1 u], []⟩) (fun _ R s => s.heap.get? l = some ⟨.type "tuple", dd, .seq its n, sl⟩ ∧ R (.ok (.ret (.ref l))) s) :=
  .of_wp fun prog w A R s h => by
    obtain ⟨hp, g, d, tk, os⟩ := s
    obtain ⟨hl, h⟩ := h
    have f1 := AutoSeq1.idx_int
    wp_walk using wpAny_loadPart' hl
    exact ⟨_, rfl, h⟩
/-- once is the tuple itself -/
def rTimes (K : PySem.W.Frag) : R2 := fun x y H Q => ∃ (l : Addr) (k : Int) (xs : List V), x = .ref l ∧ y = .int k ∧ SqT K H l xs ∧ xs ≠ [] ∧ 1 ≤ k ∧ k ≤ 1000 ∧ xs.length ≤ 1000 ∧
  (k = 1 → Q (.ref l) H) ∧ (k ≠ 1 → ∀ p, H p = none → Q (.ref p) (upd H p (.tup (List.replicate k.toNat xs).flatten)))
theorem op_times {X : Cx} : OpR X (binaryOp .Mult) (rTimes X.K) := by
  intro pins s σ H x y v u Q I rx ry h
  obtain ⟨l, k, xs, rfl, rfl, sq, ne, k1, k2, hz, q1, q2⟩ := h
  by_cases e : k = 1
  · subst e
    cases rx
    obtain ⟨t, rfl⟩ := ry
    obtain ⟨its, r, ⟨⟨cls, dd, data, sl⟩, ho, hc, n, hd⟩, hs⟩ := I.tuple sq
    simp only at hc hd
    subst hc hd
    exact wpAny_binaryOp_repeat_ref (T := "tuple") (U := "int") (by decide) ⟨_, ho, rfl⟩ (fun s' => typeIs_int s' 1 t) noFill_tuple_mul F.fills_int_mul F.slot_int_rmul repeat_tuple F.slot_int_index.lookup
      (call_meets F.slot_int_rmul (typeIs_int s 1 t) F.entry_int_rmul (F.args_int_rmul_2 _ _) (int_rmul_tuple 1 t l its.toArray n dd sl)
        ⟨ho, rfl, ⟨_, ho, rfl⟩, call_meets F.slot_tuple_mul ⟨_, ho, rfl⟩ F.entry_tuple_mul (F.args_tuple_mul_2 _ _) (once_mul l its.toArray n dd sl t) ⟨ho, .ref l, H, I, rfl, q1 rfl⟩⟩)
  · exact op_repT pins s σ H _ _ v u Q I rx ry ⟨l, k, xs, rfl, rfl, sq, ne, by omega, k2, hz, q2 e⟩
/-! ### comprehensions over zip of two tuples -/
theorem lc_zipT {K : PySem.W.Frag} {a b : Addr} {xs ys : List V} {g : TG} {tt : TT} {te : TE} {vs : List Nat} {σ : L2.St} {H1 : Hp} {D : Addr} {Qd : Hp → Prop} (len : xs.length = ys.length) (Pv : Nat → Hp → Prop) (h0 : Pv 0 (upd H1 D (.lst []))) (both : ∀ i H, Pv i H → SqT K H a xs ∧ SqT K H b ys)
    (turn : ∀ (i : Nat) (x y : V) (T : Addr) (H : Hp), xs[i]? = some x → ys[i]? = some y → Pv i H → H T = none → g (.ref T) (wipe σ vs) (upd H T (.tup [x, y])) fun σ2 H2 => wipe σ2 vs = wipe σ vs ∧ tt σ2 H2 fun b H3 => if b = true then te σ2 H3 fun y H4 => ∃ acc, H4 D = some (.lst acc) ∧ acc.length < sizeLine ∧ Pv (i + 1) (upd H4 D (.lst (acc ++ [y]))) else Pv (i + 1) H3)
    (fin : ∀ H, Pv xs.length H → Qd H) :
    ∃ W : Nat → Nat → Hp → Prop, (∃ m, W 0 m (upd H1 D (.lst []))) ∧ ∀ i m H, W i m H → ((RZ.ItzT K a b).stop i H ∧ Qd H) ∨ ((RZ.ItzT K a b).go i H ∧ ∃ Nx : Hp → Prop, (∀ H', Nx H' → ∃ m', m' < m ∧ W (i + 1) m' H') ∧
      ∀ x H', (RZ.ItzT K a b).yld i H x H' → g x (wipe σ vs) H' fun σ2 H2 => wipe σ2 vs = wipe σ vs ∧ tt σ2 H2 fun b H3 => if b = true then te σ2 H3 fun y H4 => ∃ acc, H4 D = some (.lst acc) ∧ acc.length < sizeLine ∧ Nx (upd H4 D (.lst (acc ++ [y]))) else Nx H3) := by
  refine ⟨fun i m H => m + i = xs.length ∧ Pv i H, ⟨xs.length, by simp, h0⟩, ?_⟩
  rintro i m H ⟨em, p⟩
  obtain ⟨sx, sy⟩ := both i H p
  by_cases lt : i < xs.length
  · have lt' : i < ys.length := by rw [← len]; exact lt
    refine .inr ⟨⟨xs, ys, xs[i], ys[i], sx, sy, List.getElem?_eq_getElem lt, List.getElem?_eq_getElem lt'⟩, Pv (i + 1), fun H' p' => ⟨m - 1, by omega, by omega, p'⟩, ?_⟩
    rintro v H' ⟨T, x, y, rfl, nT, rfl, e1, e2⟩
    exact turn i x y T H (e1 xs sx) (e2 ys sy) p nT
  · have e : i = xs.length := by omega
    subst e
    exact .inl ⟨⟨xs, ys, sx, sy, .inl (Nat.le_refl _)⟩, fin H p⟩
end VQ
namespace VQ
open PySem PySem.Spec PyProof.Rows L2
/-! ### enumerate of a tuple -/
abbrev tiO (l : Addr) : Obj := { cls := .type "tuple_iterator", data := .fields #[.ref l, .int 0 0] }
abbrev enO (it : Addr) : Obj := { cls := .type "enumerate", data := .fields #[.none, .bool false, .ref it, rawInt 0, .none, .none] }
theorem enum_newT (l : Addr) (its : Array Value) (n : Nat) (dd : Option Addr) (sl : Array (Option Value)) :
    Meets (Builtin.«enumerate.__new__» ⟨[.type "enumerate", .ref l], []⟩) (fun _ R s => s.heap.get? l = some ⟨.type "tuple", dd, .seq its n, sl⟩ ∧
      R (.ok (.ret (.ref (s.heap.push (tiO l)).objs.size))) { s with heap := (s.heap.push (tiO l)).push (enO s.heap.objs.size) }) :=
  .of_wp fun prog w A R s z => by
    obtain ⟨hp, g, d, tk, os⟩ := s
    obtain ⟨hl, z⟩ := z
    have isSub := sub_enumerate
    have tupL : Heap.IsTuple (Shared.heap ⟨hp, g, d, tk, os⟩) l its := ⟨_, hl, rfl, n, rfl⟩
    wp_walk using AutoSeq1.wpAny_loadPart' hl
    refine wpAny_stack_any fun _ => wpAny_pure ?_
    split
    · rename_i c _ _ _ _ _
      cases (c == Value.type "enumerate") <;>
      · wp_walk using AutoSeq1.wpAny_loadPart' hl, wpAny_pyIter_tuple tupL
        exact ⟨_, rfl, z⟩
    · wp_walk using AutoSeq1.wpAny_loadPart' hl, wpAny_pyIter_tuple tupL
      exact ⟨_, rfl, z⟩
theorem enum_callT {prog : Program} {w : World} {A : Around} {E : Value → Shared → Prop} {s : Shared} {l : Addr} {its : Array Value} {Q : Value → Shared → Prop} (tupL : s.heap.IsTuple l its)
    (k : ∀ g : Heap, IsEnum g (s.heap.objs.size + 1) s.heap.objs.size 0 .none → g.IsTupleIter s.heap.objs.size l 0 → (∀ b o, s.heap.get? b = some o → g.get? b = some o) → Q (.ref (s.heap.objs.size + 1)) { s with heap := g }) :
    wpAny (model prog w) A (call (.type "enumerate") [.ref l]) Q E s := by
  obtain ⟨⟨c, dd, dt, sl⟩, hl, c1, n, c2⟩ := tupL
  have c1 : c = .type "tuple" := c1
  have c2 : dt = .seq its n := c2
  subst c1 c2
  refine callType_new F.called_enumerate (by decide) (F.typeCall_enumerate_1 _) (F.newCall_enumerate_1 _) (fun x => F.args_object_init_2 x _) F.entry_enumerate_new (enum_newT l its n dd sl) ⟨hl, ?_⟩
  have sz : (s.heap.push (tiO l)).objs.size = s.heap.objs.size + 1 := Heap.size_push ..
  show _ ∧ _
  rw [sz]
  have en : IsEnum ((s.heap.push (tiO l)).push (enO s.heap.objs.size)) (s.heap.objs.size + 1) s.heap.objs.size 0 .none := by
    have q := Heap.get?_push_size (s.heap.push (tiO l)) (o := enO s.heap.objs.size) rfl
    rw [sz] at q
    exact q
  exact ⟨⟨_, en, rfl⟩, k _ en ⟨_, Heap.get?_push_of_some _ (Heap.get?_push_size _ rfl), rfl, rfl⟩ fun b o q => Heap.get?_push_of_some _ (Heap.get?_push_of_some _ q)⟩
/-- the tuple at a, each item in a new pair with its place -/
def IteT (K : PySem.W.Frag) (a : Addr) : It :=
  ⟨fun i H => ∃ (xs : List V) (x : V), SqT K H a xs ∧ xs[i]? = some x, fun i H v H' => ∃ T x, v = .ref T ∧ H T = none ∧ H' = upd H T (.tup [.int (i : Nat), x]) ∧ ∀ xs, SqT K H a xs → xs[i]? = some x, fun i H => ∃ xs : List V, SqT K H a xs ∧ xs.length = i⟩
theorem turn_enumT {P : Program} {w : World} {K : PySem.W.Frag} {elts : List Expr} {kk : Nat} {tpos : Pos} (a e it : Addr) :
    Turn P w K (.Tuple elts kk tpos) (IteT K a) [e, it] e (fun i h => (∃ old, IsEnum h e it ((i : Nat) : Int) old) ∧ h.IsTupleIter it a i) where
  mem := by simp
  obj := fun i h ⟨⟨old, he⟩, o, ho, hc, hd⟩ b hb => by
    have z : b = e ∨ b = it := by simpa using hb
    rcases z with rfl | rfl
    · exact ⟨_, he, fun v q => nomatch q⟩
    · exact ⟨o, ho, fun v q => by rw [hd] at q; cases q⟩
  keep := fun i h h' ⟨⟨old, he⟩, ti⟩ k => ⟨⟨old, k e (by simp) _ he⟩, ti.at fun o q => k it (by simp) o q⟩
  item := by
    rintro X rfl rfl rfl calm i pins s σ H E inv fp ⟨⟨old, he⟩, ti⟩ ⟨xs, x, sq, hx⟩
    obtain ⟨its, rv, tp, _⟩ := inv.tuple sq
    obtain ⟨u, hu, ru⟩ := rv.get hx
    have tp' : s.heap.IsTuple a its.toArray := tp
    have le : e < s.heap.objs.size := Heap.lt_size he
    have li : it < s.heap.objs.size := by obtain ⟨_, q, _⟩ := ti; exact Heap.lt_size q
    have ea : e ≠ a := fun z => by
      obtain ⟨o, ho, hc, _⟩ := tp'
      rw [← z, he] at ho
      cases ho
      injection hc with q
      exact absurd q (by decide)
    have ai : a ≠ it := fun z => by
      obtain ⟨o, ho, hc, _⟩ := tp'
      obtain ⟨o', ho', hc', _⟩ := ti
      rw [z, ho'] at ho
      cases ho
      rw [hc'] at hc
      injection hc with q
      exact absurd q (by decide)
    have ei : e ≠ it := fun z => by
      obtain ⟨o', ho', hc', _⟩ := ti
      rw [← z, he] at ho'
      cases ho'
      injection hc' with q
      exact absurd q (by decide)
    have hi : i < its.toArray.size := by
      have := (List.getElem?_eq_some_iff.mp hu).1
      simpa using this
    refine wpAny_pyNext_enum_itemD (Draws.tuple (A := X.A.in1) (inv.ok.hd calm) it a ai its.toArray) he ⟨ti, tp'⟩ hi ei (by simp [ei, ea]) fun y h1 tk py eo st hT _ kp => ?_
    have eu : y = u := by
      have q : its[i]? = some y := by simpa using py
      rw [hu] at q
      exact (Option.some.inj q).symm
    subst eu
    refine ⟨_, rfl, wpAny_letOwnedTupleGo_enum (s := { s with heap := h1, toks := tk + 1 }) eo fun h2 he2 sb => ?_⟩
    have hT2 : h2.get? s.heap.objs.size = some { cls := .type "tuple", data := .seq #[.int i tk, y] } := (sb.2 _ (Nat.ne_of_gt le)).trans hT
    have new : ObjOk X.prog X.w (upd H s.heap.objs.size (.tup [.int (i : Nat), x])) h2 s.heap.objs.size (.tup [.int (i : Nat), x]) :=
      ⟨by show 2 ≤ sizeLine; decide, [.int i tk, y], .cons ⟨_, rfl⟩ (.cons ru .nil), ⟨_, hT2, rfl, _, rfl⟩⟩
    have inv1 : Inv X pins σ (upd H s.heap.objs.size (.tup [.int (i : Nat), x])) { s with heap := h2, toks := tk + 1 } :=
      inv.turnedNew (ch := [e, it]) (fun b ob hb q => (sb.2 b (fun z => hb (by simp [z]))).trans (kp b ob (fun z => hb (by simp [z])) (fun z => hb (by simp [z])) q)) fp (Nat.le_refl _) new
    refine ⟨.ref s.heap.objs.size, _, inv1, rfl, ⟨_, x, rfl, inv.hok.fresh (Nat.le_refl _), rfl, fun ys hy => by rw [inv.tuple_inj hy sq]; exact hx⟩, ⟨⟨y, ?_⟩, st.1.at fun o q => (sb.2 it (Ne.symm ei)).trans q⟩, fun b hb => ?_⟩
    · rw [show ((i + 1 : Nat) : Int) = (i : Int) + 1 by omega]
      exact he2
    · have lb : b < s.heap.objs.size := by
        have z : b = e ∨ b = it := by simpa using hb
        rcases z with rfl | rfl
        · exact le
        · exact li
      rw [upd_ne (Nat.ne_of_lt lb)]
      exact (fp b hb).1
  done := by
    rintro X rfl rfl rfl calm i pins s σ H E inv fp ⟨⟨old, he⟩, ti⟩ ⟨xs, sq, hx⟩
    obtain ⟨its, rv, tp, _⟩ := inv.tuple sq
    obtain ⟨f0, f1, f2, f3, f4, f5⟩ := fp it (by simp)
    have tp' : s.heap.IsTuple a its.toArray := tp
    have ai : a ≠ it := fun z => by
      obtain ⟨o, ho, hc, _⟩ := tp'
      obtain ⟨o', ho', hc', _⟩ := ti
      rw [z, ho'] at ho
      cases ho
      rw [hc'] at hc
      injection hc with q
      exact absurd q (by decide)
    have sz : its.toArray.size = i := by
      have := rv.length
      simp
      omega
    refine wpAny_pyNext_enum_endD (n := its.toArray.size) (Draws.tuple (A := X.A.in1) (inv.ok.hd calm) it a ai its.toArray) he ⟨by rw [sz]; exact ti, tp'⟩ fun h1 eb => ⟨rfl, inv.turned (t' := s.toks) (fun b o hb q => eb b o hb q) f0 f1 f3 f4 f5⟩
  self := fun A i s Q E ⟨⟨_, he⟩, _⟩ h => wpAny_pyIter_enum he h
def iEnumT (K : PySem.W.Frag) (ta : TA) : TI := fun σ H R => ta σ H fun vs H1 => ∃ a xs, vs = [.ref a] ∧ SqT K H1 a xs ∧ R (IteT K a) H1
theorem pi_enumT {X : Cx} {e : Expr} {ta : TA} {p pos tpos : Pos} {elts : List Expr} {kk : Nat} (isG : Gl X "enumerate") (atG : X.mg "enumerate" = none) (ha : PA X [e] ta) (hs : starEach [e] X.env = [(false, eval e X.env)] := by rfl) :
    PI X (.Tuple elts kk tpos) (.Call (.Name "enumerate" p) [e] [] pos) (iEnumT X.K ta) := by
  refine ⟨fun pins s σ H R inv h => Call_ (ld_blt inv isG atG boot_enumerate (callWith_type1 (thn (ha.run pos pins s σ H _ inv h) fun us s1 ⟨vs, H1, I1, r1, q1⟩ => ?_) hs rfl))⟩
  obtain ⟨a, xs, rfl, sq, q⟩ := q1
  cases r1 with
  | cons r rr =>
    cases rr
    cases r
    obtain ⟨its, rv, tp, _⟩ := I1.tuple sq
    refine enum_callT tp fun g he ti kp => wpAny_pyIter_enum he ?_
    refine ⟨s1.heap.objs.size + 1, [s1.heap.objs.size + 1, s1.heap.objs.size], _, _, H1, rfl, I1.kept (t' := s1.toks) kp, turn_enumT a (s1.heap.objs.size + 1) s1.heap.objs.size, ⟨⟨.none, he⟩, ti⟩, fun b hb => ?_, q⟩
    have le : s1.heap.objs.size ≤ b := by
      have z : b = s1.heap.objs.size + 1 ∨ b = s1.heap.objs.size := by simpa using hb
      rcases z with rfl | rfl
      · exact Nat.le_succ _
      · exact Nat.le_refl _
    exact I1.fpOk le (I1.hok.fresh le)
/-- a for over enumerate of a tuple, by what holds between two turns -/
theorem for_enumT {K : PySem.W.Frag} {a : Addr} {xs : List V} {g : TG} {tb : TS} {D : Ends} {σ : L2.St} {H : Hp} (Pv : Nat → L2.St → Hp → Prop) (h0 : Pv 0 σ H) (there : ∀ i σ H, Pv i σ H → SqT K H a xs)
    (turn : ∀ (i : Nat) (x : V) (T : Addr) (σ : L2.St) (H : Hp), xs[i]? = some x → Pv i σ H → H T = none → g (.ref T) σ (upd H T (.tup [.int (i : Nat), x])) fun σ2 H2 => tb { D with nx := Pv (i + 1), ct := Pv (i + 1), bk := D.nx } σ2 H2)
    (fin : ∀ σ H, Pv xs.length σ H → D.nx σ H) :
    ∃ W : Nat → Nat → L2.St → Hp → Prop, (∃ m, W 0 m σ H) ∧ ∀ i m σ H, W i m σ H →
      ((IteT K a).stop i H ∧ D.nx σ H) ∨ ((IteT K a).go i H ∧ ∃ N : L2.St → Hp → Prop, (∀ σ' H', N σ' H' → ∃ m', m' < m ∧ W (i + 1) m' σ' H') ∧ ∀ x H', (IteT K a).yld i H x H' → g x σ H' fun σ2 H2 => tb { D with nx := N, ct := N, bk := D.nx } σ2 H2) := by
  refine ⟨fun i m σ H => m + i = xs.length ∧ Pv i σ H, ⟨xs.length, rfl, h0⟩, ?_⟩
  rintro i m σ H ⟨em, p⟩
  have sq := there i σ H p
  by_cases lt : i < xs.length
  · refine .inr ⟨⟨xs, xs[i], sq, List.getElem?_eq_getElem lt⟩, Pv (i + 1), fun σ' H' p' => ⟨m - 1, by omega, by omega, p'⟩, ?_⟩
    rintro v H' ⟨T, x, rfl, nT, rfl, ex⟩
    exact turn i x T σ H (ex xs sq) p nT
  · have e : i = xs.length := by omega
    subst e
    exact .inl ⟨⟨xs, sq, rfl⟩, fin σ H p⟩
end VQ
namespace VQ
open PySem L2 LamX
section
variable {K : PySem.W.Frag}
/-! ### tuples put together, cut -/
theorem rd_cat {H : Hp} {a b : Addr} {xs ys : List V} {Q : VK} (ha : H a = some (.tup xs)) (hb : H b = some (.tup ys)) (hl : xs.length + ys.length ≤ 1000)
    (k : ∀ (p : Addr) (H' : Hp), Same H H' → H' p = some (.tup (xs ++ ys)) → Q (.ref p) H') : rCatA K (.ref a) (.ref b) H Q := by
  refine ⟨a, b, xs, ys, rfl, rfl, SqT.of ha, SqT.of hb, Nat.le_trans hl (by decide), fun e => ?_, fun _ e => ?_, fun _ _ p hp => k p _ (same_new hp) upd_same⟩
  · subst e
    exact k b H (Same.refl H) hb
  · subst e
    exact k a H (Same.refl H) (by rw [List.append_nil]; exact ha)
theorem rd_cut {H : Hp} {a : Addr} {xs : List V} {lo hi : Option Int} {Q : VK} (ha : H a = some (.tup xs)) (k : ∀ (p : Addr) (H' : Hp), Same H H' → H' p = some (.tup (cutV xs lo hi)) → Q (.ref p) H') : rSlA K (.ref a) lo hi H Q := by
  refine ⟨a, xs, rfl, SqT.of ha, fun e => k a H (Same.refl H) ?_, fun _ p hp => k p _ (same_new hp) upd_same⟩
  have q : cutV xs lo hi = xs := by
    unfold cutV
    rw [e.1, e.2, List.drop_zero, Nat.sub_zero, List.take_length]
  rw [q]
  exact ha
theorem cut_upto (xs : List V) {k : Nat} (h : k ≤ xs.length) : cutV xs none (some (k : Int)) = xs.take k := by
  unfold cutV
  rw [HT.sIx_nat, HT.sIx_none, Nat.min_eq_left h, List.drop_zero, Nat.sub_zero]
theorem cut_behind (xs : List V) {k : Nat} (h : k ≤ xs.length) : cutV xs (some (k : Int)) none = xs.drop k := by
  unfold cutV
  rw [HT.sIx_nat, HT.sIx_none, Nat.min_eq_left h]
  exact List.take_of_length_le (by rw [List.length_drop]; omega)
end
end VQ
namespace VQ
open PySem PySem.Spec PyProof.Rows L2 LamX
/-! ### a tuple times nought -/
abbrev noneO : Obj := { cls := .type "tuple", data := .seq #[] }
theorem nought_mul (l : Addr) (its : Array Value) (n : Nat) (dd : Option Addr) (sl : Array (Option Value)) (u : Tok) (ne : its.isEmpty = false) :
    Meets (Builtin.«tuple.__mul__» ⟨[.ref l, .int 0 u], []⟩) (fun _ R s => s.heap.get? l = some ⟨.type "tuple", dd, .seq its n, sl⟩ ∧ R (.ok (.ret (.ref s.heap.objs.size))) { s with heap := s.heap.push noneO }) :=
  .of_wp fun prog w A R s h => by
    obtain ⟨hp, g, d, tk, os⟩ := s
    obtain ⟨hl, h⟩ := h
    have f1 := AutoSeq1.idx_int
    have c1 : (its.isEmpty || ((0 : Int) == 1)) = false := by rw [ne]; rfl
    wp_walk using wpAny_loadPart' hl
    repeat (first
      | (refine wpAny_ite_false (decide_eq_false (by rw [c1]; exact Bool.false_ne_true)) ?_; wp_walk using wpAny_loadPart' hl))
    exact ⟨_, rfl, h⟩
def rTimes0 (K : PySem.W.Frag) : R2 := fun x y H Q => ∃ (l : Addr) (k : Int) (xs : List V), x = .ref l ∧ y = .int k ∧ SqT K H l xs ∧ xs ≠ [] ∧ 0 ≤ k ∧ k ≤ 1000 ∧ xs.length ≤ 1000 ∧
  (k = 1 → Q (.ref l) H) ∧ (k ≠ 1 → ∀ p, H p = none → Q (.ref p) (upd H p (.tup (List.replicate k.toNat xs).flatten)))
theorem op_times0 {X : Cx} : OpR X (binaryOp .Mult) (rTimes0 X.K) := by
  intro pins s σ H x y v u Q I rx ry h
  obtain ⟨l, k, xs, rfl, rfl, sq, ne, k1, k2, hz, q1, q2⟩ := h
  by_cases e : k = 0
  · subst e
    cases rx
    obtain ⟨t, rfl⟩ := ry
    obtain ⟨its, r, ⟨⟨cls, dd, data, sl⟩, ho, hc, n, hd⟩, hs⟩ := I.tuple sq
    simp only at hc hd
    subst hc hd
    have ni : its.toArray.isEmpty = false := by
      cases its with
      | nil => exact absurd (List.eq_nil_of_length_eq_zero r.length) ne
      | cons a b => rfl
    refine wpAny_binaryOp_repeat_ref (T := "tuple") (U := "int") (by decide) ⟨_, ho, rfl⟩ (fun s' => typeIs_int s' 0 t) noFill_tuple_mul F.fills_int_mul F.slot_int_rmul repeat_tuple F.slot_int_index.lookup
      (call_meets F.slot_int_rmul (typeIs_int s 0 t) F.entry_int_rmul (F.args_int_rmul_2 _ _) (int_rmul_tuple 0 t l its.toArray n dd sl)
        ⟨ho, rfl, ⟨_, ho, rfl⟩, call_meets F.slot_tuple_mul ⟨_, ho, rfl⟩ F.entry_tuple_mul (F.args_tuple_mul_2 _ _) (nought_mul l its.toArray n dd sl t ni) ⟨ho, ?_⟩⟩)
    have q : Q (.ref s.heap.objs.size) (upd H s.heap.objs.size (.tup [])) := q2 (by decide) _ (I.hok.fresh (Nat.le_refl _))
    exact ⟨.ref s.heap.objs.size, _, I.laid (t' := s.toks) (o := .tup []) (fun b ob z => Heap.get?_push_of_some _ z) (Nat.le_refl _) ⟨Nat.zero_le _, [], .nil, IsTup.new _ _⟩, rfl, q⟩
  · exact op_times pins s σ H _ _ v u Q I rx ry ⟨l, k, xs, rfl, rfl, sq, ne, by omega, k2, hz, q1, q2⟩
end VQ
namespace VQ
open PySem PySem.Spec PyProof.Rows L2
/-! ### set(xs) of a list of numbers -/
/-- a set as it is made, without members -/
abbrev bareSet (w : World) : Obj := { cls := .type "set", dict := none, data := .set #[] 0 (.fresh 0 0 (!w.params.followText "set-order")) }
/-- what stands when the list is gone through -/
abbrev SetDone (w : World) (s : Shared) (ns : List Int) (s2 : Shared) : Prop := ∃ g tk c, s2 = { s with heap := g, toks := tk } ∧ SetR w g s.heap.objs.size (fun j => decide (j ∈ ns)) c ∧ c ≤ ns.length ∧ ∀ b o, s.heap.get? b = some o → g.get? b = some o
section
variable {P : Program} {w : World} {A : Around} {E : Value → Shared → Prop} {s : Shared}
theorem set_filled {l : Addr} {its : Array Value} {ns : List Int} {Z : PySem.Fin → Shared → Prop} (calm : A.handled = none) (isl : s.heap.IsList l its) (are : IntsAre its.toList ns) (few : ns.length + 1 < scanBound)
    (fin : ∀ s2, SetDone w s ns s2 → Z (.done (.ret .none)) s2) :
    wpAny (model P w) A.in1 (Builtin.«set.__init__» ⟨[.ref s.heap.objs.size, .ref l], []⟩) Z E { s with heap := s.heap.push (bareSet w) } := by
  obtain ⟨⟨oc, od, ot, os'⟩, at_l, e1, nl, e2⟩ := isl
  dsimp only at e1 e2
  subst e1 e2
  have cnt : its.size = ns.length := (Array.length_toList).symm.trans (IntsAre.length are)
  have here : (s.heap.push (bareSet w)).get? s.heap.objs.size = some (bareSet w) := Heap.get?_push_size _ rfl
  have tyS : Shared.TypeIs { s with heap := s.heap.push (bareSet w) } (.ref s.heap.objs.size) "set" := ⟨_, here, rfl⟩
  have at_l' := Heap.get?_push_of_some (bareSet w) at_l
  have isl' : (s.heap.push (bareSet w)).IsList l its := ⟨_, at_l', rfl, nl, rfl⟩
  have n1 := F.sub_list_set
  have n2 := F.sub_list_frozenset
  have n3 : (Value.type "list" == Value.type "dict") = false := by decide
  unfold Builtin.«set.__init__» noKeywords Builtin.Frozenset.updateFrom
  generalize itE : pyIter = it
  wp_walk
  subst itE
  refine wpAny_pyIter_list isl' ?_
  refine wpAny_bind (wpAny_runValue ?_)
  have lt_l : l < s.heap.objs.size := Heap.lt_size at_l
  have calm3 : A.in1.in1.handled = none := by simp [calm]
  have size1 : (s.heap.push (bareSet w)).objs.size = s.heap.objs.size + 1 := Heap.size_push ..
  have ne_l : l ≠ (s.heap.push (bareSet w)).objs.size := by
    rw [size1]
    exact Nat.ne_of_lt (Nat.lt_succ_of_lt lt_l)
  have out : s.heap.objs.size ∉ [(s.heap.push (bareSet w)).objs.size, l] := fun m => by
    rcases List.mem_cons.mp m with q | q
    · rw [size1] at q
      exact Nat.ne_of_lt (Nat.lt_succ_self _) q
    · exact Nat.ne_of_gt lt_l (List.mem_singleton.mp q)
  have vals : ∀ (i : Nat) (v : Value), its[i]? = some v → ∃ k t, ns[i]? = some k ∧ v = .int k t := fun i v hv => by
    have hi : i < ns.length := by
      rw [← cnt]
      exact (Array.getElem?_eq_some_iff.mp hv).1
    obtain ⟨t, ht⟩ := are.get i _ (List.getElem?_eq_getElem hi)
    rw [Array.getElem?_toList, hv] at ht
    exact ⟨_, t, List.getElem?_eq_getElem hi, Option.some.inj ht⟩
  refine set_update_ints ((Walks.list calm3 _ l ne_l its).toS) s.heap.objs.size out ns cnt few vals (its.size - 0) 0 _ (by omega) (Nat.zero_le _) ?walk
    ⟨0, Nat.le_refl 0, ?fresh⟩ fun s2 c mv hc R => ?_
  case walk => exact ⟨⟨_, Heap.get?_push_size _ rfl, rfl, rfl⟩, isl'.push _⟩
  case fresh => exact setR_new_at (w := w) (Heap.get?_push_of_some _ here)
  obtain ⟨g, ge, dr, tk, os2⟩ := s2
  have q1 : ge = s.gens := mv.gens
  have q2 : dr = s.drawn := mv.drawn
  have q3 : os2 = s.os := mv.os
  subst q1 q2 q3
  show wpAny _ _ _ _ _ _
  refine wpAny_pure ?_
  show wpAny _ _ (ret Value.none) _ _ _
  refine wpAny_pure (fin _ ⟨g, tk, c, rfl, R, by omega, fun b o z => mv.heap b o (fun m => ?_) (Heap.get?_push_of_some _ (Heap.get?_push_of_some _ z))⟩)
  have lb := Heap.lt_size z
  rcases List.mem_cons.mp m with q | q
  · exact Nat.ne_of_lt lb q
  · have q := List.mem_singleton.mp q
    rw [size1] at q
    exact Nat.ne_of_lt (Nat.lt_succ_of_lt lb) q
theorem set_call {l : Addr} {its : Array Value} {ns : List Int} {Q : Value → Shared → Prop} (calm : A.handled = none) (isl : s.heap.IsList l its) (are : IntsAre its.toList ns) (few : ns.length + 1 < scanBound)
    (fin : ∀ s2, SetDone w s ns s2 → Q (.ref s.heap.objs.size) s2) : wpAny (model P w) A (call (.type "set") [.ref l]) Q E s := by
  obtain ⟨c0, tl, mro⟩ := F.called_set.mro
  have made := F.called_set.made
  have subt := F.called_set.sub
  have nty := F.called_set.notType
  have canc := F.called_set.canCreate
  have tyc := F.typeCall_set_1 (.ref l)
  have here : (s.heap.push (bareSet w)).get? s.heap.objs.size = some (bareSet w) := Heap.get?_push_size _ rfl
  have tyS : Shared.TypeIs { s with heap := s.heap.push (bareSet w) } (.ref s.heap.objs.size) "set" := ⟨_, here, rfl⟩
  have ini := F.called_set.init.lookup
  have inb := F.called_set.init.bind (.ref s.heap.objs.size)
  refine wpAny_call (codeAny_of_tree ?_)
  show wpAny _ _ (callAny (.type "set") _) _ _ _
  refine wpAny_pure ⟨Code.quiet_builtin _ (by decide +kernel), ?go⟩
  case go =>
  refine codeAny_builtin F.entry_type_call ?_
  rw [Around.under_plain (weight_type_call_type "set" [.ref l] []) rfl]
  repeat (any_goals (first | assumption | wp_step))
  refine codeAny_mono (code_set_led1 (w := w) (.ref l) (E := E) (Q₁ := fun v t => v = .ref s.heap.objs.size ∧ t = { s with heap := s.heap.push (bareSet w) }) ⟨rfl, rfl⟩) fun r t z => ?_
  match r, z with
  | .error e, z => exact z
  | .ok (.ret v), z =>
    obtain ⟨rfl, rfl⟩ := z
    repeat (any_goals (first | assumption | wp_step))
    refine codeAny_mono (codeAny_call_builtin (R := wants (fun v t => v = .none ∧ SetDone w s ns t) E) F.called_set.init.plain F.entry_set_init (check_set_init_1 tyS (set_filled (A := A.in1) (by simp [calm]) isl are few fun s2 d => ⟨rfl, d⟩))) fun r t z => ?_
    match r, z with
    | .error e, z => exact z
    | .ok (.ret v), z =>
      obtain ⟨rfl, d⟩ := z
      obtain ⟨g, tk, c, rfl, d'⟩ := id d
      repeat (any_goals (first | assumption | wp_step))
      exact fin _ d
end
/-- set(xs), xs a list of numbers -/
def rSetI (K : PySem.W.Frag) (w : World) : List V → Hp → VK → Prop := fun xs H Q => ∃ (l : Addr) (ns : List Int), xs = [V.ref l] ∧ SqL K H l (ns.map V.int) ∧ ns.length < 1000 ∧
  ∀ (a : Addr) (c : Nat), H a = none → c ≤ ns.length → Q (.ref a) (upd H a (SetO w a (fun j => decide (j ∈ ns)) c))
theorem cr_setI {X : Cx} (hc : X.calm = true) : CallR X (.type "set") (rSetI X.K X.w) := by
  intro pins s σ H xs us Q I r h
  obtain ⟨l, ns, rfl, hl, few, q⟩ := h
  rw [Vals.ref1 r]
  obtain ⟨its, rv, pl, hz⟩ := I.list hl
  have hn : H s.heap.objs.size = none := I.hok.fresh (Nat.le_refl _)
  refine set_call (P := X.prog) (w := X.w) (I.ok.hd hc) pl.isList (by simpa using ints_of_vals rv) (Nat.lt_of_lt_of_le (show ns.length + 1 < 1001 by omega) (by decide)) fun s2 d => ?_
  obtain ⟨g, tk, c, rfl, R, lc, k⟩ := d
  exact ⟨.ref s.heap.objs.size, _, I.laid (t' := tk) k (Nat.le_refl _) (setO_new R), rfl, q _ c hn lc⟩
end VQ
namespace VQ
open PySem PySem.Spec PyProof.Rows L2
/-! ### sorted(xs) of tuples of as many numbers each, any count of them -/
theorem swo_rank (r : Value → Int) : SrtO.Swo fun v u => decide (r v < r u) := by
  refine ⟨fun x y h => ?_, fun x y z h1 h2 => ?_⟩
  · have := of_decide_eq_true h
    exact decide_eq_false (by omega)
  · have a := of_decide_eq_false h1
    have b := of_decide_eq_false h2
    exact decide_eq_false (by omega)
section
variable {prog : Program} {w : World} {A : Around} {E : Value → Shared → Prop} {s : Shared}
theorem tups_sortable {a : Addr} {vs : List Value} {d : Nat} {B : Int} (h0 : 0 < vs.length) (hd : 1 ≤ d) (x : TS.TupsOk s.heap d B vs) (ha : ∀ o, s.heap.get? a = some o → o.cls ≠ .type "tuple") (r : Value → Int) (hr : ∀ v, v ∈ vs → ∀ ns, TS.TupInts s.heap v ns → r v = TS.code B ns) :
    SrtO.SortableO prog w A s a vs fun v u => decide (r v < r u) := by
  intro h' keep
  have kp : ∀ b o, s.heap.get? b = some o → o.cls = .type "tuple" → h'.get? b = some o := fun b o e c => keep b o (fun z => by subst z; exact ha o e c) e
  have x' : TS.TupsOk h' d B vs := x.keeps kp
  obtain ⟨fs, h1, h2, h3⟩ := TS.firsts_of hd vs x'
  refine ⟨tuples' true, fun Q E hq => ?_, fun p q hp hq => ?_⟩
  · refine PySem.W.kat_kind (T := .type "int") h1 (by omega) (fun f hm => ?_) (by rfl) ?_
    · obtain ⟨n, t, rfl⟩ := h3 f hm
      exact PySem.W.Looks.of_pure rfl
    · have e : (Value.type "int" != Value.type "tuple") = true := by first | decide +kernel | rfl | decide
      rw [e]
      exact hq
  · obtain ⟨ns0, t0, l0, b0⟩ := x p.1 hp
    obtain ⟨ms0, u0, k0, c0⟩ := x q.1 hq
    have ep := hr _ hp _ t0
    have eq' := hr _ hq _ u0
    obtain ⟨pa, xs, e1, ⟨o, ho, hc, n, hdt⟩, i⟩ := t0.keeps kp
    obtain ⟨qa, ys, e2, ⟨o', ho', hc', n', hdt'⟩, i'⟩ := u0.keeps kp
    show wpAny (model prog w) A (keyLt' (tuples' true) p.1 q.1) (fun z s' => s' = _ ∧ z = decide (r p.1 < r q.1)) _ _
    rw [ep, eq', e1, e2]
    refine PySem.W.kat_lt ho hdt ho' hdt' ?_
    have sz : decide (xs.size < ys.size) = false := by
      have l1 := i.length
      have l2 := i'.length
      rw [Array.length_toList] at l1 l2
      exact decide_eq_false (by omega)
    rw [sz]
    exact TS.lex_ints 0 i i' (by omega) b0 c0 ⟨rfl, rfl⟩
end
def rSortM (K : PySem.W.Frag) (d : Nat) (B : Int) : List V → Hp → VK → Prop := fun vs H Q => ∃ (a : Addr) (xs : List V), vs = [V.ref a] ∧ SqL K H a xs ∧ (∀ x ∈ xs, ∃ ns, TupI K H x ns ∧ ns.length = d ∧ TS.Bd B ns) ∧
  ∀ (ys : List V) (p : Addr), ys.Perm xs → ys.Pairwise (fun x y => ∀ n m, TupI K H x n → TupI K H y m → TS.code B n ≤ TS.code B m) → H p = none → Q (.ref p) (upd H p (.lst ys))
theorem cr_sortM {X : Cx} {d : Nat} {B : Int} (hd : 1 ≤ d) : CallR X (.builtin "sorted") (rSortM X.K d B) := by
  intro pins s σ H vs us Q inv r h
  obtain ⟨a, xs, rfl, hs, hx, q⟩ := h
  obtain ⟨its, rv, hl, hz⟩ := inv.list hs
  rw [Vals.ref1 r]
  obtain ⟨e1, e2⟩ := bkV_refs rv fun x m => by
    obtain ⟨ns, ⟨t, e, _⟩, _⟩ := hx x m
    exact ⟨t, e⟩
  have ok : TS.TupsOk s.heap d B its := fun v hv => by
    obtain ⟨t, rfl⟩ := e2 v hv
    have hm : V.ref t ∈ xs := by
      rw [e1]
      exact List.mem_map.mpr ⟨_, hv, rfl⟩
    obtain ⟨ns, ⟨t', e, ht⟩, hn, hb⟩ := hx _ hm
    cases e
    exact ⟨ns, tupI_raw inv ht, hn, hb⟩
  refine SrtO.sorted_ord (swo_rank fun v => TS.code B (TS.intsOf s.heap v)) hl.isList (by rw [← rv.length]; exact hz) (fun h2 h₁ a' ha kk => ?_) fun out h1 h2 => ?_
  · refine tups_sortable (s := { s with heap := h₁ }) (by omega) hd (ok.keeps fun b o e _ => (kk b o e).2) (fun o e => ?_) _ fun v hv ns t => ?_
    · have e' : some o = some (seqObj "list" its.toArray 0) := e.symm.trans ha
      cases e'
      intro c
      exact absurd (Value.type.inj c) (by decide)
    · obtain ⟨ns0, t0, _⟩ := ok v hv
      have en : ns = ns0 := t.ints.symm.trans (t0.keeps fun b o e _ => (kk b o e).2).ints
      rw [en]
      show TS.code B (TS.intsOf s.heap v) = TS.code B ns0
      rw [t0.ints]
  · obtain ⟨ep, he'⟩ := PyProof.Rows.sortedAll_at s.heap its out.toArray
    have h3 : ∀ u ∈ out, ∃ a, u = Value.ref a := fun u hu => e2 u (h2.perm.mem_iff.mp hu)
    have hp : (out.map bkV).Perm xs := by
      rw [e1]
      exact h2.perm.map bkV
    have hlen : (out.map bkV).length ≤ sizeLine := by
      rw [hp.length_eq]
      exact hz
    refine ⟨.ref _, upd H (s.heap.objs.size + 1) (.lst (out.map bkV)), inv.laid (t' := s.toks) (fun _ _ => PyProof.Rows.sortedAll_old) (Nat.le_succ _) ⟨hlen, out, ep, bkV_vals h3, he'⟩, rfl, q _ _ hp ?_ (inv.hok.fresh (Nat.le_succ _))⟩
    rw [List.pairwise_map]
    refine List.Pairwise.imp (fun {u v} huv n m hn hm => ?_) h1
    obtain ⟨t, et, ht⟩ := hn
    obtain ⟨t', et', ht'⟩ := hm
    have eu := bkV_ref et
    have ev := bkV_ref et'
    subst eu ev
    have z := of_decide_eq_false huv
    rw [(tupI_raw inv ht).ints, (tupI_raw inv ht').ints] at z
    omega
end VQ
namespace VQ
open PySem PyProof.Rows L2
/-! ### a comprehension out of whose element an exception may fly -/
theorem note_frame {x : Value} {env env' : Env} (h : env'.frame = env.frame) : noteFrame x env' = noteFrame x env := by
  unfold noteFrame PySem.frameOf
  rw [h]
/-- as compPost, but that the frame which the exception is handed on from is told -/
def cPost (M : Model) (A : Around) (E : Value → Shared → Prop) (use : Option (Value → Sem Unit)) (Q : Value → Shared → Prop) (acc : Value) (C : Addr) (fr : Option Addr) (r : Result) (s' : Shared) : Prop :=
  match r with
  | .ok f => compPost M A E use Q acc C (.ok f) s'
  | .error x => ∃ m, s'.heap.Ns C m ∧ ∀ h', Heap.SameBut C s'.heap h' → ∀ ev : Env, ev.frame = fr → wpAny M A (passOn "comprehension.variables-let-go" x ev : Sem Value) (fun _ _ => False) E { s' with heap := h' }
theorem comp_freeX {M : Model} {A : Around} {E : Value → Shared → Prop} {s : Shared} {env : Env} {e : Expr} {scope : Scope} {pos : Pos} {newAcc first : Sem Value} {g : Comprehension} {gs : List Comprehension} {cl : List (Str × Addr)} {use : Option (Value → Sem Unit)} {Q : Value → Shared → Prop}
    (clauses : clausesOf e = g :: gs) (folded : ∀ x, foldedSetIterable g.iter env x = pure x) (closes : closureFor scope env = pure cl) (kind : scope.kind = .function) (locals : ∀ x ∈ scope.names, x.2 = .local → scope.names.lookup x.1 = some .local)
    (h : wpAny M A first (fun x t1 => wpAny M A (pyIter x) (fun it t2 => wpAny M A newAcc (fun acc t3 => wpAny M A (newFunctionEnv scope env.globals cl [] env.qual none .none (some env)) (fun ev t4 =>
        codeAny M A (.compStart e 0 it acc { ev with scope := relabel scope env }) (cPost M A E use Q acc ev.locals ev.frame) t4) E t3) E t2) E t1) E s) : wpAny M A (comprehension e scope env pos newAcc false first use) Q E s := by
  unfold comprehension
  rw [closes, clauses]
  refine wpAny_bind (wpAny_mono h (fun x t1 g1 => wpAny_bind (wpAny_standAt (wpAny_bind (wpAny_of_eq (folded x) (wpAny_bind (wpAny_holding (wpAny_mono g1 (fun it t2 g2 =>
    wpAny_standIf (wpAny_bind (wpAny_mono g2 (fun acc t3 g3 => wpAny_bind (wpAny_pure (wpAny_bind (wpAny_mono g3 (fun ev t4 g4 => ?_) fun _ _ y => y)))) fun _ _ y => y))) fun _ _ y => y))))))) fun _ _ y => y)
  dsimp only
  have own : ∀ x ∈ (scope.names.filter fun x => (x.2 == .local || x.2 == .cell) && x.1 != (".0" : Str)).reverse, x.2 = .local → Env.kindOf { ev with scope := relabel scope env } x.1 = some .local := fun x m l => lookup_relabel_local (locals x (List.mem_filter.mp (List.mem_reverse.mp m)).1 l)
  have own2 : ∀ x ∈ (scope.names.filter fun x => (x.2 == .local || x.2 == .cell) && x.1 != (".0" : Str)).reverse.drop 1 ++ (scope.names.filter fun x => (x.2 == .local || x.2 == .cell) && x.1 != (".0" : Str)).reverse.take 1, x.2 = .local → Env.kindOf { ev with scope := relabel scope env } x.1 = some .local := fun x m l => by
    rcases List.mem_append.mp m with m | m
    · exact own x (List.mem_of_mem_drop m) l
    · exact own x (List.mem_of_mem_take m) l
  refine wpAny_holding (wpAny_bind (wpAny_attempt (wpAny_holding (wpAny_run (codeAny_mono g4 fun r t5 g5 => ?_)))))
  cases r with
  | ok f =>
    cases use with
    | none =>
      obtain ⟨m, ns, g6⟩ := g5
      exact wpAny_bind (wpAny_holding (wpAny_comp_letGo (cenv := { ev with scope := relabel scope env }) kind _ t5 m own ns fun k _ _ sb => wpAny_pure (g6 k sb)))
    | some u =>
      refine wpAny_bind (wpAny_rule (wpAny_bind (wpAny_holding (wpAny_mono g5 (fun _ t6 g6 => ?_) fun _ _ y => y))))
      obtain ⟨m, ns, g7⟩ := g6
      exact wpAny_bind (wpAny_comp_letGo (cenv := { ev with scope := relabel scope env }) kind _ t6 m own2 ns fun k _ _ sb => wpAny_pure (g7 k sb))
  | error x =>
    obtain ⟨m, ns, g6⟩ := g5
    exact wpAny_bind (wpAny_holding (wpAny_comp_letGo (cenv := { ev with scope := relabel scope env }) kind _ t5 m own ns fun k _ _ sb => wpAny_mono (g6 k sb _ rfl) (fun _ _ z => z.elim) fun _ _ y => y))
theorem frames_on {h h' B B' : Heap} (k : ∀ L o, B.get? L = none → h.get? L = some o → h'.get? L = some o ∧ B'.get? L = none) : ∀ {l : List Env}, h.FunFrames B l → h'.FunFrames B' l
  | [], _ => trivial
  | _ :: _, ⟨a1, ⟨L, o, a2, a3, a4, a5⟩, a6⟩ => ⟨a1, ⟨L, o, a2, (k L o a3 a4).2, (k L o a3 a4).1, a5⟩, frames_on k a6⟩
/-- the exception of a call within the block, led to the def's own air -/
theorem comp_air {X : Cx} {pins : List (Addr × Obj)} {σ : L2.St} {H3 H9 H' : Hp} {s3 s9 s10 : Shared} {ce : Env} {fp : List Addr} {C a : Addr} {B : Heap} {cls : Value} {d : Option Addr} {W : WX} {use : Option (Value → Sem Unit)} {Qf : Value → Shared → Prop} {acc : Value} {m9 : Str → Option Value}
    (two : X.stack = X.env :: X.outer) (fr : X.env.frame = some X.env.locals) (tk : Takes X W) (eF : ce.frame = X.env.frame) (I3 : Inv X pins σ H3 s3) (newC : s3.heap.get? C = none) (okC : FpOk X pins H9 C) (okF : ∀ b ∈ fp, FpOk X pins H3 b)
    (un : Un (frs X.stack) fp H3 H9 s3.heap s9.heap) (os9 : s9.os = s3.os) (ns9 : s9.heap.Ns C m9) (fl : HandSPX.FlyingZ B X.stack a (Zc cls d) s10.heap) (hok : HOk X.prog X.w H' B) (ub : UB (frs X.stack) H9 H' s9.heap B s10.heap) (na : H' a = none) (os10 : s10.os = s9.os) (ag : AllBare s10.gens)
    (w : W cls d σ H') : notedBy (model X.prog X.w) X.A ce (fun e s' => cPost (model X.prog X.w) X.A X.xe use Qf acc C ce.frame (.error e) s') (.ref a) s10 := by
  have frames : X.A.frames = some (X.env :: X.outer) := by rw [I3.ok.frames, two]
  obtain ⟨oC, es, ep, atC, dC, keysC, findC⟩ := ns9
  have offC : C ∉ frs X.stack := fun z => by
    rcases List.mem_cons.mp (I3.stkSub C z) with q | q
    · exact okC.2.1 q
    · exact okC.2.2.1 q
  have inB : B.get? C = some oC := ub.keep C oC atC okC.1 offC
  have freeC : H' C = none := ub.free C oC atC okC.1
  unfold notedBy
  rw [note_frame eF]
  refine HandSPX.looks_onZ Zc.steady frames fr (two ▸ fl) fun h11 held up => ?_
  have at11 : h11.get? C = some oC := held.1 C oC inB
  refine ⟨m9, ⟨oC, es, ep, at11, dC, keysC, findC⟩, fun h12 sb ev efr => ?_⟩
  obtain ⟨B2, b1, b2⟩ := L2.restrict B fun b => decide (b ≠ C)
  have inB2 : ∀ b o, B2.get? b = some o → b ≠ C ∧ B.get? b = some o := fun b o e => by
    by_cases q : b = C
    · rw [b2 b (by simp [q])] at e
      cases e
    · rw [b1 b (by simp [q])] at e
      exact ⟨q, e⟩
  have toB2 : ∀ b o, b ≠ C → B.get? b = some o → B2.get? b = some o := fun b o q e => by
    rw [b1 b (by simp [q])]
    exact e
  have noB2 : ∀ b, B.get? b = none → B2.get? b = none := fun b e => by
    by_cases q : b = C
    · exact b2 b (by simp [q])
    · rw [b1 b (by simp [q])]
      exact e
  have stay2 : B2.StaysIn h12 := fun b o e => by
    obtain ⟨q, e⟩ := inB2 b o e
    exact (sb.2 b q).trans (held.1 b o e)
  have neC : ∀ (b : Addr) (o : Obj) (vs : Array Value), h11.get? b = some o → o.data = .fields vs → b ≠ C := fun b o vs e dd q => by
    rw [q, at11] at e
    cases e
    rw [dC] at dd
    cases dd
  obtain ⟨k1, k2, k3, oe, vs, T, oT, ts, t1, t2, t3, t4, t5, t6, t7, t8, t9⟩ := id held
  have aC := neC a oe vs t1 t3
  have TC := neC T oT ts t7 t8
  have e12 : h12.get? a = some oe := (sb.2 a aC).trans t1
  have held2 : HandSPX.HeldZ B2 (X.env :: X.outer) a (Zc cls d) X.env.locals h12 := by
    refine ⟨stay2, noB2 a k2, frames_on (fun L o e1 e2 => ⟨(sb.2 L fun q => by rw [q, inB] at e1; cases e1).trans e2, noB2 L e1⟩) k3, oe, vs, T, oT, ts, e12, t2, t3, t4, noB2 T t5, t6, (sb.2 T TC).trans t7, t8, t9⟩
  unfold PySem.passOn
  refine wpAny_bind (wpAny_field e12 t3 t4 ?_)
  have isRef : ¬ ((Value.ref T == Value.none) = true) := by simp
  rw [if_neg isRef, efr, eF, fr]
  refine wpAny_bind (HandSPX.setFlight_onZ held2 fun h13 held3 up3 => wpAny_throw (tk _ _ ?_))
  obtain ⟨G, g1, g2⟩ := L2.restrict h13 fun b => (B2.get? b).isSome || decide (b ∈ frs X.stack)
  have gB : ∀ b o, B2.get? b = some o → G.get? b = some o := fun b o e => by
    rw [g1 b (by simp [e])]
    exact held3.1 b o e
  have gF : ∀ b, b ∈ frs X.stack → G.get? b = h13.get? b := fun b hb => g1 b (by simp [hb])
  have gO : ∀ b o, G.get? b = some o → h13.get? b = some o ∧ ((B2.get? b).isSome = true ∨ b ∈ frs X.stack) := fun b o e => by
    cases q : ((B2.get? b).isSome || decide (b ∈ frs X.stack)) with
    | false =>
      rw [g2 b q] at e
      cases e
    | true =>
      rw [g1 b q] at e
      exact ⟨e, by simpa [Bool.or_eq_true] using q⟩
  have old : ∀ b o, s3.heap.get? b = some o → b ≠ C := fun b o e q => by
    rw [q, newC] at e
    cases e
  have hok2 : HOk X.prog X.w H' B2 := fun b o q => (hok b o q).stay (fun c u hc r => toB2 c u (fun z => by
    rcases hc with hc | hc
    · rw [← hc, z, freeC] at q
      cases q
    · rw [z, freeC] at hc
      cases hc) r) (fun _ r => r) fun _ _ r => r
  have slots : ∀ b o, s3.heap.get? b = some o → b ∈ frs X.stack → b ∉ fp → ∃ sl, G.get? b = some { o with slots := sl } := fun b o e hb hx => by
    obtain ⟨_, o', e', nf⟩ := I3.stack.mem hb
    rw [e] at e'
    cases e'
    obtain ⟨sl1, e1⟩ := un.slot b o e (I3.stkFree b hb) hb hx
    obtain ⟨sl2, e2⟩ := ub.slot b _ e1 hb
    obtain ⟨sl3, e3⟩ := up b _ e2 nf
    obtain ⟨sl4, e4⟩ := up3 b _ ((sb.2 b (old b o e)).trans e3) nf
    exact ⟨sl4, by rw [gF b hb]; exact e4⟩
  refine ⟨a, B2, { s3 with heap := G, gens := s10.gens, drawn := s10.drawn, toks := s10.toks }, pins, σ, H', cls, d, rfl, ?_, fun b o e hb => ?_, Heap.UpToSlots.of_keeps fun b o e => (gO b o e).1, .inr (.inr (two ▸ held3)), na, os10.trans os9, ag, w⟩
  · refine I3.call (ch := fp) ⟨fun b o e n hb hx => gB b o (toB2 b o (old b o e) (ub.keep b o (un.keep b o e n hb hx) (un.free b o e n hx) hb)), fun b o e n hb hx => slots b o e hb hx, fun b o e n hx => ?_, fun b o e hx => ?_, fun b xs e => ub.tups b xs (un.tups b xs e), fun b o u e => ub.frzs b o u (un.frzs b o u e), fun b ps e => ?_⟩ (hok2.kept gB) ag fun b hb => ?_
    · obtain ⟨o', e'⟩ := un.there b o e hx
      exact ub.free b o' e' (un.free b o e n hx)
    · by_cases hb : b ∈ frs X.stack
      · obtain ⟨sl, q⟩ := slots b o e hb hx
        exact ⟨_, q⟩
      · obtain ⟨o', e'⟩ := un.there b o e hx
        obtain ⟨o2, q⟩ := ub.there b o' e' hb
        exact ⟨o2, gB b o2 (toB2 b o2 (old b o e) q)⟩
    · obtain ⟨m1, e1⟩ := un.tbls b ps e
      obtain ⟨m2, e2⟩ := ub.tbls b _ e1
      rw [Array.append_assoc] at e2
      exact ⟨_, e2⟩
    · have z := okF b hb
      exact ⟨z.2.2.2.1, z.2.1, z.2.2.2.2.1, z.2.2.2.2.2⟩
  · obtain ⟨e', q⟩ := gO b o e
    rcases q with q | q
    · obtain ⟨o', q⟩ := Option.isSome_iff_exists.mp q
      have z := held3.1 b o' q
      rw [e'] at z
      cases z
      exact q
    · exact absurd q hb
theorem Inv.air {X : Cx} {pins : List (Addr × Obj)} {σ : L2.St} {H : Hp} {s : Shared} (xe : Value → Shared → Prop) (I : Inv X pins σ H s) : Inv { X with xe := xe } pins σ H s where
  ok := ⟨I.ok.mod, I.ok.kind, I.ok.glob, I.ok.blt, I.ok.above, I.ok.inj, I.ok.has, I.ok.cab, I.ok.hd, I.ok.frames, I.ok.stk, I.ok.exf, I.ok.bs, I.ok.bsz, I.ok.noex, I.ok.exfs, I.ok.funs, I.ok.frf⟩
  os := I.os
  bare := I.bare
  base := I.base
  loc := I.loc
  cell := I.cell
  free := I.free
  freeC := I.freeC
  pin := I.pin
  hok := I.hok
  len := I.len
/-- the element, wherever the block stands: what its calls let out is taken -/
abbrev EltX (X : Cx) (scope : Scope) (elt : Expr) (te : TE) (E : XK) : Prop := ∀ (s : Shared) (H : Hp) (C : Addr) (cl : List (Str × Addr)) (fp : List Addr) (xe : Value → Shared → Prop), Passes (L2.CX X.prog X.w) { X.blk s H scope (compEnvC scope cl C X.env) fp with xe := xe } E → PE { X.blk s H scope (compEnvC scope cl C X.env) fp with xe := xe } elt te
theorem lcX_core {X : Cx} {pins : List (Addr × Obj)} {s : Shared} {σ : L2.St} {H : Hp} {Q : VK} {elt tg iter : Expr} {ifs : List Expr} {scope : Scope} {own : List (Str × Nat)} {pos pos' : Pos} {wi : TI} {g : TG} {tt : TT} {te : TE} {use : Option (Value → Sem Unit)} {Qf : Value → Shared → Prop} {W : WX} {E : XK}
    (two : X.stack = X.env :: X.outer) (fr : X.env.frame = some X.env.locals) (tk : Takes X W) (wish : ∀ cls d H', E cls d H' → W cls d σ H') (calm : X.calm = true) (nd : X.N.Nodup) (inv : Inv X pins σ H s) (hi : PI X tg iter wi) (ok : BlkOk X.N X.env.scope scope own)
    (hg : ∀ (s : Shared) (H : Hp) (C : Addr) (cl : List (Str × Addr)) (fp : List Addr), PG (X.blk s H scope (compEnvC scope cl C X.env) fp) tg g) (ht : ∀ (s : Shared) (H : Hp) (C : Addr) (cl : List (Str × Addr)) (fp : List Addr), PTs (X.blk s H scope (compEnvC scope cl C X.env) fp) ifs tt)
    (he : EltX X scope elt te E) (folded : ∀ x, foldedSetIterable iter X.env x = pure x) (want : tLc wi g tt te (own.map (·.2)) σ H Q)
    (ends : ∀ D C s' m H', Inv X pins σ H' s' → Q (.ref D) H' → s'.heap.Ns C m → FpOk X pins H' C → compPost (model X.prog X.w) X.A X.xe use Qf (.ref D) C (.ok .next) s') :
    wpAny (model X.prog X.w) X.A (comprehension (.ListComp elt [⟨tg, iter, ifs, 0⟩] scope pos) scope X.env pos' (newList []) false (eval iter X.env) use) Qf X.xe s := by
  have frees : ∀ y ∈ scope.names, y.2 = .free → ∃ c, X.env.cells.lookup y.1 = some c := fun y m e => by
    rcases ok.free y m e with k | k
    · exact inv.ok.has _ (.inl k)
    · exact inv.ok.has _ (.inr k)
  refine comp_freeX (use := use) rfl folded (closure_ok frees) ok.kind (fun y m e => by rw [ok.uniq y m, e]) (thn (hi.run pins s σ H _ inv want) fun xv t1 hx => thn hx fun itv t2 h2 => ?_)
  obtain ⟨it, fp, tn, J, H2, e, J2, T, st2, f2, q⟩ := h2
  subst e
  refine wpAny_newObj_type (newEnv_comp ?_) (by show 0 ≤ sizeLine; decide)
  generalize eD : t2.heap.objs.size = D
  have newD : H2 D = none := J2.hok.fresh (Nat.le_of_eq eD)
  obtain ⟨Wt, ⟨m0, w0⟩, turn⟩ := q D newD
  generalize e3 : ({ t2 with heap := t2.heap.push { cls := .type "list", data := .seq ([] : List Value).toArray } } : Shared) = t3
  have J3 : Inv X pins σ (upd H2 D (.lst [])) t3 := by
    rw [← e3]
    refine J2.laid (t' := t2.toks) (fun b o z => Heap.get?_push_of_some _ z) (Nat.le_of_eq eD) ⟨Nat.zero_le _, [], 0, .nil, ?_⟩
    rw [← eD]
    exact Heap.get?_push_size _ rfl
  have p3 : t3.heap = t2.heap.push { cls := .type "list", data := .seq ([] : List Value).toArray } := by rw [← e3]
  have below : ∀ b ∈ fp, b < t2.heap.objs.size := fun b hb => by
    obtain ⟨o, z, _⟩ := T.obj _ _ st2 b hb
    exact Heap.lt_size z
  have f3 : ∀ b ∈ fp, FpOk X pins (upd H2 D (.lst [])) b ∧ b < t3.heap.objs.size := fun b hb => by
    have lt := below b hb
    refine ⟨⟨?_, (f2 b hb).2⟩, by rw [p3, Heap.size_push]; exact Nat.lt_succ_of_lt lt⟩
    rw [upd_ne (by rw [← eD]; exact Nat.ne_of_lt lt)]
    exact (f2 b hb).1
  have st3 : tn 0 t3.heap := T.keep _ _ _ st2 fun b _ o z => by rw [p3]; exact Heap.get?_push_of_some _ z
  have J4 := block_start J3 ok nd f3
  have pg := hg t3 (upd H2 D (.lst [])) t3.heap.objs.size (cellsFrom (t3.heap.objs.size + 1) scope.names (cloFrom X.env.cells scope.names [])) fp
  have pt := ht t3 (upd H2 D (.lst [])) t3.heap.objs.size (cellsFrom (t3.heap.objs.size + 1) scope.names (cloFrom X.env.cells scope.names [])) fp
  have pe := he t3 (upd H2 D (.lst [])) t3.heap.objs.size (cellsFrom (t3.heap.objs.size + 1) scope.names (cloFrom X.env.cells scope.names [])) fp
  show codeAny _ _ (.compStart (.ListComp elt [⟨tg, iter, ifs, 0⟩] scope pos) 0 (.ref it) (.ref D) (compEnvC scope (cellsFrom (t3.heap.objs.size + 1) scope.names (cloFrom X.env.cells scope.names [])) t3.heap.objs.size X.env)) (cPost (model X.prog X.w) X.A X.xe use Qf (.ref D) t3.heap.objs.size X.env.frame) { t3 with heap := pushCells (t3.heap.push { cls := .type "dict", data := .dict #[] }) scope.names }
  have nfp : ∀ b ∈ fp, (upd H2 D (.lst [])) b = none := fun b hb => (f3 b hb).1.1
  generalize ece : compEnvC scope (cellsFrom (t3.heap.objs.size + 1) scope.names (cloFrom X.env.cells scope.names [])) t3.heap.objs.size X.env = ce at J4 pg pt pe ⊢
  have cL : ce.locals = t3.heap.objs.size := by subst ece; rfl
  have cF : ce.frame = X.env.frame := by subst ece; rfl
  generalize eH3 : upd H2 D (.lst []) = H3 at J3 J4 pg pt pe w0 nfp f3
  generalize e4 : ({ t3 with heap := pushCells (t3.heap.push { cls := .type "dict", data := .dict #[] }) scope.names } : Shared) = t4 at J4 ⊢
  have st4 : tn 0 t4.heap := T.keep _ _ _ st3 fun b _ o z => by rw [← e4]; exact pushCells_keeps _ _ _ _ (Heap.get?_push_of_some _ z)
  have newC : t3.heap.get? t3.heap.objs.size = none := by
    cases z : t3.heap.get? t3.heap.objs.size with
    | none => rfl
    | some o => exact absurd (Heap.lt_size z) (Nat.lt_irrefl _)
  -- what flies out of the element
  have passes : Passes (L2.CX X.prog X.w) { X.blk t3 H3 scope ce fp with xe := notedBy (model X.prog X.w) X.A ce (fun e s' => cPost (model X.prog X.w) X.A X.xe use Qf (.ref D) t3.heap.objs.size X.env.frame (.error e) s') } E := by
    intro pz σz Hz sz u sz' Ix cx
    obtain ⟨a, B, H', cls, d, rfl, fl, hok, ub, na, os, ag, hE⟩ := cx
    have Ib : Inv (X.blk t3 H3 scope ce fp) pz σz Hz sz := Inv.air (fun _ _ => False) Ix
    have nC : Hz t3.heap.objs.size = none := by
      have z : Hz ce.locals = none := Ib.free
      rw [cL] at z
      exact z
    obtain ⟨m, hn, _⟩ := Ib.loc
    have hn : sz.heap.Ns ce.locals m := hn
    rw [cL] at hn
    have z := comp_air (use := use) (Qf := Qf) (acc := .ref D) (ce := ce) two fr tk cF J3 newC (J3.fpOk (Nat.le_refl _) nC) (fun b hb => (f3 b hb).1) Ib.base Ib.os hn fl hok ub na os ag (wish cls d H' hE)
    rw [cF] at z
    exact z
  have pe := pe _ passes
  have stat : ∀ {σ' : L2.St} {H' : Hp} {s' : Shared}, Inv (X.blk t3 H3 scope ce fp) [] σ' H' s' → (∀ b ∈ fp, H' b = none) → ∀ b ∈ fp, FpOk (X.blk t3 H3 scope ce fp) [] H' b := fun {σ' H' s'} I' none_ b hb =>
    ⟨none_ b hb, (I'.ok.exf b hb).1, I'.ok.exfs b hb, .inl hb, fun x c z => (I'.ok.exf b hb).2 x c z, fun p hp => absurd (show p ∈ ([] : List (Addr × Obj)) ++ [] from hp) (by simp)⟩
  have loop : codeAny (model X.prog X.w) X.A (.compLoop (.ListComp elt [⟨tg, iter, ifs, 0⟩] scope pos) 0 (.ref it) (.ref D) ce) (cPost (model X.prog X.w) X.A X.xe use Qf (.ref D) t3.heap.objs.size X.env.frame) t4 := by
    refine compLoop_any (fun n s' => ∃ i H', Inv (X.blk t3 H3 scope ce fp) [] (wipe σ (own.map (·.2))) H' s' ∧ tn i s'.heap ∧ (∀ b ∈ fp, H' b = none) ∧ Wt i n H') ?_ m0 ⟨0, H3, J4, st4, nfp, w0⟩
    rintro n t5 ⟨i, H5, J5, st5, n5, w5⟩
    rcases turn i n H5 w5 with ⟨stop, qq⟩ | ⟨go, Nx, less, step⟩
    · have over := T.done (X.blk t3 H3 scope ce fp) rfl rfl rfl calm i [] t5 _ H5 (fun _ _ => False) J5 (stat J5 n5) st5 stop
      refine thnF over fun r t6 ⟨er, J6⟩ => ?_
      subst er
      have J7 : Inv X pins σ H5 t6 := J3.call' (ch := fp) J6.os J6.base J6.hok J6.bare fun b hb => ⟨(f3 b hb).1.2.2.2.1, (f3 b hb).1.2.1, (f3 b hb).1.2.2.2.2.1, (f3 b hb).1.2.2.2.2.2⟩
      have nC : H5 t3.heap.objs.size = none := by
        have z : H5 ce.locals = none := J6.free
        rw [cL] at z
        exact z
      obtain ⟨m, hn, _⟩ := J6.loc
      have hn : t6.heap.Ns ce.locals m := hn
      rw [cL] at hn
      exact ends D t3.heap.objs.size t6 m H5 J7 qq hn (J3.fpOk (Nat.le_refl _) nC)
    · have next := T.item (X.blk t3 H3 scope ce fp) rfl rfl rfl calm i [] t5 _ H5 (fun _ _ => False) J5 (stat J5 n5) st5 go
      refine thnF next fun r t6 ⟨u, er, h6⟩ => ?_
      subst er
      refine thnF h6 fun _ t7 ⟨x, H7, J7, r7, y7, st7, n7⟩ => ?_
      have J7' := J7.pinned (stat J7 n7) (T.obj _ _ st7)
      refine thnF (pg.run _ t7 _ H7 x u _ J7' r7 (step x H7 y7)) fun _ t8 ⟨σ8, H8, J8, hw8, q8⟩ => ?_
      refine thnF (pt.run _ t8 σ8 H8 _ J8 q8) fun b t9 ⟨H9, J9, q9⟩ => ?_
      have fin : ∀ {s' : Shared} {H' : Hp}, Inv (X.blk t3 H3 scope ce fp) ([] ++ pinsAt fp t7.heap) σ8 H' s' → Nx H' → ∃ m, m < n ∧ ∃ i H', Inv (X.blk t3 H3 scope ce fp) [] (wipe σ (own.map (·.2))) H' s' ∧ tn i s'.heap ∧ (∀ b ∈ fp, H' b = none) ∧ Wt i m H' := fun {s' H'} I' nx => by
        obtain ⟨m', lm, w'⟩ := less H' nx
        have pinned : ∀ b ∈ fp, ∀ o, t7.heap.get? b = some o → s'.heap.get? b = some o ∧ H' b = none := fun b hb o z =>
          let y := I'.pin (b, o) (List.mem_append_right _ (List.mem_append_right _ (mem_pinsAt hb z)))
          ⟨y.1, y.2.1⟩
        have el : (wipe σ (own.map (·.2))).length = σ8.length := by rw [← hw8, wipe_length]
        refine ⟨m', lm, i + 1, H', (I'.unpinned (pins := [])).weak el (fun j v z => ?_), T.keep _ _ _ st7 fun b hb o z => (pinned b hb o z).1, fun b hb => ?_, w'⟩
        · rw [← hw8] at z
          exact (wipe_some z).1
        · obtain ⟨o, z, _⟩ := T.obj _ _ st7 b hb
          exact (pinned b hb o z).2
      cases b with
      | false =>
        simp only [Bool.false_eq_true, if_false] at q9 ⊢
        exact fin J9 q9
      | true =>
        simp only [if_true] at q9 ⊢
        refine wpAny_mono (pe.run _ t9 σ8 H9 _ (Inv.air _ J9) q9) (fun z t10 ⟨yv, H10, J10, r10, acc, d10, z10, nx⟩ => ?_) fun _ _ y => y
        have J10' : Inv (X.blk t3 H3 scope ce fp) ([] ++ pinsAt fp t7.heap) σ8 H10 t10 := Inv.air (fun _ _ => False) J10
        exact app_ok (X := X.blk t3 H3 scope ce fp) J10' d10 z10 r10 fun t11 J11 => fin J11 nx
  exact codeAny_compStart_list loop (T.self X.A 0 _ _ _ st4 loop)
/-- name = [..] on one line, the name a local; the element's calls may refuse -/
theorem ps_setLcX {X : Cx} {i : Nat} {y : Str} {py : Pos} {elt tg iter : Expr} {ifs : List Expr} {scope : Scope} {own : List (Str × Nat)} {pos spos : Pos} {wi : TI} {g : TG} {tt : TT} {te : TE} {E : XK} (two : X.stack = X.env :: X.outer) (fr : X.env.frame = some X.env.locals) (tk : Takes X (fun cls d _ H => E cls d H))
    (calm : X.calm = true) (nd : X.N.Nodup) (slot : X.N[i]? = some y) (loc : X.env.scope.names.lookup y = some .local) (sw : swapsWith (.ListComp elt [⟨tg, iter, ifs, 0⟩] scope pos) (some (.Name y py)) spos.line X.env = pure true) (hi : PI X tg iter wi) (ok : BlkOk X.N X.env.scope scope own)
    (hg : ∀ (s : Shared) (H : Hp) (C : Addr) (cl : List (Str × Addr)) (fp : List Addr), PG (X.blk s H scope (compEnvC scope cl C X.env) fp) tg g) (ht : ∀ (s : Shared) (H : Hp) (C : Addr) (cl : List (Str × Addr)) (fp : List Addr), PTs (X.blk s H scope (compEnvC scope cl C X.env) fp) ifs tt)
    (he : EltX X scope elt te E) (folded : ∀ x, foldedSetIterable iter X.env x = pure x := by intro _; rfl) : PS X (.Assign [.Name y py] (.ListComp elt [⟨tg, iter, ifs, 0⟩] scope pos) spos) (tAsg (tLc wi g tt te (own.map (·.2))) (gName i)) := by
  refine ⟨fun pins s σ H D inv want => ?_⟩
  rw [exec_Assign_Name_used _ _ _ _ sw]
  refine wpAny_bind (wpAny_standAt (wpAny_bind ?_))
  show wpAny _ X.A (do let _ ← comprehension (.ListComp elt [⟨tg, iter, ifs, 0⟩] scope pos) scope X.env (firstIterPos [⟨tg, iter, ifs, 0⟩] pos) (newList []) false (eval iter X.env) (some (assign (.Name y py) X.env))) _ _ s
  have want : tLc wi g tt te (own.map (·.2)) σ H (fun x H1 => gName i x σ H1 D.nx) := want
  refine wpAny_bind (thn (lcX_core (Qf := fun _ s' => SP X pins D .next s') two fr tk (fun _ _ _ z => z) calm nd inv hi ok hg ht he folded want fun L C s' m H' I' q hn f => ?_) fun _ s' z => wpAny_pure (wpAny_pure z))
  show wpAny _ _ (assign (.Name y py) X.env (.ref L)) _ _ _
  refine wpAny_assign_Name (store_ok2 (v := V.ref L) I' nd slot (.inl loc) rfl (fun s2 J2 ⟨a, sb, ha⟩ => ?_) (.inr loc))
  obtain ⟨f0, f1, f2, f3, f4, f5⟩ := f
  have aC : C ≠ a := by
    rcases ha with z | z
    · rw [z]
      exact f1
    · exact fun e => f4 y a z e.symm
  exact ⟨m, hn.sameBut sb aC, fun h3 sb3 => ⟨_, H', J2.turned (t' := s2.toks) (fun b o hb e => (sb3.2 b hb).trans e) f0 f1 f3 f4 f5, q⟩⟩
end VQ
namespace VQ
open PySem L2 LamX
abbrev sWorth : Stmt := top 72
/-! ### figures -/
def figLow (w : Nat) : Nat → Str
  | 0 => ⟨#[]⟩
  | i + 1 => (⟨#[48 + w / 2 ^ i % 2]⟩ : Str) ++ figLow w i
def fig (w : Nat) : Str := figLow w 5
theorem figLow_len (w : Nat) : ∀ i, (figLow w i).length = i
  | 0 => rfl
  | i + 1 => by
    show ((⟨#[48 + w / 2 ^ i % 2]⟩ : Str) ++ figLow w i).length = i + 1
    show (#[48 + w / 2 ^ i % 2] ++ (figLow w i).cps).size = i + 1
    rw [Array.size_append]
    have := figLow_len w i
    show 1 + (figLow w i).length = i + 1
    omega
theorem str_bit (n : Nat) : (toString ((n % 2 : Nat) : Int) : Str) = ⟨#[48 + n % 2]⟩ := by
  rcases Nat.mod_two_eq_zero_or_one n with h | h
  · rw [h]; decide +kernel
  · rw [h]; decide +kernel
section
variable {P : Program} {w : World} {K : PySem.W.Frag} {mg : Str → Option Value} {base : Heap}
def spFigs : Sp := fun vs H Q _ => ∃ (n : Nat), vs = [.int (n : Int)] ∧ Q (.str (fig n)) H
/-! ### drawn worths -/
/-- a number drawn by the bag, of which R is true -/
def spDraw (R : Int → Prop) : Sp := fun vs H Q _ => ∃ (b : Addr), vs = [.ref b] ∧ Bag H b ∧ ∀ (i : Int) (H' : Hp), R i → Bag H' b → Keep b H H' → Q (.int i) H'
theorem scWorth : FnScope ["_law_bag_here"] ["_law_bag_here"] (defScope sWorth) := ⟨rfl, rfl, rfl, by decide +kernel, rfl, by decide +kernel, by decide +kernel⟩
theorem Bag.ne {H : Hp} {b p : Addr} (h : Bag H b) (n : H p = none) : p ≠ b := fun e => by
  obtain ⟨o, z⟩ := h.here
  rw [e, z] at n
  cases n
theorem ok_worth {f fO fP : Addr} {fd fdO fdP : FuncData} (F : Fun K "_law_worth" "_law_worth" sWorth f fd) (len : mg "len" = none) (P1 : At K mg "_law_pull" sPull ["_law_bag_here", "_law_size"] fP fdP) (P2 : At K mg "_law_of" sOf ["_law_bag_here", "_law_some"] fO fdO) :
    FnOk P w K mg base CX0 3 f fd ["_law_bag_here"] (spDraw fun i => 0 ≤ i ∧ i < 32) := by
  have G1 : FnOk P w K mg base CX0 1 fP fdP ["_law_bag_here", "_law_size"] spPull := ok_pull P1.fn len
  have G2 : FnOk P w K mg base CX0 2 fO fdO ["_law_bag_here", "_law_some"] (spOf K) := ok_of P2.fn len P1
  refine F.ok scWorth (fun vs H Q E h => ?_) (fun cdv A outer s H vs Q E hr h => ?_)
  · obtain ⟨b, rfl, _⟩ := h
    rfl
  · obtain ⟨b, rfl, B, k⟩ := h
    have hr1 : Room 1 _ := hr.mono (by decide)
    refine ⟨_, pss_one (ps_ret (pe_call G2 hr rfl P2.gl P2.fn.kp P2.bd .nil pass0 (pa_cons (pv 0) (pa_cons (pe_lst
      (pa_cons (pe_call G1 hr1 rfl P1.gl P1.fn.kp P1.bd .nil pass0 (pa_cons (pv 0) (pa_cons pe_int pa_nil)))
      (pa_cons (pe_call G1 hr1 rfl P1.gl P1.fn.kp P1.bd .nil pass0 (pa_cons (pv 0) (pa_cons pe_int pa_nil)))
      (pa_cons (pe_call G1 hr1 rfl P1.gl P1.fn.kp P1.bd .nil pass0 (pa_cons (pv 0) (pa_cons pe_int pa_nil)))
      (pa_cons pe_int (pa_cons pe_int pa_nil)))))) pa_nil)))), ?_⟩
    refine ⟨_, rfl, _, rfl, b, 32, rfl, B, by decide, by decide, fun d1 H1 a1 c1 B1 k1 => ?_⟩
    refine ⟨_, rfl, b, 32, rfl, B1, by decide, by decide, fun d2 H2 a2 c2 B2 k2 => ?_⟩
    refine ⟨_, rfl, b, 4, rfl, B2, by decide, by decide, fun d3 H3 a3 c3 B3 k3 => ?_⟩
    refine ⟨by show 5 ≤ sizeLine; decide, fun p hp => ?_⟩
    have sm := same_new (o := HO.lst [.int d1, .int d2, .int d3, .int 0, .int 31]) hp
    refine ⟨b, p, _, rfl, B3.same sm, B3.ne hp, SqL.of upd_same, by show 1 ≤ 5; decide, by show 5 < 1000; decide, fun v H' mem B' k' => ?_⟩
    have kk : Keep b H H' := ((k1.trans k2).trans k3).trans (Keep.trans (Same.keep sm) k')
    rcases List.mem_cons.mp mem with rfl | mem
    · exact k _ _ ⟨a1, c1⟩ B' kk
    rcases List.mem_cons.mp mem with rfl | mem
    · exact k _ _ ⟨a2, c2⟩ B' kk
    rcases List.mem_cons.mp mem with rfl | mem
    · exact k _ _ ⟨a3, by omega⟩ B' kk
    rcases List.mem_cons.mp mem with rfl | mem
    · exact k _ _ ⟨by decide, by decide⟩ B' kk
    rcases List.mem_cons.mp mem with rfl | mem
    · exact k _ _ ⟨by decide, by decide⟩ B' kk
    · cases mem
end
end VQ
namespace VQ
open PySem L2 LamX
/-! ### things of the plain kinds -/
def worthB : V → Bool
  | .int i => decide (0 ≤ i) && decide (i < 32)
  | _ => false
def basics : List String := ["NoneType", "bool", "int", "str", "list", "tuple"]
theorem basic_cases {K : PySem.W.Frag} {H : Hp} {x : V} {t : String} (h : TyX K H x (.type t)) (m : t ∈ basics) :
    (x = .non ∧ t = "NoneType") ∨ (∃ b, x = .bl b ∧ t = "bool") ∨ (∃ i, x = .int i ∧ t = "int") ∨ (∃ z, x = .str z ∧ t = "str") ∨ (∃ a, x = .ref a ∧ (t = "list" ∨ t = "tuple")) := by
  generalize e : Value.type t = tv at h
  cases h with
  | base b =>
    cases b with
    | non => cases e; exact .inl ⟨rfl, rfl⟩
    | bl y => cases e; exact .inr (.inl ⟨y, rfl, rfl⟩)
    | int i => cases e; exact .inr (.inr (.inl ⟨i, rfl, rfl⟩))
    | str y => cases e; exact .inr (.inr (.inr (.inl ⟨y, rfl, rfl⟩)))
    | flt y => cases e; exact absurd m (by decide)
    | lst _ => cases e; exact .inr (.inr (.inr (.inr ⟨_, rfl, .inl rfl⟩)))
    | frz _ => cases e; exact .inr (.inr (.inr (.inr ⟨_, rfl, .inl rfl⟩)))
    | tup _ => cases e; exact .inr (.inr (.inr (.inr ⟨_, rfl, .inr rfl⟩)))
    | dK _ => cases e; exact absurd m (by decide)
    | dT _ => cases e; exact absurd m (by decide)
    | ins _ _ _ _ _ _ => cases e
  | byt _ => cases e; exact absurd m (by decide)
  | set _ => cases e; exact absurd m (by decide)
  | kList _ _ => cases e; exact .inr (.inr (.inr (.inr ⟨_, rfl, .inl rfl⟩)))
  | kTuple _ _ => cases e; exact .inr (.inr (.inr (.inr ⟨_, rfl, .inr rfl⟩)))
  | kDict _ _ => cases e; exact absurd m (by decide)
  | fTuple _ => cases e; exact .inr (.inr (.inr (.inr ⟨_, rfl, .inr rfl⟩)))
  | fDict _ => cases e; exact absurd m (by decide)
section
variable {P : Program} {w : World} {K : PySem.W.Frag} {mg : Str → Option Value} {base : Heap}
/-- what the program's own modules ask of the names -/
structure Blt (mg : Str → Option Value) : Prop where
  isi : mg "isinstance" = none
  int : mg "int" = none
  bool : mg "bool" = none
  str : mg "str" = none
  list : mg "list" = none
  tuple : mg "tuple" = none
  len : mg "len" = none
  all : mg "all" = none
  range : mg "range" = none
/-! ### a refusal without a field -/
def spErr (K : PySem.W.Frag) (C : Addr) (nm : Str) : Sp := fun vs H Q _ => ∃ a : Addr, vs = [.ref a] ∧ H a = some (exo a C none) ∧ ∀ d, H d = none → d ≠ a → Q .non (upd (upd H d (exd d [(("called" : Str), .str nm)])) a (exo a C (some d)))
/-- the class at C, its __init__ at fI -/
structure ErrC (K : PySem.W.Frag) (mg : Str → Option Value) (x : Str) (C fI : Addr) (fd : FuncData) (qual : Str) (st : Stmt) : Prop where
  gl : mg x = some (.ref C)
  ox : OexC K C
  it : PySem.W.findIn K (.ref C) "__init__" = some (some (.ref fI))
  ty : PySem.W.typeIn K (.ref fI) = some (.type "function")
  nc : PySem.W.findIn K (.ref C) "called" = some none
  fn : Fun K "__init__" qual st fI fd
  bd : Binds K fd ["self"] []
theorem ok_err {x qual nm : Str} {st : Stmt} {C fI : Addr} {fd : FuncData} {p1 p2 p3 p4 : Pos} {j : Nat} (Er : ErrC K mg x C fI fd qual st) (sc : FnScope ["self"] ["self"] (defScope st)) (v : Vis (defScope st) "self")
    (hb : defBody st = [.Assign [.Attribute (.Name "self" p1) "called" p2] (.Constant (.str nm) j p3) p4]) : FnOk P w K mg base CX0 1 fI fd ["self"] (spErr K C nm) := by
  refine Er.fn.ok sc (fun vs H Q E h => ?_) (fun cdv A outer s H vs Q E' hr h => ?_)
  · obtain ⟨a, rfl, _⟩ := h
    rfl
  · obtain ⟨a, rfl, ha, k⟩ := h
    rw [hb]
    refine ⟨_, pss_one (ps_ost (pe_var (i := 0) rfl v) pe_str), ?_⟩
    exact ⟨_, rfl, a, C, rfl, Er.ox, Er.nc, .inl ⟨ha, fun dx hd ne => k dx hd ne⟩⟩
theorem raise_plain {C : Addr} {nm : Str} {σ : L2.St} {H : Hp} {W : XK} (h : ∀ d, H d = none → W (.ref C) (some d) (upd H d (.xd [(("called" : Str), .str nm)]))) : tMkO0 C (spErr K C nm) σ H W := by
  intro a ha
  refine ⟨a, rfl, upd_same, fun d hd ne => ⟨rfl, d, [(("called" : Str), V.str nm)], upd_same, ?_, ?_, ?_⟩⟩
  · rw [upd_ne ne, upd_same]
  · rw [upd_ne ne] at hd
    exact hd
  · have hd' : H d = none := by
      rw [upd_ne ne] at hd
      exact hd
    have e : upd (del (upd (upd (upd H a (exo a C none)) d (exd d [(("called" : Str), V.str nm)])) a (exo a C (some d))) a) d (.xd [(("called" : Str), V.str nm)]) = upd H d (.xd [(("called" : Str), V.str nm)]) := by
      funext b
      by_cases hb : b = d
      · rw [hb, upd_same, upd_same]
      · rw [upd_ne hb, upd_ne hb]
        by_cases hba : b = a
        · rw [hba, del_same, ha]
        · rw [del_ne hba, upd_ne hba, upd_ne hb, upd_ne hba]
    rw [e]
    exact h d hd'
end
end VQ
namespace VQ
open PySem L2 LamX
abbrev sIsNumber : Stmt := top 17
abbrev sIsWorth : Stmt := top 18
theorem zfill_bin : ∀ n, n < 32 → Txt.zfill (binS n) 5 = fig n := by decide +kernel
section
variable {P : Program} {w : World} {K : PySem.W.Frag} {mg : Str → Option Value} {base : Heap}
def numB (lo hi : Int) : V → Bool
  | .int i => decide (lo ≤ i) && decide (i < hi)
  | _ => false
/-- whether a thing is a number from one bound to below another -/
def spIsNumber (K : PySem.W.Frag) : Sp := fun vs H Q _ => ∃ (x : V) (t : String) (lo hi : Int), vs = [x, .int lo, .int hi] ∧ TyX K H x (.type t) ∧ t ∈ basics ∧ Q (.bl (numB lo hi x)) H
theorem scIsNumber : FnScope ["thing", "low", "behind"] ["thing", "low", "behind"] (defScope sIsNumber) := ⟨rfl, rfl, rfl, by decide +kernel, rfl, by decide +kernel, by decide +kernel⟩
theorem ok_isnumber {f : Addr} {fd : FuncData} (F : Fun K "is_number" "is_number" sIsNumber f fd) (b : Blt mg) : FnOk P w K mg base CX0 1 f fd ["thing", "low", "behind"] (spIsNumber K) := by
  refine F.ok scIsNumber (fun vs H Q E h => ?_) (fun cdv A outer s H vs Q E hr h => ?_)
  · obtain ⟨x, t, lo, hi, rfl, _⟩ := h
    rfl
  · obtain ⟨x, t, lo, hi, rfl, ty, m, k⟩ := h
    refine ⟨_, pss_one (ps_ret (pe_and (pe_callB call_isi (by rfl) b.isi (by decide +kernel) (pa_cons (pv 0) (pa_cons (pe_bltn (v := .ty "int") rfl b.int (by decide +kernel) rfl) pa_nil)))
      (pe_and (pe_not (pe_callB call_isi (by rfl) b.isi (by decide +kernel) (pa_cons (pv 0) (pa_cons (pe_bltn (v := .ty "bool") rfl b.bool (by decide +kernel) rfl) pa_nil))))
      (pe_one (pe_chain op_le op_lt (pv 1) (pv 0) (pv 2)))))), ?_⟩
    rcases basic_cases ty m with ⟨rfl, rfl⟩ | ⟨c, rfl, rfl⟩ | ⟨i, rfl, rfl⟩ | ⟨z, rfl, rfl⟩ | ⟨a, rfl, rfl | rfl⟩
    · refine ⟨_, rfl, _, _, _, _, false, rfl, .ty "int", ty, kit_ty (by decide +kernel), false, rfl, iteF ?_⟩
      exact k
    · refine ⟨_, rfl, _, _, _, _, true, rfl, .ty "int", ty, kit_ty (by decide +kernel), true, rfl, iteT ?_⟩
      refine ⟨_, rfl, _, _, _, _, true, rfl, .ty "bool", ty, kit_ty (by decide +kernel), true, rfl, false, rfl, iteF ?_⟩
      exact k
    · refine ⟨_, rfl, _, _, _, _, true, rfl, .ty "int", ty, kit_ty (by decide +kernel), true, rfl, iteT ?_⟩
      refine ⟨_, rfl, _, _, _, _, false, rfl, .ty "bool", ty, kit_ty (by decide +kernel), false, rfl, true, rfl, iteT ?_⟩
      refine ⟨_, rfl, _, rfl, lo, i, rfl, rfl, _, rfl, ?_⟩
      by_cases h : lo ≤ i
      · rw [if_pos (decide_eq_true h)]
        refine ⟨_, rfl, i, hi, rfl, rfl, ?_⟩
        have e : numB lo hi (.int i) = decide (i < hi) := by
          show (decide (lo ≤ i) && decide (i < hi)) = _
          rw [decide_eq_true h, Bool.true_and]
        rw [e] at k
        exact k
      · rw [if_neg (by simpa using h)]
        have e : numB lo hi (.int i) = false := by
          show (decide (lo ≤ i) && decide (i < hi)) = _
          rw [decide_eq_false h, Bool.false_and]
        rw [e] at k
        exact k
    · refine ⟨_, rfl, _, _, _, _, false, rfl, .ty "int", ty, kit_ty (by decide +kernel), false, rfl, iteF ?_⟩
      exact k
    · refine ⟨_, rfl, _, _, _, _, false, rfl, .ty "int", ty, kit_ty (by decide +kernel), false, rfl, iteF ?_⟩
      exact k
    · refine ⟨_, rfl, _, _, _, _, false, rfl, .ty "int", ty, kit_ty (by decide +kernel), false, rfl, iteF ?_⟩
      exact k
theorem numB_worth (x : V) : numB 0 32 x = worthB x := by
  cases x <;> rfl
/-- where a def stands that asks is_number, and where that one stands -/
structure AtW (K : PySem.W.Frag) (mg : Str → Option Value) (x : Str) (st : Stmt) (ps : List Str) (f : Addr) (fd : FuncData) : Prop where
  it : At K mg x st ps f fd
  num : ∃ (fN : Addr) (fdN : FuncData), At K mg "is_number" sIsNumber ["thing", "low", "behind"] fN fdN
theorem AtW.gl {x : Str} {st : Stmt} {ps : List Str} {f : Addr} {fd : FuncData} (a : AtW K mg x st ps f fd) : mg x = some (.ref f) := a.it.gl
theorem AtW.bd {x : Str} {st : Stmt} {ps : List Str} {f : Addr} {fd : FuncData} (a : AtW K mg x st ps f fd) : Binds K fd ps [] := a.it.bd
theorem AtW.fn {x : Str} {st : Stmt} {ps : List Str} {f : Addr} {fd : FuncData} (a : AtW K mg x st ps f fd) : Fun K x x st f fd := a.it.fn
def spIsWorth (K : PySem.W.Frag) : Sp := fun vs H Q _ => ∃ (x : V) (t : String), vs = [x] ∧ TyX K H x (.type t) ∧ t ∈ basics ∧ Q (.bl (worthB x)) H
theorem scIsWorth : FnScope ["thing"] ["thing"] (defScope sIsWorth) := ⟨rfl, rfl, rfl, by decide +kernel, rfl, by decide +kernel, by decide +kernel⟩
theorem ok_isworth {f : Addr} {fd : FuncData} {tk : Tok} (F : AtW K mg "is_worth" sIsWorth ["thing"] f fd) (b : Blt mg) (W : mg "WORTHS" = some (.int 32 tk)) : FnOk P w K mg base CX0 2 f fd ["thing"] (spIsWorth K) := by
  obtain ⟨fN, fdN, aN⟩ := F.num
  have GN : FnOk P w K mg base CX0 1 fN fdN ["thing", "low", "behind"] (spIsNumber K) := ok_isnumber aN.fn b
  refine F.it.fn.ok scIsWorth (fun vs H Q E h => ?_) (fun cdv A outer s H vs Q E hr h => ?_)
  · obtain ⟨x, t, rfl, _⟩ := h
    rfl
  · obtain ⟨x, t, rfl, ty, m, k⟩ := h
    refine ⟨_, pss_one (ps_ret (pe_call GN hr rfl aN.gl aN.fn.kp aN.bd .nil pass0 (pa_cons (pv 0) (pa_cons pe_int (pa_cons (pe_glob (v := .int 32) rfl W ⟨_, rfl⟩) pa_nil))))), ?_⟩
    refine ⟨_, rfl, x, t, 0, 32, rfl, ty, m, ?_⟩
    rw [numB_worth]
    exact k
def spFigures (K : PySem.W.Frag) (C : Addr) : Sp := fun vs H Q E => ∃ (x : V) (t : String), vs = [x] ∧ TyX K H x (.type t) ∧ t ∈ basics ∧
  (∀ n : Nat, n < 32 → x = .int (n : Int) → Q (.str (fig n)) H) ∧ (worthB x = false → ∀ d, H d = none → E (.ref C) (some d) (upd H d (.xd [(("called" : Str), .str "BadWorth")])))
end
end VQ
namespace VQ
open PySem L2 LamX
/-- two things that are the same all through, to a depth -/
inductive Alike (H : Hp) : Nat → V → V → Prop
  | non (n : Nat) : Alike H n .non .non
  | bl (n : Nat) (b : Bool) : Alike H n (.bl b) (.bl b)
  | int (n : Nat) (i : Int) : Alike H n (.int i) (.int i)
  | str (n : Nat) (z : Str) : Alike H n (.str z) (.str z)
  | lst {n : Nat} {a b : Addr} {xs ys : List V} (ha : H a = some (.lst xs)) (hb : H b = some (.lst ys)) (hl : xs.length = ys.length) (hz : ys.length ≤ 1000) (h : ∀ (i : Nat) (x y : V), xs[i]? = some x → ys[i]? = some y → Alike H n x y) : Alike H (n + 1) (.ref a) (.ref b)
  | tup {n : Nat} {a b : Addr} {xs ys : List V} (ha : H a = some (.tup xs)) (hb : H b = some (.tup ys)) (hl : xs.length = ys.length) (hz : ys.length ≤ 1000) (h : ∀ (i : Nat) (x y : V), xs[i]? = some x → ys[i]? = some y → Alike H n x y) : Alike H (n + 1) (.ref a) (.ref b)
theorem Alike.same {H H' : Hp} (s : Same H H') {n : Nat} {x y : V} (h : Alike H n x y) : Alike H' n x y := by
  induction h with
  | non n => exact .non n
  | bl n b => exact .bl n b
  | int n i => exact .int n i
  | str n z => exact .str n z
  | lst ha hb hl hz _ ih => exact .lst (s _ _ ha) (s _ _ hb) hl hz ih
  | tup ha hb hl hz _ ih => exact .tup (s _ _ ha) (s _ _ hb) hl hz ih
def spSame (n : Nat) : Sp := fun vs H Q _ => ∃ x y, vs = [x, y] ∧ Alike H n x y ∧ ∀ H', Same H H' → Q (.bl true) H'
section
variable {P : Program} {w : World} {K : PySem.W.Frag} {mg : Str → Option Value} {base : Heap}
section
variable {X : Cx} {p p0 p1 p2 p3 pos : Pos} {i k : Nat} {y : Str}
/-- isinstance(y, n) -/
theorem pe_isi {n : Str} {c : String} (he : PE X (.Name y p0) (tVar i)) (g : Gl X "isinstance") (hm : X.mg "isinstance" = none) (gn : Gl X n) (hn : X.mg n = none) (hv : bootBuiltins n = some (.type c)) (n1 : n ≠ "__name__" := by decide) (n2 : (n == ("__debug__" : Str)) = false := by decide) :
    PE X (.Call (.Name "isinstance" p) [.Name y p0, .Name n p1] [] pos) (tCB (rIsi X.K) (tCons (tVar i) (tCons (tC (.ty c)) tNil))) :=
  pe_callB call_isi g hm (by decide +kernel) (pa_cons he (pa_cons (pe_bltn (v := .ty c) gn hn hv rfl n1 n2) pa_nil))
/-- isinstance(y, (int, str)) -/
theorem pe_isiT (he : PE X (.Name y p0) (tVar i)) (g : Gl X "isinstance") (hm : X.mg "isinstance" = none) (gi : Gl X "int") (hi : X.mg "int" = none) (gs : Gl X "str") (hs : X.mg "str" = none) :
    PE X (.Call (.Name "isinstance" p) [.Name y p0, .Tuple [.Name "int" p1, .Name "str" p2] k p3] [] pos) (tCB (rIsiT X.K) (tCons (tVar i) (tCons (tTup (tCons (tC (.ty "int")) (tCons (tC (.ty "str")) tNil))) tNil))) :=
  pe_callB call_isiT g hm (by decide +kernel) (pa_cons he (pa_cons (pe_tup (pa_cons (pe_bltn (v := .ty "int") gi hi (by decide +kernel) rfl) (pa_cons (pe_bltn (v := .ty "str") gs hs (by decide +kernel) rfl) pa_nil))) pa_nil))
end
theorem rd_isi {σ : L2.St} {H : Hp} {Q : VK} {i : Nat} {x : V} {t c : String} {b : Bool} (hx : σ[i]? = some (some x)) (ty : TyX K H x (.type t)) (kb : kitB t c = some b) (h : Q (.bl b) H) : tCB (rIsi K) (tCons (tVar i) (tCons (tC (.ty c)) tNil)) σ H Q :=
  ⟨x, hx, _, _, _, _, b, rfl, .ty c, ty, kit_ty kb, h⟩
theorem TyX.basic_same {H H' : Hp} {x : V} {t : String} (s : Same H H') (ty : TyX K H x (.type t)) (m : t ∈ basics) : TyX K H' x (.type t) := by
  generalize e : Value.type t = tv at ty
  cases ty with
  | base b =>
    cases b with
    | non => exact .base .non
    | bl y => exact .base (.bl y)
    | int i => exact .base (.int i)
    | str y => exact .base (.str y)
    | flt y => exact .base (.flt y)
    | lst q => exact .base (.lst (s _ _ q))
    | frz q => exact .base (.frz (s _ _ q))
    | tup q => exact .base (.tup (s _ _ q))
    | dK q => exact .base (.dK (s _ _ q))
    | dT q => exact .base (.dT (s _ _ q))
    | ins _ _ _ _ _ _ => cases e
  | byt y => exact .byt y
  | set q => exact .set (s _ _ q)
  | kList q c => exact .kList q c
  | kTuple q c => exact .kTuple q c
  | kDict q c => exact .kDict q c
  | fTuple q => exact .fTuple (s _ _ q)
  | fDict q => exact .fDict (s _ _ q)
end
end VQ
namespace VQ
open PySem L2 LamX
section
variable {P : Program} {w : World} {K : PySem.W.Frag} {mg : Str → Option Value} {base : Heap}
def anyIS (t : String) : Bool := t == "int" || t == "str" || t == "bool"
theorem rd_isiT {σ : L2.St} {H : Hp} {Q : VK} {i : Nat} {x : V} {t : String} {b : Bool} (hx : σ[i]? = some (some x)) (ty : TyX K H x (.type t)) (m : t ∈ basics) (kb : PySem.W.kitAny K (.type t) [.type "int", .type "str"] = some b) (h : ∀ H', Same H H' → Q (.bl b) H') :
    tCB (rIsiT K) (tCons (tVar i) (tCons (tTup (tCons (tC (.ty "int")) (tCons (tC (.ty "str")) tNil))) tNil)) σ H Q :=
  ⟨x, hx, (by show 2 ≤ sizeLine; decide), fun p hp => ⟨x, p, _, _, _, b, rfl, upd_same, .cons (.ty "int") (.cons (.ty "str") .nil), TyX.basic_same (same_new hp) ty m, kb, h _ (same_new hp)⟩⟩
theorem kIS {t : String} {b b' : Bool} (h1 : kitB t "int" = some b) (h2 : kitB t "str" = some b') : PySem.W.kitAny K (.type t) [.type "int", .type "str"] = some (b || b') := by
  refine kitAny_cons (kit_ty h1) (fun e => ?_) (fun e => by rw [e]; rfl)
  subst e
  refine kitAny_cons (kit_ty h2) (fun e => ?_) (fun e => by rw [e]; rfl)
  subst e
  rfl
end
end VQ
namespace VQ
open PySem L2 LamX
/-! ### walks over a text -/
theorem lc_text {z : Str} {g : TG} {tt : TT} {te : TE} {vs : List Nat} {σ : L2.St} {H1 : Hp} {D : Addr} {Qd : Hp → Prop} (Pv : Nat → Hp → Prop) (h0 : Pv 0 (upd H1 D (.lst [])))
    (turn : ∀ (i c : Nat) (H : Hp), z.cps[i]? = some c → Pv i H → g (.str ⟨#[c]⟩) (wipe σ vs) H fun σ2 H2 => wipe σ2 vs = wipe σ vs ∧ tt σ2 H2 fun b H3 => if b = true then te σ2 H3 fun y H4 => ∃ acc, H4 D = some (.lst acc) ∧ acc.length < sizeLine ∧ Pv (i + 1) (upd H4 D (.lst (acc ++ [y]))) else Pv (i + 1) H3)
    (fin : ∀ H, Pv z.cps.size H → Qd H) :
    ∃ W : Nat → Nat → Hp → Prop, (∃ m, W 0 m (upd H1 D (.lst []))) ∧ ∀ i m H, W i m H → ((Its z).stop i H ∧ Qd H) ∨ ((Its z).go i H ∧ ∃ Nx : Hp → Prop, (∀ H', Nx H' → ∃ m', m' < m ∧ W (i + 1) m' H') ∧
      ∀ x H', (Its z).yld i H x H' → g x (wipe σ vs) H' fun σ2 H2 => wipe σ2 vs = wipe σ vs ∧ tt σ2 H2 fun b H3 => if b = true then te σ2 H3 fun y H4 => ∃ acc, H4 D = some (.lst acc) ∧ acc.length < sizeLine ∧ Nx (upd H4 D (.lst (acc ++ [y]))) else Nx H3) := by
  refine ⟨fun i m H => m + i = z.cps.size ∧ Pv i H, ⟨z.cps.size, by simp, h0⟩, ?_⟩
  rintro i m H ⟨em, p⟩
  by_cases lt : i < z.cps.size
  · refine .inr ⟨lt, Pv (i + 1), fun H' p' => ⟨m - 1, by omega, by omega, p'⟩, ?_⟩
    rintro x H' ⟨rfl, c, ec, rfl⟩
    exact turn i c H' ec p
  · have e : i = z.cps.size := by omega
    subst e
    exact .inl ⟨Nat.le_refl _, fin H p⟩
theorem for_text {z : Str} {g : TG} {tb : TS} {D : Ends} {σ : L2.St} {H : Hp} (Pv : Nat → L2.St → Hp → Prop) (h0 : Pv 0 σ H)
    (turn : ∀ (i c : Nat) σ H, z.cps[i]? = some c → Pv i σ H → g (.str ⟨#[c]⟩) σ H fun σ2 H2 => tb { D with nx := Pv (i + 1), ct := Pv (i + 1), bk := D.nx } σ2 H2) (fin : ∀ σ H, Pv z.cps.size σ H → D.nx σ H) :
    ∃ W : Nat → Nat → L2.St → Hp → Prop, (∃ m, W 0 m σ H) ∧ ∀ i m σ H, W i m σ H → ((Its z).stop i H ∧ D.nx σ H) ∨ ((Its z).go i H ∧ ∃ Nx : L2.St → Hp → Prop, (∀ σ' H', Nx σ' H' → ∃ m', m' < m ∧ W (i + 1) m' σ' H') ∧
      ∀ x H', (Its z).yld i H x H' → g x σ H' fun σ2 H2 => tb { D with nx := Nx, ct := Nx, bk := D.nx } σ2 H2) := by
  refine ⟨fun i m σ H => m + i = z.cps.size ∧ Pv i σ H, ⟨z.cps.size, by simp, h0⟩, ?_⟩
  rintro i m σ H ⟨em, p⟩
  by_cases lt : i < z.cps.size
  · refine .inr ⟨lt, Pv (i + 1), fun σ' H' p' => ⟨m - 1, by omega, by omega, p'⟩, ?_⟩
    rintro x H' ⟨rfl, c, ec, rfl⟩
    exact turn i c σ H' ec p
  · have e : i = z.cps.size := by omega
    subst e
    exact .inl ⟨Nat.le_refl _, fin σ H p⟩
/-! ### beginnings: the sixty-three of them -/
def tk (z : Str) (k : Nat) : Str := ⟨(z.cps.toList.take k).toArray⟩
def begs : List Str := (List.range 6).flatMap fun k => (List.range (2 ^ k)).map fun j => tk (fig (j * 2 ^ (5 - k))) k
theorem tk_in : ∀ w, w < 32 → ∀ k, k < 6 → tk (fig w) k ∈ begs := by decide +kernel
def signB (c : Nat) : Bool := decide (c ∈ [48, 49])
def begB : V → Bool
  | .str z => decide (z.length ≤ 5) && z.cps.toList.all signB
  | _ => false
theorem begs_yes : ∀ z ∈ begs, begB (.str z) = true := by decide +kernel
theorem begs_len : ∀ z ∈ begs, z.length ≤ 5 := by decide +kernel
abbrev calledAs (nm : Str) : HO := .xd [(("called" : Str), .str nm)]
/-- a comprehension without a test -/
theorem yes_turn {σ : L2.St} {H : Hp} {A B : Hp → Prop} (h : A H) : tYes σ H fun b H3 => if b = true then A H3 else B H3 := by
  show if true = true then A H else B H
  rw [if_pos rfl]
  exact h
end VQ
namespace VQ
open PySem L2 LamX
section
variable {P : Program} {w : World} {K : PySem.W.Frag} {mg : Str → Option Value} {base : Heap}
/-- a text is no longer than can be read -/
def Short : V → Prop
  | .str z => z.length ≤ 1000
  | _ => True
def spIsBeg (K : PySem.W.Frag) : Sp := fun vs H Q _ => ∃ (x : V) (t : String), vs = [x] ∧ TyX K H x (.type t) ∧ t ∈ basics ∧ Short x ∧ ∀ H', Same H H' → Q (.bl (begB x)) H'
end
end VQ
namespace VQ
open PySem L2 LamX
def lastC (z : Str) : Nat := z.cps.toList.getLastD 0
def dropL (z : Str) : Str := ⟨z.cps.toList.dropLast.toArray⟩
def flip (c : Nat) : Str := if c = 48 then "1" else "0"
def bro (z : Str) : Str := dropL z ++ flip (lastC z)
theorem bro_cut : ∀ z ∈ begs, z ≠ ("" : Str) → atI z.cps.toList (-1) = some (lastC z) ∧ cutS z none (some (-1)) = dropL z ∧ (dropL z).length ≤ 5 ∧ (lastC z = 48 ∨ lastC z = 49) := by decide +kernel
theorem bro_in : ∀ z ∈ begs, z ≠ ("" : Str) → bro z ∈ begs ∧ bro z ≠ ("" : Str) ∧ bro (bro z) = z := by decide +kernel
theorem cut_to (z : Str) (k : Nat) : cutS z none (some (k : Int)) = tk z k := by
  unfold cutS tk
  rw [HT.sIx_none, HT.sIx_nat, List.drop_zero, Nat.sub_zero, show z.length = z.cps.toList.length by simp [Str.length]]
  by_cases le : k ≤ z.cps.toList.length
  · rw [Nat.min_eq_left le]
  · have le' : z.cps.toList.length ≤ k := by omega
    rw [Nat.min_eq_right le', List.take_of_length_le (Nat.le_refl _), List.take_of_length_le le']
end VQ
namespace VQ
open PySem L2 LamX
/-! ### beginnings by their signs -/
theorem begB_iff {z : Str} : begB (.str z) = true ↔ z.length ≤ 5 ∧ ∀ c ∈ z.cps.toList, signB c = true := by
  show (decide (z.length ≤ 5) && z.cps.toList.all signB) = true ↔ _
  rw [Bool.and_eq_true, decide_eq_true_eq, List.all_eq_true]
theorem sign_two {c : Nat} (h : signB c = true) : c = 48 ∨ c = 49 := by
  have := of_decide_eq_true h
  simpa using this
theorem begs_list : ∀ l : List Nat, l.length ≤ 5 → (∀ c ∈ l, signB c = true) → (⟨l.toArray⟩ : Str) ∈ begs
  | [], _, _ => by decide +kernel
  | [a], _, h => by
    rcases sign_two (h a (by simp)) with rfl | rfl <;> decide +kernel
  | [a, b], _, h => by
    rcases sign_two (h a (by simp)) with rfl | rfl <;> rcases sign_two (h b (by simp)) with rfl | rfl <;> decide +kernel
  | [a, b, c], _, h => by
    rcases sign_two (h a (by simp)) with rfl | rfl <;> rcases sign_two (h b (by simp)) with rfl | rfl <;> rcases sign_two (h c (by simp)) with rfl | rfl <;> decide +kernel
  | [a, b, c, d], _, h => by
    rcases sign_two (h a (by simp)) with rfl | rfl <;> rcases sign_two (h b (by simp)) with rfl | rfl <;> rcases sign_two (h c (by simp)) with rfl | rfl <;> rcases sign_two (h d (by simp)) with rfl | rfl <;> decide +kernel
  | [a, b, c, d, e], _, h => by
    rcases sign_two (h a (by simp)) with rfl | rfl <;> rcases sign_two (h b (by simp)) with rfl | rfl <;> rcases sign_two (h c (by simp)) with rfl | rfl <;> rcases sign_two (h d (by simp)) with rfl | rfl <;> rcases sign_two (h e (by simp)) with rfl | rfl <;> decide +kernel
  | _ :: _ :: _ :: _ :: _ :: _ :: _, h, _ => absurd h (by simp)
theorem beg_mem {z : Str} (h1 : z.length ≤ 5) (h2 : ∀ c ∈ z.cps.toList, signB c = true) : z ∈ begs := by
  have e : z = ⟨z.cps.toList.toArray⟩ := StrLaws.mk_of_toList rfl
  rw [e]
  exact begs_list _ (by simpa [Str.length] using h1) h2
theorem beg_signs {z : Str} (h : z ∈ begs) : ∀ c ∈ z.cps.toList, signB c = true := (begB_iff.mp (begs_yes z h)).2
theorem sign_bit (n : Nat) : signB (48 + n % 2) = true := by
  rcases Nat.mod_two_eq_zero_or_one n with h | h <;> rw [h] <;> rfl
theorem figLow_signs (w : Nat) : ∀ i, ∀ c ∈ (figLow w i).cps.toList, signB c = true
  | 0, c, m => by cases m
  | i + 1, c, m => by
    have m' : c ∈ (#[48 + w / 2 ^ i % 2] ++ (figLow w i).cps).toList := m
    rw [Array.toList_append] at m'
    rcases List.mem_append.mp m' with m | m
    · have e : c = 48 + w / 2 ^ i % 2 := by simpa using m
      rw [e]
      exact sign_bit _
    · exact figLow_signs w i c m
theorem fig_signs (w : Nat) : ∀ c ∈ (fig w).cps.toList, signB c = true := figLow_signs w 5
theorem fig_len (w : Nat) : (fig w).length = 5 := figLow_len w 5
theorem fig_in (w : Nat) : fig w ∈ begs := beg_mem (by rw [fig_len]; decide) (fig_signs w)
theorem tk_list (z : Str) (k : Nat) : (tk z k).cps.toList = z.cps.toList.take k := by simp [tk]
theorem tk_len (z : Str) (k : Nat) : (tk z k).length = min k z.length := by simp [tk, Str.length]
theorem tk_beg {z : Str} (h : ∀ c ∈ z.cps.toList, signB c = true) {k : Nat} (hk : k ≤ 5) : tk z k ∈ begs := by
  refine beg_mem (by rw [tk_len]; omega) fun c m => ?_
  rw [tk_list] at m
  exact h c (List.mem_of_mem_take m)
theorem app_signs {a b : Str} (ha : ∀ c ∈ a.cps.toList, signB c = true) (hb : ∀ c ∈ b.cps.toList, signB c = true) : ∀ c ∈ (a ++ b).cps.toList, signB c = true := fun c m => by
  rw [Str.cps_append, Array.toList_append] at m
  rcases List.mem_append.mp m with m | m
  · exact ha c m
  · exact hb c m
theorem m_tk (z : Str) (h : z ∈ begs) (k : Nat) (hk : k < 6) : tk z k ∈ begs := tk_beg (beg_signs h) (by omega)
theorem m_more (z : Str) (h : z ∈ begs) (w : Nat) (_ : w < 32) : tk (z ++ fig w) 5 ∈ begs ∧ (z ++ fig w).length ≤ 10 := by
  refine ⟨tk_beg (app_signs (beg_signs h) (fig_signs w)) (Nat.le_refl 5), ?_⟩
  rw [Str.length_append, fig_len]
  have := begs_len z h
  omega
/-- z begins with u, by the law -/
def beginsB (z u : Str) : Bool := decide (tk z u.length = u)
theorem st_eq (a b : Str) : Txt.startswith a b = beginsB a b := by
  unfold Txt.startswith beginsB
  rw [StrLaws.subAt_eq, List.drop_zero, Bool.eq_iff_iff, Bool.and_eq_true, decide_eq_true_eq, decide_eq_true_eq, beq_iff_eq]
  constructor
  · rintro ⟨_, e⟩
    have q : (tk a b.length).cps.toList = b.cps.toList := by rw [tk_list]; exact e
    exact Str.ext' (Array.toList_inj.mp q)
  · intro e
    have q : (tk a b.length).cps.toList = b.cps.toList := by rw [e]
    rw [tk_list] at q
    refine ⟨?_, q⟩
    have l := congrArg List.length q
    rw [List.length_take] at l
    have l1 : b.cps.toList.length = b.length := by simp [Str.length]
    have l2 : a.cps.toList.length = a.length := by simp [Str.length]
    omega
theorem begins_len {a b : Str} (h : beginsB a b = true) : b.length ≤ a.length := by
  have e := congrArg Str.length (of_decide_eq_true h)
  rw [tk_len] at e
  omega
theorem tk_all (a : Str) : tk a a.length = a := by
  refine Str.ext' (Array.toList_inj.mp ?_)
  rw [tk_list]
  exact List.take_of_length_le (by simp [Str.length])
theorem begins_eq {a b : Str} (h : beginsB a b = true) (l : a.length ≤ b.length) : a = b := by
  have e := of_decide_eq_true h
  rw [show b.length = a.length by have := begins_len h; omega, tk_all] at e
  exact e
theorem begins_self (a : Str) : beginsB a a = true := decide_eq_true (tk_all a)
end VQ
namespace VQ
open PySem L2 LamX
/-- the worths under a beginning -/
def underN (z : Str) : List Nat := (List.range 32).filter fun w => decide (tk (fig w) z.length = z)
def underL (z : Str) : List Int := (underN z).map Int.ofNat
theorem cut_any (z : Str) (k : Nat) : cutS z none (some (k : Int)) = tk z k := by
  unfold cutS tk
  rw [HT.sIx_none, HT.sIx_nat, List.drop_zero, Nat.sub_zero]
  have e : z.length = z.cps.toList.length := by simp [Str.length]
  rw [e]
  by_cases le : k ≤ z.cps.toList.length
  · rw [Nat.min_eq_left le]
  · rw [Nat.min_eq_right (by omega), List.take_of_length_le (Nat.le_refl _), List.take_of_length_le (by omega)]
section
variable {P : Program} {w : World} {K : PySem.W.Frag} {mg : Str → Option Value} {base : Heap}
def spUnder : Sp := fun vs H Q _ => ∃ z : Str, vs = [.str z] ∧ z.length ≤ 1000 ∧ ∀ (p : Addr) (H' : Hp), H p = none → Same H H' → H' p = some (.lst ((underL z).map V.int)) → Q (.ref p) H'
end
end VQ
namespace VQ
open PySem L2 LamX
/-! ### what the laws' own bodies share -/
theorem Tabs.keep {T : List (Addr × Str)} {H H' : Hp} {b : Addr} (t : Tabs T H) (B : Bag H b) (k : Keep b H H') : Tabs T H' := fun p hp => by
  obtain ⟨l, ns, i, r, x, n, nl, h1, _⟩ := B
  obtain ⟨ps, a1, a2, a3⟩ := t p hp
  refine ⟨ps, k.1 _ _ (fun z => ?_) a1, a2, fun pos cv hc => ?_⟩
  · rw [z, h1] at a1
    cases a1
  · obtain ⟨c, e1, e2⟩ := a3 pos cv hc
    refine ⟨c, e1, k.1 _ _ (fun z => ?_) e2⟩
    rw [z, h1] at e2
    cases e2
theorem Bag.extN {H H' : Hp} {b : Addr} (B : Bag H b) (e : ExtN H H') : Bag H' b := by
  obtain ⟨l, ns, i, r, x, n, nl, h1, h2, h3⟩ := B
  exact ⟨l, ns, i, r, x, n, nl, e _ _ h1 (fun ps z => by cases z), e _ _ h2 (fun ps z => by cases z), h3⟩
theorem passCX {X : Cx} : Passes (L2.CX X.prog X.w) X E0 := fun _ _ _ _ _ _ _ ⟨_, _, _, _, _, _, _, _, _, _, _, _, z⟩ => z.elim
/-- law's promise: a list of at most 63 ints is handed in, True comes out; Pt: the table of its code object -/
def spLaw (K : PySem.W.Frag) (Pt : Addr) : Sp := fun vs H Q _ => ∃ (a : Addr) (ns : List Int), vs = [.ref a] ∧ SqL K H a (ns.map V.int) ∧ ns.length ≤ 63 ∧ H Pt = some (.tbl #[]) ∧ ∀ H', Q (.bl true) H'
theorem extN_same {H H' : Hp} (s : Same H H') : ExtN H H' := fun b o h _ => s b o h
end VQ
namespace VQ
open PySem L2 LamX
/-! ### data that is compared -/
def Lay (n : Nat) (d : PyData) : Prop := d.canLay0 = true ∧ d.depth ≤ n
theorem lay_all {n : Nat} : ∀ {ds : List PyData}, (∀ d ∈ ds, Lay n d) → PyData.canLayAll0 ds = true ∧ PyData.depthAll ds ≤ n
  | [], _ => by
    unfold PyData.canLayAll0 PyData.depthAll
    exact ⟨rfl, Nat.zero_le _⟩
  | d :: ds, h => by
    obtain ⟨a, c⟩ := h d List.mem_cons_self
    obtain ⟨a', c'⟩ := lay_all (ds := ds) fun e m => h e (List.mem_cons_of_mem _ m)
    unfold PyData.canLayAll0 PyData.depthAll
    exact ⟨by rw [a, a']; rfl, Nat.max_le.mpr ⟨c, c'⟩⟩
theorem Lay.list {n : Nat} {ds : List PyData} (h : ∀ d ∈ ds, Lay n d) : Lay (n + 1) (.list ds) := by
  obtain ⟨a, c⟩ := lay_all h
  unfold Lay PyData.canLay0 PyData.depth
  exact ⟨a, Nat.succ_le_succ c⟩
theorem Lay.tuple {n : Nat} {ds : List PyData} (h : ∀ d ∈ ds, Lay n d) : Lay (n + 1) (.tuple ds) := by
  obtain ⟨a, c⟩ := lay_all h
  unfold Lay PyData.canLay0 PyData.depth
  exact ⟨a, Nat.succ_le_succ c⟩
theorem Lay.int (n : Nat) (i : Int) : Lay n (.int i) := by
  unfold Lay PyData.canLay0 PyData.depth
  exact ⟨rfl, Nat.zero_le _⟩
theorem Lay.str (n : Nat) {z : Str} (h : ∀ c ∈ z.cps.toList, c < 1114112) : Lay n (.str z) := by
  unfold Lay PyData.canLay0 PyData.depth
  refine ⟨?_, Nat.zero_le _⟩
  show z.cps.all (· < 0x110000) = true
  rw [← Array.all_toList, List.all_eq_true]
  exact fun c m => decide_eq_true (h c m)
theorem Lay.shaped {n : Nat} {d : PyData} (h : Lay n d) (hn : n ≤ 64) : SeqAt.shaped d = true := by
  unfold SeqAt.shaped
  rw [h.1, decide_eq_true (Nat.le_trans h.2 hn)]
  rfl
theorem lay_ints (ks : List Int) : Lay 1 (.list (ks.map PyData.int)) := .list fun d m => by
  obtain ⟨k, _, rfl⟩ := List.mem_map.mp m
  exact .int _ _
theorem dp_ints {K : PySem.W.Frag} {H : Hp} : ∀ ks : List Int, DpAll K H (ks.map V.int) (ks.map PyData.int)
  | [] => .nil
  | k :: ks => .cons (.int k) (dp_ints ks)
theorem dp_strs {K : PySem.W.Frag} {H : Hp} : ∀ zs : List Str, DpAll K H (zs.map V.str) (zs.map PyData.str)
  | [] => .nil
  | z :: zs => .cons (.str z) (dp_strs zs)
theorem eqv_nil (ds : List PyData) : PyData.eqv (.list ds) (.list []) = ds.isEmpty := by
  cases ds with
  | nil => rfl
  | cons d ds => rfl
end VQ
namespace VQ
open PySem L2 LamX
/-! ### things, rooms, boxes -/
/-- something of the plain kinds -/
def Part (K : PySem.W.Frag) (H : Hp) (x : V) : Prop := ∃ t, TyX K H x (.type t) ∧ t ∈ basics ∧ Short x
/-- a thing, and its items where it is a tuple -/
inductive Thing (K : PySem.W.Frag) (H : Hp) : V → Option (List V) → Prop
  | tup {a : Addr} {xs : List V} (h : H a = some (.tup xs)) (hp : ∀ x ∈ xs, Part K H x) (hl : xs.length ≤ 1000) : Thing K H (.ref a) (some xs)
  | oth {x : V} {t : String} (ty : TyX K H x (.type t)) (m : t ∈ basics) (nt : t ≠ "tuple") : Thing K H x none
def placesO : Option (List V) → Bool
  | none => false
  | some xs => decide (1 ≤ xs.length) && decide (xs.length ≤ 5)
def allO (p : V → Bool) : Option (List V) → Bool
  | none => false
  | some xs => placesO (some xs) && xs.all p
section
variable {P : Program} {w : World} {K : PySem.W.Frag} {mg : Str → Option Value} {base : Heap}
theorem Part.same {H H' : Hp} {x : V} (s : Same H H') (h : Part K H x) : Part K H' x := by
  obtain ⟨t, a, b, c⟩ := h
  exact ⟨t, TyX.basic_same s a b, b, c⟩
theorem Part.str {H : Hp} (z : Str) (h : z.length ≤ 1000) : Part K H (.str z) := ⟨"str", .base (.str z), by decide, h⟩
theorem Part.int {H : Hp} (i : Int) : Part K H (.int i) := ⟨"int", .base (.int i), by decide, trivial⟩
theorem Thing.same {H H' : Hp} {x : V} {o : Option (List V)} (s : Same H H') (h : Thing K H x o) : Thing K H' x o := by
  cases h with
  | tup h hp hl => exact .tup (s _ _ h) (fun x m => Part.same s (hp x m)) hl
  | oth ty m nt => exact .oth (TyX.basic_same s ty m) m nt
def spIsPlaces (K : PySem.W.Frag) : Sp := fun vs H Q _ => ∃ (x : V) (o : Option (List V)), vs = [x] ∧ Thing K H x o ∧ Q (.bl (placesO o)) H
/-- is_box, is_point -/
def spIs (K : PySem.W.Frag) (p : V → Bool) : Sp := fun vs H Q _ => ∃ (x : V) (o : Option (List V)), vs = [x] ∧ Thing K H x o ∧ ∀ H', Same H H' → Q (.bl (allO p o)) H'
/-- what a comprehension over a tuple that asks each item collects -/
theorem take_snoc {α β : Type} (g : α → β) {xs : List α} {i : Nat} {x : α} (h : xs[i]? = some x) : (xs.take i).map g ++ [g x] = (xs.take (i + 1)).map g := by
  rw [List.take_add_one, h, List.map_append]
  rfl
/-- need_box, need_point -/
def spNeedT (K : PySem.W.Frag) (p : V → Bool) (C : Addr) (nm : Str) : Sp := fun vs H Q E => ∃ (x : V) (o : Option (List V)), vs = [x] ∧ Thing K H x o ∧
  (allO p o = true → ∀ H', Same H H' → Q .non H') ∧ (allO p o = false → ∀ H' d, Same H H' → H' d = none → E (.ref C) (some d) (upd H' d (calledAs nm)))
theorem map_get {zs : List Str} {i : Nat} {x : V} (h : (zs.map V.str)[i]? = some x) : ∃ z, zs[i]? = some z ∧ x = .str z := by
  rw [List.getElem?_map] at h
  cases e : zs[i]? with
  | none => rw [e] at h; cases h
  | some z =>
    rw [e] at h
    exact ⟨z, rfl, (Option.some.inj h).symm⟩
end
end VQ
namespace VQ
open PySem L2 LamX
/-! ### names of a comprehension that the def's own state leaves out -/
theorem Inv.more {X : Cx} {pins : List (Addr × Obj)} {σ : L2.St} {H : Hp} {s : Shared} (ys : List Str) (I : Inv X pins σ H s) : Inv { X with N := X.N ++ ys } pins (σ ++ List.replicate ys.length none) H s where
  ok := ⟨I.ok.mod, I.ok.kind, I.ok.glob, I.ok.blt, I.ok.above, I.ok.inj, I.ok.has, I.ok.cab, I.ok.hd, I.ok.frames, I.ok.stk, I.ok.exf, I.ok.bs, I.ok.bsz, I.ok.noex, I.ok.exfs, I.ok.funs, I.ok.frf⟩
  os := I.os
  bare := I.bare
  base := I.base
  loc := by
    obtain ⟨m, h1, h2⟩ := I.loc
    refine ⟨m, h1, fun i x v e1 e2 e3 => ?_⟩
    by_cases lt : i < σ.length
    · rw [List.getElem?_append_left lt] at e2
      have e1 : (X.N ++ ys)[i]? = some x := e1
      rw [List.getElem?_append_left (by rw [← I.len]; exact lt)] at e1
      exact h2 i x v e1 e2 e3
    · rw [List.getElem?_append_right (by omega), List.getElem?_replicate] at e2
      split at e2 <;> cases e2
  cell := I.cell
  free := I.free
  freeC := I.freeC
  pin := I.pin
  hok := I.hok
  len := by
    show _ = (X.N ++ ys).length
    rw [List.length_append, List.length_append, List.length_replicate, I.len]
theorem Inv.less {X : Cx} {pins : List (Addr × Obj)} {σ : L2.St} {H : Hp} {s : Shared} {ys : List Str} (len : σ.length = X.N.length) (I : Inv { X with N := X.N ++ ys } pins (σ ++ List.replicate ys.length none) H s) : Inv X pins σ H s where
  ok := ⟨I.ok.mod, I.ok.kind, I.ok.glob, I.ok.blt, I.ok.above, I.ok.inj, I.ok.has, I.ok.cab, I.ok.hd, I.ok.frames, I.ok.stk, I.ok.exf, I.ok.bs, I.ok.bsz, I.ok.noex, I.ok.exfs, I.ok.funs, I.ok.frf⟩
  os := I.os
  bare := I.bare
  base := I.base
  loc := by
    obtain ⟨m, h1, h2⟩ := I.loc
    refine ⟨m, h1, fun i x v e1 e2 e3 => h2 i x v ?_ ?_ e3⟩
    · show (X.N ++ ys)[i]? = some x
      rw [List.getElem?_append_left (List.getElem?_eq_some_iff.mp e1).1]
      exact e1
    · rw [List.getElem?_append_left (List.getElem?_eq_some_iff.mp e2).1]
      exact e2
  cell := I.cell
  free := I.free
  freeC := I.freeC
  pin := I.pin
  hok := I.hok
  len := len
def tMore (n : Nat) (t : TE) : TE := fun σ H Q => t (σ ++ List.replicate n none) H Q
theorem pe_more {X : Cx} {e : Expr} {t : TE} (ys : List Str) (h : PE { X with N := X.N ++ ys } e t) : PE X e (tMore ys.length t) := by
  refine ⟨fun pins s σ H Q I hw => ?_⟩
  refine wpAny_mono (h.run pins s _ H Q (Inv.more ys I) hw) ?_ fun _ _ z => z
  rintro v s1 ⟨x, H1, I1, r1, q1⟩
  exact ⟨x, H1, Inv.less I.len I1, r1, q1⟩
end VQ
namespace VQ
open PySem L2 LamX
section
variable {P : Program} {w : World} {K : PySem.W.Frag} {mg : Str → Option Value} {base : Heap}
def spAlikeT (K : PySem.W.Frag) (C : Addr) : Sp := fun vs H Q E => ∃ (a b : Addr) (xs ys : List V), vs = [.ref a, .ref b] ∧ H a = some (.tup xs) ∧ H b = some (.tup ys) ∧
  (xs.length = ys.length → Q .non H) ∧ (xs.length ≠ ys.length → ∀ d, H d = none → E (.ref C) (some d) (upd H d (calledAs "Unlike")))
end
end VQ
namespace VQ
open PySem L2 LamX
/-! ### what two boxes are asked -/
/-- the places of a box -/
structure IsBoxS (zs : List Str) : Prop where
  beg : ∀ z ∈ zs, begB (.str z) = true
  lo : 1 ≤ zs.length
  hi : zs.length ≤ 5
theorem allO_box {o : Option (List V)} (h : allO begB o = true) : ∃ zs : List Str, o = some (zs.map V.str) ∧ IsBoxS zs := by
  cases o with
  | none => cases h
  | some xs =>
    have h' : (placesO (some xs) && xs.all begB) = true := h
    rw [Bool.and_eq_true] at h'
    obtain ⟨h1, h2⟩ := h'
    have h1' : (decide (1 ≤ xs.length) && decide (xs.length ≤ 5)) = true := h1
    rw [Bool.and_eq_true, decide_eq_true_eq, decide_eq_true_eq] at h1'
    have key : ∀ l : List V, l.all begB = true → ∃ zs : List Str, l = zs.map V.str ∧ ∀ z ∈ zs, begB (.str z) = true := by
      intro l
      induction l with
      | nil => exact fun _ => ⟨[], rfl, fun z m => by cases m⟩
      | cons x l ih =>
        intro q
        rw [List.all_cons, Bool.and_eq_true] at q
        obtain ⟨zs, e, a⟩ := ih q.2
        cases x with
        | str z =>
          refine ⟨z :: zs, by rw [e]; rfl, fun u m => ?_⟩
          rcases List.mem_cons.mp m with rfl | m
          · exact q.1
          · exact a u m
        | _ => exact absurd q.1 (by intro z; cases z)
    obtain ⟨zs, rfl, a⟩ := key xs h2
    rw [List.length_map] at h1'
    exact ⟨zs, rfl, a, h1'.1, h1'.2⟩
theorem box_allO {zs : List Str} (h : IsBoxS zs) : allO begB (some (zs.map V.str)) = true := by
  show ((decide (1 ≤ (zs.map V.str).length) && decide ((zs.map V.str).length ≤ 5)) && (zs.map V.str).all begB) = true
  rw [List.length_map, decide_eq_true h.lo, decide_eq_true h.hi, List.all_map, Bool.true_and, Bool.true_and]
  exact List.all_eq_true.mpr fun z m => h.beg z m
theorem beg_len {z : Str} (h : begB (.str z) = true) : z.length ≤ 5 := by
  have h' : (decide (z.length ≤ 5) && z.cps.toList.all signB) = true := h
  rw [Bool.and_eq_true, decide_eq_true_eq] at h'
  exact h'.1
/-- a.startswith(b) -/
def rStarts : V → List V → Hp → VK → Prop := fun x xs H Q => ∃ a b, x = .str a ∧ xs = [.str b] ∧ Q (.bl (Txt.startswith a b)) H
/-- a turn of a comprehension over zip: the lists so far -/
theorem zip_snoc {α β γ : Type} (g : α → β → γ) {zs : List α} {ws : List β} {i : Nat} {z : α} {w : β} (hz : zs[i]? = some z) (hw : ws[i]? = some w) : List.zipWith g (zs.take i) (ws.take i) ++ [g z w] = List.zipWith g (zs.take (i + 1)) (ws.take (i + 1)) := by
  have lz : i < zs.length := (List.getElem?_eq_some_iff.mp hz).1
  have lw : i < ws.length := (List.getElem?_eq_some_iff.mp hw).1
  rw [List.take_add_one, List.take_add_one, hz, hw, List.zipWith_append (by rw [List.length_take, List.length_take]; omega)]
  rfl
end VQ
namespace VQ
open PySem L2 LamX
section
variable {P : Program} {w : World} {K : PySem.W.Frag} {mg : Str → Option Value} {base : Heap}
/-- a new tuple whose items are drawn -/
def spTupDraw (ok : V → Prop) : Sp := fun vs H Q _ => ∃ (b : Addr) (n : Nat), vs = [.ref b, .int (n : Int)] ∧ Bag H b ∧ n ≤ 5 ∧ ∀ (a : Addr) (xs : List V) (H' : Hp), xs.length = n → (∀ x ∈ xs, ok x) → H a = none → H' a = some (.tup xs) → Bag H' b → Keep b H H' → Q (.ref a) H'
/-- is a text of begs -/
def IsBeg (x : V) : Prop := ∃ z, x = .str z ∧ z ∈ begs
end
end VQ
namespace VQ
open PySem L2 LamX
/-- a tuple of begs -/
def BoxAt (H : Hp) (a : Addr) (zs : List Str) : Prop := H a = some (.tup (zs.map V.str)) ∧ (∀ z ∈ zs, z ∈ begs) ∧ zs.length ≤ 5
theorem begs_of : ∀ {xs : List V}, (∀ x ∈ xs, IsBeg x) → ∃ zs : List Str, xs = zs.map V.str ∧ ∀ z ∈ zs, z ∈ begs
  | [], _ => ⟨[], rfl, fun z m => by cases m⟩
  | x :: xs, h => by
    obtain ⟨z, rfl, hz⟩ := h x List.mem_cons_self
    obtain ⟨zs, rfl, a⟩ := begs_of (xs := xs) fun y m => h y (List.mem_cons_of_mem _ m)
    refine ⟨z :: zs, rfl, fun u m => ?_⟩
    rcases List.mem_cons.mp m with rfl | m
    · exact hz
    · exact a u m
section
variable {K : PySem.W.Frag} {H H' : Hp}
theorem BoxAt.same {a : Addr} {zs : List Str} (h : BoxAt H a zs) (s : Same H H') : BoxAt H' a zs := ⟨s _ _ h.1, h.2⟩
theorem BoxAt.keep {a b : Addr} {zs : List Str} (h : BoxAt H a zs) (B : Bag H b) (k : Keep b H H') : BoxAt H' a zs := ⟨k.tup B h.1, h.2⟩
theorem BoxAt.extN {a : Addr} {zs : List Str} (h : BoxAt H a zs) (e : ExtN H H') : BoxAt H' a zs := ⟨e _ _ h.1 (fun ps z => by cases z), h.2⟩
theorem BoxAt.thing {a : Addr} {zs : List Str} (h : BoxAt H a zs) : Thing K H (.ref a) (some (zs.map V.str)) := by
  refine .tup h.1 (fun x m => ?_) (by rw [List.length_map]; exact Nat.le_trans h.2.2 (by decide))
  obtain ⟨z, mz, rfl⟩ := List.mem_map.mp m
  exact Part.str z (Nat.le_trans (begs_len z (h.2.1 z mz)) (by decide))
theorem BoxAt.is {a : Addr} {zs : List Str} (h : BoxAt H a zs) (h1 : 1 ≤ zs.length) : IsBoxS zs := ⟨fun z m => begs_yes z (h.2.1 z m), h1, h.2.2⟩
theorem strs_inj : ∀ {zs ws : List Str}, zs.map V.str = ws.map V.str → zs = ws
  | [], [], _ => rfl
  | [], _ :: _, h => by cases h
  | _ :: _, [], h => by cases h
  | z :: zs, w :: ws, h => by
    rw [List.map_cons, List.map_cons] at h
    injection h with h1 h2
    injection h1 with h1
    rw [h1, strs_inj h2]
/-! ### likeness -/
inductive Alikes (H : Hp) (n : Nat) : List V → List V → Prop
  | nil : Alikes H n [] []
  | cons {x y : V} {xs ys : List V} (h : Alike H n x y) (t : Alikes H n xs ys) : Alikes H n (x :: xs) (y :: ys)
theorem alike_strs {n : Nat} {a b : Addr} {us : List Str} (ha : H a = some (.tup (us.map V.str))) (hb : H b = some (.tup (us.map V.str))) (hl : us.length ≤ 1000) : Alike H (n + 1) (.ref a) (.ref b) := by
  refine .tup ha hb rfl (by rw [List.length_map]; exact hl) fun i x y hx hy => ?_
  rw [hx] at hy
  cases hy
  obtain ⟨z, _, rfl⟩ := map_get hx
  exact .str n z
theorem alike_list {n : Nat} {a b : Addr} {xs ys : List V} (ha : H a = some (.lst xs)) (hb : H b = some (.lst ys)) (hl : ys.length ≤ 1000) (h : Alikes H n xs ys) : Alike H (n + 1) (.ref a) (.ref b) := by
  have key : ∀ {xs ys : List V}, Alikes H n xs ys → xs.length = ys.length ∧ ∀ (i : Nat) (x y : V), xs[i]? = some x → ys[i]? = some y → Alike H n x y := by
    intro xs ys h
    induction h with
    | nil => exact ⟨rfl, fun i x y hx => by cases hx⟩
    | cons r _ ih =>
      refine ⟨by rw [List.length_cons, List.length_cons, ih.1], fun i x y hx hy => ?_⟩
      cases i with
      | zero =>
        cases hx
        cases hy
        exact r
      | succ i => exact ih.2 i x y hx hy
  obtain ⟨e, g⟩ := key h
  exact .lst ha hb e hl g
/-! ### a tuple from a place on -/
theorem cut_from (xs : List V) {k : Nat} (h : k ≤ xs.length) : cutV xs (some (k : Int)) none = xs.drop k := by
  unfold cutV
  rw [HT.sIx_nat, HT.sIx_none, Nat.min_eq_left h]
  exact List.take_of_length_le (by rw [List.length_drop]; omega)
theorem from_part {n k : Nat} (h1 : 1 ≤ k) (h2 : k ≤ n) : ¬ (HT.sIx n 0 (some (k : Int)) = 0 ∧ HT.sIx n n none = n) := fun z => by
  rw [HT.sIx_nat, Nat.min_eq_left h2] at z
  omega
end
end VQ
namespace VQ
open PySem L2 LamX
/-! ### things that are neither boxes nor points -/
/-- what a plain thing's kind lives on -/
def Held (H H' : Hp) : Prop := ∀ a o, H a = some o → (∀ ps, o ≠ .tbl ps) → H' a = some o ∨ ∃ xs ys, o = .lst xs ∧ H' a = some (.lst ys)
theorem Same.held {H H' : Hp} (s : Same H H') : Held H H' := fun a o h _ => .inl (s a o h)
theorem ExtN.held {H H' : Hp} (s : ExtN H H') : Held H H' := fun a o h n => .inl (s a o h n)
theorem Keep.held {b : Addr} {H H' : Hp} (k : Keep b H H') (B : Bag H b) (B' : Bag H' b) : Held H H' := fun a o h _ => by
  by_cases e : a = b
  · obtain ⟨l, ns, i, r, x, n, nl, h1, _⟩ := B
    obtain ⟨l', ns', i', r', x', n', nl', g1, _⟩ := B'
    rw [e, h1] at h
    exact .inr ⟨_, _, (Option.some.inj h).symm, by rw [e]; exact g1⟩
  · exact .inl (k.1 a o e h)
section
variable {P : Program} {w : World} {K : PySem.W.Frag} {mg : Str → Option Value} {base : Heap}
theorem TyX.basic_held {H H' : Hp} {x : V} {t : String} (s : Held H H') (ty : TyX K H x (.type t)) (m : t ∈ basics) : TyX K H' x (.type t) := by
  generalize e : Value.type t = tv at ty
  cases ty with
  | base b =>
    cases b with
    | non => exact .base .non
    | bl y => exact .base (.bl y)
    | int i => exact .base (.int i)
    | str y => exact .base (.str y)
    | flt y => exact .base (.flt y)
    | lst q =>
      rcases s _ _ q (fun ps z => by cases z) with q' | ⟨_, _, _, q'⟩
      · exact .base (.lst q')
      · exact .base (.lst q')
    | frz q =>
      rcases s _ _ q (fun ps z => by cases z) with q' | ⟨_, _, z, _⟩
      · exact .base (.frz q')
      · cases z
    | tup q =>
      rcases s _ _ q (fun ps z => by cases z) with q' | ⟨_, _, z, _⟩
      · exact .base (.tup q')
      · cases z
    | dK q => cases e; exact absurd m (by decide)
    | dT q => cases e; exact absurd m (by decide)
    | ins _ _ _ _ _ _ => cases e
  | byt y => exact .byt y
  | set q => cases e; exact absurd m (by decide)
  | kList q c => exact .kList q c
  | kTuple q c => exact .kTuple q c
  | kDict q c => exact .kDict q c
  | fTuple q =>
    rcases s _ _ q (fun ps z => by cases z) with q' | ⟨_, _, z, _⟩
    · exact .fTuple q'
    · cases z
  | fDict q => cases e; exact absurd m (by decide)
theorem Part.held {H H' : Hp} {x : V} (s : Held H H') (h : Part K H x) : Part K H' x := by
  obtain ⟨t, a, b, c⟩ := h
  exact ⟨t, TyX.basic_held s a b, b, c⟩
theorem Thing.held {H H' : Hp} {x : V} {o : Option (List V)} (s : Held H H') (h : Thing K H x o) : Thing K H' x o := by
  cases h with
  | tup h hp hl =>
    rcases s _ _ h (fun ps z => by cases z) with q' | ⟨_, _, z, _⟩
    · exact .tup q' (fun x m => Part.held s (hp x m)) hl
    · cases z
  | oth ty m nt => exact .oth (TyX.basic_held s ty m) m nt
/-- no box and no point -/
def Bad (K : PySem.W.Frag) (H : Hp) (v : V) : Prop := ∃ o, Thing K H v o ∧ allO begB o = false ∧ allO worthB o = false
theorem Bad.held {H H' : Hp} {x : V} (s : Held H H') (h : Bad K H x) : Bad K H' x := by
  obtain ⟨o, a, b, c⟩ := h
  exact ⟨o, a.held s, b, c⟩
theorem Bad.same {H H' : Hp} {x : V} (s : Same H H') (h : Bad K H x) : Bad K H' x := h.held (Same.held s)
theorem Bad.oth {H : Hp} {x : V} {t : String} (ty : TyX K H x (.type t)) (m : t ∈ basics) (nt : t ≠ "tuple") : Bad K H x := ⟨none, .oth ty m nt, rfl, rfl⟩
theorem Bad.tup {H : Hp} {a : Addr} {xs : List V} (h : H a = some (.tup xs)) (hp : ∀ x ∈ xs, Part K H x) (hl : xs.length ≤ 1000) (n1 : allO begB (some xs) = false) (n2 : allO worthB (some xs) = false) : Bad K H (.ref a) := ⟨_, .tup h hp hl, n1, n2⟩
/-- as many times the same -/
theorem allO_rep {p : V → Bool} {x : V} {n : Nat} (h : p x = false) (hn : 1 ≤ n) : allO p (some (List.replicate n x)) = false := by
  show (_ && (List.replicate n x).all p) = false
  obtain ⟨m, rfl⟩ : ∃ m, n = m + 1 := ⟨n - 1, by omega⟩
  rw [List.replicate_succ, List.all_cons, h, Bool.false_and, Bool.and_false]
theorem allO_len {p : V → Bool} {xs : List V} (h : ¬ (1 ≤ xs.length ∧ xs.length ≤ 5)) : allO p (some xs) = false := by
  show ((decide (1 ≤ xs.length) && decide (xs.length ≤ 5)) && _) = false
  by_cases q : 1 ≤ xs.length
  · rw [decide_eq_false (show ¬ xs.length ≤ 5 from fun z => h ⟨q, z⟩), Bool.and_false, Bool.false_and]
  · rw [decide_eq_false q, Bool.false_and, Bool.false_and]
theorem Bad.rep {H : Hp} {a : Addr} {x : V} {n : Nat} (h : H a = some (.tup (List.replicate n x))) (hp : Part K H x) (h1 : 1 ≤ n) (h2 : n ≤ 1000) (n1 : begB x = false) (n2 : worthB x = false) : Bad K H (.ref a) :=
  .tup h (fun y m => by rw [List.eq_of_mem_replicate m]; exact hp) (by rw [List.length_replicate]; exact h2) (allO_rep n1 h1) (allO_rep n2 h1)
theorem flat_one {n : Nat} {x : V} : (List.replicate n [x]).flatten = List.replicate n x := by
  induction n with
  | zero => rfl
  | succ n ih => rw [List.replicate_succ, List.flatten_cons, ih, List.replicate_succ]; rfl
/-- (x,) * n -/
theorem rd_times {x : V} {n : Nat} {Q : VK} {H : Hp} {σ : L2.St} {i : Nat} (hσ : σ[i]? = some (some (.int (n : Int)))) (n1 : 1 ≤ n) (n2 : n ≤ 1000)
    (k : ∀ (p : Addr) (H' : Hp), Same H H' → H p = none → H' p = some (.tup (List.replicate n x)) → Q (.ref p) H') : tOp (rTimes K) (tTup (tCons (tC x) tNil)) (tVar i) σ H Q := by
  refine ⟨by show 1 ≤ sizeLine; decide, fun p hp => ⟨_, hσ, p, n, [x], rfl, rfl, SqT.of upd_same, by simp, by omega, by omega, by show 1 ≤ 1000; decide, fun e => ?_, fun _ q hq => ?_⟩⟩
  · have e' : n = 1 := by omega
    subst e'
    exact k p _ (same_new hp) hp upd_same
  · have s2 := (same_new (o := .tup [x]) hp).trans (same_new (o := .tup (List.replicate (n : Int).toNat [x]).flatten) hq)
    refine k q _ s2 ((same_new (o := .tup [x]) hp).free hq) ?_
    rw [upd_same, flat_one]
    rfl
theorem rd_six {x : V} {Q : VK} {H : Hp} {σ : L2.St} (k : ∀ (p : Addr) (H' : Hp), Same H H' → H p = none → H' p = some (.tup (List.replicate 6 x)) → Q (.ref p) H') : tOp (rTimes K) (tTup (tCons (tC x) tNil)) (tC (.int 6)) σ H Q := by
  obtain ⟨a, c⟩ := rd_times (K := K) (x := x) (σ := [some (.int ((6 : Nat) : Int))]) (i := 0) rfl (by decide) (by decide) k
  refine ⟨a, fun p hp => ?_⟩
  obtain ⟨v, e, r⟩ := c p hp
  cases e
  exact r
def spOddThing (K : PySem.W.Frag) : Sp := fun vs H Q _ => ∃ (b : Addr) (n : Nat), vs = [.ref b, .int (n : Int)] ∧ Bag H b ∧ 1 ≤ n ∧ n ≤ 5 ∧ ∀ (v : V) (H' : Hp), Bad K H' v → Bag H' b → Keep b H H' → Q v H'
end
end VQ
namespace VQ
open PySem L2 LamX
/-- a worth -/
def IsW (x : V) : Prop := ∃ n : Nat, x = .int (n : Int) ∧ n < 32
abbrev numV (n : Nat) : V := .int (n : Int)
theorem worths_of : ∀ {xs : List V}, (∀ x ∈ xs, IsW x) → ∃ ns : List Nat, xs = ns.map numV ∧ ∀ n ∈ ns, n < 32
  | [], _ => ⟨[], rfl, fun z m => by cases m⟩
  | x :: xs, h => by
    obtain ⟨n, rfl, hn⟩ := h x List.mem_cons_self
    obtain ⟨ns, rfl, a⟩ := worths_of (xs := xs) fun y m => h y (List.mem_cons_of_mem _ m)
    refine ⟨n :: ns, rfl, fun u m => ?_⟩
    rcases List.mem_cons.mp m with rfl | m
    · exact hn
    · exact a u m
theorem num_get {ns : List Nat} {i : Nat} {x : V} (h : (ns.map numV)[i]? = some x) : ∃ n, ns[i]? = some n ∧ x = numV n := by
  rw [List.getElem?_map] at h
  cases e : ns[i]? with
  | none => rw [e] at h; cases h
  | some z =>
    rw [e] at h
    exact ⟨z, rfl, (Option.some.inj h).symm⟩
end VQ
namespace VQ
open PySem L2 LamX
section
variable {P : Program} {w : World} {K : PySem.W.Frag} {mg : Str → Option Value} {base : Heap}
/-- the box of a point, by the law -/
def spBoxOf : Sp := fun vs H Q _ => ∃ (a : Addr) (ns : List Nat), vs = [.ref a] ∧ H a = some (.tup (ns.map numV)) ∧ ns.length ≤ 1000 ∧ ∀ (p : Addr) (H' : Hp), H p = none → Same H H' → H' p = some (.tup ((ns.map fig).map V.str)) → Q (.ref p) H'
end
end VQ
namespace VQ
open PySem L2 LamX
/-! ### points -/
/-- the places of a point -/
structure IsPtS (ns : List Nat) : Prop where
  lt : ∀ n ∈ ns, n < 32
  lo : 1 ≤ ns.length
  hi : ns.length ≤ 5
theorem worthB_num {x : V} (h : worthB x = true) : ∃ n : Nat, x = numV n ∧ n < 32 := by
  cases x with
  | int i =>
    have e : (decide (0 ≤ i) && decide (i < 32)) = true := h
    have hi : 0 ≤ i ∧ i < 32 := by simpa using e
    obtain ⟨n, rfl⟩ := Int.eq_ofNat_of_zero_le hi.1
    exact ⟨n, rfl, by omega⟩
  | _ => cases h
theorem num_worthB {n : Nat} (h : n < 32) : worthB (numV n) = true := by
  show (decide (0 ≤ (n : Int)) && decide ((n : Int) < 32)) = true
  rw [decide_eq_true (by omega), decide_eq_true (by omega)]
  rfl
theorem allO_point {o : Option (List V)} (h : allO worthB o = true) : ∃ ns : List Nat, o = some (ns.map numV) ∧ IsPtS ns := by
  cases o with
  | none => cases h
  | some xs =>
    have h' : (placesO (some xs) && xs.all worthB) = true := h
    rw [Bool.and_eq_true] at h'
    obtain ⟨h1, h2⟩ := h'
    have h1' : (decide (1 ≤ xs.length) && decide (xs.length ≤ 5)) = true := h1
    rw [Bool.and_eq_true, decide_eq_true_eq, decide_eq_true_eq] at h1'
    obtain ⟨ns, rfl, hn⟩ := worths_of (xs := xs) fun x m => worthB_num (List.all_eq_true.mp h2 x m)
    rw [List.length_map] at h1'
    exact ⟨ns, rfl, hn, h1'.1, h1'.2⟩
theorem point_allO {ns : List Nat} (h : IsPtS ns) : allO worthB (some (ns.map numV)) = true := by
  show ((decide (1 ≤ (ns.map numV).length) && decide ((ns.map numV).length ≤ 5)) && (ns.map numV).all worthB) = true
  rw [List.length_map, decide_eq_true h.lo, decide_eq_true h.hi, List.all_map, Bool.true_and, Bool.true_and]
  exact List.all_eq_true.mpr fun n m => num_worthB (h.lt n m)
section
variable {P : Program} {w : World} {K : PySem.W.Frag} {mg : Str → Option Value} {base : Heap}
/-! ### whether a box holds a point -/
def holdsB (zs : List Str) (ns : List Nat) : Bool := (List.zipWith (fun n z => beginsB (fig n) z) ns zs).all id
def spHolds (K : PySem.W.Frag) (CB CP CU : Addr) : Sp := fun vs H Q E => ∃ (x y : V) (o p : Option (List V)), vs = [x, y] ∧ Thing K H x o ∧ Thing K H y p ∧
  (∀ (zs : List Str) (ns : List Nat), o = some (zs.map V.str) → p = some (ns.map numV) → IsBoxS zs → IsPtS ns → zs.length = ns.length → ∀ H', Same H H' → Q (.bl (holdsB zs ns)) H') ∧
  (allO begB o = false → ∀ H' d, Same H H' → H' d = none → E (.ref CB) (some d) (upd H' d (calledAs "BadBox"))) ∧
  (allO begB o = true → allO worthB p = false → ∀ H' d, Same H H' → H' d = none → E (.ref CP) (some d) (upd H' d (calledAs "BadPoint"))) ∧
  (∀ (zs : List Str) (ns : List Nat), o = some (zs.map V.str) → p = some (ns.map numV) → IsBoxS zs → IsPtS ns → zs.length ≠ ns.length → ∀ H' d, Same H H' → H' d = none → E (.ref CU) (some d) (upd H' d (calledAs "Unlike")))
end
end VQ
namespace VQ
open PySem L2 LamX
section
variable {P : Program} {w : World} {K : PySem.W.Frag} {mg : Str → Option Value} {base : Heap}
/-! ### the box of a point -/
def spBoxOfP (K : PySem.W.Frag) (CP : Addr) : Sp := fun vs H Q E => ∃ (x : V) (o : Option (List V)), vs = [x] ∧ Thing K H x o ∧
  (∀ ns : List Nat, o = some (ns.map numV) → IsPtS ns → ∀ (p : Addr) (H' : Hp), H p = none → Same H H' → H' p = some (.tup ((ns.map fig).map V.str)) → Q (.ref p) H') ∧
  (allO worthB o = false → ∀ H' d, Same H H' → H' d = none → E (.ref CP) (some d) (upd H' d (calledAs "BadPoint")))
/-! ### whole -/
def spWhole : Sp := fun vs H Q _ => ∃ n : Nat, vs = [.int (n : Int)] ∧ 1 ≤ n ∧ n ≤ 1000 ∧ ∀ (p : Addr) (H' : Hp), Same H H' → H p = none → H' p = some (.tup (List.replicate n (.str ""))) → Q (.ref p) H'
end
end VQ
namespace VQ
open PySem L2 LamX
/-! ### the shortest beginning -/
/-- none of the worths lies under the first k signs of n -/
def sfree (n : Nat) (ms : List Nat) (k : Nat) : Bool := !(ms.any fun m => beginsB (fig m) (tk (fig n) k))
/-- the least one of 0 .. 5 of which f is true, from above -/
def dueF (f : Nat → Bool) (v : Nat → V) : Nat → V
  | 0 => .non
  | i + 1 => if f (5 - i) = true then v (5 - i) else dueF f v i
theorem due_first {f : Nat → Bool} {v : Nat → V} {i : Nat} (no : ∀ j, j < i → f j = false) (yes : f i = true) (h : i < 6) : dueF f v 6 = v i := by
  have e : dueF f v 6 = if f 0 = true then v 0 else if f 1 = true then v 1 else if f 2 = true then v 2 else if f 3 = true then v 3 else if f 4 = true then v 4 else if f 5 = true then v 5 else .non := rfl
  rw [e]
  have six : i = 0 ∨ i = 1 ∨ i = 2 ∨ i = 3 ∨ i = 4 ∨ i = 5 := by omega
  rcases six with rfl | rfl | rfl | rfl | rfl | rfl
  · rw [yes]; rfl
  · rw [no 0 (by decide), yes]; rfl
  · rw [no 0 (by decide), no 1 (by decide), yes]; rfl
  · rw [no 0 (by decide), no 1 (by decide), no 2 (by decide), yes]; rfl
  · rw [no 0 (by decide), no 1 (by decide), no 2 (by decide), no 3 (by decide), yes]; rfl
  · rw [no 0 (by decide), no 1 (by decide), no 2 (by decide), no 3 (by decide), no 4 (by decide), yes]; rfl
theorem due_none {f : Nat → Bool} {v : Nat → V} (no : ∀ j, j < 6 → f j = false) : dueF f v 6 = .non := by
  have e : dueF f v 6 = if f 0 = true then v 0 else if f 1 = true then v 1 else if f 2 = true then v 2 else if f 3 = true then v 3 else if f 4 = true then v 4 else if f 5 = true then v 5 else .non := rfl
  rw [e, no 0 (by decide), no 1 (by decide), no 2 (by decide), no 3 (by decide), no 4 (by decide), no 5 (by decide)]
  rfl
def shortV (n : Nat) (ms : List Nat) : V := dueF (sfree n ms) (fun k => .str (tk (fig n) k)) 6
def NoW (y : Int) : Prop := ¬ (0 ≤ y ∧ y < 32)
theorem worths_ints : ∀ {ys : List Int}, (∀ y ∈ ys, 0 ≤ y ∧ y < 32) → ∃ ms : List Nat, ys = ms.map Int.ofNat ∧ ∀ m ∈ ms, m < 32
  | [], _ => ⟨[], rfl, fun m h => by cases h⟩
  | y :: ys, h => by
    obtain ⟨a, b⟩ := h y List.mem_cons_self
    obtain ⟨n, rfl⟩ := Int.eq_ofNat_of_zero_le a
    obtain ⟨ms, rfl, c⟩ := worths_ints (ys := ys) fun x m => h x (List.mem_cons_of_mem _ m)
    refine ⟨n :: ms, rfl, fun x m => ?_⟩
    rcases List.mem_cons.mp m with rfl | m
    · omega
    · exact c x m
section
variable {P : Program} {w : World} {K : PySem.W.Frag} {mg : Str → Option Value} {base : Heap}
def spShortest (K : PySem.W.Frag) (CW : Addr) : Sp := fun vs H Q E => ∃ (x : Int) (l : Addr) (ys : List Int), vs = [.int x, .ref l] ∧ H l = some (.lst (ys.map V.int)) ∧ ys.length ≤ 1000 ∧
  (∀ (n : Nat) (ms : List Nat), x = (n : Int) → n < 32 → ys = ms.map Int.ofNat → (∀ m ∈ ms, m < 32) → ∀ H', Same H H' → Q (shortV n ms) H') ∧
  ((NoW x ∨ ∃ y ∈ ys, NoW y) → ∀ H' d, Same H H' → H' d = none → E (.ref CW) (some d) (upd H' d (calledAs "BadWorth")))
abbrev nShort : List Str := ["worth", "worths", "own", "others", "count", "beginning", "other"]
abbrev rStartsT : V → List V → Hp → VK → Prop := fun x xs H Q => ∃ a b, x = .str a ∧ xs = [.str b] ∧ Q (.bl (Txt.startswith a b)) H
theorem noW_worthB {y : Int} (h : worthB (.int y) = false) : NoW y := fun ⟨a, b⟩ => by
  have e : worthB (.int y) = true := by
    show (decide (0 ≤ y) && decide (y < 32)) = true
    rw [decide_eq_true a, decide_eq_true b]
    rfl
  rw [h] at e
  cases e
end
end VQ
namespace VQ
open PySem L2 LamX
/-! ### points handed in -/
def PtAt (H : Hp) (a : Addr) (ns : List Nat) : Prop := H a = some (.tup (ns.map numV)) ∧ (∀ n ∈ ns, n < 32) ∧ ns.length ≤ 5
theorem nums_inj : ∀ {ns ms : List Nat}, ns.map numV = ms.map numV → ns = ms
  | [], [], _ => rfl
  | [], _ :: _, h => by cases h
  | _ :: _, [], h => by cases h
  | n :: ns, m :: ms, h => by
    rw [List.map_cons, List.map_cons] at h
    injection h with h1 h2
    injection h1 with h1
    rw [Int.ofNat.inj h1, nums_inj h2]
section
variable {K : PySem.W.Frag} {H H' : Hp}
theorem PtAt.same {a : Addr} {ns : List Nat} (h : PtAt H a ns) (s : Same H H') : PtAt H' a ns := ⟨s _ _ h.1, h.2⟩
theorem PtAt.keep {a b : Addr} {ns : List Nat} (h : PtAt H a ns) (B : Bag H b) (k : Keep b H H') : PtAt H' a ns := ⟨k.tup B h.1, h.2⟩
theorem PtAt.extN {a : Addr} {ns : List Nat} (h : PtAt H a ns) (e : ExtN H H') : PtAt H' a ns := ⟨e _ _ h.1 (fun ps z => by cases z), h.2⟩
theorem PtAt.thing {a : Addr} {ns : List Nat} (h : PtAt H a ns) : Thing K H (.ref a) (some (ns.map numV)) := by
  refine .tup h.1 (fun x m => ?_) (by rw [List.length_map]; exact Nat.le_trans h.2.2 (by decide))
  obtain ⟨n, _, rfl⟩ := List.mem_map.mp m
  exact Part.int _
theorem PtAt.is {a : Addr} {ns : List Nat} (h : PtAt H a ns) (h1 : 1 ≤ ns.length) : IsPtS ns := ⟨h.2.1, h1, h.2.2⟩
end
end VQ
namespace VQ
open PySem L2 LamX
/-! ### rows: a list of tuples of numbers -/
inductive Rows (H : Hp) : List V → List (List Nat) → Prop
  | nil : Rows H [] []
  | cons {a : Addr} {r : List Nat} {vs : List V} {rs : List (List Nat)} (h : H a = some (.tup (r.map numV))) (t : Rows H vs rs) : Rows H (.ref a :: vs) (r :: rs)
section
variable {K : PySem.W.Frag} {H H' : Hp}
theorem Rows.same (s : Same H H') : ∀ {vs : List V} {rs : List (List Nat)}, Rows H vs rs → Rows H' vs rs
  | _, _, .nil => .nil
  | _, _, .cons h t => .cons (s _ _ h) (Rows.same s t)
theorem Rows.keep {b : Addr} (B : Bag H b) (k : Keep b H H') : ∀ {vs : List V} {rs : List (List Nat)}, Rows H vs rs → Rows H' vs rs
  | _, _, .nil => .nil
  | _, _, .cons h t => .cons (k.tup B h) (Rows.keep B k t)
theorem Rows.len : ∀ {vs : List V} {rs : List (List Nat)}, Rows H vs rs → vs.length = rs.length
  | _, _, .nil => rfl
  | _, _, .cons _ t => by rw [List.length_cons, List.length_cons, Rows.len t]
theorem Rows.get {vs : List V} {rs : List (List Nat)} (h : Rows H vs rs) : ∀ {i : Nat} {v : V}, vs[i]? = some v → ∃ a r, v = .ref a ∧ rs[i]? = some r ∧ H a = some (.tup (r.map numV)) := by
  induction h with
  | nil => exact fun h => by cases h
  | cons h t ih =>
    intro i v e
    cases i with
    | zero =>
      cases e
      exact ⟨_, _, rfl, rfl, h⟩
    | succ i => exact ih e
theorem Rows.mem {vs : List V} {rs : List (List Nat)} (h : Rows H vs rs) {v : V} (m : v ∈ vs) : ∃ a r, v = .ref a ∧ r ∈ rs ∧ H a = some (.tup (r.map numV)) := by
  obtain ⟨i, e⟩ := List.getElem?_of_mem m
  obtain ⟨a, r, e1, e2, e3⟩ := h.get e
  exact ⟨a, r, e1, List.mem_of_getElem? e2, e3⟩
theorem Rows.snoc {a : Addr} {r : List Nat} (ha : H a = some (.tup (r.map numV))) : ∀ {vs : List V} {rs : List (List Nat)}, Rows H vs rs → Rows H (vs ++ [.ref a]) (rs ++ [r])
  | _, _, .nil => .cons ha .nil
  | _, _, .cons h t => .cons h (Rows.snoc ha t)
theorem Rows.perm {ws vs : List V} (p : ws.Perm vs) : ∀ {rs : List (List Nat)}, Rows H ws rs → ∃ ss : List (List Nat), rs.Perm ss ∧ Rows H vs ss := by
  induction p with
  | nil =>
    intro rs h
    exact ⟨rs, .refl _, h⟩
  | cons x _ ih =>
    intro rs h
    cases h with
    | cons h t =>
      obtain ⟨ss, p1, r1⟩ := ih t
      exact ⟨_ :: ss, p1.cons _, .cons h r1⟩
  | swap x y l =>
    intro rs h
    cases h with
    | cons h t =>
      cases t with
      | cons h2 t2 => exact ⟨_, .swap _ _ _, .cons h2 (.cons h t2)⟩
  | trans _ _ ih1 ih2 =>
    intro rs h
    obtain ⟨ss, p1, r1⟩ := ih1 h
    obtain ⟨ts, p2, r2⟩ := ih2 r1
    exact ⟨ts, p1.trans p2, r2⟩
/-! ### rows compared -/
abbrev numD (n : Nat) : PyData := .int (n : Int)
abbrev rowD (r : List Nat) : PyData := .tuple (r.map numD)
theorem dp_nums : ∀ r : List Nat, DpAll K H (r.map numV) (r.map numD)
  | [] => .nil
  | n :: r => .cons (.int _) (dp_nums r)
theorem Rows.dp : ∀ {vs : List V} {rs : List (List Nat)}, Rows H vs rs → DpAll K H vs (rs.map rowD)
  | _, _, .nil => .nil
  | _, _, .cons h t => .cons (.tup (SqT.of h) (dp_nums _)) (Rows.dp t)
theorem lay_nums (r : List Nat) : ∀ d ∈ r.map numD, Lay 0 d := fun d m => by
  obtain ⟨k, _, rfl⟩ := List.mem_map.mp m
  exact .int _ _
theorem lay_row (r : List Nat) : Lay 1 (rowD r) := .tuple (lay_nums r)
theorem lay_rows (rs : List (List Nat)) : Lay 2 (.list (rs.map rowD)) := .list fun d m => by
  obtain ⟨k, _, rfl⟩ := List.mem_map.mp m
  exact lay_row k
theorem eqv_nums : ∀ r q : List Nat, PyData.eqvAll (r.map numD) (q.map numD) = decide (r = q)
  | [], [] => rfl
  | [], _ :: _ => rfl
  | _ :: _, [] => rfl
  | n :: r, m :: q => by
    have ih := eqv_nums r q
    show (((n : Int) == (m : Int)) && PyData.eqvAll (r.map numD) (q.map numD)) = _
    rw [ih]
    by_cases e : n = m
    · subst e
      rw [beq_self_eq_true, Bool.true_and]
      by_cases g : r = q
      · rw [decide_eq_true g, decide_eq_true (by rw [g])]
      · rw [decide_eq_false g, decide_eq_false (fun z => g (List.cons.inj z).2)]
    · rw [show ((n : Int) == (m : Int)) = false from beq_eq_false_iff_ne.mpr (fun z => e (Int.ofNat.inj z)), Bool.false_and, decide_eq_false (fun z => e (List.cons.inj z).1)]
theorem eqv_row (r q : List Nat) : PyData.eqv (rowD r) (rowD q) = decide (r = q) := eqv_nums r q
theorem eqv_rows_any (rs : List (List Nat)) (q : List Nat) : ((rs.map rowD).any fun z => PyData.eqv z (rowD q)) = decide (q ∈ rs) := by
  rw [Bool.eq_iff_iff, List.any_eq_true, decide_eq_true_eq]
  constructor
  · rintro ⟨d, m, e⟩
    obtain ⟨r, mr, rfl⟩ := List.mem_map.mp m
    rw [eqv_row, decide_eq_true_eq] at e
    rw [← e]
    exact mr
  · intro m
    exact ⟨rowD q, List.mem_map.mpr ⟨q, m, rfl⟩, by rw [eqv_row]; exact decide_eq_true rfl⟩
end
/-! ### gaps -/
/-- what hangs behind the first c things of a point -/
def hang (rs : List (List Nat)) (c : Nat) (pt : List Nat) : List Nat := (rs.filter fun r => decide (r.take c = pt.take c)).map fun r => r.getD c 0
theorem mem_hang {rs : List (List Nat)} {c : Nat} {pt : List Nat} {n : Nat} : n ∈ hang rs c pt ↔ ∃ r ∈ rs, r.take c = pt.take c ∧ r.getD c 0 = n := by
  unfold hang
  rw [List.mem_map]
  constructor
  · rintro ⟨r, m, e⟩
    obtain ⟨m1, m2⟩ := List.mem_filter.mp m
    exact ⟨r, m1, of_decide_eq_true m2, e⟩
  · rintro ⟨r, m, e1, e2⟩
    exact ⟨r, List.mem_filter.mpr ⟨m, decide_eq_true e1⟩, e2⟩
/-- the gap parts from the rows at place i, behind k signs -/
structure GapAt (rs : List (List Nat)) (pt : List Nat) (i k : Nat) : Prop where
  lt : i < pt.length
  before : ∀ j, j < i → pt.getD j 0 ∈ hang rs j pt
  few : k < 6
  yes : ∀ m ∈ hang rs i pt, beginsB (fig m) (tk (fig (pt.getD i 0)) k) = false
  no : ∀ j, j < k → ∃ m ∈ hang rs i pt, beginsB (fig m) (tk (fig (pt.getD i 0)) j) = true
def gapBox (pt : List Nat) (i k : Nat) : List Str := ((pt.take i).map fig ++ [tk (fig (pt.getD i 0)) k]) ++ List.replicate (pt.length - i - 1) ("" : Str)
theorem sfree_iff {n : Nat} {ms : List Nat} {k : Nat} : sfree n ms k = true ↔ ∀ m ∈ ms, beginsB (fig m) (tk (fig n) k) = false := by
  unfold sfree
  rw [Bool.not_eq_true', ← Bool.not_eq_true, List.any_eq_true]
  constructor
  · intro h m mm
    rw [← Bool.not_eq_true]
    exact fun e => h ⟨m, mm, e⟩
  · rintro h ⟨m, mm, e⟩
    rw [h m mm] at e
    cases e
theorem sfree_not {n : Nat} {ms : List Nat} {k : Nat} : sfree n ms k = false ↔ ∃ m ∈ ms, beginsB (fig m) (tk (fig n) k) = true := by
  unfold sfree
  rw [Bool.not_eq_false', List.any_eq_true]
theorem begins_tk (z : Str) {k : Nat} (h : k ≤ z.length) : beginsB z (tk z k) = true := by
  unfold beginsB
  rw [tk_len, Nat.min_eq_left h]
  exact decide_eq_true rfl
theorem own_begins (n : Nat) {k : Nat} (h : k < 6) : beginsB (fig n) (tk (fig n) k) = true := begins_tk _ (by rw [fig_len]; omega)
theorem GapAt.out {rs : List (List Nat)} {pt : List Nat} {i k : Nat} (g : GapAt rs pt i k) : pt.getD i 0 ∉ hang rs i pt := fun m => by
  have := g.yes _ m
  rw [own_begins _ g.few] at this
  cases this
theorem GapAt.one {rs : List (List Nat)} {pt : List Nat} {i k i' k' : Nat} (g : GapAt rs pt i k) (g' : GapAt rs pt i' k') : i = i' ∧ k = k' := by
  have e : i = i' := by
    rcases Nat.lt_trichotomy i i' with h | h | h
    · exact absurd (g'.before i h) g.out
    · exact h
    · exact absurd (g.before i' h) g'.out
  subst e
  refine ⟨rfl, ?_⟩
  rcases Nat.lt_trichotomy k k' with h | h | h
  · obtain ⟨m, mm, q⟩ := g'.no k h
    rw [g.yes m mm] at q
    cases q
  · exact h
  · obtain ⟨m, mm, q⟩ := g.no k' h
    rw [g'.yes m mm] at q
    cases q
theorem hang_perm {rs ss : List (List Nat)} (p : rs.Perm ss) {c : Nat} {pt : List Nat} {n : Nat} : n ∈ hang rs c pt ↔ n ∈ hang ss c pt := by
  rw [mem_hang, mem_hang]
  constructor
  · rintro ⟨r, m, q⟩
    exact ⟨r, p.mem_iff.mp m, q⟩
  · rintro ⟨r, m, q⟩
    exact ⟨r, p.mem_iff.mpr m, q⟩
theorem GapAt.perm {rs ss : List (List Nat)} (p : rs.Perm ss) {pt : List Nat} {i k : Nat} (g : GapAt rs pt i k) : GapAt ss pt i k :=
  ⟨g.lt, fun j h => (hang_perm p).mp (g.before j h), g.few, fun m h => g.yes m ((hang_perm p).mpr h), fun j h => let ⟨m, a, b⟩ := g.no j h; ⟨m, (hang_perm p).mp a, b⟩⟩
theorem hang_snoc {rs : List (List Nat)} {c j : Nat} {pt r : List Nat} (h : rs[j]? = some r) : hang (rs.take (j + 1)) c pt = hang (rs.take j) c pt ++ if r.take c = pt.take c then [r.getD c 0] else [] := by
  unfold hang
  rw [List.take_add_one, h, Option.toList_some, List.filter_append, List.map_append]
  congr 1
  by_cases e : r.take c = pt.take c
  · simp [e]
  · simp [e]
theorem hang_len (rs : List (List Nat)) (c : Nat) (pt : List Nat) : (hang rs c pt).length ≤ rs.length := by
  unfold hang
  rw [List.length_map]
  exact List.length_filter_le _ _
theorem nat_ints (ms : List Nat) : ms.map numV = (ms.map Int.ofNat).map V.int := by
  rw [List.map_map]
  rfl
theorem ints_nat : ∀ {ms ks : List Nat}, ms.map Int.ofNat = ks.map Int.ofNat → ms = ks
  | [], [], _ => rfl
  | [], _ :: _, h => by cases h
  | _ :: _, [], h => by cases h
  | m :: ms, k :: ks, h => by
    rw [List.map_cons, List.map_cons] at h
    injection h with h1 h2
    rw [Int.ofNat.inj h1, ints_nat h2]
theorem getD_of {α : Type} {l : List α} {i : Nat} {x d : α} (h : l[i]? = some x) : l.getD i d = x := by
  rw [List.getD_eq_getElem?_getD, h]
  rfl
theorem getD_get {α : Type} {l : List α} {i : Nat} {d : α} (h : i < l.length) : l[i]? = some (l.getD i d) := by
  rw [List.getD_eq_getElem?_getD, List.getElem?_eq_getElem h]
  rfl
end VQ
namespace VQ
open PySem L2 LamX
abbrev sLawMixed : Stmt := top 71
abbrev rLen (K : PySem.W.Frag) : List V → Hp → VK → Prop := fun xs H Q => ∃ p ys, xs = [.ref p] ∧ (SqL K H p ys ∨ SqT K H p ys) ∧ Q (.int ys.length) H
theorem erase_perm : ∀ {ls : List V} {j : Nat} {y : V}, ls[j]? = some y → (y :: ls.eraseIdx j).Perm ls
  | [], _, _, h => by cases h
  | x :: ls, 0, y, h => by
    cases h
    exact .refl _
  | x :: ls, j + 1, y, h => ((List.Perm.swap x y _)).trans ((erase_perm (ls := ls) h).cons x)
theorem Rows.moved {H H' : Hp} (s : ∀ (a : Addr) (xs : List V), H a = some (.tup xs) → H' a = some (.tup xs)) : ∀ {vs : List V} {rs : List (List Nat)}, Rows H vs rs → Rows H' vs rs
  | _, _, .nil => .nil
  | _, _, .cons h t => .cons (s _ _ h) (Rows.moved s t)
theorem nodup_snoc {α : Type} {l : List α} {x : α} (h : l.Nodup) (n : x ∉ l) : (l ++ [x]).Nodup := by
  rw [List.nodup_append]
  refine ⟨h, List.nodup_cons.mpr ⟨by simp, List.nodup_nil⟩, fun a ma b mb e => n ?_⟩
  rw [← List.mem_singleton.mp mb, ← e]
  exact ma
section
variable {P : Program} {w : World} {K : PySem.W.Frag} {mg : Str → Option Value} {base : Heap}
/-! ### a list in another order -/
def spMixed : Sp := fun vs H Q _ => ∃ (b p : Addr) (xs : List V), vs = [.ref b, .ref p] ∧ Bag H b ∧ p ≠ b ∧ H p = some (.lst xs) ∧ xs.length < 1000 ∧
  ∀ (q : Addr) (ys : List V) (H' : Hp), ys.Perm xs → H q = none → H' q = some (.lst ys) → Bag H' b → Keep b H H' → Q (.ref q) H'
abbrev nLawMixed : List Str := ["_law_bag_here", "_law_some", "_law_left", "_law_one"]
theorem scLawMixed : FnScope nLawMixed ["_law_bag_here", "_law_some"] (defScope sLawMixed) := ⟨rfl, rfl, rfl, by decide +kernel, rfl, by decide +kernel, by decide +kernel⟩
theorem ok_mixed {f fP : Addr} {fd fdP : FuncData} (F : Fun K "_law_mixed" "_law_mixed" sLawMixed f fd) (b : Blt mg) (aP : At K mg "_law_pull" sPull ["_law_bag_here", "_law_size"] fP fdP) : FnOk P w K mg base CX0 2 f fd ["_law_bag_here", "_law_some"] spMixed := by
  have GP : FnOk P w K mg base CX0 1 fP fdP ["_law_bag_here", "_law_size"] spPull := ok_pull aP.fn b.len
  refine F.ok scLawMixed (fun vs H Q E h => ?_) (fun cdv A outer s H vs Q E hr h => ?_)
  · obtain ⟨bg, p, xs, rfl, _⟩ := h
    rfl
  · obtain ⟨bg, p, xs, rfl, B, pb, hp, lx, k⟩ := h
    refine ⟨_,
    (pss_cons (ps_set (i := 2) scLawMixed.nd rfl (.inr rfl) (pe_callTy call_list_of (by rfl) b.list (by decide +kernel) (pa_cons (pv 1) pa_nil)))
    (pss_one (ps_ret (pe_lc (own := [("_law_one", 3)]) (g := (gName 3)) (tt := tYes) (te := (tBM K "list" rPopAt (tVar 2) (tCons (tCall spPull [] E0 (tCons (tVar 0) (tCons (tCB (rLen K) (tCons (tVar 2) tNil)) tNil))) tNil))) rfl scLawMixed.nd (pi_list (pv 1)) (blkOk_by (N := nLawMixed) (sc := defScope sLawMixed) (by decide +kernel)) (fun _ _ _ _ _ => (pg_name (i := 3) scLawMixed.nd rfl (.inl rfl))) (fun _ _ _ _ _ => pts_nil) (fun _ _ _ _ _ => (pe_bm PySem.F.plainAttrs_list PySem.F.slot_list_pop PySem.F.type_list_pop mt_popAt (pv 2) (pa_cons (pe_call GP hr rfl aP.gl aP.fn.kp aP.bd .nil pass0 (pa_cons (pv 0) (pa_cons (pe_callB call_len_seq (by rfl) b.len PySem.boot_len (pa_cons (pv 2) pa_nil)) pa_nil))) pa_nil))))))), ?_⟩
    refine ⟨_, rfl, p, _, rfl, .inl (SqL.of hp), fun L nL => ?_⟩
    obtain ⟨B1, K1⟩ := Bag.put (o := .lst xs) B nL (Keep.refl bg H) B
    have Lb : L ≠ bg := B.ne nL
    have pL : p ≠ L := ne_of_none hp nL
    refine ⟨_, rfl, p, rfl, ⟨_, SqL.of ((upd_ne pL).trans hp)⟩, fun D nD => ?_⟩
    have DL : D ≠ L := fun e => by
      rw [e, upd_same] at nD
      cases nD
    have nD0 : H D = none := K1.free B B1 nD
    have Db : D ≠ bg := B.ne nD0
    obtain ⟨B2, K2⟩ := Bag.put (o := .lst []) B nD0 K1 B1
    refine lc_list (xs := xs) (fun i H' => Bag H' bg ∧ Keep bg H H' ∧ ∃ ls acc : List V, H' L = some (.lst ls) ∧ H' D = some (.lst acc) ∧ (acc ++ ls).Perm xs ∧ ls.length + i = xs.length) ⟨B2, K2, xs, [], (upd_ne DL.symm).trans upd_same, upd_same, .refl _, rfl⟩ (fun i H' _ q => SqL.of (q.2.1.1 _ _ pb hp)) ?_ ?_
    · rintro i v H3 hv ⟨B3, K3, ls, acc, h3, g3, pm, ln⟩
      have li : i < xs.length := (List.getElem?_eq_some_iff.mp hv).1
      refine ⟨rfl, yes_turn ?_⟩
      refine ⟨_, rfl, .inl ⟨rfl, _, SqL.of h3⟩, _, rfl, _, rfl, L, _, rfl, .inl (SqL.of h3), bg, _, rfl, B3, by omega, by omega, fun d H4 d0 d1 B4 k4 => ?_⟩
      obtain ⟨j, rfl⟩ := Int.eq_ofNat_of_zero_le d0
      have lj : j < ls.length := by omega
      have h4 := k4.1 _ _ Lb h3
      have g4 := k4.1 _ _ Db g3
      obtain ⟨j', e1, e2, lj', _⟩ := atI_get (atI_nat (List.getElem?_eq_getElem lj))
      generalize ls[j] = y at e2
      obtain ⟨B5, K5⟩ := Bag.put (o := .lst (ls.eraseIdx j')) B nL (K3.trans k4) B4
      obtain ⟨B6, K6⟩ := Bag.put (o := .lst (acc ++ [y])) B nD0 K5 B5
      have la : acc.length + ls.length = xs.length := by
        rw [← List.length_append]
        exact pm.length_eq
      refine ⟨L, ls, j, j', y, rfl, rfl, h4, by omega, by omega, e1, e2, acc, (upd_ne DL).trans g4, Nat.lt_of_le_of_lt (show acc.length ≤ 1000 by omega) (by decide), B6, K6, ls.eraseIdx j', acc ++ [y], (upd_ne DL.symm).trans upd_same, upd_same, ?_, ?_⟩
      · rw [List.append_assoc]
        refine (List.Perm.append_left acc ?_).trans pm
        exact erase_perm e2
      · rw [List.length_eraseIdx_of_lt lj']
        omega
    · rintro H3 ⟨B3, K3, ls, acc, h3, g3, pm, ln⟩
      have e : ls = [] := List.eq_nil_of_length_eq_zero (by omega)
      subst e
      rw [List.append_nil] at pm
      exact k D acc H3 pm nD0 g3 B3 K3
/-! ### rows drawn -/
def spRows : Sp := fun vs H Q _ => ∃ (b : Addr) (wd mo : Nat), vs = [.ref b, .int (wd : Int), .int (mo : Int)] ∧ Bag H b ∧ wd ≤ 5 ∧ mo ≤ 500 ∧
  ∀ (l : Addr) (us : List V) (rs : List (List Nat)) (H' : Hp), H l = none → H' l = some (.lst us) → Rows H' us rs → rs.length ≤ mo → (∀ r ∈ rs, r.length = wd ∧ ∀ n ∈ r, n < 32) → rs.Nodup → Bag H' b → Keep b H H' → Q (.ref l) H'
abbrev nLawRows : List Str := ["_law_bag_here", "_law_width", "_law_most", "_law_found", "_law_few", "_law_k", "_law_row", "_law_at"]
end
end VQ
namespace VQ
open PySem L2 LamX
theorem rd_rep {K : PySem.W.Frag} {H : Hp} {p : Addr} {x : V} {n : Nat} {Q : VK} (hp : H p = some (.tup [x])) (n2 : n ≤ 1000) (k : ∀ (q : Addr) (H' : Hp), Same H H' → H' q = some (.tup (List.replicate n x)) → Q (.ref q) H') : rTimes0 K (.ref p) (.int (n : Int)) H Q := by
  refine ⟨p, n, [x], rfl, rfl, SqT.of hp, by simp, by omega, by omega, by show 1 ≤ 1000; decide, fun e => ?_, fun _ q hq => ?_⟩
  · have e' : n = 1 := by omega
    subst e'
    exact k p _ (Same.refl H) hp
  · refine k q _ (same_new hq) ?_
    rw [upd_same, flat_one]
    rfl
section
variable {P : Program} {w : World} {K : PySem.W.Frag} {mg : Str → Option Value} {base : Heap}
def spWhole0 : Sp := fun vs H Q _ => ∃ n : Nat, vs = [.int (n : Int)] ∧ n ≤ 1000 ∧ ∀ (p : Addr) (H' : Hp), Same H H' → H' p = some (.tup (List.replicate n (.str ""))) → Q (.ref p) H'
/-! ### the gap of rows about a point -/
/-- what is told: None where the point is a row, else the box -/
def GapRes (rs : List (List Nat)) (pt : List Nat) (H : Hp) (v : V) : Prop := (v = .non ∧ ∀ j, j < pt.length → pt.getD j 0 ∈ hang rs j pt) ∨ ∃ (q : Addr) (i k : Nat), v = .ref q ∧ GapAt rs pt i k ∧ H q = some (.tup ((gapBox pt i k).map V.str))
def spGapP : Sp := fun vs H Q _ => ∃ (l p : Addr) (us : List V) (rs : List (List Nat)) (pt : List Nat), vs = [.ref l, .ref p] ∧ H l = some (.lst us) ∧ Rows H us rs ∧ rs.length ≤ 1000 ∧ PtAt H p pt ∧ 1 ≤ pt.length ∧ (∀ r ∈ rs, r.length = pt.length ∧ ∀ n ∈ r, n < 32) ∧
  ∀ (v : V) (H' : Hp), Same H H' → GapRes rs pt H' v → Q v H'
theorem figs_one : ∀ m, m < 32 → ∀ n, n < 32 → tk (fig m) 5 = tk (fig n) 5 → m = n := by decide +kernel
theorem short_cases {n : Nat} {ms : List Nat} (ln : n < 32) (lm : ∀ m ∈ ms, m < 32) : (shortV n ms = .non ∧ n ∈ ms ∨ ∃ k, k < 6 ∧ shortV n ms = .str (tk (fig n) k) ∧ sfree n ms k = true ∧ ∀ j, j < k → sfree n ms j = false) := by
  have e : shortV n ms = if sfree n ms 0 = true then .str (tk (fig n) 0) else if sfree n ms 1 = true then .str (tk (fig n) 1) else if sfree n ms 2 = true then .str (tk (fig n) 2) else if sfree n ms 3 = true then .str (tk (fig n) 3) else if sfree n ms 4 = true then .str (tk (fig n) 4) else if sfree n ms 5 = true then .str (tk (fig n) 5) else .non := rfl
  have least : ∀ t : Nat, (∀ j, j < t → sfree n ms j = false) ∨ ∃ k, k < t ∧ sfree n ms k = true ∧ ∀ j, j < k → sfree n ms j = false := by
    intro t
    induction t with
    | zero => exact .inl fun j h => absurd h (Nat.not_lt_zero _)
    | succ t ih =>
      rcases ih with no | ⟨k, a, c, d⟩
      · cases q : sfree n ms t with
        | true => exact .inr ⟨t, Nat.lt_succ_self _, q, no⟩
        | false =>
          refine .inl fun j h => ?_
          by_cases g : j = t
          · rw [g]; exact q
          · exact no j (by omega)
      · exact .inr ⟨k, by omega, c, d⟩
  rcases least 6 with no | ⟨k, k6, yes, no⟩
  · refine .inl ⟨due_none no, ?_⟩
    obtain ⟨m, mm, q⟩ := sfree_not.mp (no 5 (by decide))
    have l5 : (tk (fig n) 5).length = 5 := by rw [tk_len, fig_len]; rfl
    have e1 : tk (fig m) 5 = tk (fig n) 5 := by
      have q' := of_decide_eq_true (show decide (tk (fig m) (tk (fig n) 5).length = tk (fig n) 5) = true from q)
      rw [l5] at q'
      exact q'
    rw [← figs_one m (lm m mm) n ln e1]
    exact mm
  · exact .inr ⟨k, k6, due_first no yes k6, yes, no⟩
abbrev nGap : List Str := ["rows", "point", "count", "worth", "beginning", "row"]
end
end VQ
namespace VQ
open PySem L2 LamX
section
variable {P : Program} {w : World} {K : PySem.W.Frag} {mg : Str → Option Value} {base : Heap}
/-! ### a point near rows -/
def spNearPt : Sp := fun vs H Q _ => ∃ (b l : Addr) (wd : Nat) (us : List V) (rs : List (List Nat)), vs = [.ref b, .ref l, .int (wd : Int)] ∧ Bag H b ∧ l ≠ b ∧ H l = some (.lst us) ∧ Rows H us rs ∧ rs.length < 1000 ∧ wd ≤ 5 ∧ (∀ r ∈ rs, r.length = wd ∧ ∀ n ∈ r, n < 32) ∧
  ∀ (p : Addr) (pt : List Nat) (H' : Hp), H p = none → PtAt H' p pt → pt.length = wd → Bag H' b → Keep b H H' → Q (.ref p) H'
theorem xor_one : ∀ n : Nat, n < 32 → ∃ m : Nat, Builtin.bitXor (n : Int) 1 = (m : Int) ∧ m < 32 := by
  intro n h
  have e : ∀ n : Nat, n < 32 → 0 ≤ Builtin.bitXor (n : Int) 1 ∧ Builtin.bitXor (n : Int) 1 < 32 := by decide +kernel
  obtain ⟨a, c⟩ := e n h
  obtain ⟨m, q⟩ := Int.eq_ofNat_of_zero_le a
  exact ⟨m, q, by omega⟩
abbrev nLawPointNear : List Str := ["_law_bag_here", "_law_rows", "_law_width", "_law_row", "_law_found", "_law_k"]
/-! ### what hangs in the tree, by the law -/
abbrev rListOf (K : PySem.W.Frag) : List V → Hp → VK → Prop := fun xs H Q => ∃ p ys, xs = [.ref p] ∧ (SqL K H p ys ∨ SqT K H p ys) ∧ ∀ l, H l = none → Q (.ref l) (upd H l (.lst ys))
def spHang : Sp := fun vs H Q _ => ∃ (l p : Addr) (us : List V) (rs : List (List Nat)) (pt : List Nat) (c : Nat), vs = [.ref l, .ref p] ∧ H l = some (.lst us) ∧ Rows H us rs ∧ rs.length < 64 ∧ H p = some (.lst ((pt.take c).map numV)) ∧ c ≤ pt.length ∧ c ≤ 1000 ∧ (∀ r ∈ rs, c < r.length) ∧
  ∀ (q : Addr) (ms : List Nat) (H' : Hp), Same H H' → H' q = some (.lst (ms.map numV)) → (∀ m, m ∈ ms ↔ m ∈ hang rs c pt) → ms.length < 64 → Q (.ref q) H'
theorem nats_of : ∀ {ns : List Int}, (∀ k ∈ ns, 0 ≤ k) → ∃ ms : List Nat, ns = ms.map Int.ofNat
  | [], _ => ⟨[], rfl⟩
  | n :: ns, h => by
    obtain ⟨m, rfl⟩ := Int.eq_ofNat_of_zero_le (h n List.mem_cons_self)
    obtain ⟨ms, rfl⟩ := nats_of (ns := ns) fun k q => h k (List.mem_cons_of_mem _ q)
    exact ⟨m :: ms, rfl⟩
abbrev nLawHanging : List Str := ["_law_rows", "_law_path", "_law_size", "_law_row"]
end
end VQ
namespace VQ
open PySem L2 LamX
/-- the greatest count of first things that the point has in common with a row -/
structure Fst (rs : List (List Nat)) (pt : List Nat) (fi : Nat) : Prop where
  le : fi ≤ pt.length
  one : fi = 0 ∨ ∃ r ∈ rs, r.take fi = pt.take fi
  most : ∀ r ∈ rs, ∀ k, k ≤ pt.length → r.take k = pt.take k → k ≤ fi
theorem take_le {α : Type} {a b : List α} {j k : Nat} (h : a.take k = b.take k) (l : j ≤ k) : a.take j = b.take j := by
  have := congrArg (List.take j) h
  rwa [List.take_take, List.take_take, Nat.min_eq_left l] at this
theorem take_next {r pt : List Nat} {j : Nat} (h : r.take (j + 1) = pt.take (j + 1)) (l : j < pt.length) : r.getD j 0 = pt.getD j 0 := by
  have e := congrArg (fun l : List Nat => l[j]?) h
  simp only [List.getElem?_take, Nat.lt_succ_self, if_true] at e
  rw [List.getD_eq_getElem?_getD, List.getD_eq_getElem?_getD, e]
theorem take_grow {r pt : List Nat} {j : Nat} (h : r.take j = pt.take j) (lr : j < r.length) (lp : j < pt.length) (e : r.getD j 0 = pt.getD j 0) : r.take (j + 1) = pt.take (j + 1) := by
  rw [List.take_add_one, List.take_add_one, h, getD_get (d := 0) lr, getD_get (d := 0) lp, e]
theorem Fst.before {rs : List (List Nat)} {pt : List Nat} {fi : Nat} (f : Fst rs pt fi) : ∀ j, j < fi → pt.getD j 0 ∈ hang rs j pt := fun j h => by
  rcases f.one with e | ⟨r, m, e⟩
  · omega
  · have l := f.le
    exact mem_hang.mpr ⟨r, m, take_le e (by omega), take_next (take_le e (by omega)) (by omega)⟩
theorem Fst.out {rs : List (List Nat)} {pt : List Nat} {fi : Nat} (f : Fst rs pt fi) (len : ∀ r ∈ rs, r.length = pt.length) (l : fi < pt.length) : pt.getD fi 0 ∉ hang rs fi pt := fun m => by
  obtain ⟨r, mr, e1, e2⟩ := mem_hang.mp m
  have := f.most r mr (fi + 1) (by omega) (take_grow e1 (by rw [len r mr]; exact l) l e2)
  omega
theorem Fst.lt {rs : List (List Nat)} {pt : List Nat} {fi : Nat} (f : Fst rs pt fi) (len : ∀ r ∈ rs, r.length = pt.length) (p1 : 1 ≤ pt.length) (no : pt ∉ rs) : fi < pt.length := by
  have l := f.le
  by_cases e : fi = pt.length
  · rcases f.one with z | ⟨r, m, q⟩
    · omega
    · rw [e, List.take_of_length_le (Nat.le_refl _), List.take_of_length_le (Nat.le_of_eq (len r m))] at q
      rw [q] at m
      exact absurd m no
  · omega
theorem begins_same {m n c : Nat} (h : c ≤ 5) : beginsB (fig m) (tk (fig n) c) = decide (tk (fig m) c = tk (fig n) c) := by
  unfold beginsB
  rw [tk_len, fig_len, Nat.min_eq_left h]
section
variable {P : Program} {w : World} {K : PySem.W.Frag} {mg : Str → Option Value} {base : Heap}
def spGapL : Sp := fun vs H Q _ => ∃ (l p : Addr) (us : List V) (rs : List (List Nat)) (pt : List Nat), vs = [.ref l, .ref p] ∧ H l = some (.lst us) ∧ Rows H us rs ∧ rs.length < 64 ∧ PtAt H p pt ∧ 1 ≤ pt.length ∧ (∀ r ∈ rs, r.length = pt.length ∧ ∀ n ∈ r, n < 32) ∧ pt ∉ rs ∧
  ∀ (i k : Nat), GapAt rs pt i k → ∀ (q : Addr) (H' : Hp), Same H H' → H' q = some (.tup ((gapBox pt i k).map V.str)) → Q (.ref q) H'
abbrev nLawGap : List Str := ["_law_rows", "_law_point_here", "_law_size", "_law_first", "_law_row", "_law_k", "_law_worths", "_law_own_here", "_law_cut", "_law_worth_here"]
end
end VQ
namespace VQ
open PySem PySem.Spec PyProof.Rows L2
/-! ### how many unlike texts a tuple has -/
/-- texts gone through: those met so far are in, and as many as were gone through just where they are unlike -/
def TextsIn (P : Program) (w : World) (h : Heap) (S : Addr) (zs : List PySem.Str) : Prop := ∃ c, c ≤ zs.length ∧ (c = zs.length ↔ zs.Nodup) ∧ h.SetOf (PySem.strKind P w) S (fun z => decide (z ∈ zs)) c
theorem snoc_nodup {α : Type} {l : List α} {x : α} : (l ++ [x]).Nodup ↔ l.Nodup ∧ x ∉ l := by
  rw [List.nodup_append]
  constructor
  · rintro ⟨h1, _, h3⟩
    exact ⟨h1, fun m => h3 x m x (List.mem_singleton.mpr rfl) rfl⟩
  · rintro ⟨h1, h2⟩
    refine ⟨h1, by simp, fun a ma b mb e => h2 ?_⟩
    rw [← List.mem_singleton.mp mb, ← e]
    exact ma
section
variable {P : Program} {w : World} {A : Around} {E : Value → Shared → Prop} {s : Shared}
theorem TextsIn.moved {h h' : Heap} {S : Addr} {zs : List PySem.Str} (t : TextsIn P w h S zs) (k : ∀ o, h.get? S = some o → h'.get? S = some o) : TextsIn P w h' S zs := by
  obtain ⟨c, lc, ec, o, es, ep, tb, ho, rest⟩ := t
  exact ⟨c, lc, ec, o, es, ep, tb, k _ ho, rest⟩
theorem texts_update {I : Addr} {fp wr : List Addr} {G : Array GenState → Array GenState → Prop} {n : Nat} {Pv : Nat → Value → Prop} {St : Nat → Shared → Prop} {R : Result → Shared → Prop}
    (W : WalksS P w A.in1 I fp wr G n Pv St) (S : Addr) (off : S ∉ fp) (zs : List PySem.Str) (en : n = zs.length) (few : zs.length + 1 < scanBound) (are : ∀ i v, Pv i v → ∃ z t, zs[i]? = some z ∧ v = .str z t) :
    ∀ (left i : Nat) (s : Shared), n - i = left → i ≤ n → St i s → TextsIn P w s.heap S (zs.take i) →
      (∀ s', Moved (S :: wr) G s s' → TextsIn P w s'.heap S zs → R (.ok (.ret .none)) s') →
      codeAny (model P w) A (.builtin "set.update.loop" ⟨[.ref S, .ref I], []⟩) R s := by
  have offw : S ∉ wr := fun m => off (W.sub _ m)
  have more : ∀ b ∈ wr, b ∈ S :: wr := fun b m => List.mem_cons_of_mem _ m
  intro left
  induction left with
  | zero =>
    intro i s el li st tx fin
    obtain rfl : i = n := by omega
    refine codeAny_builtin F.entry_set_update_loop ?_
    rw [Around.under_plainId F.plain_set_update_loop _]
    show wpAny _ A.in1 (pyNext (.ref I) >>= _) _ _ s
    refine wpAny_bind (W.done s _ _ st fun s1 mv => ?_)
    show wpAny _ A.in1 (ret Value.none) _ _ s1
    rw [List.take_of_length_le (show zs.length ≤ i by omega)] at tx
    exact wpAny_pure (fin s1 (mv.mono more) (tx.moved fun o e => mv.heap S o offw e))
  | succ left ih =>
    intro i s el li st tx fin
    have lt : i < n := by omega
    refine codeAny_builtin F.entry_set_update_loop ?_
    rw [Around.under_plainId F.plain_set_update_loop _]
    show wpAny _ A.in1 (pyNext (.ref I) >>= _) _ _ s
    refine wpAny_bind (W.item i s _ _ lt st fun v s1 pv st1 mv => ?_)
    obtain ⟨z, t, hz, rfl⟩ := are i v pv
    obtain ⟨c, lc, ec, so⟩ := tx.moved (h' := s1.heap) fun o e => mv.heap S o offw e
    have ln : (zs.take i).length = i := by rw [List.length_take]; omega
    rw [ln] at lc ec
    show wpAny _ A.in1 (holding [Value.str z t] (setAdd S (.str z t)) >>= _) _ _ s1
    refine wpAny_bind (wpAny_holding ?_)
    unfold setAdd
    refine wpAny_holding (wpAny_bind ((PySem.strKind P w).pyHash (k := z) (strKind_is _ _ _ _) ?_))
    refine wpAny_setAddHashed_of (knd := PySem.strKind P w) (s := { s1 with toks := s1.toks + 1 }) (strKind_is _ _ _ _) rfl so (by omega) fun h2 sb so2 => ?_
    have et : zs.take (i + 1) = zs.take i ++ [z] := by rw [List.take_add_one, hz]; rfl
    have ln1 : (zs.take (i + 1)).length = i + 1 := by rw [et, List.length_append, ln]; rfl
    have tx2 : TextsIn P w h2 S (zs.take (i + 1)) := by
      refine ⟨_, ?_, ?_, SetOf_congr so2 (fun k' => ?_) rfl⟩
      · rw [ln1]
        split <;> omega
      · rw [ln1, et, snoc_nodup, ← ec]
        by_cases q : z ∈ zs.take i
        · rw [if_pos (decide_eq_true q)]
          exact ⟨fun e => by omega, fun e => absurd q e.2⟩
        · rw [if_neg (by rw [decide_eq_false q]; exact Bool.false_ne_true)]
          exact ⟨fun e => ⟨by omega, q⟩, fun e => by omega⟩
      · rw [et]
        by_cases q : k' ∈ zs.take i <;> by_cases e : k' = z <;> simp [q, e]
    refine wpAny_pure ⟨plainId_quiet F.plain_set_update_loop _, ih (i + 1) _ (by omega) lt (W.frame _ s1 _ _ st1 (Nat.le_succ _) fun b mb o e => ?_) tx2 fun s2 mv2 tx3 => ?_⟩
    · rw [sb.2 b (fun q => off (by rw [← q]; exact mb))]
      exact e
    · refine fin s2 (Moved.trans W.gtrans ((mv.mono more).then_heap (Nat.le_succ _) fun b o nb e => ?_) mv2) tx3
      rw [sb.2 b (fun q => nb (by rw [q]; exact List.mem_cons_self))]
      exact e
/-- what stands when the tuple is gone through -/
abbrev TextsDone (P : Program) (w : World) (s : Shared) (zs : List PySem.Str) (s2 : Shared) : Prop := ∃ g tk, s2 = { s with heap := g, toks := tk } ∧ TextsIn P w g s.heap.objs.size zs ∧ ∀ b o, s.heap.get? b = some o → g.get? b = some o
theorem texts_filled {l : Addr} {its : Array Value} {zs : List PySem.Str} {Z : PySem.Fin → Shared → Prop} (calm : A.handled = none) (isl : s.heap.IsTuple l its) (are : StrsAre its.toList zs) (few : zs.length + 1 < scanBound)
    (fin : ∀ s2, TextsDone P w s zs s2 → Z (.done (.ret .none)) s2) :
    wpAny (model P w) A.in1 (Builtin.«set.__init__» ⟨[.ref s.heap.objs.size, .ref l], []⟩) Z E { s with heap := s.heap.push (bareSet w) } := by
  obtain ⟨⟨oc, od, ot, os'⟩, at_l, e1, nl, e2⟩ := isl
  dsimp only at e1 e2
  subst e1 e2
  have cnt : its.size = zs.length := by rw [← StrsAre.len_eq are, Array.length_toList]
  have here : (s.heap.push (bareSet w)).get? s.heap.objs.size = some (bareSet w) := Heap.get?_push_size _ rfl
  have tyS : Shared.TypeIs { s with heap := s.heap.push (bareSet w) } (.ref s.heap.objs.size) "set" := ⟨_, here, rfl⟩
  have at_l' := Heap.get?_push_of_some (bareSet w) at_l
  have isl' : (s.heap.push (bareSet w)).IsTuple l its := ⟨_, at_l', rfl, nl, rfl⟩
  have n1 := PySem.F.sub_tuple_set
  have n2 := PySem.F.sub_tuple_frozenset
  have n3 : (Value.type "tuple" == Value.type "dict") = false := by decide
  unfold Builtin.«set.__init__» noKeywords Builtin.Frozenset.updateFrom
  generalize itE : pyIter = it
  wp_walk
  subst itE
  refine wpAny_pyIter_tuple isl' ?_
  refine wpAny_bind (wpAny_runValue ?_)
  have lt_l : l < s.heap.objs.size := Heap.lt_size at_l
  have calm3 : A.in1.in1.handled = none := by simp [calm]
  have size1 : (s.heap.push (bareSet w)).objs.size = s.heap.objs.size + 1 := Heap.size_push ..
  have ne_l : l ≠ (s.heap.push (bareSet w)).objs.size := by
    rw [size1]
    exact Nat.ne_of_lt (Nat.lt_succ_of_lt lt_l)
  have out : s.heap.objs.size ∉ [(s.heap.push (bareSet w)).objs.size, l] := fun m => by
    rcases List.mem_cons.mp m with q | q
    · rw [size1] at q
      exact Nat.ne_of_lt (Nat.lt_succ_self _) q
    · exact Nat.ne_of_gt lt_l (List.mem_singleton.mp q)
  have vals : ∀ (i : Nat) (v : Value), its[i]? = some v → ∃ z t, zs[i]? = some z ∧ v = .str z t := fun i v hv => by
    have hi : i < zs.length := by
      rw [← cnt]
      exact (Array.getElem?_eq_some_iff.mp hv).1
    obtain ⟨t, rfl⟩ := SS.strs_at are i v (by rw [Array.getElem?_toList]; exact hv)
    refine ⟨zs.getD i Str.empty, t, ?_, rfl⟩
    rw [List.getD_eq_getElem?_getD, List.getElem?_eq_getElem hi]
    rfl
  refine texts_update ((Walks.tuple calm3 _ l ne_l its).toS) s.heap.objs.size out zs cnt few vals (its.size - 0) 0 _ (by omega) (Nat.zero_le _) ?walk ?fresh fun s2 mv R => ?_
  case walk => exact ⟨⟨_, Heap.get?_push_size _ rfl, rfl, rfl⟩, isl'.push _⟩
  case fresh =>
    refine ⟨0, Nat.zero_le _, ⟨fun _ => List.nodup_nil, fun _ => rfl⟩, _, #[], 0, _, Heap.get?_push_of_some _ here, ⟨rfl, rfl, rfl⟩, rfl, (fun e he => by simp at he), (fun k => by simp), (by decide), (by rfl), rfl⟩
  obtain ⟨g, ge, dr, tk, os2⟩ := s2
  have q1 : ge = s.gens := mv.gens
  have q2 : dr = s.drawn := mv.drawn
  have q3 : os2 = s.os := mv.os
  subst q1 q2 q3
  show wpAny _ _ _ _ _ _
  refine wpAny_pure ?_
  show wpAny _ _ (ret Value.none) _ _ _
  refine wpAny_pure (fin _ ⟨g, tk, rfl, R, fun b o z => mv.heap b o (fun m => ?_) (Heap.get?_push_of_some _ (Heap.get?_push_of_some _ z))⟩)
  have lb := Heap.lt_size z
  rcases List.mem_cons.mp m with q | q
  · exact Nat.ne_of_lt lb q
  · have q := List.mem_singleton.mp q
    rw [size1] at q
    exact Nat.ne_of_lt (Nat.lt_succ_of_lt lb) q
theorem texts_call {l : Addr} {its : Array Value} {zs : List PySem.Str} {Q : Value → Shared → Prop} (calm : A.handled = none) (isl : s.heap.IsTuple l its) (are : StrsAre its.toList zs) (few : zs.length + 1 < scanBound)
    (fin : ∀ s2, TextsDone P w s zs s2 → Q (.ref s.heap.objs.size) s2) : wpAny (model P w) A (call (.type "set") [.ref l]) Q E s := by
  obtain ⟨c0, tl, mro⟩ := F.called_set.mro
  have made := F.called_set.made
  have subt := F.called_set.sub
  have nty := F.called_set.notType
  have canc := F.called_set.canCreate
  have tyc := F.typeCall_set_1 (.ref l)
  have here : (s.heap.push (bareSet w)).get? s.heap.objs.size = some (bareSet w) := Heap.get?_push_size _ rfl
  have tyS : Shared.TypeIs { s with heap := s.heap.push (bareSet w) } (.ref s.heap.objs.size) "set" := ⟨_, here, rfl⟩
  have ini := F.called_set.init.lookup
  have inb := F.called_set.init.bind (.ref s.heap.objs.size)
  refine wpAny_call (codeAny_of_tree ?_)
  show wpAny _ _ (callAny (.type "set") _) _ _ _
  refine wpAny_pure ⟨Code.quiet_builtin _ (by decide +kernel), ?go⟩
  case go =>
  refine codeAny_builtin F.entry_type_call ?_
  rw [Around.under_plain (weight_type_call_type "set" [.ref l] []) rfl]
  repeat (any_goals (first | assumption | wp_step))
  refine codeAny_mono (code_set_led1 (w := w) (.ref l) (E := E) (Q₁ := fun v t => v = .ref s.heap.objs.size ∧ t = { s with heap := s.heap.push (bareSet w) }) ⟨rfl, rfl⟩) fun r t z => ?_
  match r, z with
  | .error e, z => exact z
  | .ok (.ret v), z =>
    obtain ⟨rfl, rfl⟩ := z
    repeat (any_goals (first | assumption | wp_step))
    refine codeAny_mono (codeAny_call_builtin (R := wants (fun v t => v = .none ∧ TextsDone P w s zs t) E) F.called_set.init.plain F.entry_set_init (check_set_init_1 tyS (texts_filled (A := A.in1) (by simp [calm]) isl are few fun s2 d => ⟨rfl, d⟩))) fun r t z => ?_
    match r, z with
    | .error e, z => exact z
    | .ok (.ret v), z =>
      obtain ⟨rfl, d⟩ := z
      obtain ⟨g, tk, rfl, d'⟩ := id d
      repeat (any_goals (first | assumption | wp_step))
      exact fin _ d
end
/-- len(set(t)), t a tuple of texts: some count, that of the tuple just where they are unlike -/
def tLenTexts (K : PySem.W.Frag) (ta : TE) : TE := fun σ H Q => ta σ H fun x H1 => ∃ (l : Addr) (zs : List PySem.Str), x = .ref l ∧ SqT K H1 l (zs.map V.str) ∧ zs.length < 1000 ∧ ∀ c : Nat, (c = zs.length ↔ zs.Nodup) → Q (.int c) H1
theorem pe_lenTexts {X : Cx} {a : Expr} {ta : TE} {p p2 q pos : Pos} (ha : PE X a ta) (hg : Gl X "len") (hm : X.mg "len" = none) (hg2 : Gl X "set") (hm2 : X.mg "set" = none) (hc : X.calm = true := by rfl)
    (na : starEach [a] X.env = (false, eval a X.env) :: starEach [] X.env := by rfl) : PE X (.Call (.Name "len" p) [.Call (.Name "set" p2) [a] [] q] [] pos) (tLenTexts X.K ta) := by
  refine ⟨fun pins s σ H Q I h => Call_ (ld_blt I hg hm boot_len (callWith_builtin1 (args_cons (Call_ (ld_blt I hg2 hm2 boot_set ?_)) rfl) rfl rfl))⟩
  refine callWith_type1 (args_cons (thn (ha.run pins s σ H _ I h) fun v s1 ⟨x, H1, I1, r1, q1⟩ => args_nil ?_) na) na rfl
  obtain ⟨l, zs, rfl, sq, few, k⟩ := q1
  cases r1
  obtain ⟨its, rv, pl, hz⟩ := I1.tuple sq
  refine texts_call (P := X.prog) (w := X.w) (I1.ok.hd hc) pl (by simpa using strsAre_of rv) (Nat.lt_of_lt_of_le (show zs.length + 1 < 1001 by omega) (by decide)) fun s2 d => args_nil ?_
  obtain ⟨g, tk, rfl, ⟨c, lc, ec, o, es, ep, tb, ho, hex, hd, _, _, _, hf, hn⟩, kk⟩ := d
  have I2 : Inv X pins σ H1 { s1 with heap := g, toks := tk } := I1.kept kk
  exact call_len_set ho hex hd hf (by rw [hn]; have : zs.length < 1000 := few; omega) ⟨.int (c : Nat), H1, I2.tok _, ⟨_, by rw [hn]⟩, k c ec⟩
end VQ
namespace VQ
open PySem PySem.Spec PyProof.Rows L2
/-! ### tuple.index, flat items -/
def rTIndex (K : PySem.W.Frag) : V → List V → Hp → VK → Prop := fun x xs H Q => ∃ (a : Addr) (ys : List V) (y : V) (j : Nat) (z : V), x = V.ref a ∧ xs = [y] ∧ SqT K H a ys ∧ flatV y = true ∧ ys.all flatV = true ∧ ys[j]? = some z ∧ eqV z y = true ∧
  (∀ (m : Nat) (z' : V), m < j → ys[m]? = some z' → eqV z' y = false) ∧ Q (.int (j : Nat)) H
theorem mt_tindex {X : Cx} : MtR X "tuple.index" (rTIndex X.K) := by
  intro pins s σ H x xs v us Q I rx rxs h
  obtain ⟨a, ys, y, j, z, rfl, rfl, hs, fy, fys, hz, hzj, hno, q⟩ := h
  cases rx
  cases rxs with
  | cons ry rt =>
    rename_i uy ut
    cases rt
    obtain ⟨its, rv, ⟨⟨cls, dd, data, sl⟩, ho, hc, n, hd⟩, hlen⟩ := I.tuple hs
    simp only at hc hd
    subst hc hd
    obtain ⟨u, hu, ru⟩ := rv.get hz
    obtain ⟨hjl, hje⟩ := List.getElem?_eq_some_iff.mp hu
    have hvl := rv.length
    have hj : j < its.toArray.size := by simpa using hjl
    refine call_meets PySem.F.slot_tuple_index ⟨_, ho, rfl⟩ PySem.F.entry_tuple_index (PySem.F.args_tuple_index_2 _ _)
      (TI.tuple_indexAt a its.toArray n dd sl uy (eqU y) j hj ?_ ?_) ⟨ho, fun u' hu' => mem_eqAt ry fy rv fys u' (by simpa using hu'), ?_⟩
    · have e1 : its.toArray[j] = u := by simpa using hje
      rw [e1, eqU_of ru (flat_at fys hz)]
      exact hzj
    · intro m hm hmj
      have hml : m < its.length := by simpa using hm
      have hmy : m < ys.length := by omega
      have hy' : ys[m]? = some ys[m] := List.getElem?_eq_getElem hmy
      obtain ⟨u2, hu2, ru2⟩ := rv.get hy'
      obtain ⟨_, hme⟩ := List.getElem?_eq_some_iff.mp hu2
      have e1 : its.toArray[m] = u2 := by simpa using hme
      rw [e1, eqU_of ru2 (flat_at fys hy')]
      exact hno m _ hmj hy'
    · exact ⟨.int (j : Nat), H, I.tok _, ⟨_, rfl⟩, q⟩
end VQ
namespace VQ
open PySem PySem.Spec PyProof.Rows L2
/-! ### tuples of which it is known that they have no dict: their methods can be called -/
def TupN (H : Hp) (a : Addr) (xs : List V) : Prop := ∃ o : Obj, o.dict = none ∧ H a = some (.frz o (.tup xs))
theorem TupN.same {H H' : Hp} (s : Same H H') {a : Addr} {xs : List V} (h : TupN H a xs) : TupN H' a xs := by
  obtain ⟨o, d, e⟩ := h
  exact ⟨o, d, s _ _ e⟩
theorem TupN.sq {K : PySem.W.Frag} {H : Hp} {a : Addr} {xs : List V} (h : TupN H a xs) : SqT K H a xs := by
  obtain ⟨o, d, e⟩ := h
  exact .inl (.inr ⟨o, e⟩)
theorem TupN.ty {K : PySem.W.Frag} {H : Hp} {a : Addr} {xs : List V} (h : TupN H a xs) : TyX K H (.ref a) (.type "tuple") := by
  obtain ⟨o, d, e⟩ := h
  exact .fTuple e
theorem TupN.upd {H : Hp} {a : Addr} {xs : List V} {o : Obj} (d : o.dict = none) : TupN (upd H a (.frz o (.tup xs))) a xs := ⟨o, d, upd_same⟩
/-- a written tuple, such a one -/
def tTupN (t : TA) : TE := fun σ H Q => t σ H fun xs H1 => xs.length ≤ sizeLine ∧ ∀ (p : Addr) (o : Obj), H1 p = none → o.dict = none → Q (.ref p) (upd H1 p (.frz o (.tup xs)))
theorem pe_tupN {X : Cx} {es : List Expr} {t : TA} {x1} {pos : Pos} (h : PA X es t) : PE X (.Tuple es x1 pos) (tTupN t) := by
  refine ⟨fun pins s σ H Q I hq => ?_⟩
  refine wpAny_Tuple_spliced (thn (h.run pos pins s σ H _ I hq) fun us s1 ⟨xs, H1, I1, r, z, q⟩ => ⟨by rw [← r.length]; exact z, ?_⟩)
  have hf : H1 s1.heap.objs.size = none := I1.hok.fresh (Nat.le_refl _)
  refine ⟨.ref s1.heap.objs.size, _, I1.laid (o := .frz { cls := .type "tuple", data := .seq us.toArray } (.tup xs)) (t' := s1.toks) (fun b u e => Heap.get?_push_of_some _ e) (Nat.le_refl _) ?_, rfl, q _ _ hf rfl⟩
  exact ⟨Heap.get?_push_size _ rfl, z, us, r, ⟨_, Heap.get?_push_size _ rfl, rfl, _, rfl⟩⟩
/-- tuple(xs), such a one -/
def rTupN (K : PySem.W.Frag) : List V → Hp → VK → Prop := fun xs H Q => ∃ p ys, xs = [.ref p] ∧ SqL K H p ys ∧ ∀ (l : Addr) (o : Obj), H l = none → o.dict = none → Q (.ref l) (upd H l (.frz o (.tup ys)))
theorem call_tuple_N {X : Cx} : CallR X (.type "tuple") (rTupN X.K) := by
  intro pins s σ H xs us Q I r h
  obtain ⟨p, ys, rfl, hq, q⟩ := h
  obtain ⟨u, rfl, rx⟩ := vals1 r
  cases rx
  obtain ⟨its, r', pl, hz⟩ := I.list hq
  have hlen := r'.length
  refine call_tuple_list pl.isList (fun h' kp => ?_) (by simp only [List.size_toArray] <;> omega)
  have I1 : Inv X pins σ H { s with heap := h' } := I.kept (t' := s.toks) kp
  have I2 : Inv X pins σ (L2.upd H h'.objs.size (.frz { cls := .type "tuple", data := .seq its.toArray } (.tup ys))) { s with heap := h'.push { cls := .type "tuple", data := .seq its.toArray } } :=
    I1.laid (t' := s.toks) (fun b o e => Heap.get?_push_of_some _ e) (Nat.le_refl _) (show ObjOk X.prog X.w _ _ _ (.frz _ (.tup ys)) from ⟨Heap.get?_push_size _ rfl, hz, its, r', IsTup.new _ _⟩)
  exact ⟨.ref h'.objs.size, _, I2, rfl, q _ _ (I1.hok.fresh (Nat.le_refl _)) rfl⟩
/-- a method of such a tuple -/
def tBMN (r : V → List V → Hp → VK → Prop) (to : TE) (t : TA) : TE := fun σ H Q => to σ H fun x H1 => (∃ p xs, x = .ref p ∧ TupN H1 p xs) ∧ t σ H1 fun xs H2 => r x xs H2 Q
theorem pe_bmN {X : Cx} {o e : Expr} {es : List Expr} {to : TE} {t : TA} {name : Str} {apos cpos : Pos} {id : String} {r : V → List V → Hp → VK → Prop} (slot : Slot "tuple" name id) (hty : typeOf (.builtin id) = pure (.type "method_descriptor")) (hm : MtR X id r) (ho : PE X o to) (ha : PA X (e :: es) t)
    (hbase : attributeBase o name X.env (eval o X.env) = eval o X.env := by rfl)
    (hfew : ((backTo cpos (starEach (e :: es) X.env)).all (fun x => !x.1) && (backToKw cpos (keywordEach [] X.env)).all (fun x => x.1.isSome)
      && decide ((e :: es).length + ([] : List Keyword).length + (if ([] : List Keyword).isEmpty then 0 else 1) < 30)) = true := by rfl)
    (hline : (apos.endLine == cpos.line) = true := by rfl) (hs : starEach (e :: es) X.env = (false, eval e X.env) :: starEach es X.env := by rfl) (hplain : (backTo cpos (starEach es X.env)).any (·.1) = false := by rfl) :
    PE X (.Call (.Attribute o name apos) (e :: es) [] cpos) (tBMN r to t) := by
  refine ⟨fun pins s σ H Q I h => ?_⟩
  refine wpAny_Call_method_late hbase hfew hline rfl (thn (ho.run pins s σ H _ I h) fun v s1 ⟨x, H1, I1, r1, ty, q1⟩ => ?_)
  obtain ⟨p, xs, rfl, ob, hd, hp⟩ := ty
  cases r1
  obtain ⟨hg, hk⟩ := (show ObjOk X.prog X.w H1 s1.heap p (.frz ob (.tup xs)) from I1.hok p _ hp)
  obtain ⟨_, its, _, o', ho', hc, _⟩ := hk
  refine ⟨"tuple", id, PySem.F.plainAttrs_tuple, slot, hty, ⟨o', ho', hc⟩, fun a e => ?_, ?_⟩
  · cases e
    exact ⟨ob, hg, hd⟩
  have hA := ha.run cpos pins s1 σ H1 _ I1 q1
  rw [hs] at hA ⊢
  refine Calls.callWith_builtin (by show (false || (backTo cpos (starEach es X.env)).any (·.1)) = false; rw [hplain] <;> rfl) (Calls.evalArgs_plain ?_)
  exact thn hA fun us s2 ⟨vs, H2, I2, r2, q2⟩ => hm pins s2 σ H2 (.ref p) vs (.ref p) us Q I2 rfl r2 q2
end VQ
namespace VQ
open PySem L2 LamX
/-! ### comprehensions, by what they have collected -/
/-- all but one place stands as it was -/
def Off (D : Addr) (H H' : Hp) : Prop := ∀ p o, p ≠ D → H p = some o → H' p = some o
theorem Off.of {D : Addr} {H H' : Hp} (s : Same H H') : Off D H H' := fun p o _ h => s p o h
theorem Off.upd {D : Addr} {H : Hp} {o : HO} : Off D H (upd H D o) := fun p u n h => (upd_ne n).trans h
theorem sqT_same {K : PySem.W.Frag} {H H' : Hp} {a : Addr} {xs : List V} (s : Same H H') (h : SqT K H a xs) : SqT K H' a xs := by
  rcases h with (z | ⟨o, z⟩) | z
  · exact .inl (.inl (s _ _ z))
  · exact .inl (.inr ⟨o, s _ _ z⟩)
  · exact .inr z
theorem same_put {H H' : Hp} {D : Addr} {o : HO} (s : Same H H') (n : H D = none) : Same H (upd H' D o) := fun p u z => by
  rw [upd_ne (fun e => by rw [e, n] at z; cases z)]
  exact s p u z
/-- a turn of a comprehension, with what is to hold where an item is kept, and where none is -/
abbrev Trn (g : TG) (tt : TT) (te : TE) (vs : List Nat) (σ : L2.St) (x : V) (H : Hp) (k1 : VK) (k2 : Hp → Prop) : Prop := g x (wipe σ vs) H fun σ2 H2 => wipe σ2 vs = wipe σ vs ∧ tt σ2 H2 fun c H3 => if c = true then te σ2 H3 k1 else k2 H3
abbrev rInSign : R2 := fun x y H Q => ∃ (c : Nat) (z : Str), x = .str ⟨#[c]⟩ ∧ y = .str z ∧ Q (.bl (decide (c ∈ z.cps.toList))) H
abbrev rIsN1 : R2 := fun x y H Q => y = .non ∧ Q (.bl (decide (x = .non))) H
abbrev rNotN1 : R2 := fun x y H Q => y = .non ∧ Q (.bl (!decide (x = .non))) H
theorem getF {α : Type} {f : α → V} {xs : List α} {i : Nat} {v : V} (h : (xs.map f)[i]? = some v) : ∃ x, xs[i]? = some x ∧ v = f x := by
  rw [List.getElem?_map] at h
  cases e : xs[i]? with
  | none => rw [e] at h; cases h
  | some x =>
    rw [e] at h
    cases h
    exact ⟨x, rfl, rfl⟩
theorem lt_line {n : Nat} (h : n < 1000) : n < sizeLine := Nat.lt_of_lt_of_le h (by decide)
theorem lc_tupS {K : PySem.W.Frag} {a : Addr} {xs : List V} {g : TG} {tt : TT} {te : TE} {vs : List Nat} {σ : L2.St} {H1 : Hp} {D : Addr} {Qd : Hp → Prop} (A : Nat → List V → Hp → Prop) (new : H1 D = none) (sq : SqT K H1 a xs) (few : xs.length < 1000) (off : ∀ i acc H H', Off D H H' → A i acc H → A i acc H') (h0 : A 0 [] H1)
    (turn : ∀ (i : Nat) (x : V) (acc : List V) (H : Hp), xs[i]? = some x → Same H1 H → H D = some (.lst acc) → A i acc H → ∀ (k1 : VK) (k2 : Hp → Prop), (∀ y H4, Same H H4 → A (i + 1) (acc ++ [y]) H4 → k1 y H4) → (∀ H4, Same H H4 → A (i + 1) acc H4 → k2 H4) → Trn g tt te vs σ x H k1 k2)
    (fin : ∀ acc H, Same H1 H → H D = some (.lst acc) → A xs.length acc H → Qd H) :
    ∃ W : Nat → Nat → Hp → Prop, (∃ m, W 0 m (upd H1 D (.lst []))) ∧ ∀ i m H, W i m H → ((Itt K a).stop i H ∧ Qd H) ∨ ((Itt K a).go i H ∧ ∃ Nx : Hp → Prop, (∀ H', Nx H' → ∃ m', m' < m ∧ W (i + 1) m' H') ∧
      ∀ x H', (Itt K a).yld i H x H' → Trn g tt te vs σ x H' (fun y H4 => ∃ acc, H4 D = some (.lst acc) ∧ acc.length < sizeLine ∧ Nx (upd H4 D (.lst (acc ++ [y])))) Nx) := by
  refine lc_tup (xs := xs) (fun i H => Same H1 H ∧ ∃ acc, H D = some (.lst acc) ∧ acc.length ≤ i ∧ A i acc H) ⟨same_put (Same.refl H1) new, [], upd_same, Nat.zero_le _, off _ _ _ _ Off.upd h0⟩ (fun i H _ q => sqT_same q.1 sq) ?_ ?_
  · rintro i x H hx ⟨s, acc, hd, la, a⟩
    refine turn i x acc H hx s hd a _ _ (fun y H4 s4 a4 => ⟨acc, s4 _ _ hd, lt_line (Nat.lt_of_le_of_lt la (Nat.lt_trans (List.getElem?_eq_some_iff.mp hx).1 few)), same_put (s.trans s4) new, acc ++ [y], upd_same, by rw [List.length_append]; exact Nat.succ_le_succ la, off _ _ _ _ Off.upd a4⟩) fun H4 s4 a4 => ⟨s.trans s4, acc, s4 _ _ hd, Nat.le_succ_of_le la, a4⟩
  · rintro H ⟨s, acc, hd, la, a⟩
    exact fin acc H s hd a
theorem lc_listS {K : PySem.W.Frag} {a : Addr} {xs : List V} {g : TG} {tt : TT} {te : TE} {vs : List Nat} {σ : L2.St} {H1 : Hp} {D : Addr} {Qd : Hp → Prop} (A : Nat → List V → Hp → Prop) (new : H1 D = none) (sq : SqL K H1 a xs) (few : xs.length < 1000) (off : ∀ i acc H H', Off D H H' → A i acc H → A i acc H') (h0 : A 0 [] H1)
    (turn : ∀ (i : Nat) (x : V) (acc : List V) (H : Hp), xs[i]? = some x → Same H1 H → H D = some (.lst acc) → A i acc H → ∀ (k1 : VK) (k2 : Hp → Prop), (∀ y H4, Same H H4 → A (i + 1) (acc ++ [y]) H4 → k1 y H4) → (∀ H4, Same H H4 → A (i + 1) acc H4 → k2 H4) → Trn g tt te vs σ x H k1 k2)
    (fin : ∀ acc H, Same H1 H → H D = some (.lst acc) → A xs.length acc H → Qd H) :
    ∃ W : Nat → Nat → Hp → Prop, (∃ m, W 0 m (upd H1 D (.lst []))) ∧ ∀ i m H, W i m H → ((Itl K a).stop i H ∧ Qd H) ∨ ((Itl K a).go i H ∧ ∃ Nx : Hp → Prop, (∀ H', Nx H' → ∃ m', m' < m ∧ W (i + 1) m' H') ∧
      ∀ x H', (Itl K a).yld i H x H' → Trn g tt te vs σ x H' (fun y H4 => ∃ acc, H4 D = some (.lst acc) ∧ acc.length < sizeLine ∧ Nx (upd H4 D (.lst (acc ++ [y])))) Nx) := by
  refine lc_list (xs := xs) (fun i H => Same H1 H ∧ ∃ acc, H D = some (.lst acc) ∧ acc.length ≤ i ∧ A i acc H) ⟨same_put (Same.refl H1) new, [], upd_same, Nat.zero_le _, off _ _ _ _ Off.upd h0⟩ (fun i H _ q => Same.seq q.1 sq) ?_ ?_
  · rintro i x H hx ⟨s, acc, hd, la, a⟩
    refine turn i x acc H hx s hd a _ _ (fun y H4 s4 a4 => ⟨acc, s4 _ _ hd, lt_line (Nat.lt_of_le_of_lt la (Nat.lt_trans (List.getElem?_eq_some_iff.mp hx).1 few)), same_put (s.trans s4) new, acc ++ [y], upd_same, by rw [List.length_append]; exact Nat.succ_le_succ la, off _ _ _ _ Off.upd a4⟩) fun H4 s4 a4 => ⟨s.trans s4, acc, s4 _ _ hd, Nat.le_succ_of_le la, a4⟩
  · rintro H ⟨s, acc, hd, la, a⟩
    exact fin acc H s hd a
theorem lc_rangeS {lo : Int} {n : Nat} {g : TG} {tt : TT} {te : TE} {vs : List Nat} {σ : L2.St} {H1 : Hp} {D : Addr} {Qd : Hp → Prop} (A : Nat → List V → Hp → Prop) (new : H1 D = none)  (few : n < 1000) (off : ∀ i acc H H', Off D H H' → A i acc H → A i acc H') (h0 : A 0 [] H1)
    (turn : ∀ (i : Nat) (acc : List V) (H : Hp), i < n → Same H1 H → H D = some (.lst acc) → A i acc H → ∀ (k1 : VK) (k2 : Hp → Prop), (∀ y H4, Same H H4 → A (i + 1) (acc ++ [y]) H4 → k1 y H4) → (∀ H4, Same H H4 → A (i + 1) acc H4 → k2 H4) → Trn g tt te vs σ (.int (lo + i)) H k1 k2)
    (fin : ∀ acc H, Same H1 H → H D = some (.lst acc) → A n acc H → Qd H) :
    ∃ W : Nat → Nat → Hp → Prop, (∃ m, W 0 m (upd H1 D (.lst []))) ∧ ∀ i m H, W i m H → ((Itr lo n).stop i H ∧ Qd H) ∨ ((Itr lo n).go i H ∧ ∃ Nx : Hp → Prop, (∀ H', Nx H' → ∃ m', m' < m ∧ W (i + 1) m' H') ∧
      ∀ x H', (Itr lo n).yld i H x H' → Trn g tt te vs σ x H' (fun y H4 => ∃ acc, H4 D = some (.lst acc) ∧ acc.length < sizeLine ∧ Nx (upd H4 D (.lst (acc ++ [y])))) Nx) := by
  refine lc_range (lo := lo) (n := n) (fun i H => Same H1 H ∧ ∃ acc, H D = some (.lst acc) ∧ acc.length ≤ i ∧ A i acc H) ⟨same_put (Same.refl H1) new, [], upd_same, Nat.zero_le _, off _ _ _ _ Off.upd h0⟩ ?_ ?_
  · rintro i H hx ⟨s, acc, hd, la, a⟩
    refine turn i acc H hx s hd a _ _ (fun y H4 s4 a4 => ⟨acc, s4 _ _ hd, lt_line (Nat.lt_of_le_of_lt la (Nat.lt_trans hx few)), same_put (s.trans s4) new, acc ++ [y], upd_same, by rw [List.length_append]; exact Nat.succ_le_succ la, off _ _ _ _ Off.upd a4⟩) fun H4 s4 a4 => ⟨s.trans s4, acc, s4 _ _ hd, Nat.le_succ_of_le la, a4⟩
  · rintro H ⟨s, acc, hd, la, a⟩
    exact fin acc H s hd a
theorem lc_textS {z : Str} {g : TG} {tt : TT} {te : TE} {vs : List Nat} {σ : L2.St} {H1 : Hp} {D : Addr} {Qd : Hp → Prop} (A : Nat → List V → Hp → Prop) (new : H1 D = none)  (few : z.cps.size < 1000) (off : ∀ i acc H H', Off D H H' → A i acc H → A i acc H') (h0 : A 0 [] H1)
    (turn : ∀ (i c : Nat) (acc : List V) (H : Hp), z.cps[i]? = some c → Same H1 H → H D = some (.lst acc) → A i acc H → ∀ (k1 : VK) (k2 : Hp → Prop), (∀ y H4, Same H H4 → A (i + 1) (acc ++ [y]) H4 → k1 y H4) → (∀ H4, Same H H4 → A (i + 1) acc H4 → k2 H4) → Trn g tt te vs σ (.str ⟨#[c]⟩) H k1 k2)
    (fin : ∀ acc H, Same H1 H → H D = some (.lst acc) → A z.cps.size acc H → Qd H) :
    ∃ W : Nat → Nat → Hp → Prop, (∃ m, W 0 m (upd H1 D (.lst []))) ∧ ∀ i m H, W i m H → ((Its z).stop i H ∧ Qd H) ∨ ((Its z).go i H ∧ ∃ Nx : Hp → Prop, (∀ H', Nx H' → ∃ m', m' < m ∧ W (i + 1) m' H') ∧
      ∀ x H', (Its z).yld i H x H' → Trn g tt te vs σ x H' (fun y H4 => ∃ acc, H4 D = some (.lst acc) ∧ acc.length < sizeLine ∧ Nx (upd H4 D (.lst (acc ++ [y])))) Nx) := by
  refine lc_text  (fun i H => Same H1 H ∧ ∃ acc, H D = some (.lst acc) ∧ acc.length ≤ i ∧ A i acc H) ⟨same_put (Same.refl H1) new, [], upd_same, Nat.zero_le _, off _ _ _ _ Off.upd h0⟩ ?_ ?_
  · rintro i c H hx ⟨s, acc, hd, la, a⟩
    refine turn i c acc H hx s hd a _ _ (fun y H4 s4 a4 => ⟨acc, s4 _ _ hd, lt_line (Nat.lt_of_le_of_lt la (Nat.lt_trans (Array.getElem?_eq_some_iff.mp hx).1 few)), same_put (s.trans s4) new, acc ++ [y], upd_same, by rw [List.length_append]; exact Nat.succ_le_succ la, off _ _ _ _ Off.upd a4⟩) fun H4 s4 a4 => ⟨s.trans s4, acc, s4 _ _ hd, Nat.le_succ_of_le la, a4⟩
  · rintro H ⟨s, acc, hd, la, a⟩
    exact fin acc H s hd a
/-- a comprehension over enumerate of a tuple -/
theorem lc_enumT {K : PySem.W.Frag} {a : Addr} {xs : List V} {g : TG} {tt : TT} {te : TE} {vs : List Nat} {σ : L2.St} {H1 : Hp} {D : Addr} {Qd : Hp → Prop} (Pv : Nat → Hp → Prop) (h0 : Pv 0 (upd H1 D (.lst []))) (there : ∀ i H, Pv i H → SqT K H a xs)
    (turn : ∀ (i : Nat) (x : V) (T : Addr) (H : Hp), xs[i]? = some x → Pv i H → H T = none → Trn g tt te vs σ (.ref T) (upd H T (.tup [.int (i : Nat), x])) (fun y H4 => ∃ acc, H4 D = some (.lst acc) ∧ acc.length < sizeLine ∧ Pv (i + 1) (upd H4 D (.lst (acc ++ [y])))) (Pv (i + 1)))
    (fin : ∀ H, Pv xs.length H → Qd H) :
    ∃ W : Nat → Nat → Hp → Prop, (∃ m, W 0 m (upd H1 D (.lst []))) ∧ ∀ i m H, W i m H → ((IteT K a).stop i H ∧ Qd H) ∨ ((IteT K a).go i H ∧ ∃ Nx : Hp → Prop, (∀ H', Nx H' → ∃ m', m' < m ∧ W (i + 1) m' H') ∧
      ∀ x H', (IteT K a).yld i H x H' → Trn g tt te vs σ x H' (fun y H4 => ∃ acc, H4 D = some (.lst acc) ∧ acc.length < sizeLine ∧ Nx (upd H4 D (.lst (acc ++ [y])))) Nx) := by
  refine ⟨fun i m H => m + i = xs.length ∧ Pv i H, ⟨xs.length, rfl, h0⟩, ?_⟩
  rintro i m H ⟨em, p⟩
  have sq := there i H p
  by_cases lt : i < xs.length
  · refine .inr ⟨⟨xs, xs[i], sq, List.getElem?_eq_getElem lt⟩, Pv (i + 1), fun H' p' => ⟨m - 1, by omega, by omega, p'⟩, ?_⟩
    rintro v H' ⟨T, x, rfl, nT, rfl, ex⟩
    exact turn i x T H (ex xs sq) p nT
  · have e : i = xs.length := by omega
    subst e
    exact .inl ⟨⟨xs, sq, rfl⟩, fin H p⟩
theorem lc_enumTS {K : PySem.W.Frag} {a : Addr} {xs : List V} {g : TG} {tt : TT} {te : TE} {vs : List Nat} {σ : L2.St} {H1 : Hp} {D : Addr} {Qd : Hp → Prop} (A : Nat → List V → Hp → Prop) (new : H1 D = none) (sq : SqT K H1 a xs) (few : xs.length < 1000) (off : ∀ i acc H H', Off D H H' → A i acc H → A i acc H') (h0 : A 0 [] H1)
    (turn : ∀ (i : Nat) (x : V) (T : Addr) (acc : List V) (H : Hp), xs[i]? = some x → Same H1 H → H T = some (.tup [.int (i : Nat), x]) → H D = some (.lst acc) → A i acc H → ∀ (k1 : VK) (k2 : Hp → Prop), (∀ y H4, Same H H4 → A (i + 1) (acc ++ [y]) H4 → k1 y H4) → (∀ H4, Same H H4 → A (i + 1) acc H4 → k2 H4) → Trn g tt te vs σ (.ref T) H k1 k2)
    (fin : ∀ acc H, Same H1 H → H D = some (.lst acc) → A xs.length acc H → Qd H) :
    ∃ W : Nat → Nat → Hp → Prop, (∃ m, W 0 m (upd H1 D (.lst []))) ∧ ∀ i m H, W i m H → ((IteT K a).stop i H ∧ Qd H) ∨ ((IteT K a).go i H ∧ ∃ Nx : Hp → Prop, (∀ H', Nx H' → ∃ m', m' < m ∧ W (i + 1) m' H') ∧
      ∀ x H', (IteT K a).yld i H x H' → Trn g tt te vs σ x H' (fun y H4 => ∃ acc, H4 D = some (.lst acc) ∧ acc.length < sizeLine ∧ Nx (upd H4 D (.lst (acc ++ [y])))) Nx) := by
  refine lc_enumT (xs := xs) (fun i H => Same H1 H ∧ ∃ acc, H D = some (.lst acc) ∧ acc.length ≤ i ∧ A i acc H) ⟨same_put (Same.refl H1) new, [], upd_same, Nat.zero_le _, off _ _ _ _ Off.upd h0⟩ (fun i H q => sqT_same q.1 sq) ?_ ?_
  · rintro i x T H hx ⟨s, acc, hd, la, a⟩ nT
    have TD : D ≠ T := fun e => by
      rw [e, nT] at hd
      cases hd
    have sT := same_new (o := HO.tup [.int (i : Nat), x]) nT
    refine turn i x T acc _ hx (s.trans sT) upd_same (sT _ _ hd) (off _ _ _ _ (Off.of sT) a) _ _ (fun y H4 s4 a4 => ⟨acc, (sT.trans s4) _ _ hd, lt_line (Nat.lt_of_le_of_lt la (Nat.lt_trans (List.getElem?_eq_some_iff.mp hx).1 few)), same_put (s.trans (sT.trans s4)) new, acc ++ [y], upd_same, by rw [List.length_append]; exact Nat.succ_le_succ la, off _ _ _ _ Off.upd a4⟩) fun H4 s4 a4 => ⟨s.trans (sT.trans s4), acc, (sT.trans s4) _ _ hd, Nat.le_succ_of_le la, a4⟩
  · rintro H ⟨s, acc, hd, la, a⟩
    exact fin acc H s hd a
/-- .. that keeps of each item what f tells -/
theorem lc_tupF {K : PySem.W.Frag} {a : Addr} {xs : List V} {g : TG} {tt : TT} {te : TE} {vs : List Nat} {σ : L2.St} {H1 : Hp} {D : Addr} {Qd : Hp → Prop} (f : V → Option V) (new : H1 D = none) (sq : SqT K H1 a xs) (few : xs.length < 1000)
    (turn : ∀ (i : Nat) (x : V) (H : Hp), xs[i]? = some x → Same H1 H → ∀ (k1 : VK) (k2 : Hp → Prop), (∀ y H4, f x = some y → Same H H4 → k1 y H4) → (∀ H4, f x = none → Same H H4 → k2 H4) → Trn g tt te vs σ x H k1 k2)
    (fin : ∀ H, Same H1 H → H D = some (.lst (xs.filterMap f)) → Qd H) :
    ∃ W : Nat → Nat → Hp → Prop, (∃ m, W 0 m (upd H1 D (.lst []))) ∧ ∀ i m H, W i m H → ((Itt K a).stop i H ∧ Qd H) ∨ ((Itt K a).go i H ∧ ∃ Nx : Hp → Prop, (∀ H', Nx H' → ∃ m', m' < m ∧ W (i + 1) m' H') ∧
      ∀ x H', (Itt K a).yld i H x H' → Trn g tt te vs σ x H' (fun y H4 => ∃ acc, H4 D = some (.lst acc) ∧ acc.length < sizeLine ∧ Nx (upd H4 D (.lst (acc ++ [y])))) Nx) := by
  refine lc_tupS (xs := xs) (fun i acc _ => acc = (xs.take i).filterMap f) new sq few (fun _ _ _ _ _ h => h) rfl ?_ ?_
  · rintro i x acc H hx s hd rfl k1 k2 y1 y2
    have et : (xs.take (i + 1)).filterMap f = (xs.take i).filterMap f ++ (f x).toList := by
      rw [List.take_add_one, hx, List.filterMap_append]
      cases q : f x <;> simp [q]
    refine turn i x H hx s k1 k2 (fun y H4 e s4 => y1 y H4 s4 ?_) fun H4 e s4 => y2 H4 s4 ?_
    · rw [et, e]
      rfl
    · rw [et, e]
      exact (List.append_nil _).symm
  · rintro acc H s hd rfl
    rw [List.take_of_length_le (Nat.le_refl _)] at hd
    exact fin H s hd
/-- .. that tells g of each item -/
theorem lc_tupV {K : PySem.W.Frag} {a : Addr} {xs : List V} {g : TG} {tt : TT} {te : TE} {vs : List Nat} {σ : L2.St} {H1 : Hp} {D : Addr} {Qd : Hp → Prop} (f : V → V) (new : H1 D = none) (sq : SqT K H1 a xs) (few : xs.length < 1000)
    (turn : ∀ (i : Nat) (x : V) (H : Hp), xs[i]? = some x → Same H1 H → ∀ (k1 : VK) (k2 : Hp → Prop), (∀ H4, Same H H4 → k1 (f x) H4) → Trn g tt te vs σ x H k1 k2)
    (fin : ∀ H, Same H1 H → H D = some (.lst (xs.map f)) → Qd H) :
    ∃ W : Nat → Nat → Hp → Prop, (∃ m, W 0 m (upd H1 D (.lst []))) ∧ ∀ i m H, W i m H → ((Itt K a).stop i H ∧ Qd H) ∨ ((Itt K a).go i H ∧ ∃ Nx : Hp → Prop, (∀ H', Nx H' → ∃ m', m' < m ∧ W (i + 1) m' H') ∧
      ∀ x H', (Itt K a).yld i H x H' → Trn g tt te vs σ x H' (fun y H4 => ∃ acc, H4 D = some (.lst acc) ∧ acc.length < sizeLine ∧ Nx (upd H4 D (.lst (acc ++ [y])))) Nx) :=
  lc_tupF (xs := xs) (fun x => some (f x)) new sq few (fun i x H hx s k1 k2 y1 _ => turn i x H hx s k1 k2 fun H4 s4 => y1 _ H4 rfl s4) fun H s hd => fin H s (by
    have e : xs.filterMap (fun x => some (f x)) = xs.map f := by
      rw [← List.filterMap_eq_map]
      rfl
    rw [← e]
    exact hd)
/-- .. that keeps of each item what f tells -/
theorem lc_listF {K : PySem.W.Frag} {a : Addr} {xs : List V} {g : TG} {tt : TT} {te : TE} {vs : List Nat} {σ : L2.St} {H1 : Hp} {D : Addr} {Qd : Hp → Prop} (f : V → Option V) (new : H1 D = none) (sq : SqL K H1 a xs) (few : xs.length < 1000)
    (turn : ∀ (i : Nat) (x : V) (H : Hp), xs[i]? = some x → Same H1 H → ∀ (k1 : VK) (k2 : Hp → Prop), (∀ y H4, f x = some y → Same H H4 → k1 y H4) → (∀ H4, f x = none → Same H H4 → k2 H4) → Trn g tt te vs σ x H k1 k2)
    (fin : ∀ H, Same H1 H → H D = some (.lst (xs.filterMap f)) → Qd H) :
    ∃ W : Nat → Nat → Hp → Prop, (∃ m, W 0 m (upd H1 D (.lst []))) ∧ ∀ i m H, W i m H → ((Itl K a).stop i H ∧ Qd H) ∨ ((Itl K a).go i H ∧ ∃ Nx : Hp → Prop, (∀ H', Nx H' → ∃ m', m' < m ∧ W (i + 1) m' H') ∧
      ∀ x H', (Itl K a).yld i H x H' → Trn g tt te vs σ x H' (fun y H4 => ∃ acc, H4 D = some (.lst acc) ∧ acc.length < sizeLine ∧ Nx (upd H4 D (.lst (acc ++ [y])))) Nx) := by
  refine lc_listS (xs := xs) (fun i acc _ => acc = (xs.take i).filterMap f) new sq few (fun _ _ _ _ _ h => h) rfl ?_ ?_
  · rintro i x acc H hx s hd rfl k1 k2 y1 y2
    have et : (xs.take (i + 1)).filterMap f = (xs.take i).filterMap f ++ (f x).toList := by
      rw [List.take_add_one, hx, List.filterMap_append]
      cases q : f x <;> simp [q]
    refine turn i x H hx s k1 k2 (fun y H4 e s4 => y1 y H4 s4 ?_) fun H4 e s4 => y2 H4 s4 ?_
    · rw [et, e]
      rfl
    · rw [et, e]
      exact (List.append_nil _).symm
  · rintro acc H s hd rfl
    rw [List.take_of_length_le (Nat.le_refl _)] at hd
    exact fin H s hd
/-- .. that tells g of each item -/
theorem lc_listV {K : PySem.W.Frag} {a : Addr} {xs : List V} {g : TG} {tt : TT} {te : TE} {vs : List Nat} {σ : L2.St} {H1 : Hp} {D : Addr} {Qd : Hp → Prop} (f : V → V) (new : H1 D = none) (sq : SqL K H1 a xs) (few : xs.length < 1000)
    (turn : ∀ (i : Nat) (x : V) (H : Hp), xs[i]? = some x → Same H1 H → ∀ (k1 : VK) (k2 : Hp → Prop), (∀ H4, Same H H4 → k1 (f x) H4) → Trn g tt te vs σ x H k1 k2)
    (fin : ∀ H, Same H1 H → H D = some (.lst (xs.map f)) → Qd H) :
    ∃ W : Nat → Nat → Hp → Prop, (∃ m, W 0 m (upd H1 D (.lst []))) ∧ ∀ i m H, W i m H → ((Itl K a).stop i H ∧ Qd H) ∨ ((Itl K a).go i H ∧ ∃ Nx : Hp → Prop, (∀ H', Nx H' → ∃ m', m' < m ∧ W (i + 1) m' H') ∧
      ∀ x H', (Itl K a).yld i H x H' → Trn g tt te vs σ x H' (fun y H4 => ∃ acc, H4 D = some (.lst acc) ∧ acc.length < sizeLine ∧ Nx (upd H4 D (.lst (acc ++ [y])))) Nx) :=
  lc_listF (xs := xs) (fun x => some (f x)) new sq few (fun i x H hx s k1 k2 y1 _ => turn i x H hx s k1 k2 fun H4 s4 => y1 _ H4 rfl s4) fun H s hd => fin H s (by
    have e : xs.filterMap (fun x => some (f x)) = xs.map f := by
      rw [← List.filterMap_eq_map]
      rfl
    rw [← e]
    exact hd)
end VQ
namespace VQ
open PySem PySem.Spec PySem.Calls PyProof.Rows L2
/-! ### a, *b = xs and *a, b = xs -/
section
variable {prog : Program} {w : World} {A : Around} {E : Value → Shared → Prop} {s : Shared}
/-- the rest of the work, once the iterator stands at place i -/
theorem star_rest {I l : Addr} {its : List Value} {n i : Nat} {T : String} {St : Nat → Heap → Prop} {Q : List Value → Shared → Prop} {h1 : Heap} (hT : T = "str_ascii_iterator" ∨ T = "str_iterator" ∨ T = "list_iterator" ∨ T = "tuple_iterator")
    (W : Walks prog w A.in1 I [I, l] [I] its.toArray.size (fun i v => its.toArray[i]? = some v) St) (ty : ∀ i (u : Shared), St i u.heap → u.TypeIs (.ref I) T) (st : St i h1) (bI : I < h1.objs.size) (bl : l < h1.objs.size) (hi : i < n) (hn : n ≤ its.length + 1) (hz : its.length ≤ sizeLine)
    (up : ∀ b o, b ≠ I → s.heap.get? b = some o → h1.get? b = some o) (new : s.heap.objs.size ≤ I)
    (fin : ∀ (h' : Heap) (tk : Nat), (∀ b o, s.heap.get? b = some o → h'.get? b = some o) →
      Q (its.take i ++ [.ref h'.objs.size] ++ (its.drop i).drop (its.length + 1 - n)) { s with heap := h'.push { cls := .type "list", data := .seq ((its.drop i).take (its.length + 1 - n)).toArray }, toks := tk }) :
    wpAny (model prog w) A (do
      if (its.take i).length < i then
        rule "unpack.star.too-few-before"
        raiseError "ValueError" s!"not enough values to unpack (expected at least {n - 1}, got {(its.take i).length})"
      let rest ← holding (its.take i) (collect (.ref I))
      let after := n - 1 - i
      if rest.length < after then
        rule "unpack.star.too-few"
        raiseError "ValueError" s!"not enough values to unpack (expected at least {n - 1}, got {i + rest.length})"
      let mid := rest.length - after
      return its.take i ++ [← newList (rest.take mid)] ++ rest.drop mid) Q E { s with heap := h1 } := by
  have few : ¬ (its.take i).length < i := by
    rw [List.length_take]
    omega
  rw [if_neg few]
  have szA : its.toArray.size = its.length := by simp
  refine wpAny_bind (wpAny_holding (PySem.W.kun_collect (s := { s with heap := h1 }) hT W ty (k := i) (by rw [szA]; omega) st bI bl (fun h2 tk kp => ?_) (by rw [szA]; exact hz)))
  have el : its.toArray.toList = its := by simp
  rw [el]
  have len : (its.drop i).length = its.length - i := List.length_drop
  have em : (its.drop i).length - (n - 1 - i) = its.length + 1 - n := by
    rw [len]
    omega
  dsimp only
  rw [if_neg (show ¬ (its.drop i).length < n - 1 - i by rw [len]; omega), em]
  refine wpAny_bind (wpAny_newList ?_ (by rw [List.length_take, len]; omega))
  have old : ∀ b o, s.heap.get? b = some o → h2.get? b = some o := fun b o e => by
    have ne : b ≠ I := Nat.ne_of_lt (Nat.lt_of_lt_of_le (Heap.lt_size e) new)
    exact kp b o ne (up b o ne e)
  exact wpAny_pure (fin h2 tk old)
theorem star_list {l : Addr} {its : List Value} {n i : Nat} {Q : List Value → Shared → Prop} (hl : s.heap.IsList l its.toArray) (calm : A.handled = none) (hi : i < n) (hn : n ≤ its.length + 1) (hz : its.length ≤ sizeLine)
    (fin : ∀ (h' : Heap) (tk : Nat), (∀ b o, s.heap.get? b = some o → h'.get? b = some o) →
      Q (its.take i ++ [.ref h'.objs.size] ++ (its.drop i).drop (its.length + 1 - n)) { s with heap := h'.push { cls := .type "list", data := .seq ((its.drop i).take (its.length + 1 - n)).toArray }, toks := tk }) :
    wpAny (model prog w) A (unpackItems (.ref l) n (some i)) Q E s := by
  have hl0 := hl
  obtain ⟨ob, hob, _⟩ := hl0
  have lt := Heap.lt_size hob
  have ne : l ≠ s.heap.objs.size := Nat.ne_of_lt lt
  unfold unpackItems notIterableAtAll
  refine wpAny_bind (wpAny_bind (wpAny_specialOf hl.typeIs slot_list_iter.lookup (wpAny_pure ?_)))
  simp only [Bool.false_eq_true, if_false]
  refine wpAny_bind (wpAny_holding (wpAny_pyIter_list hl ?_))
  have szA : its.toArray.size = its.length := by simp
  refine wpAny_bind (wpAny_holding (PySem.W.kun_draw ne i 0 _ _ ⟨_, Heap.get?_push_size _ rfl, rfl, rfl⟩ (hl.push _) (by rw [szA]; omega) fun h1 it1 sb => ?_))
  rw [Nat.zero_add] at it1
  have l1 : h1.IsList l its.toArray := (hl.push _).extBut sb.extBut ne
  have it0 := it1
  have l0 := l1
  obtain ⟨oi, hoi, _⟩ := it0
  obtain ⟨o2, ho2, _⟩ := l0
  rw [show (its.toArray.toList.drop 0).take i = its.take i by simp]
  exact star_rest (s := s) (T := "list_iterator") (.inr (.inr (.inl rfl))) (Walks.list (A := A.in1) calm s.heap.objs.size l ne its.toArray) (fun j u st => st.1.typeIs) ⟨it1, l1⟩ (Heap.lt_size hoi) (Heap.lt_size ho2) hi hn hz (fun b o nb e => sb.extBut b o nb (Heap.get?_push_of_some _ e)) (Nat.le_refl _) fin
theorem star_tuple {l : Addr} {its : List Value} {n i : Nat} {Q : List Value → Shared → Prop} (hl : IsTup s.heap l its.toArray) (calm : A.handled = none) (hi : i < n) (hn : n ≤ its.length + 1) (hz : its.length ≤ sizeLine)
    (fin : ∀ (h' : Heap) (tk : Nat), (∀ b o, s.heap.get? b = some o → h'.get? b = some o) →
      Q (its.take i ++ [.ref h'.objs.size] ++ (its.drop i).drop (its.length + 1 - n)) { s with heap := h'.push { cls := .type "list", data := .seq ((its.drop i).take (its.length + 1 - n)).toArray }, toks := tk }) :
    wpAny (model prog w) A (unpackItems (.ref l) n (some i)) Q E s := by
  have hl0 := hl
  obtain ⟨ob, hob, _⟩ := hl0
  have lt := Heap.lt_size hob
  have ne : l ≠ s.heap.objs.size := Nat.ne_of_lt lt
  unfold unpackItems notIterableAtAll
  refine wpAny_bind (wpAny_bind (wpAny_specialOf hl.typeIs slot_tuple_iter.lookup (wpAny_pure ?_)))
  simp only [Bool.false_eq_true, if_false]
  refine wpAny_bind (wpAny_holding (iter_tuple hl ?_))
  have szA : its.toArray.size = its.length := by simp
  refine wpAny_bind (wpAny_holding (draw_tuple ne i 0 _ _ ⟨_, Heap.get?_push_size _ rfl, rfl, rfl⟩ (hl.push _) (by rw [szA]; omega) fun h1 it1 sb => ?_))
  rw [Nat.zero_add] at it1
  have l1 : IsTup h1 l its.toArray := (hl.push _).extBut sb.extBut ne
  have it0 := it1
  have l0 := l1
  obtain ⟨oi, hoi, _⟩ := it0
  obtain ⟨o2, ho2, _⟩ := l0
  rw [show (its.toArray.toList.drop 0).take i = its.take i by simp]
  exact star_rest (s := s) (T := "tuple_iterator") (.inr (.inr (.inr rfl))) (Walks.tuple (A := A.in1) calm s.heap.objs.size l ne its.toArray) (fun j u st => st.1.typeIs) ⟨it1, l1⟩ (Heap.lt_size hoi) (Heap.lt_size ho2) hi hn hz (fun b o nb e => sb.extBut b o nb (Heap.get?_push_of_some _ e)) (Nat.le_refl _) fin
end
section
variable {X : Cx} {pos : Pos}
theorem Vals.drops : ∀ {xs : List V} {us : List Value} (n : Nat), Vals xs us → Vals (xs.take n) (us.take n)
  | _, _, 0, _ => .nil
  | _, _, _ + 1, .nil => .nil
  | _, _, n + 1, .cons a t => .cons a (Vals.drops n t)
theorem Vals.app {xs ys : List V} {us ws : List Value} : Vals xs us → Vals ys ws → Vals (xs ++ ys) (us ++ ws)
  | .nil, h => h
  | .cons a t, h => .cons a (Vals.app t h)
/-- targets with one star at place i, n of them in all -/
def gStar (K : PySem.W.Frag) (n i : Nat) (t : TGs) : TG := fun v σ H Q => ∃ a xs, v = .ref a ∧ (SqL K H a xs ∨ SqT K H a xs) ∧ n ≤ xs.length + 1 ∧
  ∀ D, H D = none → t (xs.take i ++ [.ref D] ++ (xs.drop i).drop (xs.length + 1 - n)) σ (upd H D (.lst ((xs.drop i).take (xs.length + 1 - n)))) Q
theorem pg_star {es es' : List Expr} {k : Nat} {t : TGs} {n i : Nat} (hc : X.calm = true) (h : PGs X es' t) (same : (assignEach es X.env).map (·.2) = (assignEach es' X.env).map (·.2)) (hn : (assignEach es X.env).length = n := by rfl) (hst : (assignEach es X.env).findIdx? (·.1) = some i := by rfl) (hi : i < n := by decide) :
    PG X (.Tuple es k pos) (gStar X.K n i t) := by
  refine ⟨fun pins s σ H v u Q I r hw => ?_⟩
  obtain ⟨a, xs, e1, hq, few, hw⟩ := hw
  subst e1
  cases r
  rw [PyProof.Rows.assign_Tuple]
  refine wpAny_bind (wpAny_standAt ?_)
  unfold unpack
  rw [hn, hst, same]
  have go : ∀ its : List Value, Vals xs its → xs.length ≤ sizeLine → ∀ (h' : Heap) (tk : Nat), (∀ b o, s.heap.get? b = some o → h'.get? b = some o) →
      wpAny (model X.prog X.w) X.A (assignInOrder ((assignEach es' X.env).map (·.2)) (its.take i ++ [.ref h'.objs.size] ++ (its.drop i).drop (its.length + 1 - n))) (fun _ s' => ∃ σ' H', Inv X pins σ' H' s' ∧ Q σ' H') X.xe { s with heap := h'.push { cls := .type "list", data := .seq ((its.drop i).take (its.length + 1 - n)).toArray }, toks := tk } := by
    intro its rv hz h' tk kp
    have I1 : Inv X pins σ H { s with heap := h', toks := tk } := I.kept (t' := tk) kp
    have nD : H h'.objs.size = none := I1.hok.fresh (Nat.le_refl _)
    have el := rv.length
    have v2 : Vals ((xs.drop i).take (xs.length + 1 - n)) ((its.drop i).take (its.length + 1 - n)) := by
      rw [← el]
      exact Vals.drops _ (rv.drop i)
    have I2 := I1.laid (o := .lst ((xs.drop i).take (xs.length + 1 - n))) (h' := h'.push { cls := .type "list", data := .seq ((its.drop i).take (its.length + 1 - n)).toArray }) (t' := tk) (fun b o e => Heap.get?_push_of_some _ e) (Nat.le_refl _)
      ⟨by rw [List.length_take, List.length_drop]; omega, _, 0, v2, Heap.get?_push_size _ rfl⟩
    refine h.run pins _ σ _ _ _ Q I2 ?_ (hw _ nD)
    rw [← el]
    exact Vals.app (Vals.app (Vals.drops i rv) (.cons rfl .nil)) ((rv.drop i).drop _)
  rcases hq with hq | hq
  · obtain ⟨its, rv, pl, hz⟩ := I.list hq
    have hl' : s.heap.IsList a its.toArray := by
      obtain ⟨o, m, e, c, d, q⟩ := pl
      exact ⟨o, e, c, m, q⟩
    have el := rv.length
    exact wpAny_bind (wpAny_holding (star_list hl' (I.ok.hd hc) hi (by omega) (by omega) (go its rv hz)))
  · obtain ⟨its, rv, ht, hz⟩ := I.tuple hq
    have el := rv.length
    exact wpAny_bind (wpAny_holding (star_tuple ht (I.ok.hd hc) hi (by omega) (by omega) (go its rv hz)))
end
end VQ
namespace VQ
open PySem PySem.Spec PyProof.Rows L2
/-! ### a table of the top whose keys are texts -/
def keysB (K : PySem.W.Frag) (d : Addr) (ks : List Str) : Bool := match K.lookup d with
  | some ⟨_, _, .dict es _, _⟩ => es.toList.all fun e => match e.key with
    | .str x _ => decide (x ∈ ks)
    | _ => false
  | _ => false
theorem keysB_no {K : PySem.W.Frag} {d : Addr} {ks : List Str} (h : keysB K d ks = true) {z : Str} (n : z ∉ ks) : PySem.W.nsIn K d z = some none := by
  unfold keysB at h
  unfold PySem.W.nsIn
  cases q : K.lookup d with
  | none =>
    rw [q] at h
    cases h
  | some o =>
    obtain ⟨oc, od, dt, osl⟩ := o
    rw [q] at h
    cases dt with
    | dict es m =>
      have all : ∀ e ∈ es.toList, ∃ x t, e.key = .str x t ∧ x ∈ ks := fun e me => by
        have h1 := List.all_eq_true.mp h e me
        cases ek : e.key with
        | str x t =>
          rw [ek] at h1
          exact ⟨x, t, rfl, of_decide_eq_true h1⟩
        | _ =>
          rw [ek] at h1
          cases h1
      have e1 : es.toList.find? (·.key.isStr z) = none := List.find?_eq_none.mpr fun e me => by
        obtain ⟨x, t, ek, mx⟩ := all e me
        rw [ek]
        intro y
        have y2 : (x == z) = true := y
        rw [LawfulBEq.eq_of_beq y2] at mx
        exact n mx
      have e2 : es.toList.any (·.refKey) = false := by
        rw [List.any_eq_false]
        intro e me
        obtain ⟨x, t, ek, mx⟩ := all e me
        unfold DictEntry.refKey
        rw [ek]
        exact Bool.false_ne_true
      show (match es.toList.find? (·.key.isStr z) with
        | some e => some (some e.val)
        | none => if es.toList.any (·.refKey) then none else some none) = _
      rw [e1, e2]
      rfl
    | _ => cases h
/-- a table: its keys, what stands at each -/
structure TabK (K : PySem.W.Frag) (w : World) (d : Addr) (kvs : List (Str × V)) : Prop where
  kd : ∃ es n, KDict K w d es n
  yes : ∀ p ∈ kvs, ∃ u, PySem.W.nsIn K d p.1 = some (some u) ∧ RelV p.2 u
  no : ∀ z, z ∉ kvs.map (·.1) → PySem.W.nsIn K d z = some none
theorem TabK.dct {K : PySem.W.Frag} {w : World} {d : Addr} {kvs : List (Str × V)} (T : TabK K w d kvs) {p : Str × V} (m : p ∈ kvs) : KDct K w d p.1 p.2 := by
  obtain ⟨es, n, D⟩ := T.kd
  obtain ⟨u, e, r⟩ := T.yes p m
  exact ⟨es, n, u, D.at_, D.lit, e, r⟩
/-- z in the table, for any text z -/
def rInTab (K : PySem.W.Frag) (w : World) (neg : Bool) : R2 := fun x y H Q => ∃ (z : Str) (d : Addr) (kvs : List (Str × V)), x = .str z ∧ y = .ref d ∧ TabK K w d kvs ∧ Q (.bl (if neg then !decide (z ∈ kvs.map (·.1)) else decide (z ∈ kvs.map (·.1)))) H
theorem tab_some {K : PySem.W.Frag} {w : World} {d : Addr} {kvs : List (Str × V)} (T : TabK K w d kvs) (z : Str) : ∃ r, PySem.W.nsIn K d z = some r ∧ r.isSome = decide (z ∈ kvs.map (·.1)) := by
  by_cases m : z ∈ kvs.map (·.1)
  · obtain ⟨p, mp, rfl⟩ := List.mem_map.mp m
    obtain ⟨u, e, _⟩ := T.yes p mp
    exact ⟨_, e, by rw [decide_eq_true m]; rfl⟩
  · exact ⟨_, T.no z m, by rw [decide_eq_false m]; rfl⟩
theorem op_inTab {X : Cx} : OpR X (compareOp .In) (rInTab X.K X.w false) := by
  intro pins s σ H x y v u Q I rx ry h
  obtain ⟨z, d, kvs, rfl, rfl, T, q⟩ := h
  obtain ⟨es, n, D⟩ := T.kd
  obtain ⟨r, e, er⟩ := tab_some T z
  refine op_in_kd D pins s σ H _ _ v u Q I rx ry ⟨z, r, rfl, rfl, e, ?_⟩
  rw [er]
  exact q
theorem op_notInTab {X : Cx} : OpR X (compareOp .NotIn) (rInTab X.K X.w true) := by
  intro pins s σ H x y v u Q I rx ry h
  obtain ⟨z, d, kvs, rfl, rfl, T, q⟩ := h
  obtain ⟨es, n, D⟩ := T.kd
  obtain ⟨r, e, er⟩ := tab_some T z
  refine op_notIn_kd D pins s σ H _ _ v u Q I rx ry ⟨z, r, rfl, rfl, e, ?_⟩
  rw [er]
  exact q
/-! ### x in a tuple of things of any depth -/
def rInDT (K : PySem.W.Frag) : R2 := fun x y H Q => ∃ d ds, Dp K H x d ∧ Dp K H y (.tuple ds) ∧ SeqAt.shaped d = true ∧ SeqAt.shaped (.tuple ds) = true ∧ Q (.bl (ds.any fun z => PyData.eqv z d)) H
theorem op_inDT {X : Cx} (hu : X.A.units + 65 < cLine) : OpR X (compareOp .In) (rInDT X.K) := by
  intro pins s σ H x y v u Q inv rx ry h
  obtain ⟨d, ds, hd, he, sd, se, q⟩ := h
  obtain ⟨as, r1⟩ := Dp.reads inv d x v hd rx
  obtain ⟨bs, r2⟩ := Dp.reads inv (.tuple ds) y u he ry
  exact SeqAt.in_tuple_reads r2 r1 (SeqAt.canLay_of_shaped se) (SeqAt.canLay_of_shaped sd) (room_in_shaped sd hu) ⟨.bl _, H, inv, rfl, q⟩
end VQ
namespace VQ
open PySem PySem.Spec PyProof.Rows L2
/-! ### {**d, k: v} -/
section
variable {prog : Program} {w : World} {A : Around} {E : Value → Shared → Prop} {s : Shared} {κ : Type} [DecidableEq κ] {knd : KeyKind prog w κ}
theorem put_pairs {d : Addr} {kvs : List (κ × Value)} {k : κ} {key v : Value} {Q : Unit → Shared → Prop} (isK : knd.is k key = true) (dd : s.heap.DictOf knd d kvs) (few : kvs.length ≤ sizeLine)
    (fin : ∀ h', h'.DictOf knd d (stored kvs k v) → Heap.SameBut d s.heap h' → Q () { s with heap := h' }) : wpAny (model prog w) A (dictPut d (knd.hash k) key v) Q E s := by
  obtain ⟨o, es, ep, here, exact', data, ks, prs, nd⟩ := dd
  have small : es.size ≤ sizeLine := by
    have e1 := prs.length
    have e2 : es.toList.length = es.size := by simp
    omega
  have same : (es.findIdx? fun e => knd.is k e.key) = kvs.findIdx? fun kv => decide (kv.1 = k) := by
    rw [← prs.findIdx k]
    obtain ⟨l⟩ := es
    simp
  unfold dictPut
  refine wpAny_bind (wpAny_dictFind_of isK here data ks ?_)
  cases q : es.findIdx? fun e => knd.is k e.key with
  | some i =>
    have yes := any_of_findIdx_some (same ▸ q)
    refine wpAny_updateDict here data (fin _ ⟨_, _, ep, Heap.get?_update_self _ here (Obj.isFreed_of_dict (Obj.data_mapDict data _)), exact'.mapDict _, Obj.data_mapDict data _, ks.modify _ _, ?_, ?_⟩ (Heap.SameBut.update ..))
    · rw [stored, if_pos yes]
      have onL : (es.toList.findIdx? fun e => knd.is k e.key) = some i := by
        rw [← q]
        obtain ⟨l⟩ := es
        simp
      have done := prs.modify nd onL v
      obtain ⟨l⟩ := es
      simpa using done
    · rw [stored, if_pos yes, keys_map_store]
      exact nd
  | none =>
    have out : k ∉ kvs.map (·.1) := not_mem_of_findIdx_none (same ▸ q)
    have no : ¬ (kvs.any fun kv => decide (kv.1 = k)) = true := fun y => by
      obtain ⟨kv, m, e⟩ := List.any_eq_true.mp y
      exact out (List.mem_map.mpr ⟨kv, m, of_decide_eq_true e⟩)
    refine wpAny_updateDictKeys (hz := small) here data (fin _ ⟨_, _, ep + 1, Heap.get?_update_self _ here (Obj.isFreed_of_dict (Obj.data_mapDictKeys data _)), exact'.mapDictKeys _, Obj.data_mapDictKeys data _, ks.push isK _, ?_, ?_⟩ (Heap.SameBut.update ..))
    · rw [stored, if_neg no]
      have done := prs.append isK (knd.hash k) v
      obtain ⟨l⟩ := es
      simpa using done
    · rw [stored, if_neg no, List.map_append]
      exact nd_snoc nd out
omit [DecidableEq κ] in
theorem stored_le [DecidableEq κ] (acc : List (κ × Value)) (k : κ) (v : Value) : (stored acc k v).length ≤ acc.length + 1 := by
  unfold stored
  split
  · rw [List.length_map]
    omega
  · rw [List.length_append]
    exact Nat.le_refl _
omit [DecidableEq κ] in
theorem merged_le [DecidableEq κ] : ∀ (acc more : List (κ × Value)), (merged acc more).length ≤ acc.length + more.length
  | acc, [] => Nat.le_refl _
  | acc, p :: r => by
    have h1 := merged_le (stored acc p.1 p.2) r
    have h2 := stored_le acc p.1 p.2
    show (merged (stored acc p.1 p.2) r).length ≤ _
    rw [List.length_cons]
    omega
omit [DecidableEq κ] in
theorem merged_snoc [DecidableEq κ] (acc more : List (κ × Value)) (p : κ × Value) : merged acc (more ++ [p]) = stored (merged acc more) p.1 p.2 := by
  unfold merged
  rw [List.foldl_append]
  rfl
/-- a dict whose keys are no objects, merged into another one -/
theorem merge_pairs {d a : Addr} {acc kvs : List (κ × Value)} {Q : Unit → Shared → Prop} (ne : a ≠ d) (low : (a == sysModules) = false) (plain : ∀ k b, knd.is k (.ref b) = false) (dd : s.heap.DictOf knd d acc) (da : s.heap.DictOf knd a kvs) (few : acc.length + kvs.length ≤ sizeLine)
    (fin : ∀ h', h'.DictOf knd d (merged acc kvs) → Heap.SameBut d s.heap h' → Q () { s with heap := h' }) : wpAny (model prog w) A (mergeMapping d (.ref a) false) Q E s := by
  have ty := da.typeIs
  obtain ⟨o, es, ep, here, exD, data, ks, prs, nd⟩ := id da
  obtain ⟨od, esd, epd, hered, exd, datad, ksd, prsd, ndd⟩ := id dd
  unfold mergeMapping
  refine wpAny_bind (wpAny_isInstance ty isSubtype_dict_dict ?_)
  simp only [if_true]
  refine wpAny_bind (wpAny_specialOf ty F.slot_dict_iter.lookup ?_)
  simp only [beq_self_eq_true]
  refine wpAny_bind (wpAny_pure ?_)
  simp only [low, Bool.false_eq_true, if_false]
  refine wpAny_bind (wpAny_dictEntries hered datad ?_)
  have main : ∀ s1 : Shared, s1 = s → wpAny (model prog w) A (do
      let size := (← dictEntries a).size
      let epoch ← dictEpoch a
      for i in List.range size do
        let some e := (← dictEntries a)[i]? | unsupported "dict.changed-during-merge"
        holding [e.key, e.val] (dictPut d e.hash e.key e.val)
        if (← dictEpoch a) != epoch then unsupported "dict.changed-during-merge") Q E s1 := by
    rintro s1 rfl
    refine wpAny_bind (wpAny_dictEntries here data ?_)
    refine wpAny_bind (wpAny_dictEpoch here data ?_)
    refine wpAny_bind ?_
    have sz : es.size = kvs.length := by
      rw [← prs.length]
      simp
    have nn : ∀ (j : Nat) (s2 : Shared), s2 = s1 → True := fun _ _ _ => trivial
    refine wpAny_forIn_list _ (fun rest _ t => ∃ (i : Nat) (h' : Heap), rest = List.range' i (es.size - i) ∧ i ≤ es.size ∧ t = { s1 with heap := h' } ∧ h'.DictOf knd d (merged acc (kvs.take i)) ∧ Heap.SameBut d s1.heap h') _ ?_ ?_ (List.range es.size) PUnit.unit ⟨0, s1.heap, by rw [List.range_eq_range', Nat.sub_zero], Nat.zero_le _, rfl, dd, Heap.SameBut.refl ..⟩
    · rintro x rest _ t ⟨i, h', er, li, rfl, dh, sb⟩
      have lt : i < es.size := by
        rcases Nat.lt_or_ge i es.size with c | c
        · exact c
        · rw [show es.size - i = 0 by omega] at er
          cases er
      obtain ⟨n, en⟩ : ∃ n, es.size - i = n + 1 := ⟨es.size - i - 1, by omega⟩
      rw [en, List.range'_succ] at er
      injection er with ex er
      subst ex
      have here' : h'.get? a = some o := (sb.2 a ne).trans here
      refine wpAny_bind (wpAny_dictEntries (s := { s1 with heap := h' }) here' data ?_)
      have get : es[x]? = some es[x] := Array.getElem?_eq_getElem lt
      rw [get]
      have ltk : x < kvs.length := by omega
      have both := prs.get? (i := x) (e := es[x]) (k := kvs[x].1) (v := kvs[x].2) (by rw [Array.getElem?_toList]; exact get) (List.getElem?_eq_getElem ltk)
      obtain ⟨k', ik', hk'⟩ := ks es[x] (Array.getElem_mem lt)
      have ek : k' = kvs[x].1 := knd.inj _ _ _ ik' both.1
      refine wpAny_bind (wpAny_holding ?_)
      rw [hk', ek]
      refine put_pairs (s := { s1 with heap := h' }) both.1 dh ?_ fun h2 dh2 sb2 => ?_
      · have := merged_le acc (kvs.take x)
        rw [List.length_take] at this
        omega
      · refine wpAny_bind (wpAny_dictEpoch (s := { s1 with heap := h2 }) ((sb2.2 a ne).trans here') data ?_)
        simp only [bne_self_eq_false, Bool.false_eq_true, if_false]
        refine wpAny_pure ⟨x + 1, h2, ?_, by omega, rfl, ?_, sb.trans sb2⟩
        · rw [er]
          congr 1
          omega
        · rw [List.take_add_one, List.getElem?_eq_getElem ltk, Option.toList_some, merged_snoc]
          rw [both.2] at dh2
          exact dh2
    · rintro _ t ⟨i, h', er, li, rfl, dh, sb⟩
      have ei : i = es.size := by
        rcases Nat.lt_or_ge i es.size with c | c
        · obtain ⟨n, en⟩ : ∃ n, es.size - i = n + 1 := ⟨es.size - i - 1, by omega⟩
          rw [en, List.range'_succ] at er
          cases er
        · omega
      rw [ei, sz, List.take_length] at dh
      exact wpAny_pure (fin h' dh sb)
  by_cases emp : esd.isEmpty = true
  · rw [if_pos emp]
    refine wpAny_bind (wpAny_dictEntries here data ?_)
    refine wpAny_bind ?_
    rw [← Array.forIn_toList]
    refine wpAny_forIn_list _ (fun rest _ t => (∀ e ∈ rest, ∀ b, e.key ≠ .ref b) ∧ t = s) _ ?_ ?_ es.toList PUnit.unit ⟨fun e m b eb => ?_, rfl⟩
    · rintro e rest _ t ⟨nr, rfl⟩
      have ne0 := nr e List.mem_cons_self
      cases ek : e.key with
      | ref b => exact absurd ek (ne0 b)
      | _ => exact wpAny_pure ⟨fun e' m' => nr e' (List.mem_cons_of_mem _ m'), rfl⟩
    · rintro _ t ⟨_, rfl⟩
      exact main _ rfl
    · obtain ⟨k, ik, _⟩ := ks e (by simpa using m)
      rw [eb, plain] at ik
      cases ik
  · rw [if_neg emp]
    exact main s rfl
end
theorem merged_new {κ : Type} [DecidableEq κ] : ∀ (more acc : List (κ × Value)), (more.map (·.1)).Nodup → (∀ p ∈ more, p.1 ∉ acc.map (·.1)) → merged acc more = acc ++ more
  | [], acc, _, _ => (List.append_nil _).symm
  | p :: r, acc, nd, out => by
    have no : ¬ (acc.any fun kv => decide (kv.1 = p.1)) = true := fun y => by
      obtain ⟨kv, m, e⟩ := List.any_eq_true.mp y
      exact out p List.mem_cons_self (List.mem_map.mpr ⟨kv, m, of_decide_eq_true e⟩)
    have e1 : stored acc p.1 p.2 = acc ++ [p] := by
      rw [stored, if_neg no]
    rw [List.map_cons, List.nodup_cons] at nd
    show merged (stored acc p.1 p.2) r = _
    rw [e1, merged_new r (acc ++ [p]) nd.2 fun q mq => ?_, List.append_assoc]
    · rfl
    · rw [List.map_append]
      intro m
      rcases List.mem_append.mp m with m | m
      · exact out q (List.mem_cons_of_mem _ mq) m
      · have : q.1 = p.1 := List.mem_singleton.mp m
        exact nd.1 (List.mem_map.mpr ⟨q, mq, this⟩)
theorem mix_noref {P : Program} {w : World} (k : L2.Key) (b : Addr) : (mixKind P w).is k (.ref b) = false := by
  cases k <;> rfl
section
variable {X : Cx} {pos : Pos}
/-- {**m, k: v} -/
def tSpread (tm tk tv : TE) : TE := fun σ H Q => ∀ p, H p = none → tm σ (upd H p (.dK [])) fun x H1 => ∃ (a : Addr) (kvs : List (L2.Key × V)), x = .ref a ∧ H1 a = some (.dK kvs) ∧ a ≠ p ∧ H1 p = some (.dK []) ∧ kvs.length < sizeLine ∧
  ∀ q, upd H1 p (.dK kvs) q = none → tPairs [(tk, tv)] σ (upd (upd H1 p (.dK kvs)) q (.dK [])) fun ps H3 => ∃ (z : V) (key : L2.Key), ps = [(kV key, z)] ∧ H3 q = some (.dK []) ∧ H3 p = some (.dK kvs) ∧ Q (.ref p) (upd (upd H3 q (.dK [(key, z)])) p (.dK (putK kvs key z)))
theorem pe_spread {m k v : Expr} {tm tk tv : TE} (hm : PE X m tm) (hk : PE X k tk) (hv : PE X v tv) : PE X (.Dict [none, some k] [m, v] pos) (tSpread tm tk tv) := by
  refine ⟨fun pins s σ H Q inv want => ?_⟩
  have ev : eval (.Dict [none, some k] [m, v] pos) X.env = (do
      standAt pos
      dictDisplay ((evalEachOpt [none, some k] X.env).zip ((evalEach [m, v] X.env).map fun v => do let x ← v; standAt pos; pure x))) := rfl
  rw [ev]
  refine wpAny_bind (wpAny_standAt ?_)
  show wpAny _ _ (dictDisplay [(none, do let x ← eval m X.env; standAt pos; pure x), (some (eval k X.env), do let x ← eval v X.env; standAt pos; pure x)]) _ _ _
  unfold dictDisplay
  simp only [List.forIn_cons, List.forIn_nil]
  refine wpAny_bind (wpAny_bind (wpAny_bind ?_))
  simp only [List.isEmpty_nil, if_true]
  refine wpAny_pure ?_
  refine wpAny_bind (wpAny_alloc ?_)
  have big := inv.big
  have np := inv.hok.fresh (Nat.le_refl s.heap.objs.size)
  have inv1 := inv.laid (a := s.heap.objs.size) (o := .dK []) (h' := s.heap.push { cls := .type "dict", data := .dict #[] }) (t' := s.toks) (fun _ _ q => Heap.get?_push_of_some _ q) (Nat.le_refl _) (dk_empty s.heap big)
  generalize s.heap.objs.size = p at *
  refine wpAny_bind (wpAny_holding (wpAny_bind (thn (hm.run pins _ σ _ _ inv1 (want p np)) fun u s1 ⟨x, H1, I1, rx, w1⟩ => ?_)))
  obtain ⟨a, kvs, rfl, ha, nap, hp, room, w1⟩ := w1
  cases rx
  refine wpAny_bind (wpAny_standAt (wpAny_pure ?_))
  obtain ⟨za, la, va, ra, da⟩ := dk_of I1.hok ha
  obtain ⟨zp, lp, vp, rp, dp⟩ := dk_of I1.hok hp
  cases rp
  refine wpAny_bind (wpAny_onRaise (wpAny_tryCatch (wpAny_onRaise (wpAny_holding (merge_pairs nap la mix_noref dp da (by rw [List.length_nil, ← ra.length]; omega) fun h1 d1 sb1 => ?_)))))
  have nda : (va.map (·.1)).Nodup := by
    obtain ⟨_, _, _, _, _, _, _, _, n⟩ := da
    exact n
  rw [merged_new va [] nda (fun _ _ m => by cases m), List.nil_append] at d1
  have he1 : ∃ q, h1.get? p = some q := let ⟨q, _, _, hq, _⟩ := d1; ⟨q, hq⟩
  have I2 := d_write (t' := s1.toks) (ob := .dK kvs) I1 (by rw [hp]; exact True.intro) sb1 he1 (dk_new (by omega) lp ra d1)
  refine wpAny_pure ?_
  simp only [List.nil_append, List.length_singleton]
  rw [if_neg (show ¬ ((1 : Nat) == 17) = true by decide)]
  refine wpAny_bind (wpAny_pure (wpAny_pure ?_))
  simp only [List.isEmpty_cons, Bool.false_eq_true, if_false]
  refine wpAny_bind (wpAny_bind (wpAny_holding ?_))
  have nq := I2.hok.fresh (Nat.le_refl h1.objs.size)
  have inv3 := I2.laid (a := h1.objs.size) (o := .dK []) (h' := h1.push { cls := .type "dict", data := .dict #[] }) (t' := s1.toks) (fun _ _ q => Heap.get?_push_of_some _ q) (Nat.le_refl _) (dk_empty h1 I2.big)
  have neq : p ≠ h1.objs.size := by
    obtain ⟨q, hq⟩ := he1
    exact Nat.ne_of_lt (Heap.lt_size hq)
  have low2 : (h1.objs.size == sysModules) = false := beq_eq_false_iff_ne.mpr (Nat.ne_of_gt I2.big)
  refine wpAny_subDict (knd := mixKind X.prog X.w) (s := { s1 with heap := h1 }) (by show 1 ≤ 15; decide) ?_
  show wpAny _ _ (evalPairs [(eval k X.env, do let x ← eval v X.env; standAt pos; pure x)]) _ _ { s1 with heap := h1.push { cls := .type "dict", data := .dict #[] } }
  generalize h1.objs.size = q at *
  have pp : PPs X pos [some k] [v] [(tk, tv)] := pps_cons hk hv pps_nil
  refine thn (pp.run pins _ σ _ _ inv3 (w1 q nq)) fun ws s2 ⟨ps, H3, I3, rel, z, key, eps, hq3, hp3, want3⟩ => ?_
  subst eps
  obtain ⟨rs, car, kv⟩ := carries_of (P := X.prog) (w := X.w) (kvs := [(key, z)]) rel
  obtain ⟨zq, lq, vq, rq, dq⟩ := dk_of I3.hok hq3
  cases rq
  refine ⟨rs, car, dq, fun h3 d3 sb3 => ?_⟩
  obtain ⟨r1, rfl⟩ : ∃ r1, rs = [r1] := by
    have e := kv.length
    match rs, e with
    | [r1], _ => exact ⟨r1, rfl⟩
  have em : merged [] [r1] = [r1] := merged_new [r1] [] (by simp) (fun _ _ m => by cases m)
  rw [em] at d3
  have he3 : ∃ o, h3.get? q = some o := let ⟨o, _, _, ho, _⟩ := d3; ⟨o, ho⟩
  have I4 := d_write (t' := s2.toks + ws.length) (ob := .dK [(key, z)]) I3 (by rw [hq3]; exact True.intro) sb3 he3 (dk_new (by show 1 ≤ sizeLine; decide) lq kv d3)
  have hp4 : upd H3 q (.dK [(key, z)]) p = some (.dK kvs) := (upd_ne neq).trans hp3
  obtain ⟨z4, l4, v4, r4, d4⟩ := dk_of I4.hok hp4
  obtain ⟨z5, l5, v5, r5, d5⟩ := dk_of I4.hok (show upd H3 q (.dK [(key, z)]) q = some (.dK [(key, z)]) from upd_same)
  refine wpAny_bind (wpAny_onRaise (wpAny_holding (merge_pairs (s := { s2 with heap := h3, toks := s2.toks + ws.length }) neq.symm low2 mix_noref d4 d3 (by rw [← r4.length]; show kvs.length + 1 ≤ _; omega) fun h6 d6 sb6 => ?_)))
  refine wpAny_pure (wpAny_pure ?_)
  have he6 : ∃ o, h6.get? p = some o := let ⟨o, _, _, ho, _⟩ := d6; ⟨o, ho⟩
  have kvm : KV (putK kvs key z) (merged v4 [r1]) := KV.merge (more := [(key, z)]) kv r4
  have len : (putK kvs key z).length ≤ sizeLine := by
    have := length_putK kvs key z
    omega
  have I6 := d_write (t' := s2.toks + ws.length) (ob := .dK (putK kvs key z)) I4 (by rw [hp4]; exact True.intro) sb6 he6 (dk_new len l4 kvm d6)
  exact ⟨.ref p, _, I6, rfl, want3⟩
end
end VQ
namespace VQ
open PySem PySem.Spec PyProof.Rows L2
/-! ### x(e, *xs), x a local name that holds one of several defs -/
structure HeldX (P : Program) (w : World) (K : PySem.W.Frag) (mg : Str → Option Value) (base : Heap) (k : Nat) (f : Addr) (sp : Sp) : Prop where
  ex : ∃ (fd : FuncData) (ps : List Str), FnOk P w K mg base (L2.CX P w) k f fd ps sp ∧ PySem.W.keepIn K (.ref f) = true ∧ Binds K fd ps []
def tCallX (P : Program) (w : World) (K : PySem.W.Frag) (mg : Str → Option Value) (base : Heap) (k i : Nat) (E : XK) (t : TA) : TE := fun σ H Q => ∃ (f : Addr) (sp : Sp), σ[i]? = some (some (.ref f)) ∧ HeldX P w K mg base k f sp ∧ t σ H fun vs H1 => sp vs H1 Q E
theorem pe_callX {X : Cx} {k i : Nat} {x : Str} {p pos : Pos} {e : Expr} {es : List Expr} {t : TA} {E : XK} (room : Room k X.A) (hN : X.N[i]? = some x) (hv : Vis X.env.scope x) (out : Passes (L2.CX X.prog X.w) X E) (ha : PA X (e :: es) t)
    (hdb : (x == ("__debug__" : Str)) = false := by decide) (hcd : (x == ("__classdict__" : Str)) = false := by decide)
    (he : starEach (e :: es) X.env = (false, eval e X.env) :: starEach es X.env := by rfl) (hst : (backTo pos (starEach es X.env)).any (·.1) = true := by rfl) : PE X (.Call (.Name x p) (e :: es) [] pos) (tCallX X.prog X.w X.K X.mg X.base k i E t) := by
  refine ⟨fun pins s σ H Q inv want => ?_⟩
  obtain ⟨f, sp, hs, ⟨fd, ps, F, hk, hb⟩, ht⟩ := want
  refine wpAny_Call_Name_kw (thn ((pe_var (pos := p) hN hv hdb hcd).run pins s σ H (fun v H1 => v = .ref f ∧ H1 = H) inv ⟨.ref f, hs, rfl, rfl⟩) fun u s1 ⟨v, H1, inv1, r1, q1⟩ => ?_)
  obtain ⟨rfl, rfl⟩ := q1
  cases r1
  refine PySem.W.callWith_S2 (h₀ := X.base) inv.ok.mod.kin hk (thn (ha.run pos pins s1 σ _ _ inv1 ht) fun us s2 ⟨vs, H2, inv2, r, q⟩ => ⟨inv2.kIn, ?_⟩) he hst
  refine run_fn F room hb .nil out inv2 r ?_
  show sp (vs ++ []) H2 Q E
  rw [List.append_nil]
  exact q
/-! ### d.get(z) of a table of the top -/
def tGetTab (K : PySem.W.Frag) (w : World) (td ty : TE) : TE := fun σ H Q => td σ H fun x H1 => ∃ (d : Addr) (kvs : List (Str × V)), x = .ref d ∧ TabK K w d kvs ∧ ty σ H1 fun y H2 => ∃ z : Str, y = .str z ∧
  (∀ v, (z, v) ∈ kvs → Q v H2) ∧ (z ∉ kvs.map (·.1) → Q .non H2)
theorem pe_getTab {X : Cx} {o e : Expr} {apos cpos : Pos} {td ty : TE} (ho : PE X o td) (he : PE X e ty) (m : M1 X o "get" apos e cpos) : PE X (.Call (.Attribute o "get" apos) [e] [] cpos) (tGetTab X.K X.w td ty) := by
  refine ⟨fun pins s σ H Q inv want => ?_⟩
  refine wpAny_Call_method m.base m.few m.line PySem.F.plainAttrs_dict PySem.F.slot_dict_get PySem.F.type_dict_get (thn (ho.run pins s σ H _ inv want) fun u s1 ⟨x, H1, inv1, rx, d, kvs, ex, T, q1⟩ => ?_)
  subst ex
  obtain rfl : u = Value.ref d := rx
  obtain ⟨es, n, D⟩ := T.kd
  refine ⟨kd_type D inv1, fun b q => ?_, ?_⟩
  · cases q
    exact ⟨_, inv1.kIn _ _ D.at_, rfl⟩
  rw [m.trees]
  refine Calls.callWith_builtin rfl (Calls.evalArgs_plain (Calls.spliced_cons (thn (he.run pins s1 σ H1 _ inv1 q1) fun iv s2 ⟨y, H2, inv2, ry, z, ey, yes, no⟩ => Calls.spliced_nil ?_)))
  subst ey
  obtain ⟨t, rfl⟩ := ry
  have mp := PySem.W.mapOf_K (prog := X.prog) (w := X.w) inv2.kIn D.at_ D.lit
  refine call_meetsIn PySem.F.slot_dict_get (kd_type D inv2) PySem.F.entry_dict_get (PySem.F.args_dict_get_2 _ _) (meets_dict_get (strKind X.prog X.w) d (strKind_is X.prog X.w z t) D.low) ⟨_, mp, ?_⟩
  by_cases c : z ∈ kvs.map (·.1)
  · obtain ⟨p, mp', rfl⟩ := List.mem_map.mp c
    obtain ⟨u0, e0, r0⟩ := T.yes p mp'
    rw [PySem.W.find_K D.at_ e0]
    exact ⟨p.2, H2, inv2.tok _, r0, yes p.2 mp'⟩
  · rw [PySem.W.find_K D.at_ (T.no z c)]
    exact ⟨.non, H2, inv2.tok _, rfl, no c⟩
end VQ
namespace VQ
open PySem PySem.Spec PyProof.Rows L2
/-! ### len(set(xs)), xs a list of tuples of numbers -/
theorem nodup_len {α : Type} [DecidableEq α] : ∀ (l m : List α), l.Nodup → (∀ x ∈ l, x ∈ m) → l.length ≤ m.length
  | [], m, _, _ => Nat.zero_le _
  | x :: l, m, nd, sub => by
    rw [List.nodup_cons] at nd
    have mx := sub x List.mem_cons_self
    have ih := nodup_len l (m.erase x) nd.2 fun y my => by
      have ne : y ≠ x := fun e => nd.1 (by rw [← e]; exact my)
      exact (List.mem_erase_of_ne ne).mpr (sub y (List.mem_cons_of_mem _ my))
    rw [List.length_erase_of_mem mx] at ih
    have : 0 < m.length := List.length_pos_of_mem mx
    rw [List.length_cons]
    omega
theorem twice_less {α : Type} [DecidableEq α] : ∀ (m : List α), ¬ m.Nodup → ∃ r : List α, r.length + 1 = m.length ∧ ∀ x ∈ m, x ∈ r
  | [], h => absurd List.nodup_nil h
  | x :: m, h => by
    by_cases c : x ∈ m
    · exact ⟨m, rfl, fun y my => by
        rcases List.mem_cons.mp my with rfl | my
        · exact c
        · exact my⟩
    · have h' : ¬ m.Nodup := fun n => h (List.nodup_cons.mpr ⟨c, n⟩)
      obtain ⟨r, e, s⟩ := twice_less m h'
      refine ⟨x :: r, by rw [List.length_cons, List.length_cons, e], fun y my => ?_⟩
      rcases List.mem_cons.mp my with rfl | my
      · exact List.mem_cons_self
      · exact List.mem_cons_of_mem _ (s y my)
section
variable {X : Cx}
def tLenSetT (K : PySem.W.Frag) (ta : TE) : TE := fun σ H Q => ta σ H fun x H1 => ∃ (l : Addr) (ks : List (Addr × List Int)), x = V.ref l ∧ (SqL K H1 l (ks.map fun p => V.ref p.1)) ∧ (∀ p ∈ ks, SqT K H1 p.1 (p.2.map V.int)) ∧ ks.length < 64 ∧
  ∀ n : Nat, ((ks.map (·.2)).Nodup → n = ks.length) → (¬ (ks.map (·.2)).Nodup → n < ks.length) → Q (.int (n : Int)) H1
theorem pe_lenSetT {a : Expr} {ta : TE} {p p2 q pos : Pos} (calm : X.calm = true) (hu : X.A.units + 64 < cLine) (ha : PE X a ta) (hg : Gl X "len") (hm : X.mg "len" = none) (hg2 : Gl X "set") (hm2 : X.mg "set" = none)
    (na : starEach [a] X.env = (false, eval a X.env) :: starEach [] X.env := by rfl) : PE X (.Call (.Name "len" p) [.Call (.Name "set" p2) [a] [] q] [] pos) (tLenSetT X.K ta) := by
  refine ⟨fun pins s σ H Q inv want => Call_ (ld_blt inv hg hm PySem.boot_len (PyProof.Rows.callWith_builtin1 (PyProof.Rows.args_cons ?_ rfl) rfl rfl))⟩
  refine Call_ (ld_blt inv hg2 hm2 PyProof.Rows.boot_set ?_)
  refine PyProof.Rows.callWith_type1 (PyProof.Rows.args_cons (thn (ha.run pins s σ H _ inv want) fun v s1 ⟨x, H1, inv1, r1, q1⟩ => PyProof.Rows.args_nil ?_) na) na rfl
  obtain ⟨l, ks, rfl, sq, tup, few, w1⟩ := q1
  cases r1
  obtain ⟨its, rv, pl, _⟩ := inv1.list sq
  refine call_set_tups (P := X.prog) (w := X.w) ks (inv1.ok.hd calm) pl.isList (by simpa using refs_of_vals rv) (fun p hp => inv1.isT (tup p hp)) few (by omega) fun h' tk L es ep t R g kp => ?_
  refine PyProof.Rows.args_nil ?_
  have inv2 : Inv X pins σ H1 { s1 with heap := h', toks := tk } := inv1.kept (t' := tk) kp
  obtain ⟨o, ho, hex, hd⟩ := R.ob
  have sz := R.size (s := { s1 with heap := h', toks := tk })
  have up : ∀ y ∈ L.map (·.2), y ∈ ks.map (·.2) := fun y my => by
    obtain ⟨p, mp, rfl⟩ := List.mem_map.mp my
    exact List.mem_map_of_mem (List.mem_of_mem_take (g.sub p mp))
  have down : ∀ y ∈ ks.map (·.2), y ∈ L.map (·.2) := fun y my => by
    obtain ⟨p, mp, rfl⟩ := List.mem_map.mp my
    exact g.all p (by rw [List.take_length]; exact mp)
  have le1 := nodup_len _ _ R.nd up
  rw [List.length_map, List.length_map] at le1
  refine call_len_set ho hex hd (R.fits (s := { s1 with heap := h', toks := tk })) (by rw [sz]; omega) ⟨.int (L.length : Int), H1, (inv2.tok _).tok _, ⟨_, by rw [sz]⟩, w1 L.length (fun nd => ?_) fun nn => ?_⟩
  · have le2 := nodup_len _ _ nd down
    rw [List.length_map, List.length_map] at le2
    omega
  · obtain ⟨r, er, sr⟩ := twice_less _ nn
    have le3 := nodup_len _ r R.nd fun y my => sr y (up y my)
    rw [List.length_map] at le3 er
    omega
end
end VQ
namespace VQ
open PySem PySem.Spec PyProof.Rows L2
/-! ### sorted(xs) of at most one thing: nothing is compared -/
theorem swo_none : SrtO.Swo fun (_ _ : Value) => false := ⟨fun _ _ _ => rfl, fun _ _ _ _ _ => rfl⟩
def rSort1 (K : PySem.W.Frag) : List V → Hp → VK → Prop := fun vs H Q => ∃ (a : Addr) (xs : List V), vs = [V.ref a] ∧ SqL K H a xs ∧ xs.length ≤ 1 ∧ ∀ p : Addr, H p = none → Q (.ref p) (upd H p (.lst xs))
theorem one_perm {α : Type} {xs ys : List α} (h : xs.length ≤ 1) (p : ys.Perm xs) : ys = xs := by
  match xs, h with
  | [], _ => exact List.Perm.eq_nil p
  | [x], _ => exact List.perm_singleton.mp p
theorem cr_sort1 {X : Cx} : CallR X (.builtin "sorted") (rSort1 X.K) := by
  intro pins s σ H vs us Q inv r h
  obtain ⟨a, xs, rfl, hs, few, q⟩ := h
  obtain ⟨its, rv, hl, hz⟩ := inv.list hs
  rw [Vals.ref1 r]
  have li : its.length ≤ 1 := by rw [← rv.length]; exact few
  refine SrtO.sorted_ord swo_none hl.isList (by rw [← rv.length]; exact hz) (fun h2 => absurd h2 (by omega)) fun out h1 h2 => ?_
  obtain ⟨ep, he'⟩ := PyProof.Rows.sortedAll_at s.heap its out.toArray
  have eo : out = its := one_perm li h2.perm
  subst eo
  exact ⟨.ref _, upd H (s.heap.objs.size + 1) (.lst xs), inv.laid (t' := s.toks) (fun _ _ => PyProof.Rows.sortedAll_old) (Nat.le_succ _) ⟨hz, out, ep, rv, he'⟩, rfl, q _ (inv.hok.fresh (Nat.le_succ _))⟩
/-- either of two rules of a call -/
theorem cr_or {X : Cx} {f : Value} {r1 r2 : List V → Hp → VK → Prop} (h1 : CallR X f r1) (h2 : CallR X f r2) : CallR X f (fun vs H Q => r1 vs H Q ∨ r2 vs H Q) := by
  intro pins s σ H vs us Q inv r h
  rcases h with h | h
  · exact h1 pins s σ H vs us Q inv r h
  · exact h2 pins s σ H vs us Q inv r h
end VQ
namespace VQ
open PySem PySem.Spec PyProof.Rows L2 RZ
open PySem.Sem (wp)
/-! ### list(zip(t, u)), both tuples of one length -/
theorem zip_no_len : typeLookup (.type "zip") "__len__" = pure none := am_miss_of_fast (by decide +kernel)
theorem zip_no_hint : typeLookup (.type "zip") "__length_hint__" = pure none := am_miss_of_fast (by decide +kernel)
section
variable {prog : Program} {w : World} {A : Around} {E : Value → Shared → Prop} {s : Shared}
theorem zipH_next_item {z TI TO T i1 i2 l1 l2 : Addr} {f : Bool} {oT : Obj} {k1 k2 : Nat} {xs ys : Array Value} {x y : Value} {Q : Value → Shared → Prop} (D : ZipApart z TI TO i1 i2 l1 l2)
    (hz : IsZipHeld s.heap z TI TO T f) (hT : s.heap.get? T = some oT) (hTI : IsPair s.heap TI (.ref i1) (.ref i2))
    (h1 : s.heap.IsTupleIter i1 l1 k1) (h2 : s.heap.IsTupleIter i2 l2 k2) (hl1 : s.heap.IsTuple l1 xs) (hl2 : s.heap.IsTuple l2 ys) (hx : xs[k1]? = some x) (hy : ys[k2]? = some y)
    (hQ : ∀ h', IsZipHeld h' z TI TO T true → h'.IsTupleIter i1 l1 (k1 + 1) → h'.IsTupleIter i2 l2 (k2 + 1) → IsPair h' s.heap.objs.size x y → h'.objs.size = s.heap.objs.size + 1 →
      (∀ c o, c ≠ z → c ≠ i1 → c ≠ i2 → s.heap.get? c = some o → h'.get? c = some o) → Q (.ref s.heap.objs.size) { s with heap := h' }) :
    wpAny (model prog w) A (Builtin.«zip.__next__» ⟨[.ref z], []⟩) (fun fin s' => ∃ v, fin = .done (.ret v) ∧ Q v s') E s := by
  show wpAny _ _ (field (.ref z) 2 >>= _) _ _ _
  refine wpAny_bind (wpAny_field hz rfl (x := .bool false) rfl ?_)
  show wpAny _ _ (field (.ref z) 3 >>= _) _ _ _
  refine wpAny_bind (wpAny_field hz rfl (x := .ref TI) rfl ?_)
  refine wpAny_bind (wpAny_seqItems hTI rfl ?_)
  show wpAny _ _ (Builtin.SmallTypes.ownedTupleIsFree (.ref z) >>= _) _ _ _
  refine wpAny_bind (wpAny_tupleHeld_zip hz hT fun h₁ hz₁ hs₁ => ?_)
  simp only [Bool.false_eq_true, if_false]
  refine wpAny_bind ?_
  rw [← Array.forIn_toList]
  simp only [List.forIn_cons, List.forIn_nil]
  refine wpAny_bind (wpAny_bind (wpAny_holding ?_))
  show wpAny _ _ (Builtin.SmallTypes.nextOf (.ref i1) >>= _) _ _ _
  refine wpAny_bind (nextOf_tuple_item (s := { s with heap := h₁ }) (h1.extBut hs₁.extBut D.i1z) (hl1.extBut hs₁.extBut D.l1z) hx fun h₂ h1₂ hs₂ => wpAny_pure ?_)
  refine wpAny_pure ?_
  refine wpAny_bind (wpAny_bind (wpAny_holding ?_))
  show wpAny _ _ (Builtin.SmallTypes.nextOf (.ref i2) >>= _) _ _ _
  refine wpAny_bind (nextOf_tuple_item (s := { s with heap := h₂ }) ((h2.extBut hs₁.extBut D.i2z).extBut hs₂.extBut D.i12.symm) ((hl2.extBut hs₁.extBut D.l2z).extBut hs₂.extBut D.l2i1) hy fun h₃ h2₃ hs₃ => wpAny_pure ?_)
  refine wpAny_pure (wpAny_pure ?_)
  show wpAny _ _ (newTuple [x, y] >>= _) _ _ _
  refine wpAny_bind (wpAny_newTuple ?_)
  have hsz : h₃.objs.size = s.heap.objs.size := by rw [hs₃.1, hs₂.1, hs₁.1]
  have hz₃ : IsZipHeld h₃ z TI TO T true := hs₃.extBut _ _ D.i2z.symm (hs₂.extBut _ _ D.i1z.symm hz₁)
  have hk : ∀ c o, c ≠ z → c ≠ i1 → c ≠ i2 → s.heap.get? c = some o → h₃.get? c = some o := fun c o c1 c2 c3 e => hs₃.extBut _ _ c3 (hs₂.extBut _ _ c2 (hs₁.extBut _ _ c1 e))
  have h1₃ : h₃.IsTupleIter i1 l1 (k1 + 1) := h1₂.extBut hs₃.extBut D.i12
  refine wpAny_pure ⟨_, rfl, ?_⟩
  show Q (.ref h₃.objs.size) _
  have hp : IsPair (h₃.push { cls := .type "tuple", data := .seq #[x, y] }) h₃.objs.size x y := Heap.get?_push_size _ rfl
  have hz4 : (h₃.push { cls := .type "tuple", data := .seq #[x, y] }).objs.size = h₃.objs.size + 1 := Heap.size_push ..
  rw [hsz] at hp hz4 ⊢
  exact hQ _ (Heap.get?_push_of_some _ hz₃) (h1₃.at fun o e => Heap.get?_push_of_some _ e) (h2₃.at fun o e => Heap.get?_push_of_some _ e) hp hz4 fun c o c1 c2 c3 e => Heap.get?_push_of_some _ (hk c o c1 c2 c3 e)
theorem zipH_next_end {z TI TO T i1 i2 l1 l2 : Addr} {f : Bool} {oT : Obj} {k1 k2 : Nat} {xs ys : Array Value} {Q : Fin → Shared → Prop} (hh : A.handled = none) (D : ZipApart z TI TO i1 i2 l1 l2)
    (hz : IsZipHeld s.heap z TI TO T f) (hT : s.heap.get? T = some oT) (hTI : IsPair s.heap TI (.ref i1) (.ref i2))
    (h1 : s.heap.IsTupleIter i1 l1 k1) (h2 : s.heap.IsTupleIter i2 l2 k2) (hl1 : s.heap.IsTuple l1 xs) (hl2 : s.heap.IsTuple l2 ys) (hx : xs[k1]? = none)
    (hE : ∀ h' e, (∀ c o, c ≠ z → c ≠ i1 → c ≠ i2 → s.heap.get? c = some o → h'.get? c = some o) → (∃ o, h'.get? e = some o ∧ o.cls = .type "StopIteration") → E (.ref e) { s with heap := h' }) :
    wpAny (model prog w) A (Builtin.«zip.__next__» ⟨[.ref z], []⟩) Q E s := by
  show wpAny _ _ (field (.ref z) 2 >>= _) _ _ _
  refine wpAny_bind (wpAny_field hz rfl (x := .bool false) rfl ?_)
  show wpAny _ _ (field (.ref z) 3 >>= _) _ _ _
  refine wpAny_bind (wpAny_field hz rfl (x := .ref TI) rfl ?_)
  refine wpAny_bind (wpAny_seqItems hTI rfl ?_)
  show wpAny _ _ (Builtin.SmallTypes.ownedTupleIsFree (.ref z) >>= _) _ _ _
  refine wpAny_bind (wpAny_tupleHeld_zip hz hT fun h₁ hz₁ hs₁ => ?_)
  simp only [Bool.false_eq_true, if_false]
  refine wpAny_bind ?_
  rw [← Array.forIn_toList]
  simp only [List.forIn_cons, List.forIn_nil]
  refine wpAny_bind (wpAny_bind (wpAny_holding ?_))
  show wpAny _ _ (Builtin.SmallTypes.nextOf (.ref i1) >>= _) _ _ _
  refine wpAny_bind (nextOf_tuple_end (s := { s with heap := h₁ }) hh (h1.extBut hs₁.extBut D.i1z) (hl1.extBut hs₁.extBut D.l1z) hx fun h₂ e hs₂ he => ?_)
  exact hE h₂ e (fun c o c1 c2 _ x => hs₂ _ _ c2 (hs₁.extBut _ _ c1 x)) he
theorem pyNext_zipH_item {z TI TO T i1 i2 l1 l2 : Addr} {f : Bool} {oT : Obj} {k1 k2 : Nat} {xs ys : Array Value} {x y : Value} {Q : Option Value → Shared → Prop} (D : ZipApart z TI TO i1 i2 l1 l2)
    (hz : IsZipHeld s.heap z TI TO T f) (hT : s.heap.get? T = some oT) (hTI : IsPair s.heap TI (.ref i1) (.ref i2))
    (h1 : s.heap.IsTupleIter i1 l1 k1) (h2 : s.heap.IsTupleIter i2 l2 k2) (hl1 : s.heap.IsTuple l1 xs) (hl2 : s.heap.IsTuple l2 ys) (hx : xs[k1]? = some x) (hy : ys[k2]? = some y)
    (hQ : ∀ h', IsZipHeld h' z TI TO T true → h'.IsTupleIter i1 l1 (k1 + 1) → h'.IsTupleIter i2 l2 (k2 + 1) → IsPair h' s.heap.objs.size x y → h'.objs.size = s.heap.objs.size + 1 →
      (∀ c o, c ≠ z → c ≠ i1 → c ≠ i2 → s.heap.get? c = some o → h'.get? c = some o) → Q (some (.ref s.heap.objs.size)) { s with heap := h' }) :
    wpAny (model prog w) A (pyNext (.ref z)) Q E s := by
  have hTy : s.TypeIs (.ref z) "zip" := ⟨_, hz, rfl⟩
  unfold pyNext
  exact wpAny_bind (wpAny_attempt (wpAny_callSpecial?_slot (name := Str.ofString "__next__") hTy F.slot_zip_next
    (wpAny_call_entry F.slot_zip_next hTy F.entry_zip_next
      (zipH_next_item D hz hT hTI h1 h2 hl1 hl2 hx hy fun h' a1 a3 a4 a5 a6 a7 => wpAny_pure (hQ h' a1 a3 a4 a5 a6 a7)) (F.args_zip_next_1 _))))
theorem pyNext_zipH_end {z TI TO T i1 i2 l1 l2 : Addr} {f : Bool} {oT : Obj} {k1 k2 : Nat} {xs ys : Array Value} {Q : Option Value → Shared → Prop} (hh : A.handled = none) (D : ZipApart z TI TO i1 i2 l1 l2)
    (hz : IsZipHeld s.heap z TI TO T f) (hT : s.heap.get? T = some oT) (hTI : IsPair s.heap TI (.ref i1) (.ref i2))
    (h1 : s.heap.IsTupleIter i1 l1 k1) (h2 : s.heap.IsTupleIter i2 l2 k2) (hl1 : s.heap.IsTuple l1 xs) (hl2 : s.heap.IsTuple l2 ys) (hx : xs[k1]? = none)
    (hQ : ∀ h', (∀ c o, c ≠ z → c ≠ i1 → c ≠ i2 → s.heap.get? c = some o → h'.get? c = some o) → Q none { s with heap := h' }) : wpAny (model prog w) A (pyNext (.ref z)) Q E s := by
  have hTy : s.TypeIs (.ref z) "zip" := ⟨_, hz, rfl⟩
  unfold pyNext
  refine wpAny_bind (wpAny_attempt (wpAny_callSpecial?_slot (name := Str.ofString "__next__") hTy F.slot_zip_next
    (wpAny_call_entry F.slot_zip_next hTy F.entry_zip_next (zipH_next_end hh D hz hT hTI h1 h2 hl1 hl2 hx fun h' e hk he => ?_) (F.args_zip_next_1 _))))
  obtain ⟨o, ho, hc⟩ := he
  refine wpAny_bind (wpAny_isInstance (T := "StopIteration") (b := true) ⟨o, ho, hc⟩ isSubtype_stop ?_)
  exact wpAny_pure (hQ _ hk)
/-- what stands at turn i -/
structure ZS (h : Heap) (z TI TO i1 i2 l1 l2 S base i : Nat) (xs ys acc : Array Value) (c : Nat) : Prop where
  zp : (i = 0 ∧ IsZip h z TI TO .none ∧ ∃ a b, IsPair h TO a b) ∨ (0 < i ∧ ∃ f, IsZipHeld h z TI TO base f)
  ti : IsPair h TI (.ref i1) (.ref i2)
  t1 : h.IsTupleIter i1 l1 i
  t2 : h.IsTupleIter i2 l2 i
  x1 : h.IsTuple l1 xs
  x2 : h.IsTuple l2 ys
  ls : h.get? S = some { cls := .type "list", dict := none, data := .seq acc c, slots := #[] }
  ac : acc.toList = (List.range i).map fun j => Value.ref (base + j)
  pr : ∀ j, j < i → ∃ x y, xs[j]? = some x ∧ ys[j]? = some y ∧ IsPair h (base + j) x y
  sz : h.objs.size = base + i
theorem zip_loop {z TI TO i1 i2 l1 l2 S base n : Nat} {xs ys : Array Value} {res : Value} {R : Result → Shared → Prop} (hh : A.in1.handled = none) (D : ZipApart z TI TO i1 i2 l1 l2) (lx : xs.size = n) (ly : ys.size = n) (hn : n ≤ 1000)
    (Sz : S ≠ z) (STI : S ≠ TI) (STO : S ≠ TO) (S1 : S ≠ i1) (S2 : S ≠ i2) (Sl1 : S ≠ l1) (Sl2 : S ≠ l2) (bz : z < base) (bI : TI < base) (bO : TO < base) (b1 : i1 < base) (b2 : i2 < base) (bS : S < base) :
    ∀ (k i : Nat) (s : Shared) (acc : Array Value) (c : Nat), n - i = k → i ≤ n → ZS s.heap z TI TO i1 i2 l1 l2 S base i xs ys acc c →
    (∀ h' acc' c', (∀ b o, b ≠ z → b ≠ TO → b ≠ i1 → b ≠ i2 → b ≠ S → s.heap.get? b = some o → h'.get? b = some o) → h'.get? S = some { cls := .type "list", dict := none, data := .seq acc' c', slots := #[] } →
      acc'.toList = (List.range n).map (fun j => Value.ref (base + j)) → (∀ j, j < n → ∃ x y, xs[j]? = some x ∧ ys[j]? = some y ∧ IsPair h' (base + j) x y) → R (.ok (.ret res)) { s with heap := h' }) →
    codeAny (model prog w) A (.builtin "list.extend.loop" ⟨[.ref S, .ref z, res], []⟩) R s := by
  intro k
  induction k with
  | zero =>
    intro i s acc c hk hi Z hR
    have hin : i = n := by omega
    subst hin
    refine codeAny_builtin F.entry_extend_loop ?_
    rw [Around.under_plainId F.plain_extend_loop _]
    show wpAny _ A.in1 (pyNext (.ref z) >>= _) _ _ s
    have hx : xs[i]? = none := Array.getElem?_eq_none (by omega)
    have fin : ∀ h' : Heap, (∀ b o, b ≠ z → b ≠ TO → b ≠ i1 → b ≠ i2 → s.heap.get? b = some o → h'.get? b = some o) → R (.ok (.ret res)) { s with heap := h' } := fun h' kp =>
      hR h' acc c (fun b o n1 n2 n3 n4 _ e => kp b o n1 n2 n3 n4 e) (kp _ _ Sz STO S1 S2 Z.ls) Z.ac fun j hj => by
        obtain ⟨x, y, e1, e2, e3⟩ := Z.pr j hj
        exact ⟨x, y, e1, e2, kp _ _ (by omega) (by omega) (by omega) (by omega) e3⟩
    rcases Z.zp with ⟨_, hz, a, b, hTO⟩ | ⟨_, f, hz⟩
    · refine wpAny_bind (pyNext_zipT_end hh D hz Z.ti hTO Z.t1 Z.t2 Z.x1 Z.x2 (.inl hx) fun h' kp => ?_)
      exact wpAny_pure (fin h' kp)
    · obtain ⟨x, y, _, _, hT⟩ := Z.pr 0 (by omega)
      refine wpAny_bind (pyNext_zipH_end hh D hz hT Z.ti Z.t1 Z.t2 Z.x1 Z.x2 hx fun h' kp => ?_)
      exact wpAny_pure (fin h' fun b o n1 n2 n3 n4 e => kp b o n1 n3 n4 e)
  | succ k ih =>
    intro i s acc c hk hi Z hR
    have hlt : i < n := by omega
    refine codeAny_builtin F.entry_extend_loop ?_
    rw [Around.under_plainId F.plain_extend_loop _]
    show wpAny _ A.in1 (pyNext (.ref z) >>= _) _ _ s
    have hx : xs[i]? = some xs[i] := Array.getElem?_eq_getElem (by omega)
    have hy : ys[i]? = some ys[i] := Array.getElem?_eq_getElem (by omega)
    generalize xs[i] = x at hx
    generalize ys[i] = y at hy
    have szi := Z.sz
    have la : acc.size = i := by
      have e := congrArg List.length Z.ac
      rw [List.length_map, List.length_range, Array.length_toList] at e
      exact e
    have px : ∀ (Q' : Option Value → Shared → Prop) (E' : Value → Shared → Prop), (∀ h' : Heap, (∃ f, IsZipHeld h' z TI TO base f) → h'.IsTupleIter i1 l1 (i + 1) → h'.IsTupleIter i2 l2 (i + 1) → IsPair h' (base + i) x y → h'.objs.size = base + (i + 1) →
        (∀ c o, c ≠ z → c ≠ TO → c ≠ i1 → c ≠ i2 → s.heap.get? c = some o → h'.get? c = some o) → Q' (some (.ref (base + i))) { s with heap := h' }) → wpAny (model prog w) A.in1 (pyNext (.ref z)) Q' E' s := by
      intro Q' E' q
      rcases Z.zp with ⟨i0, hz, a, b, hTO⟩ | ⟨_, f, hz⟩
      · subst i0
        refine pyNext_zipT_item D hz Z.ti hTO Z.t1 Z.t2 Z.x1 Z.x2 hx hy fun h' z' TO' h1' h2' hT hsz kp => ?_
        rw [szi] at hT hsz z' ⊢
        exact q h' ⟨false, z'⟩ h1' h2' hT hsz kp
      · obtain ⟨x0, y0, _, _, hT⟩ := Z.pr 0 (by omega)
        refine pyNext_zipH_item D hz hT Z.ti Z.t1 Z.t2 Z.x1 Z.x2 hx hy fun h' z' h1' h2' hT' hsz kp => ?_
        rw [szi] at hT' hsz ⊢
        exact q h' ⟨true, z'⟩ h1' h2' hT' hsz fun c o n1 n2 n3 n4 e => kp c o n1 n3 n4 e
    refine wpAny_bind (px _ _ fun h' hz' h1' h2' hT hsz kp => ?_)
    have hS' := kp _ _ Sz STO S1 S2 Z.ls
    show wpAny _ A.in1 (updateSeq S (·.push (.ref (base + i))) >>= _) _ _ _
    refine wpAny_bind ?_
    have up : ∀ b o, b ≠ S → h'.get? b = some o → (h'.update S (Obj.mapSeq (·.push (Value.ref (base + i))))).get? b = some o := fun b o nb e => (Heap.get?_update_other _ _ (Ne.symm nb)).trans e
    have big : (1000 : Nat) < sizeLine := by decide
    refine wpAny_updateSeq hS' rfl (wpAny_pure ⟨plainId_quiet F.plain_extend_loop _, ih (i + 1) _ (acc.push (.ref (base + i))) (c + 1) (by omega) hlt ?_ fun h2 acc' c' kp2 hS2 a2 p2 => ?_⟩) (by omega) (by show (acc.push (Value.ref (base + i))).size ≤ sizeLine + 1; rw [Array.size_push, la]; omega)
    · obtain ⟨f, hz'⟩ := hz'
      obtain ⟨o1, q1, r1⟩ := Z.x1
      obtain ⟨o2, q2, r2⟩ := Z.x2
      refine ⟨.inr ⟨Nat.succ_pos _, f, up _ _ (Ne.symm Sz) hz'⟩, up _ _ (Ne.symm STI) (kp _ _ D.TIz D.TITO D.TIi1 D.TIi2 Z.ti), h1'.at fun o e => up _ o (Ne.symm S1) e, h2'.at fun o e => up _ o (Ne.symm S2) e,
        ⟨o1, up _ _ (Ne.symm Sl1) (kp _ _ D.l1z D.l1TO D.l1i1 D.l1i2 q1), r1⟩, ⟨o2, up _ _ (Ne.symm Sl2) (kp _ _ D.l2z D.l2TO D.l2i1 D.l2i2 q2), r2⟩, ?_, ?_, fun j hj => ?_, ?_⟩
      · refine (Heap.get?_update_self _ hS' rfl).trans ?_
        show some (⟨_, _, .seq (acc.push (.ref (base + i))) (if (acc.push (Value.ref (base + i))).size == acc.size then c else c + 1), _⟩ : Obj) = _
        rw [if_neg (by rw [Array.size_push]; simp)]
      · rw [List.range_succ, List.map_append, ← Z.ac]
        simp
      · by_cases e : j = i
        · subst e
          exact ⟨x, y, hx, hy, up _ _ (by omega) hT⟩
        · obtain ⟨x0, y0, e1, e2, e3⟩ := Z.pr j (by omega)
          exact ⟨x0, y0, e1, e2, up _ _ (by omega) (kp _ _ (by omega) (by omega) (by omega) (by omega) e3)⟩
      · show (h'.update S _).objs.size = _
        rw [Heap.size_update, hsz]
    · exact hR h2 acc' c' (fun b o n1 n2 n3 n4 n5 e => kp2 b o n1 n2 n3 n4 n5 (up _ _ n5 (kp _ _ n1 n2 n3 n4 e))) hS2 a2 p2
theorem extend_zip {z TI TO i1 i2 l1 l2 S base n : Nat} {xs ys : Array Value} {res : Value} {R : Result → Shared → Prop} {c₀ : Nat} (hh : A.handled = none) (D : ZipApart z TI TO i1 i2 l1 l2) (lx : xs.size = n) (ly : ys.size = n) (hn : n ≤ 1000)
    (Sz : S ≠ z) (STI : S ≠ TI) (STO : S ≠ TO) (S1 : S ≠ i1) (S2 : S ≠ i2) (Sl1 : S ≠ l1) (Sl2 : S ≠ l2) (bz : z < base) (bI : TI < base) (bO : TO < base) (b1 : i1 < base) (b2 : i2 < base) (bS : S < base) (Z : ZS s.heap z TI TO i1 i2 l1 l2 S base 0 xs ys #[] c₀)
    (hR : ∀ h' acc' c', (∀ b o, b ≠ z → b ≠ TO → b ≠ i1 → b ≠ i2 → b ≠ S → s.heap.get? b = some o → h'.get? b = some o) → h'.get? S = some { cls := .type "list", dict := none, data := .seq acc' c', slots := #[] } →
      acc'.toList = (List.range n).map (fun j => Value.ref (base + j)) → (∀ j, j < n → ∃ x y, xs[j]? = some x ∧ ys[j]? = some y ∧ IsPair h' (base + j) x y) → R (.ok (.ret res)) { s with heap := h' }) :
    wpAny (model prog w) A.in1 (Builtin.List.listExtendWith (.ref S) (.ref z) res)
      (fun fin s' => match fin with | .done f => R (.ok f) s' | .again c' => c'.quiet = true ∧ codeAny (model prog w) A c' R s') (fun e s' => R (.error e) s') s := by
  obtain ⟨hz, ta, tb, hTO⟩ : IsZip s.heap z TI TO .none ∧ ∃ a b, IsPair s.heap TO a b := by
    rcases Z.zp with ⟨_, hz, t⟩ | ⟨h, _⟩
    · exact ⟨hz, t⟩
    · exact absurd h (Nat.lt_irrefl 0)
  have hTy : s.TypeIs (.ref z) "zip" := ⟨_, hz, rfl⟩
  unfold Builtin.List.listExtendWith
  refine wpAny_bind (wpAny_typeOf hTy ?_)
  have h1 : Builtin.List.listSameRef (.ref S) (.ref z) = false := by simp [Builtin.List.listSameRef, Sz]
  have h2 : (Value.type "zip" == Value.type "list") = false := by decide
  have h3 : (Value.type "zip" == Value.type "tuple") = false := by decide
  simp only [h1, h2, h3, Bool.or_false, Bool.false_eq_true, if_false]
  refine wpAny_bind (wpAny_pyIter_zip hz ?_)
  refine wpAny_bind (wpAny_holding ?_)
  unfold Builtin.List.listLengthHint
  refine wpAny_bind (wpAny_specialOf hTy zip_no_len ?_)
  show wpAny _ A.in1 (specialOf (Value.ref z) (Str.ofString "__length_hint__") >>= _) _ _ _
  refine wpAny_bind (wpAny_specialOf hTy zip_no_hint ?_)
  refine wpAny_pure ?_
  show wpAny _ A.in1 (rule "list.extend.makes-room" >>= fun _ => Builtin.List.listTouch (.ref S) >>= fun _ =>
    again (.builtin "list.extend.loop" ⟨[.ref S, .ref z, res], []⟩)) _ _ _
  refine wpAny_bind (wpAny_rule ?_)
  refine wpAny_bind ?_
  show wpAny _ A.in1 (updateSeq S (·.push .none) >>= fun _ => updateSeq S (·.pop)) _ _ _
  have hS := Z.ls
  refine wpAny_bind (wpAny_updateSeq hS rfl ?_)
  have hS₂ := Heap.get?_update_self (Obj.mapSeq (·.push Value.none)) hS rfl
  refine wpAny_updateSeq (hz := by seq_fits) hS₂ rfl ?_
  have hS₃ := Heap.get?_update_self (Obj.mapSeq (·.pop)) hS₂ rfl
  have oth : ∀ b o, b ≠ S → s.heap.get? b = some o → ((s.heap.update S (Obj.mapSeq (·.push Value.none))).update S (Obj.mapSeq (·.pop))).get? b = some o :=
    fun b o hb e => (Heap.get?_update_other _ _ (Ne.symm hb)).trans ((Heap.get?_update_other _ _ (Ne.symm hb)).trans e)
  obtain ⟨o1, q1, r1⟩ := Z.x1
  obtain ⟨o2, q2, r2⟩ := Z.x2
  refine wpAny_pure ⟨plainId_quiet F.plain_extend_loop _, zip_loop hh D lx ly hn Sz STI STO S1 S2 Sl1 Sl2 bz bI bO b1 b2 bS n 0 _ _ _ rfl (Nat.zero_le _)
    ⟨.inl ⟨rfl, oth _ _ (Ne.symm Sz) hz, ta, tb, oth _ _ (Ne.symm STO) hTO⟩, oth _ _ (Ne.symm STI) Z.ti, Z.t1.at fun o e => oth _ o (Ne.symm S1) e, Z.t2.at fun o e => oth _ o (Ne.symm S2) e, ⟨o1, oth _ _ (Ne.symm Sl1) q1, r1⟩, ⟨o2, oth _ _ (Ne.symm Sl2) q2, r2⟩, hS₃, rfl, fun j hj => absurd hj (Nat.not_lt_zero _), ?_⟩
    fun h' acc' c' kp e a p => ?_⟩
  · show ((s.heap.update S _).update S _).objs.size = _
    rw [Heap.size_update, Heap.size_update, Z.sz]
  · exact hR h' acc' c' (fun b o n1 n2 n3 n4 n5 e => kp b o n1 n2 n3 n4 n5 (oth _ _ n5 e)) e a p
theorem call_list_zip {z TI TO i1 i2 l1 l2 n : Nat} {xs ys : Array Value} {Q : Value → Shared → Prop} (hh : A.handled = none) (D : ZipApart z TI TO i1 i2 l1 l2) (lx : xs.size = n) (ly : ys.size = n) (hn : n ≤ 1000)
    (hz : IsZip s.heap z TI TO .none) (hTI : IsPair s.heap TI (.ref i1) (.ref i2)) {ta tb : Value} (hTO : IsPair s.heap TO ta tb) (h1 : s.heap.IsTupleIter i1 l1 0) (h2 : s.heap.IsTupleIter i2 l2 0) (hl1 : s.heap.IsTuple l1 xs) (hl2 : s.heap.IsTuple l2 ys)
    (hQ : ∀ h' acc' c', (∀ b o, b ≠ z → b ≠ TO → b ≠ i1 → b ≠ i2 → s.heap.get? b = some o → h'.get? b = some o) → h'.get? s.heap.objs.size = some { cls := .type "list", dict := none, data := .seq acc' c', slots := #[] } →
      acc'.toList = (List.range n).map (fun j => Value.ref (s.heap.objs.size + 1 + j)) → (∀ j, j < n → ∃ x y, xs[j]? = some x ∧ ys[j]? = some y ∧ IsPair h' (s.heap.objs.size + 1 + j) x y) → Q (.ref s.heap.objs.size) { s with heap := h' }) :
    wpAny (model prog w) A (call (.type "list") [.ref z]) Q E s := by
  refine callType_codes (Q₁ := fun obj s₁ => obj = .ref s.heap.objs.size ∧ s₁ = { s with heap := s.heap.push { cls := .type "list", data := .seq #[] } }) F.called_list (F.typeCall_list_1 _) F.entry_list_init
    (code_list_new _ ⟨rfl, rfl⟩) fun obj s₁ h₁ => ?_
  obtain ⟨rfl, rfl⟩ := h₁
  have hS : (s.heap.push { cls := .type "list", data := .seq #[] }).get? s.heap.objs.size = some { cls := .type "list", data := .seq #[] } := Heap.get?_push_size _ rfl
  have lz := Heap.lt_size hz
  have lI := Heap.lt_size hTI
  have lO := Heap.lt_size hTO
  have lt1 : i1 < s.heap.objs.size := by obtain ⟨_, e, _⟩ := h1; exact Heap.lt_size e
  have lt2 : i2 < s.heap.objs.size := by obtain ⟨_, e, _⟩ := h2; exact Heap.lt_size e
  obtain ⟨o1, q1, r1⟩ := hl1
  obtain ⟨o2, q2, r2⟩ := hl2
  have ll1 := Heap.lt_size q1
  have ll2 := Heap.lt_size q2
  have ne : ∀ b, b < s.heap.objs.size → s.heap.objs.size ≠ b := fun b h => Nat.ne_of_gt h
  have su : ∀ b, b < s.heap.objs.size → b < s.heap.objs.size + 1 := fun b h => Nat.lt_succ_of_lt h
  refine ⟨⟨_, hS, rfl⟩, F.args_list_init_2 _ _, ?_⟩
  show wpAny _ A.in1.in1 (do let old ← Builtin.List.listItems (.ref s.heap.objs.size); Builtin.List.listUpdate (.ref s.heap.objs.size) (fun _ => #[]); letGo old.toList.reverse; Builtin.List.listExtendWith (.ref s.heap.objs.size) (.ref z) .none) _ _ _
  refine wpAny_bind ?_
  unfold Builtin.List.listItems
  refine wpAny_bind (wpAny_seqItems hS rfl (wpAny_pure ?_))
  show wpAny _ A.in1.in1 (updateSeq s.heap.objs.size (fun _ => #[]) >>= fun _ => letGo (#[] : Array Value).toList.reverse >>= fun _ => Builtin.List.listExtendWith (.ref s.heap.objs.size) (.ref z) .none) _ _ _
  refine wpAny_bind (wpAny_updateSeq hS rfl ?_)
  have hS₂ := Heap.get?_update_self (Obj.mapSeq (fun _ => (#[] : Array Value))) hS rfl
  have oth : ∀ b o, s.heap.get? b = some o → ((s.heap.push { cls := .type "list", data := .seq #[] }).update s.heap.objs.size (Obj.mapSeq (fun _ => (#[] : Array Value)))).get? b = some o :=
    fun b o e => (Heap.get?_update_other _ _ (Nat.ne_of_gt (Heap.lt_size e))).trans (Heap.get?_push_of_some _ e)
  refine wpAny_bind (wpAny_letGo ?_)
  refine extend_zip (A := A.in1) (base := s.heap.objs.size + 1) hh D lx ly hn (ne _ lz) (ne _ lI) (ne _ lO) (ne _ lt1) (ne _ lt2) (ne _ ll1) (ne _ ll2) (su _ lz) (su _ lI) (su _ lO) (su _ lt1) (su _ lt2) (Nat.lt_succ_self _)
    ⟨.inl ⟨rfl, oth _ _ hz, ta, tb, oth _ _ hTO⟩, oth _ _ hTI, h1.at fun o e => oth _ o e, h2.at fun o e => oth _ o e, ⟨o1, oth _ _ q1, r1⟩, ⟨o2, oth _ _ q2, r2⟩, hS₂, rfl, fun j hj => absurd hj (Nat.not_lt_zero _), ?_⟩ fun h' acc' c' kp e a p => ?_
  · show ((s.heap.push _).update s.heap.objs.size _).objs.size = _
    rw [Heap.size_update, Heap.size_push]
  · exact ⟨rfl, hQ h' acc' c' (fun b o n1 n2 n3 n4 e => kp b o n1 n2 n3 n4 (Nat.ne_of_lt (Heap.lt_size e)) (oth _ _ e)) e a p⟩
end
/-! #### as the layer has it -/
theorem ne1 {b j m : Nat} (h : j ≠ m) : b + j ≠ b + m := fun e => h (Nat.add_left_cancel e)
theorem ne2 {b s m x : Nat} (h : s ≤ b) (l : x < s) : x ≠ b + m := fun e => by omega
theorem ne3 {S m : Nat} : S ≠ S + 1 + m := fun e => by omega
def layT (H : Hp) (base : Nat) (xs ys : List V) : Nat → Hp
  | 0 => H
  | j + 1 => upd (layT H base xs ys j) (base + j) (.tup [xs.getD j .non, ys.getD j .non])
theorem layT_old {H : Hp} {base : Nat} {xs ys : List V} : ∀ {j : Nat} {a : Nat}, (∀ m, m < j → a ≠ base + m) → layT H base xs ys j a = H a
  | 0, _, _ => rfl
  | j + 1, a, h => (upd_ne (h j (Nat.lt_succ_self j))).trans (layT_old fun m hm => h m (Nat.lt_succ_of_lt hm))
theorem layT_at {H : Hp} {base : Nat} {xs ys : List V} : ∀ {j m : Nat}, m < j → layT H base xs ys j (base + m) = some (.tup [xs.getD m .non, ys.getD m .non])
  | 0, _, h => absurd h (Nat.not_lt_zero _)
  | j + 1, m, h => by
    by_cases e : m = j
    · rw [e]
      exact upd_same
    · exact (upd_ne (ne1 e)).trans (layT_at (by omega))
theorem layT_all {X : Cx} {pins : List (Addr × Obj)} {σ : L2.St} {H : Hp} {s : Shared} {base : Nat} {xs ys : List V} {us vs : List Value} (I : Inv X pins σ H s) (hb : s.heap.objs.size ≤ base) (rx : Vals xs us) (ry : Vals ys vs) (len : xs.length = ys.length) :
    ∀ (j : Nat) (G : Heap), j ≤ xs.length → (∀ b o, s.heap.get? b = some o → G.get? b = some o) → (∀ m, m < j → ∃ x y, us[m]? = some x ∧ vs[m]? = some y ∧ IsPair G (base + m) x y) → Inv X pins σ (layT H base xs ys j) { s with heap := G }
  | 0, G, _, kp, _ => I.kept (t' := s.toks) kp
  | j + 1, G, hj, kp, pr => by
    obtain ⟨G', g1, g2⟩ := restrict G fun b => decide (b ≠ base + j)
    have kp' : ∀ b o, s.heap.get? b = some o → G'.get? b = some o := fun b o e => by
      rw [g1 b (decide_eq_true (ne2 hb (Heap.lt_size e)))]
      exact kp b o e
    have I' := layT_all I hb rx ry len j G' (by omega) kp' fun m hm => by
      obtain ⟨x, y, e1, e2, e3⟩ := pr m (by omega)
      exact ⟨x, y, e1, e2, (g1 _ (decide_eq_true (ne1 (Nat.ne_of_lt hm)))).trans e3⟩
    obtain ⟨x, y, e1, e2, e3⟩ := pr j (Nat.lt_succ_self j)
    have ex : xs[j]? = some (xs.getD j .non) := by rw [List.getD_eq_getElem?_getD, List.getElem?_eq_getElem (by omega)]; rfl
    have ey : ys[j]? = some (ys.getD j .non) := by rw [List.getD_eq_getElem?_getD, List.getElem?_eq_getElem (by omega)]; rfl
    obtain ⟨x', h1, r1⟩ := rx.get ex
    obtain ⟨y', h2, r2⟩ := ry.get ey
    rw [e1] at h1
    rw [e2] at h2
    cases h1
    cases h2
    have nw : layT H base xs ys j (base + j) = none := (layT_old fun m hm => ne1 (Nat.ne_of_gt hm)).trans (I.hok.fresh (Nat.le_trans hb (Nat.le_add_right _ _)))
    exact I'.laidN (t' := s.toks) (fun b o e => by
      by_cases c : b = base + j
      · have := g2 b (decide_eq_false (by rw [c]; exact fun h => h rfl))
        have e' : G'.get? b = some o := e
        rw [this] at e'
        cases e'
      · exact (g1 b (decide_eq_true c)).symm.trans e) (g2 _ (decide_eq_false fun h => h rfl)) nw ⟨by show 2 ≤ sizeLine; decide, [x, y], .cons r1 (.cons r2 .nil), ⟨_, e3, rfl, _, rfl⟩⟩
theorem vals_refs : ∀ l : List Addr, Vals (l.map V.ref) (l.map Value.ref)
  | [] => .nil
  | a :: l => .cons rfl (vals_refs l)
def tListZip (K : PySem.W.Frag) (ta : TA) : TE := fun σ H Q => ta σ H fun vs H1 => ∃ (a b : Addr) (xs ys : List V), vs = [.ref a, .ref b] ∧ SqT K H1 a xs ∧ SqT K H1 b ys ∧ xs.length = ys.length ∧ xs.length ≤ 1000 ∧
  ∀ (p : Addr) (ps : List Addr) (H2 : Hp), H1 p = none → Same H1 H2 → H2 p = some (.lst (ps.map V.ref)) → ps.length = xs.length → (∀ (i : Nat) (q : Addr) (x y : V), ps[i]? = some q → xs[i]? = some x → ys[i]? = some y → H2 q = some (.tup [x, y])) → Q (.ref p) H2
theorem pe_listzip {X : Cx} {e e2 : Expr} {ta : TA} {p p2 pos pos2 : Pos} (hg : Gl X "list") (hm : X.mg "list" = none) (hg2 : Gl X "zip") (hm2 : X.mg "zip" = none) (ha : PA X [e, e2] ta) (hc : X.calm = true := by rfl)
    (hs : starEach [e, e2] X.env = (false, eval e X.env) :: starEach [e2] X.env := by rfl) (hpl : (backTo pos2 (starEach [e2] X.env)).any (·.1) = false := by rfl) :
    PE X (.Call (.Name "list" p) [.Call (.Name "zip" p2) [e, e2] [] pos2] [] pos) (tListZip X.K ta) := by
  refine ⟨fun pins s σ H Q inv want => Call_ (ld_blt inv hg hm PyProof.Rows.boot_list (PyProof.Rows.callWith_type1 (PyProof.Rows.args_cons (Call_ (ld_blt inv hg2 hm2 PyProof.Rows.boot_zip ?_)) rfl) rfl rfl))⟩
  refine PyProof.Rows.callWith_type1 (thn (ha.run pos2 pins s σ H _ inv want) fun us s1 ⟨vs, H1, I1, r1, q1⟩ => ?_) hs hpl
  obtain ⟨a, b, xs, ys, ev, hqx, hqy, len, few, q⟩ := q1
  subst ev
  cases r1 with
  | cons r rr =>
    cases rr with
    | cons r' rr =>
      cases rr
      cases r
      cases r'
      obtain ⟨its, rv, p1, _⟩ := I1.tuple hqx
      obtain ⟨its2, rv2, p2, _⟩ := I1.tuple hqy
      obtain ⟨o1, ho1, t1⟩ := id p1
      obtain ⟨o2, ho2, t2⟩ := id p2
      have l1 := rv.length
      have l2 := rv2.length
      refine call_zipT (show s1.heap.IsTuple a its.toArray from p1) (show s1.heap.IsTuple b its2.toArray from p2) fun h' hz hTI hTO h1 h2 hsz hk => PyProof.Rows.args_nil ?_
      have D := PySem.W.ktu_apart s1.heap.objs.size a b (Heap.lt_size ho1) (Heap.lt_size ho2)
      refine call_list_zip (s := { s1 with heap := h' }) (n := xs.length) (xs := its.toArray) (ys := its2.toArray) (I1.ok.hd hc) D (by rw [List.size_toArray]; omega) (by rw [List.size_toArray]; omega) few hz hTI hTO h1 h2 ⟨o1, hk _ _ ho1, t1⟩ ⟨o2, hk _ _ ho2, t2⟩ fun h2 acc c kp hS ea pr => ?_
      have kept : ∀ b o, s1.heap.get? b = some o → h2.get? b = some o := fun b o e => by
        have lb := Heap.lt_size e
        exact kp b o (Nat.ne_of_lt (Nat.lt_of_lt_of_le lb (Nat.le_add_right _ _))) (Nat.ne_of_lt (Nat.lt_of_lt_of_le lb (Nat.le_add_right _ _))) (Nat.ne_of_lt lb) (Nat.ne_of_lt (Nat.lt_of_lt_of_le lb (Nat.le_add_right _ _))) (hk b o e)
      have hS' : h2.get? h'.objs.size = some { cls := .type "list", dict := none, data := .seq acc c, slots := #[] } := hS
      have pr' : ∀ j, j < xs.length → ∃ x y, its[j]? = some x ∧ its2[j]? = some y ∧ IsPair h2 (h'.objs.size + 1 + j) x y := fun j hj => by
        obtain ⟨x, y, e1, e2, e3⟩ := pr j hj
        exact ⟨x, y, by simpa using e1, by simpa using e2, e3⟩
      have ea' : acc.toList = (List.range xs.length).map (fun j => Value.ref (h'.objs.size + 1 + j)) := ea
      show ∃ v H', _
      generalize h'.objs.size = S at hS' pr' ea' hsz ⊢
      obtain ⟨G, g1, g2⟩ := restrict h2 fun b => decide (b ≠ S)
      have IA := layT_all I1 (base := S + 1) (by omega) rv rv2 len xs.length G (Nat.le_refl _) (fun b o e => (g1 b (decide_eq_true (Nat.ne_of_lt (Nat.lt_of_lt_of_le (Heap.lt_size e) (by omega))))).trans (kept b o e)) fun m hm => by
        obtain ⟨x, y, e1, e2, e3⟩ := pr' m hm
        exact ⟨x, y, e1, e2, (g1 _ (decide_eq_true (Ne.symm ne3))).trans e3⟩
      have hS0 : H1 S = none := I1.hok.fresh (by omega)
      have nw : layT H1 (S + 1) xs ys xs.length S = none := (layT_old fun m hm => ne3).trans hS0
      have big : (1000 : Nat) < sizeLine := by decide
      have vv : Vals (((List.range xs.length).map fun j => S + 1 + j).map V.ref) acc.toList := by
        rw [ea', show (List.range xs.length).map (fun j => Value.ref (S + 1 + j)) = ((List.range xs.length).map fun j => S + 1 + j).map Value.ref by rw [List.map_map]; rfl]
        exact vals_refs _
      have IB := IA.laidN (t' := s1.toks) (h' := h2) (a := S) (o := .lst (((List.range xs.length).map fun j => S + 1 + j).map V.ref)) (fun b o e => by
        by_cases c : b = S
        · have := g2 b (decide_eq_false (by rw [c]; exact fun h => h rfl))
          have e' : G.get? b = some o := e
          rw [this] at e'
          cases e'
        · exact (g1 b (decide_eq_true c)).symm.trans e) (g2 _ (decide_eq_false fun h => h rfl)) nw ⟨by rw [List.length_map, List.length_map, List.length_range]; omega, acc.toList, c, vv, by rw [hS', Array.toArray_toList]⟩
      refine ⟨.ref S, _, IB, rfl, q S _ _ hS0 (fun x o e => ?_) upd_same (by rw [List.length_map, List.length_range]) fun i t x y et ex ey => ?_⟩
      · rw [upd_ne (fun c => by rw [c, hS0] at e; cases e), layT_old fun m hm c => by rw [c, I1.hok.fresh (by omega)] at e; cases e]
        exact e
      · have li : i < xs.length := (List.getElem?_eq_some_iff.mp ex).1
        rw [List.getElem?_map, List.getElem?_range li] at et
        have et' : S + 1 + i = t := by injection et
        subst et'
        rw [upd_ne (Ne.symm ne3), layT_at li, List.getD_eq_getElem?_getD, List.getD_eq_getElem?_getD, ex, ey]
        rfl
end VQ
namespace VQ
open PySem L2 LamX
/-! ### questions -/
abbrev letters : Str := "abcdefghijklmnopqrstuvwxyz"
def letB (c : Nat) : Bool := decide (c ∈ letters.cps.toList)
/-- a name of at most m letters -/
structure NameS (m : Nat) (z : Str) : Prop where
  lo : 1 ≤ z.length
  hi : z.length ≤ m
  nf : z ≠ "find"
  ns : z ≠ "some"
  lt : ∀ c ∈ z.cps.toList, letB c = true
inductive Term where
  | wo (n : Nat)
  | nm (z : Str)
  deriving DecidableEq
def termV : Term → V
  | .wo n => numV n
  | .nm z => .str z
theorem termV_flat (t : Term) : flatV (termV t) = true := by cases t <;> rfl
theorem terms_flat (ts : List Term) : (ts.map termV).all flatV = true := by
  rw [List.all_map]
  exact List.all_eq_true.mpr fun t _ => termV_flat t
theorem strs_flat (zs : List Str) : (zs.map V.str).all flatV = true := by
  rw [List.all_map]
  exact List.all_eq_true.mpr fun t _ => rfl
structure Qn where
  names : List Str
  many : Nat
  ties : List (Str × List Term)
  less : List (Str × Str)
/-- values and what they stand for, one by one -/
inductive Each {α : Type} (R : V → α → Prop) : List V → List α → Prop
  | nil : Each R [] []
  | cons {v : V} {x : α} {vs : List V} {xs : List α} (h : R v x) (t : Each R vs xs) : Each R (v :: vs) (x :: xs)
theorem Each.len {α : Type} {R : V → α → Prop} : ∀ {vs : List V} {xs : List α}, Each R vs xs → vs.length = xs.length
  | _, _, .nil => rfl
  | _, _, .cons _ t => congrArg (· + 1) t.len
theorem Each.get {α : Type} {R : V → α → Prop} : ∀ {vs : List V} {xs : List α}, Each R vs xs → ∀ {i : Nat} {v : V}, vs[i]? = some v → ∃ x, xs[i]? = some x ∧ R v x
  | _, _, .nil, _, _, h => by simp at h
  | _, _, .cons h t, 0, _, e => by
    cases e
    exact ⟨_, rfl, h⟩
  | _, _, .cons h t, i + 1, _, e => t.get (i := i) e
theorem Each.at_ {α : Type} {R : V → α → Prop} : ∀ {vs : List V} {xs : List α}, Each R vs xs → ∀ {i : Nat} {x : α}, xs[i]? = some x → ∃ v, vs[i]? = some v ∧ R v x
  | _, _, .nil, _, _, h => by simp at h
  | _, _, .cons h t, 0, _, e => by
    cases e
    exact ⟨_, rfl, h⟩
  | _, _, .cons h t, i + 1, _, e => t.at_ (i := i) e
theorem Each.mono {α : Type} {R S : V → α → Prop} (f : ∀ v x, R v x → S v x) : ∀ {vs : List V} {xs : List α}, Each R vs xs → Each S vs xs
  | _, _, .nil => .nil
  | _, _, .cons h t => .cons (f _ _ h) (t.mono f)
theorem Each.snoc {α : Type} {R : V → α → Prop} : ∀ {vs : List V} {xs : List α}, Each R vs xs → ∀ {v : V} {x : α}, R v x → Each R (vs ++ [v]) (xs ++ [x])
  | _, _, .nil, _, _, h => .cons h .nil
  | _, _, .cons h t, _, _, h' => .cons h (t.snoc h')
/-- tuples stand as they stood -/
def Tups (H H' : Hp) : Prop := (∀ a xs, H a = some (.tup xs) → H' a = some (.tup xs)) ∧ ∀ a xs, TupN H a xs → TupN H' a xs
theorem same_tups {H H' : Hp} (s : Same H H') : Tups H H' := ⟨fun a xs h => s _ _ h, fun a xs h => h.same s⟩
theorem Tups.trans {H H1 H2 : Hp} (a : Tups H H1) (b : Tups H1 H2) : Tups H H2 := ⟨fun p xs h => b.1 _ _ (a.1 _ _ h), fun p xs h => b.2 _ _ (a.2 _ _ h)⟩
def TieAt (H : Hp) (v : V) (t : Str × List Term) : Prop := ∃ a c, v = .ref a ∧ H a = some (.tup [.str t.1, .ref c]) ∧ TupN H c (t.2.map termV)
def PairAt (H : Hp) (v : V) (p : Str × Str) : Prop := ∃ a, v = .ref a ∧ H a = some (.tup [.str p.1, .str p.2])
theorem TieAt.moved {H H' : Hp} (s : Tups H H') {v : V} {t : Str × List Term} (h : TieAt H v t) : TieAt H' v t := by
  obtain ⟨a, c, e, h1, h2⟩ := h
  exact ⟨a, c, e, s.1 _ _ h1, s.2 _ _ h2⟩
theorem PairAt.moved {H H' : Hp} (s : Tups H H') {v : V} {t : Str × Str} (h : PairAt H v t) : PairAt H' v t := by
  obtain ⟨a, e, h1⟩ := h
  exact ⟨a, e, s.1 _ _ h1⟩
def NmAt (H : Hp) (a : Addr) (zs : List Str) : Prop := H a = some (.tup (zs.map V.str))
/-- names in a tuple whose methods can be called -/
def NmN (H : Hp) (a : Addr) (zs : List Str) : Prop := TupN H a (zs.map V.str)
theorem NmN.same {H H' : Hp} (s : Same H H') {a : Addr} {zs : List Str} (h : NmN H a zs) : NmN H' a zs := TupN.same s h
theorem NmN.sq {K : PySem.W.Frag} {H : Hp} {a : Addr} {zs : List Str} (h : NmN H a zs) : SqT K H a (zs.map V.str) := TupN.sq h
structure QParts (H : Hp) (n t l : Addr) (q : Qn) : Prop where
  nm : NmN H n q.names
  ti : ∃ ts, H t = some (.tup ts) ∧ Each (TieAt H) ts q.ties
  le : ∃ ls, H l = some (.tup ls) ∧ Each (PairAt H) ls q.less
def QAt (H : Hp) (a : Addr) (q : Qn) : Prop := ∃ n t l, H a = some (.tup [.ref n, .int (q.many : Nat), .ref t, .ref l]) ∧ QParts H n t l q
theorem QParts.moved {H H' : Hp} (s : Tups H H') {n t l : Addr} {q : Qn} (h : QParts H n t l q) : QParts H' n t l q := by
  obtain ⟨h1, ⟨ts, h2, h3⟩, ls, h4, h5⟩ := h
  exact ⟨s.2 _ _ h1, ⟨ts, s.1 _ _ h2, h3.mono fun _ _ z => z.moved s⟩, ls, s.1 _ _ h4, h5.mono fun _ _ z => z.moved s⟩
theorem QAt.moved {H H' : Hp} (s : Tups H H') {a : Addr} {q : Qn} (h : QAt H a q) : QAt H' a q := by
  obtain ⟨n, t, l, h1, h2⟩ := h
  exact ⟨n, t, l, s.1 _ _ h1, h2.moved s⟩
def TermOk (names : List Str) : Term → Prop
  | .wo n => n < 32
  | .nm z => z ∈ names
structure TieOk (names : List Str) (t : Str × List Term) : Prop where
  nm : NameS 8 t.1
  lo : 1 ≤ t.2.length
  hi : t.2.length ≤ 4
  tm : ∀ x ∈ t.2, TermOk names x
structure QOk (q : Qn) : Prop where
  n1 : 1 ≤ q.names.length
  n5 : q.names.length ≤ 5
  nm : ∀ z ∈ q.names, NameS 4 z
  nd : q.names.Nodup
  m1 : 1 ≤ q.many
  mn : q.many ≤ q.names.length
  t1 : 1 ≤ q.ties.length
  t6 : q.ties.length ≤ 6
  tt : ∀ t ∈ q.ties, TieOk q.names t
  l3 : q.less.length ≤ 3
  ll : ∀ p ∈ q.less, p.1 ∈ q.names ∧ p.2 ∈ q.names ∧ p.1 ≠ p.2
  all : ∀ z ∈ q.names, ∃ t ∈ q.ties, Term.nm z ∈ t.2
theorem inV_str {z : Str} {zs : List Str} : inV (.str z) (zs.map V.str) = decide (z ∈ zs) := by
  unfold inV
  rw [List.any_map]
  by_cases h : z ∈ zs
  · rw [decide_eq_true h, List.any_eq_true]
    exact ⟨z, h, beq_self_eq_true z⟩
  · rw [decide_eq_false h, List.any_eq_false]
    intro y m e
    have e' : (y == z) = true := e
    exact h (by rw [← beq_iff_eq.mp e']; exact m)
theorem inV_term {z : Str} {ts : List Term} : inV (.str z) (ts.map termV) = decide (Term.nm z ∈ ts) := by
  unfold inV
  rw [List.any_map]
  by_cases h : Term.nm z ∈ ts
  · rw [decide_eq_true h, List.any_eq_true]
    exact ⟨_, h, beq_self_eq_true z⟩
  · rw [decide_eq_false h, List.any_eq_false]
    intro y m e
    cases y with
    | wo n => cases e
    | nm y =>
      have e' : (y == z) = true := e
      exact h (by rw [← beq_iff_eq.mp e']; exact m)
/-- where a def stands, wherever -/
def AtE (K : PySem.W.Frag) (mg : Str → Option Value) (x : Str) (st : Stmt) (ps : List Str) : Prop := ∃ f fd, At K mg x st ps f fd
/-- a def that stands and keeps a promise -/
def Has (P : Program) (w : World) (K : PySem.W.Frag) (mg : Str → Option Value) (base : Heap) (C : CXT) (k : Nat) (x : Str) (st : Stmt) (ps : List Str) (sp : Sp) : Prop := ∃ f fd, At K mg x st ps f fd ∧ FnOk P w K mg base C k f fd ps sp
abbrev sIsTuple : Stmt := top 47
abbrev nIsTuple : List Str := ["thing", "least", "most"]
theorem scIsTuple : FnScope nIsTuple ["thing", "least", "most"] (defScope sIsTuple) := ⟨rfl, rfl, rfl, by decide +kernel, rfl, by decide +kernel, by decide +kernel⟩
abbrev sIsName : Stmt := top 27
abbrev nIsName : List Str := ["thing", "most", "sign"]
theorem scIsName : FnScope nIsName ["thing", "most"] (defScope sIsName) := ⟨rfl, rfl, rfl, by decide +kernel, rfl, by decide +kernel, by decide +kernel⟩
abbrev sAreNames : Stmt := top 48
abbrev nAreNames : List Str := ["thing", "part"]
theorem scAreNames : FnScope nAreNames ["thing"] (defScope sAreNames) := ⟨rfl, rfl, rfl, by decide +kernel, rfl, by decide +kernel, by decide +kernel⟩
abbrev sIsTie : Stmt := top 49
abbrev nIsTie : List Str := ["thing", "names", "table", "terms", "term"]
theorem scIsTie : FnScope nIsTie ["thing", "names"] (defScope sIsTie) := ⟨rfl, rfl, rfl, by decide +kernel, rfl, by decide +kernel, by decide +kernel⟩
abbrev sIsPair : Stmt := top 50
abbrev nIsPair : List Str := ["thing", "names", "part"]
theorem scIsPair : FnScope nIsPair ["thing", "names"] (defScope sIsPair) := ⟨rfl, rfl, rfl, by decide +kernel, rfl, by decide +kernel, by decide +kernel⟩
abbrev sAllTied : Stmt := top 51
abbrev nAllTied : List Str := ["names", "ties", "terms", "tie", "term", "name"]
theorem scAllTied : FnScope nAllTied ["names", "ties"] (defScope sAllTied) := ⟨rfl, rfl, rfl, by decide +kernel, rfl, by decide +kernel, by decide +kernel⟩
abbrev sIsQuestion : Stmt := top 52
abbrev nIsQuestion : List Str := ["thing", "names", "many", "ties", "less", "tie", "pair"]
theorem scIsQuestion : FnScope nIsQuestion ["thing"] (defScope sIsQuestion) := ⟨rfl, rfl, rfl, by decide +kernel, rfl, by decide +kernel, by decide +kernel⟩
abbrev sNeedQuestion : Stmt := top 53
abbrev nNeedQuestion : List Str := ["question"]
theorem scNeedQuestion : FnScope nNeedQuestion ["question"] (defScope sNeedQuestion) := ⟨rfl, rfl, rfl, by decide +kernel, rfl, by decide +kernel, by decide +kernel⟩
structure Wq (K : PySem.W.Frag) (mg : Str → Option Value) (aB : Addr) : Prop where
  mp : ∃ t, mg "MOST_PLACES" = some (.int 5 t)
  mw : ∃ t, mg "MOST_WIDTH" = some (.int 4 t)
  ml : ∃ t, mg "MOST_LETTERS" = some (.int 8 t)
  mn : ∃ t, mg "MOST_NAME" = some (.int 4 t)
  mt : ∃ t, mg "MOST_TIES" = some (.int 6 t)
  mr : ∃ t, mg "MOST_PAIRS" = some (.int 3 t)
  wo : ∃ t, mg "WORTHS" = some (.int 32 t)
  le : ∃ t, mg "LETTERS" = some (.str letters t)
  ba : mg "BARRED" = some (.ref aB)
  bt : ∀ H, SqT K H aB [.str "find", .str "some"]
  set : mg "set" = none
section
variable {P : Program} {w : World} {K : PySem.W.Frag} {mg : Str → Option Value} {base : Heap} {aB : Addr}
/-- a thing that is no tuple, or the items of one -/
inductive TupO (K : PySem.W.Frag) (H : Hp) : V → Option (List V) → Prop
  | tup {a : Addr} {xs : List V} (h : H a = some (.tup xs)) : TupO K H (.ref a) (some xs)
  | nod {a : Addr} {xs : List V} (h : TupN H a xs) : TupO K H (.ref a) (some xs)
  | oth {x : V} {t : String} (ty : TyX K H x (.type t)) (m : t ∈ basics) (nt : t ≠ "tuple") : TupO K H x none
def lenO (lo hi : Int) : Option (List V) → Bool
  | none => false
  | some xs => decide (lo ≤ xs.length) && decide ((xs.length : Int) ≤ hi)
def spIsTuple (K : PySem.W.Frag) : Sp := fun vs H Q _ => ∃ (x : V) (o : Option (List V)) (lo hi : Int), vs = [x, .int lo, .int hi] ∧ TupO K H x o ∧ Q (.bl (lenO lo hi o)) H
theorem has_istuple (b : Blt mg) (a : AtE K mg "is_tuple" sIsTuple ["thing", "least", "most"]) : Has P w K mg base CX0 1 "is_tuple" sIsTuple ["thing", "least", "most"] (spIsTuple K) := by
  obtain ⟨f, fd, a⟩ := a
  refine ⟨f, fd, a, a.fn.ok scIsTuple (fun vs H Q E h => ?_) (fun cdv A outer s H vs Q E hr h => ?_)⟩
  · obtain ⟨x, o, lo, hi, rfl, _⟩ := h
    rfl
  · obtain ⟨x, o, lo, hi, rfl, th, k⟩ := h
    refine ⟨_,
    (pss_one (ps_ret (pe_and (pe_isi (pv 0) rfl b.isi rfl b.tuple (c := "tuple") (by decide +kernel)) (pe_one (pe_chain op_le op_le (pv 1) (pe_callB call_len_seq (by rfl) b.len PySem.boot_len (pa_cons (pv 0) pa_nil)) (pv 2)))))), ?_⟩
    cases th with
    | @tup a xs h =>
      refine rd_isi rfl (.base (.tup h)) (b := true) (by decide +kernel) ⟨_, rfl, iteT ?_⟩
      refine ⟨_, rfl, _, rfl, a, xs, rfl, .inr (SqT.of h), lo, _, rfl, rfl, _, rfl, ?_⟩
      have k' : Q (.bl (decide (lo ≤ xs.length) && decide ((xs.length : Int) ≤ hi))) H := k
      by_cases g : lo ≤ (xs.length : Int)
      · rw [if_pos (decide_eq_true g)]
        refine ⟨_, rfl, _, hi, rfl, rfl, ?_⟩
        rw [decide_eq_true g, Bool.true_and] at k'
        exact k'
      · rw [if_neg (by simpa using g)]
        rw [decide_eq_false g, Bool.false_and] at k'
        exact k'
    | @nod a xs h =>
      refine rd_isi rfl h.ty (b := true) (by decide +kernel) ⟨_, rfl, iteT ?_⟩
      refine ⟨_, rfl, _, rfl, a, xs, rfl, .inr h.sq, lo, _, rfl, rfl, _, rfl, ?_⟩
      have k' : Q (.bl (decide (lo ≤ xs.length) && decide ((xs.length : Int) ≤ hi))) H := k
      by_cases g : lo ≤ (xs.length : Int)
      · rw [if_pos (decide_eq_true g)]
        refine ⟨_, rfl, _, hi, rfl, rfl, ?_⟩
        rw [decide_eq_true g, Bool.true_and] at k'
        exact k'
      · rw [if_neg (by simpa using g)]
        rw [decide_eq_false g, Bool.false_and] at k'
        exact k'
    | @oth x t ty m nt =>
      have k' : Q (.bl false) H := k
      have kb : kitB t "tuple" = some false := by
        have : ∀ u ∈ basics, u ≠ "tuple" → kitB u "tuple" = some false := by decide +kernel
        exact this t m nt
      exact rd_isi rfl ty (b := false) kb ⟨_, rfl, iteF k'⟩
def spIsName : Sp := fun vs H Q _ => ∃ (z : Str) (m : Nat), vs = [.str z, .int (m : Nat)] ∧ NameS m z ∧ m ≤ 8 ∧ ∀ H', Same H H' → Q (.bl true) H'
theorem has_isname (b : Blt mg) (W : Wq K mg aB) (a : AtE K mg "is_name" sIsName ["thing", "most"]) : Has P w K mg base CX0 1 "is_name" sIsName ["thing", "most"] spIsName := by
  obtain ⟨f, fd, a⟩ := a
  obtain ⟨tle, Wle⟩ := W.le
  refine ⟨f, fd, a, a.fn.ok scIsName (fun vs H Q E h => ?_) (fun cdv A outer s H vs Q E hr h => ?_)⟩
  · obtain ⟨z, m, rfl, _⟩ := h
    rfl
  · obtain ⟨z, m, rfl, nz, m8, k⟩ := h
    refine ⟨_,
    (pss_cons (ps_if (PW.pt (pw_or (pt_not (pt_val (pe_isi (pv 0) rfl b.isi rfl b.str (c := "str") (by decide +kernel)))) (pw_or1 (pt_not (pt_chain op_le op_le pe_int (pe_callB call_len_str (by rfl) b.len PySem.boot_len (pa_cons (pv 0) pa_nil)) (pv 1))))))
      (pss_one (ps_ret pe_bl))
      pss_nil)
    (pss_one (ps_ret (pe_and (pe_cmpR op_notIn_seq (pv 0) (pe_glob (v := .ref aB) rfl W.ba rfl) rfl) (pe_one (pe_callB (cr_all rfl) (by rfl) b.all (by decide +kernel) (pa_cons (pe_lc (own := [("sign", 2)]) (g := (gName 2)) (tt := tYes) (te := (tOp rInSign (tVar 2) (tC (.str letters)))) rfl scIsName.nd (pi_str (pv 0)) (blkOk_by (N := nIsName) (sc := defScope sIsName) (by decide +kernel)) (fun _ _ _ _ _ => (pg_name (i := 2) scIsName.nd rfl (.inl rfl))) (fun _ _ _ _ _ => pts_nil) (fun _ _ _ _ _ => (pe_cmpR op_in_sign (pv 2) (pe_glob (v := .str letters) rfl Wle ⟨_, rfl⟩) rfl))) pa_nil))))))), ?_⟩
    have l8 := nz.hi
    refine rd_isi rfl (.base (.str z)) (b := true) (by decide +kernel) ⟨_, rfl, iteF ?_⟩
    refine ⟨_, rfl, z, rfl, Nat.le_trans (show z.length ≤ 1000 by omega) (by decide), 1, _, rfl, rfl, _, rfl, ?_⟩
    rw [if_pos (decide_eq_true (show (1 : Int) ≤ (z.length : Int) by have := nz.lo; omega))]
    refine ⟨_, rfl, _, _, rfl, rfl, _, rfl, ?_⟩
    rw [decide_eq_true (show (z.length : Int) ≤ (m : Int) by omega)]
    refine iteF ?_
    refine ⟨_, rfl, aB, _, rfl, .inr (W.bt H), rfl, rfl, _, rfl, ?_⟩
    have e1 : inV (.str z) [.str "find", .str "some"] = false := by
      have e := inV_str (z := z) (zs := ["find", "some"])
      rw [show ([.str "find", .str "some"] : List V) = (["find", "some"] : List Str).map V.str from rfl, e]
      refine decide_eq_false fun m => ?_
      rcases List.mem_cons.mp m with q | q
      · exact nz.nf q
      · exact nz.ns (List.mem_singleton.mp q)
    rw [e1]
    refine iteT ?_
    refine ⟨_, rfl, z, rfl, fun D hD => ?_⟩
    refine lc_textS (fun i acc _ => acc = ((z.cps.toList.take i).map letB).map V.bl) hD (show z.cps.size < 1000 by have : z.cps.size = z.length := rfl; omega) (fun _ _ _ _ _ h => h) rfl ?_ ?_
    · rintro i c acc H2 hc s2 h2 rfl k1 k2 y1 y2
      refine ⟨rfl, yes_turn ?_⟩
      refine ⟨_, rfl, c, letters, rfl, rfl, y1 _ _ (Same.refl _) ?_⟩
      rw [List.take_add_one, show z.cps.toList[i]? = some c by rw [Array.getElem?_toList]; exact hc, List.map_append, List.map_append]
      rfl
    · rintro acc H2 s2 h2 rfl
      refine ⟨D, _, rfl, SqL.of h2, ?_⟩
      have e2 : ((z.cps.toList.take z.cps.size).map letB).all id = true := by
        rw [List.take_of_length_le (by simp), List.all_map]
        exact List.all_eq_true.mpr fun c m => nz.lt c m
      rw [e2]
      exact k H2 s2
def spAreNames : Sp := fun vs H Q _ => ∃ (a : Addr) (zs : List Str), vs = [.ref a] ∧ NmN H a zs ∧ 1 ≤ zs.length ∧ zs.length ≤ 5 ∧ (∀ z ∈ zs, NameS 4 z) ∧ zs.Nodup ∧ ∀ H', Same H H' → Q (.bl true) H'
theorem has_arenames (b : Blt mg) (W : Wq K mg aB) (hTu : Has P w K mg base CX0 1 "is_tuple" sIsTuple ["thing", "least", "most"] (spIsTuple K)) (hNm : Has P w K mg base CX0 1 "is_name" sIsName ["thing", "most"] spIsName) (a : AtE K mg "are_names" sAreNames ["thing"]) :
    Has P w K mg base CX0 2 "are_names" sAreNames ["thing"] spAreNames := by
  obtain ⟨f, fd, a⟩ := a
  obtain ⟨fTu, fdTu, aTu, GTu⟩ := hTu
  obtain ⟨fNm, fdNm, aNm, GNm⟩ := hNm
  obtain ⟨tmp, Wmp⟩ := W.mp
  obtain ⟨tmn, Wmn⟩ := W.mn
  refine ⟨f, fd, a, a.fn.ok scAreNames (fun vs H Q E h => ?_) (fun cdv A outer s H vs Q E hr1 h => ?_)⟩
  · obtain ⟨a, zs, rfl, _⟩ := h
    rfl
  · obtain ⟨a, zs, rfl, ha, z1, z5, nm, nd, k⟩ := h
    refine ⟨_,
    (pss_cons (ps_if (PW.pt (pw_or (pt_not (pt_val (pe_call GTu hr1 rfl aTu.gl aTu.fn.kp aTu.bd .nil pass0 (pa_cons (pv 0) (pa_cons pe_int (pa_cons (pe_glob (v := .int 5) rfl Wmp ⟨_, rfl⟩) pa_nil)))))) (pw_or1 (pt_not (pt_val (pe_callB (cr_all rfl) (by rfl) b.all (by decide +kernel) (pa_cons (pe_lc (own := [("part", 1)]) (g := (gName 1)) (tt := tYes) (te := (tCall spIsName [] E0 (tCons (tVar 1) (tCons (tC (.int 4)) tNil)))) rfl scAreNames.nd (pi_tup (pv 0)) (blkOk_by (N := nAreNames) (sc := defScope sAreNames) (by decide +kernel)) (fun _ _ _ _ _ => (pg_name (i := 1) scAreNames.nd rfl (.inl rfl))) (fun _ _ _ _ _ => pts_nil) (fun _ _ _ _ _ => (pe_call GNm hr1 rfl aNm.gl aNm.fn.kp aNm.bd .nil pass0 (pa_cons (pv 1) (pa_cons (pe_glob (v := .int 4) rfl Wmn ⟨_, rfl⟩) pa_nil))))) pa_nil)))))))
      (pss_one (ps_ret pe_bl))
      pss_nil)
    (pss_one (ps_ret (pe_cmpR op_eq (pe_lenTexts (pv 0) (by rfl) b.len (by rfl) W.set) (pe_callB call_len_seq (by rfl) b.len PySem.boot_len (pa_cons (pv 0) pa_nil)) (nomark _))))), ?_⟩
    refine ⟨_, rfl, _, _, 1, 5, rfl, .nod ha, _, rfl, ?_⟩
    have e1 : lenO 1 5 (some (zs.map V.str)) = true := by
      show (decide _ && decide _) = true
      rw [List.length_map, decide_eq_true (by omega), decide_eq_true (by omega)]
      rfl
    rw [e1]
    refine iteF ?_
    refine ⟨_, rfl, a, rfl, ⟨_, ha.sq⟩, fun D hD => ?_⟩
    refine lc_tupV (xs := zs.map V.str) (fun _ => .bl true) hD (ha.sq) (by rw [List.length_map]; omega) ?_ ?_
    · rintro i x H2 hx s2 k1 k2 y1
      obtain ⟨z, ez, rfl⟩ := map_get hx
      exact ⟨rfl, yes_turn ⟨_, rfl, z, 4, rfl, nm z (List.mem_of_getElem? ez), by decide, fun H3 s3 => y1 H3 s3⟩⟩
    · intro H2 s2 h2
      refine ⟨D, zs.map fun _ => true, rfl, SqL.of (by rw [h2, List.map_map, List.map_map]; rfl), _, rfl, ?_⟩
      have e2 : (zs.map fun _ => true).all id = true := by
        rw [List.all_map]
        exact List.all_eq_true.mpr fun _ _ => rfl
      rw [e2]
      refine iteF ?_
      have h2a := ha.same s2
      refine ⟨_, rfl, a, zs, rfl, h2a.sq, by omega, fun c ec => ?_⟩
      refine ⟨_, rfl, a, _, rfl, .inr (h2a.sq), ?_⟩
      have e3 : c = zs.length := ec.mpr nd
      refine ⟨rfl, ?_⟩
      rw [e3, List.length_map, decide_eq_true rfl]
      exact k H2 s2
def spIsTie (K : PySem.W.Frag) : Sp := fun vs H Q _ => ∃ (v : V) (a : Addr) (zs : List Str) (t : Str × List Term), vs = [v, .ref a] ∧ TieAt H v t ∧ NmN H a zs ∧ TieOk zs t ∧ ∀ H', Same H H' → Q (.bl true) H'
theorem has_istie (b : Blt mg) (W : Wq K mg aB) (hTu : Has P w K mg base CX0 1 "is_tuple" sIsTuple ["thing", "least", "most"] (spIsTuple K)) (hNm : Has P w K mg base CX0 1 "is_name" sIsName ["thing", "most"] spIsName)
    (hWo : Has P w K mg base CX0 2 "is_worth" sIsWorth ["thing"] (spIsWorth K)) (a : AtE K mg "is_tie" sIsTie ["thing", "names"]) : Has P w K mg base CX0 3 "is_tie" sIsTie ["thing", "names"] (spIsTie K) := by
  obtain ⟨f, fd, a⟩ := a
  obtain ⟨fTu, fdTu, aTu, GTu⟩ := hTu
  obtain ⟨fNm, fdNm, aNm, GNm⟩ := hNm
  obtain ⟨fWo, fdWo, aWo, GWo⟩ := hWo
  obtain ⟨tml, Wml⟩ := W.ml
  obtain ⟨tmw, Wmw⟩ := W.mw
  refine ⟨f, fd, a, a.fn.ok scIsTie (fun vs H Q E h => ?_) (fun cdv A outer s H vs Q E hr2 h => ?_)⟩
  · obtain ⟨v, a, zs, t, rfl, _⟩ := h
    rfl
  · obtain ⟨v, n, zs, t, rfl, ⟨a, c, rfl, ha, hc⟩, hn, ok, k⟩ := h
    have hr1 : Room 1 _ := hr2.mono (by decide)
    refine ⟨_,
    (pss_cons (ps_if (pt_not (pt_val (pe_call GTu hr1 rfl aTu.gl aTu.fn.kp aTu.bd .nil pass0 (pa_cons (pv 0) (pa_cons pe_int (pa_cons pe_int pa_nil))))))
      (pss_one (ps_ret pe_bl))
      pss_nil)
    (pss_cons (ps_asg (pv 0) (pg_tup rfl (pgs_cons (pg_name (i := 2) scIsTie.nd rfl (.inl rfl)) (pgs_cons (pg_name (i := 3) scIsTie.nd rfl (.inl rfl)) pgs_nil))))
    (pss_cons (ps_if (PW.pt (pw_or (pt_not (pt_val (pe_call GNm hr1 rfl aNm.gl aNm.fn.kp aNm.bd .nil pass0 (pa_cons (pv 2) (pa_cons (pe_glob (v := .int 8) rfl Wml ⟨_, rfl⟩) pa_nil))))) (pw_or1 (pt_not (pt_val (pe_call GTu hr1 rfl aTu.gl aTu.fn.kp aTu.bd .nil pass0 (pa_cons (pv 3) (pa_cons pe_int (pa_cons (pe_glob (v := .int 4) rfl Wmw ⟨_, rfl⟩) pa_nil)))))))))
      (pss_one (ps_ret pe_bl))
      pss_nil)
    (pss_one (ps_ret (pe_callB (cr_all rfl) (by rfl) b.all (by decide +kernel) (pa_cons (pe_lc (own := [("term", 4)]) (g := (gName 4)) (tt := tYes) (te := (tOrV (tCall (spIsWorth K) [] E0 (tCons (tVar 4) tNil)) (tOp (rIn K false) (tVar 4) (tVar 1)))) rfl scIsTie.nd (pi_tup (pv 3)) (blkOk_by (N := nIsTie) (sc := defScope sIsTie) (by decide +kernel)) (fun _ _ _ _ _ => (pg_name (i := 4) scIsTie.nd rfl (.inl rfl))) (fun _ _ _ _ _ => pts_nil) (fun _ _ _ _ _ => (pe_or (pe_call GWo hr2 rfl aWo.gl aWo.fn.kp aWo.bd .nil pass0 (pa_cons (pv 4) pa_nil)) (pe_one (pe_cmpR op_in_seq (pv 4) (pv 1) rfl))))) pa_nil))))))), ?_⟩
    refine ⟨_, rfl, _, _, 2, 2, rfl, .tup ha, _, rfl, iteF ?_⟩
    refine ⟨_, rfl, a, _, rfl, SqT.of ha, rfl, _, _, rfl, _, _, rfl, rfl, ?_⟩
    refine ⟨_, rfl, t.1, 8, rfl, ok.nm, by decide, fun H1 s1 => ⟨_, rfl, iteF ?_⟩⟩
    refine ⟨_, rfl, _, _, 1, 4, rfl, .nod (hc.same s1), _, rfl, ?_⟩
    have e1 : lenO 1 4 (some (t.2.map termV)) = true := by
      show (decide _ && decide _) = true
      have := ok.lo
      have := ok.hi
      rw [List.length_map, decide_eq_true (by omega), decide_eq_true (by omega)]
      rfl
    rw [e1]
    refine iteF ?_
    refine ⟨_, rfl, c, rfl, ⟨_, (hc.same s1).sq⟩, fun D hD => ?_⟩
    refine lc_tupV (xs := t.2.map termV) (fun _ => .bl true) hD ((hc.same s1).sq) (by rw [List.length_map]; have := ok.hi; omega) ?_ ?_
    · rintro i x H2 hx s2 k1 k2 y1
      obtain ⟨u, eu, rfl⟩ := getF hx
      have tm := ok.tm u (List.mem_of_getElem? eu)
      refine ⟨rfl, yes_turn ?_⟩
      cases u with
      | wo m =>
        refine ⟨_, rfl, _, "int", rfl, .base (.int _), by decide, _, rfl, ?_⟩
        have tm' : m < 32 := tm
        have e2 : worthB (numV m) = true := by
          show (decide ((0 : Int) ≤ (m : Int)) && decide ((m : Int) < 32)) = true
          rw [decide_eq_true (by omega), decide_eq_true (by omega)]
          rfl
        rw [show termV (.wo m) = numV m from rfl, e2]
        exact iteT (y1 _ (Same.refl _))
      | nm z =>
        refine ⟨_, rfl, _, "str", rfl, .base (.str _), by decide, _, rfl, iteF ?_⟩
        refine ⟨_, rfl, _, rfl, n, _, rfl, .inr (((hn.same s1).same s2).sq), rfl, strs_flat zs, ?_⟩
        rw [show termV (.nm z) = .str z from rfl, inV_str, decide_eq_true (show z ∈ zs from tm)]
        exact y1 _ (Same.refl _)
    · intro H2 s2 h2
      refine ⟨D, t.2.map fun _ => true, rfl, SqL.of (by rw [h2, List.map_map, List.map_map]; rfl), ?_⟩
      have e2 : (t.2.map fun _ => true).all id = true := by
        rw [List.all_map]
        exact List.all_eq_true.mpr fun _ _ => rfl
      rw [e2]
      exact k H2 (s1.trans s2)
def spIsPair (K : PySem.W.Frag) : Sp := fun vs H Q _ => ∃ (v : V) (a : Addr) (zs : List Str) (p : Str × Str), vs = [v, .ref a] ∧ PairAt H v p ∧ NmN H a zs ∧ zs.length ≤ 5 ∧ p.1 ∈ zs ∧ p.2 ∈ zs ∧ p.1 ≠ p.2 ∧ ∀ H', Same H H' → Q (.bl true) H'
theorem has_ispair (b : Blt mg) (hTu : Has P w K mg base CX0 1 "is_tuple" sIsTuple ["thing", "least", "most"] (spIsTuple K)) (a : AtE K mg "is_pair" sIsPair ["thing", "names"]) : Has P w K mg base CX0 2 "is_pair" sIsPair ["thing", "names"] (spIsPair K) := by
  obtain ⟨f, fd, a⟩ := a
  obtain ⟨fTu, fdTu, aTu, GTu⟩ := hTu
  refine ⟨f, fd, a, a.fn.ok scIsPair (fun vs H Q E h => ?_) (fun cdv A outer s H vs Q E hr1 h => ?_)⟩
  · obtain ⟨v, a, zs, t, rfl, _⟩ := h
    rfl
  · obtain ⟨v, n, zs, ⟨x, y⟩, rfl, ⟨a, rfl, ha⟩, hn, z5, mx, my, xy, k⟩ := h
    refine ⟨_,
    (pss_one (ps_ret (pe_and (pe_call GTu hr1 rfl aTu.gl aTu.fn.kp aTu.bd .nil pass0 (pa_cons (pv 0) (pa_cons pe_int (pa_cons pe_int pa_nil)))) (pe_and (pe_callB (cr_all rfl) (by rfl) b.all (by decide +kernel) (pa_cons (pe_lc (own := [("part", 2)]) (g := (gName 2)) (tt := tYes) (te := (tOp (rIn K false) (tVar 2) (tVar 1))) rfl scIsPair.nd (pi_tup (pv 0)) (blkOk_by (N := nIsPair) (sc := defScope sIsPair) (by decide +kernel)) (fun _ _ _ _ _ => (pg_name (i := 2) scIsPair.nd rfl (.inl rfl))) (fun _ _ _ _ _ => pts_nil) (fun _ _ _ _ _ => (pe_cmpR op_in_seq (pv 2) (pv 1) rfl))) pa_nil)) (pe_one (pe_cmpR op_ne (pe_ix ix_tup (pv 0) pe_int fun _ _ => rfl) (pe_ix ix_tup (pv 0) pe_int fun _ _ => rfl) (nomark _))))))), ?_⟩
    refine ⟨_, rfl, _, _, 2, 2, rfl, .tup ha, _, rfl, iteT ?_⟩
    refine ⟨_, rfl, a, rfl, ⟨_, SqT.of ha⟩, fun D hD => ?_⟩
    refine lc_tupV (xs := [.str x, .str y]) (fun _ => .bl true) hD (SqT.of ha) (show 2 < 1000 by decide) ?_ ?_
    · rintro i v H2 hx s2 k1 k2 y1
      refine ⟨rfl, yes_turn ?_⟩
      obtain ⟨z, rfl, mz⟩ : ∃ z, v = .str z ∧ z ∈ zs := by
        rcases List.mem_cons.mp (List.mem_of_getElem? hx) with q | q
        · exact ⟨x, q, mx⟩
        · exact ⟨y, List.mem_singleton.mp q, my⟩
      refine ⟨_, rfl, _, rfl, n, _, rfl, .inr ((hn.same s2).sq), rfl, strs_flat zs, ?_⟩
      rw [inV_str, decide_eq_true mz]
      exact y1 _ (Same.refl _)
    · intro H2 s2 h2
      refine ⟨D, [true, true], rfl, SqL.of h2, _, rfl, iteT ?_⟩
      have h2a := s2 _ _ ha
      refine ⟨_, rfl, a, _, _, _, rfl, rfl, SqT.of h2a, atI_nat (j := 0) rfl, ?_⟩
      refine ⟨_, rfl, a, _, _, _, rfl, rfl, SqT.of h2a, atI_nat (j := 1) rfl, ?_⟩
      refine ⟨rfl, ?_⟩
      have e : decide (V.str x = V.str y) = false := decide_eq_false fun q => xy (by injection q)
      rw [e]
      exact k H2 s2
end
end VQ
namespace VQ
open PySem L2 LamX
/-! ### comprehensions with two clauses -/
theorem lc2_tup {K : PySem.W.Frag} {a : Addr} {xs : List V} {g g1 : TG} {tt tt1 : TT} {wi1 : TI} {te : TE} {vs vs1 : List Nat} {σ : L2.St} {H1 : Hp} {D : Addr} {Qd : Hp → Prop} (Pv : Nat → Hp → Prop) (h0 : Pv 0 (upd H1 D (.lst []))) (there : ∀ i H, Pv i H → SqT K H a xs)
    (turn : ∀ (i : Nat) (x : V) (H : Hp), xs[i]? = some x → Pv i H → g x (wipe σ vs) H fun σ2 H2 => wipe σ2 vs = wipe σ vs ∧ tt σ2 H2 fun c H3 =>
      if c = true then wi1 σ2 H3 fun J1 H4 => ∃ W1 : Nat → Nat → Hp → Prop, (∃ m, W1 0 m H4) ∧ ∀ j k H, W1 j k H →
        (J1.stop j H ∧ Pv (i + 1) H) ∨ (J1.go j H ∧ ∃ Nx1 : Hp → Prop, (∀ H', Nx1 H' → ∃ k', k' < k ∧ W1 (j + 1) k' H') ∧ ∀ x H', J1.yld j H x H' → g1 x (wipe σ2 vs1) H' fun σ3 H5 => wipe σ3 vs1 = wipe σ2 vs1 ∧ tt1 σ3 H5 fun c H6 =>
          if c = true then te σ3 H6 fun y H7 => ∃ acc, H7 D = some (.lst acc) ∧ acc.length < sizeLine ∧ Nx1 (upd H7 D (.lst (acc ++ [y]))) else Nx1 H6)
      else Pv (i + 1) H3) (fin : ∀ H, Pv xs.length H → Qd H) :
    ∃ W : Nat → Nat → Hp → Prop, (∃ m, W 0 m (upd H1 D (.lst []))) ∧ ∀ i m H, W i m H →
      ((Itt K a).stop i H ∧ Qd H) ∨ ((Itt K a).go i H ∧ ∃ Nx : Hp → Prop, (∀ H', Nx H' → ∃ m', m' < m ∧ W (i + 1) m' H') ∧ ∀ x H', (Itt K a).yld i H x H' → g x (wipe σ vs) H' fun σ2 H2 => wipe σ2 vs = wipe σ vs ∧ tt σ2 H2 fun c H3 =>
        if c = true then wi1 σ2 H3 fun J1 H4 => ∃ W1 : Nat → Nat → Hp → Prop, (∃ m, W1 0 m H4) ∧ ∀ j k H, W1 j k H →
          (J1.stop j H ∧ Nx H) ∨ (J1.go j H ∧ ∃ Nx1 : Hp → Prop, (∀ H', Nx1 H' → ∃ k', k' < k ∧ W1 (j + 1) k' H') ∧ ∀ x H', J1.yld j H x H' → g1 x (wipe σ2 vs1) H' fun σ3 H5 => wipe σ3 vs1 = wipe σ2 vs1 ∧ tt1 σ3 H5 fun c H6 =>
            if c = true then te σ3 H6 fun y H7 => ∃ acc, H7 D = some (.lst acc) ∧ acc.length < sizeLine ∧ Nx1 (upd H7 D (.lst (acc ++ [y]))) else Nx1 H6)
        else Nx H3) := by
  refine ⟨fun i m H => m + i = xs.length ∧ Pv i H, ⟨xs.length, rfl, h0⟩, ?_⟩
  rintro i m H ⟨em, p⟩
  have sq := there i H p
  by_cases lt : i < xs.length
  · refine .inr ⟨⟨xs, xs[i], sq, List.getElem?_eq_getElem lt⟩, Pv (i + 1), fun H' p' => ⟨m - 1, by omega, by omega, p'⟩, ?_⟩
    rintro x H' ⟨rfl, ex⟩
    exact turn i x _ (ex xs sq) p
  · obtain rfl : i = xs.length := by omega
    exact .inl ⟨⟨xs, sq, Nat.le_refl _⟩, fin H p⟩
theorem in_tup {K : PySem.W.Frag} {a : Addr} {ys : List V} {g1 : TG} {tt1 : TT} {te : TE} {vs1 : List Nat} {σ2 : L2.St} {H4 : Hp} {D : Addr} {Nx : Hp → Prop} (Pw : Nat → Hp → Prop) (h0 : Pw 0 H4) (there : ∀ i H, Pw i H → SqT K H a ys)
    (turn : ∀ (j : Nat) (y : V) (H : Hp), ys[j]? = some y → Pw j H → Trn g1 tt1 te vs1 σ2 y H (fun y H7 => ∃ acc, H7 D = some (.lst acc) ∧ acc.length < sizeLine ∧ Pw (j + 1) (upd H7 D (.lst (acc ++ [y])))) (Pw (j + 1))) (fin : ∀ H, Pw ys.length H → Nx H) :
    ∃ W1 : Nat → Nat → Hp → Prop, (∃ m, W1 0 m H4) ∧ ∀ j k H, W1 j k H →
      ((Itt K a).stop j H ∧ Nx H) ∨ ((Itt K a).go j H ∧ ∃ Nx1 : Hp → Prop, (∀ H', Nx1 H' → ∃ k', k' < k ∧ W1 (j + 1) k' H') ∧ ∀ x H', (Itt K a).yld j H x H' → Trn g1 tt1 te vs1 σ2 x H' (fun y H7 => ∃ acc, H7 D = some (.lst acc) ∧ acc.length < sizeLine ∧ Nx1 (upd H7 D (.lst (acc ++ [y])))) Nx1) := by
  refine ⟨fun i m H => m + i = ys.length ∧ Pw i H, ⟨ys.length, rfl, h0⟩, ?_⟩
  rintro i m H ⟨em, p⟩
  have sq := there i H p
  by_cases lt : i < ys.length
  · refine .inr ⟨⟨ys, ys[i], sq, List.getElem?_eq_getElem lt⟩, Pw (i + 1), fun H' p' => ⟨m - 1, by omega, by omega, p'⟩, ?_⟩
    rintro x H' ⟨rfl, ex⟩
    exact turn i x _ (ex ys sq) p
  · obtain rfl : i = ys.length := by omega
    exact .inl ⟨⟨ys, sq, Nat.le_refl _⟩, fin H p⟩
abbrev sOwnPlaces : Stmt := top 57
abbrev nOwnPlaces : List Str := ["question", "tie", "terms", "at", "name"]
theorem scOwnPlaces : FnScope nOwnPlaces ["question", "tie"] (defScope sOwnPlaces) := ⟨rfl, rfl, rfl, by decide +kernel, rfl, by decide +kernel, by decide +kernel⟩
abbrev sOwnNames : Stmt := top 58
abbrev nOwnNames : List Str := ["question", "tie", "at"]
theorem scOwnNames : FnScope nOwnNames ["question", "tie"] (defScope sOwnNames) := ⟨rfl, rfl, rfl, by decide +kernel, rfl, by decide +kernel, by decide +kernel⟩
section
variable {P : Program} {w : World} {K : PySem.W.Frag} {mg : Str → Option Value} {base : Heap} {aB : Addr}
def spAllTied (K : PySem.W.Frag) : Sp := fun vs H Q _ => ∃ (n t l : Addr) (q : Qn), vs = [.ref n, .ref t] ∧ QParts H n t l q ∧ QOk q ∧ ∀ H', Same H H' → Q (.bl true) H'
theorem has_alltied (b : Blt mg) (a : AtE K mg "all_tied" sAllTied ["names", "ties"]) : Has P w K mg base CX0 1 "all_tied" sAllTied ["names", "ties"] (spAllTied K) := by
  obtain ⟨f, fd, a⟩ := a
  refine ⟨f, fd, a, a.fn.ok scAllTied (fun vs H Q E h => ?_) (fun cdv A outer s H vs Q E hr1 h => ?_)⟩
  · obtain ⟨n, t, l, q, rfl, _⟩ := h
    rfl
  · obtain ⟨n, t, l, q, rfl, qp, ok, k⟩ := h
    obtain ⟨hn, ⟨ts, ht, et⟩, _⟩ := qp
    refine ⟨_,
    (pss_cons (ps_set (i := 2) scAllTied.nd rfl (.inr rfl) (pe_lc2 (own := [("tie", 3), ("term", 4)]) (vs1 := [4]) (g := (gName 3)) (tt := tYes) (wi1 := (iTup K (tOp (rIxT K) (tVar 3) (tC (.int 1))))) (g1 := (gName 4)) (tt1 := tYes) (te := (tVar 4)) rfl scAllTied.nd (pi_tup (pv 1)) (blkOk_by (N := nAllTied) (sc := defScope sAllTied) (by decide +kernel)) (by decide) (fun _ _ _ _ _ => (pg_name (i := 3) scAllTied.nd rfl (.inl rfl))) (fun _ _ _ _ _ => pts_nil) (fun _ _ _ _ _ => (pi_tup (pe_ix ix_tup (pv 3) pe_int fun _ _ => rfl))) (fun _ _ _ _ _ => (pg_name (i := 4) scAllTied.nd rfl (.inl rfl))) (fun _ _ _ _ _ => pts_nil) (fun _ _ _ _ _ => (pv 4))))
    (pss_one (ps_ret (pe_callB (cr_all rfl) (by rfl) b.all (by decide +kernel) (pa_cons (pe_lc (own := [("name", 5)]) (g := (gName 5)) (tt := tYes) (te := (tOp (rIn K false) (tVar 5) (tVar 2))) rfl scAllTied.nd (pi_tup (pv 0)) (blkOk_by (N := nAllTied) (sc := defScope sAllTied) (by decide +kernel)) (fun _ _ _ _ _ => (pg_name (i := 5) scAllTied.nd rfl (.inl rfl))) (fun _ _ _ _ _ => pts_nil) (fun _ _ _ _ _ => (pe_cmpR op_in_seq (pv 5) (pv 2) rfl))) pa_nil))))), ?_⟩
    refine ⟨_, rfl, t, rfl, ⟨_, SqT.of ht⟩, fun D hD => ?_⟩
    have lts : ts.length ≤ 6 := by rw [et.len]; exact ok.t6
    have few : ∀ i, (((q.ties.take i).flatMap (·.2)).map termV).length ≤ 4 * i := by
      intro i
      rw [List.length_map]
      induction i with
      | zero => simp
      | succ i ih =>
        rw [List.take_add_one, List.flatMap_append, List.length_append]
        cases e : q.ties[i]? with
        | none =>
          show _ + 0 ≤ _
          omega
        | some tie =>
          have h4 := (ok.tt tie (List.mem_of_getElem? e)).hi
          show _ + (List.flatMap (·.2) [tie]).length ≤ _
          rw [List.flatMap_cons, List.flatMap_nil, List.append_nil]
          omega
    refine lc2_tup (xs := ts) (fun i H' => Same H H' ∧ i ≤ ts.length ∧ H' D = some (.lst (((q.ties.take i).flatMap (·.2)).map termV))) ⟨same_new hD, Nat.zero_le _, upd_same⟩ (fun i H' z => SqT.of (z.1 _ _ ht)) ?_ ?_
    · rintro i x H2 hx ⟨s2, li, h2⟩
      obtain ⟨tie, etie, a, c, rfl, ha, hc⟩ := et.get hx
      have tok := ok.tt tie (List.mem_of_getElem? etie)
      have l4 := tok.hi
      have li' : i < ts.length := (List.getElem?_eq_some_iff.mp hx).1
      refine ⟨rfl, yes_turn ?_⟩
      refine ⟨_, rfl, a, _, _, _, rfl, rfl, SqT.of (s2 _ _ ha), atI_nat (j := 1) rfl, c, rfl, ⟨_, (hc.same s2).sq⟩, ?_⟩
      refine in_tup (ys := tie.2.map termV) (fun j H' => Same H H' ∧ H' D = some (.lst (((q.ties.take i).flatMap (·.2)).map termV ++ (tie.2.take j).map termV))) ⟨s2, by simpa using h2⟩ (fun i H' z => (hc.same z.1).sq) ?_ ?_
      · rintro j y H3 hy ⟨s3, h3⟩
        obtain ⟨u, eu, rfl⟩ := getF hy
        refine ⟨rfl, yes_turn ⟨_, rfl, _, h3, ?_, same_put s3 hD, ?_⟩⟩
        · have := few i
          rw [List.length_append, List.length_map (as := tie.2.take j), List.length_take]
          exact lt_line (by omega)
        · rw [upd_same, List.append_assoc, ← take_snoc termV eu]
      · rintro H3 ⟨s3, h3⟩
        refine ⟨s3, by omega, ?_⟩
        rw [h3, List.take_add_one, etie, List.length_map, List.take_of_length_le (Nat.le_refl _)]
        simp
    · rintro H2 ⟨s2, _, h2⟩
      rw [et.len, List.take_of_length_le (Nat.le_refl _)] at h2
      refine ⟨_, rfl, n, rfl, ⟨_, (hn.same s2).sq⟩, fun D2 hD2 => ?_⟩
      have z5 := ok.n5
      refine lc_tupV (xs := q.names.map V.str) (fun _ => .bl true) hD2 ((hn.same s2).sq) (by rw [List.length_map]; omega) ?_ ?_
      · rintro i x H3 hx s3 k1 k2 y1
        obtain ⟨z, ez, rfl⟩ := map_get hx
        refine ⟨rfl, yes_turn ?_⟩
        refine ⟨_, rfl, _, rfl, D, _, rfl, .inl (SqL.of (s3 _ _ h2)), rfl, terms_flat _, ?_⟩
        obtain ⟨tie, mt, mz⟩ := ok.all z (List.mem_of_getElem? ez)
        rw [inV_term, decide_eq_true (List.mem_flatMap.mpr ⟨tie, mt, mz⟩)]
        exact y1 _ (Same.refl _)
      · intro H3 s3 h3
        refine ⟨D2, q.names.map fun _ => true, rfl, SqL.of (by rw [h3, List.map_map, List.map_map]; rfl), ?_⟩
        have e2 : (q.names.map fun _ => true).all id = true := by
          rw [List.all_map]
          exact List.all_eq_true.mpr fun _ _ => rfl
        rw [e2]
        exact k H3 (s2.trans s3)
/-- what is_question asks -/
structure QDefs (P : Program) (w : World) (K : PySem.W.Frag) (mg : Str → Option Value) (base : Heap) (aB : Addr) : Prop where
  b : Blt mg
  W : Wq K mg aB
  tu : Has P w K mg base CX0 1 "is_tuple" sIsTuple ["thing", "least", "most"] (spIsTuple K)
  nu : Has P w K mg base CX0 1 "is_number" sIsNumber ["thing", "low", "behind"] (spIsNumber K)
  an : Has P w K mg base CX0 2 "are_names" sAreNames ["thing"] spAreNames
  ti : Has P w K mg base CX0 3 "is_tie" sIsTie ["thing", "names"] (spIsTie K)
  pa : Has P w K mg base CX0 2 "is_pair" sIsPair ["thing", "names"] (spIsPair K)
  al : Has P w K mg base CX0 1 "all_tied" sAllTied ["names", "ties"] (spAllTied K)
def spIsQn : Sp := fun vs H Q _ => ∃ (a : Addr) (q : Qn), vs = [.ref a] ∧ QAt H a q ∧ QOk q ∧ ∀ H', Same H H' → Q (.bl true) H'
theorem all_true {α : Type} (xs : List α) : (xs.map fun _ => true).all id = true := by
  rw [List.all_map]
  exact List.all_eq_true.mpr fun _ _ => rfl
theorem has_isqn (D : QDefs P w K mg base aB) (a : AtE K mg "is_question" sIsQuestion ["thing"]) : Has P w K mg base CX0 4 "is_question" sIsQuestion ["thing"] spIsQn := by
  obtain ⟨f, fd, a⟩ := a
  obtain ⟨b, W, ⟨fTu, fdTu, aTu, GTu⟩, ⟨fNu, fdNu, aNu, GNu⟩, ⟨fAn, fdAn, aAn, GAn⟩, ⟨fTi, fdTi, aTi, GTi⟩, ⟨fPa, fdPa, aPa, GPa⟩, ⟨fAt, fdAt, aAt, GAt⟩⟩ := D
  obtain ⟨tmt, Wmt⟩ := W.mt
  obtain ⟨tmr, Wmr⟩ := W.mr
  refine ⟨f, fd, a, a.fn.ok scIsQuestion (fun vs H Q E h => ?_) (fun cdv A outer s H vs Q E hr3 h => ?_)⟩
  · obtain ⟨a, q, rfl, _⟩ := h
    rfl
  · obtain ⟨a, q, rfl, ⟨n, t, l, ha, qp⟩, ok, k⟩ := h
    have hr1 : Room 1 _ := hr3.mono (by decide)
    have hr2 : Room 2 _ := hr3.mono (by decide)
    have qp' := qp
    obtain ⟨hn, ⟨ts, ht, et⟩, ls, hl, el⟩ := qp'
    refine ⟨_,
    (pss_cons (ps_if (pt_not (pt_val (pe_call GTu hr1 rfl aTu.gl aTu.fn.kp aTu.bd .nil pass0 (pa_cons (pv 0) (pa_cons pe_int (pa_cons pe_int pa_nil))))))
      (pss_one (ps_ret pe_bl))
      pss_nil)
    (pss_cons (ps_asg (pv 0) (pg_tup rfl (pgs_cons (pg_name (i := 1) scIsQuestion.nd rfl (.inr rfl)) (pgs_cons (pg_name (i := 2) scIsQuestion.nd rfl (.inl rfl)) (pgs_cons (pg_name (i := 3) scIsQuestion.nd rfl (.inl rfl)) (pgs_cons (pg_name (i := 4) scIsQuestion.nd rfl (.inl rfl)) pgs_nil))))))
    (pss_cons (ps_if (PW.pt (pw_or (pt_not (pt_val (pe_call GAn hr2 rfl aAn.gl aAn.fn.kp aAn.bd .nil pass0 (pa_cons (pv 1) pa_nil)))) (pw_or1 (pt_not (pt_val (pe_call GNu hr1 rfl aNu.gl aNu.fn.kp aNu.bd .nil pass0 (pa_cons (pv 2) (pa_cons pe_int (pa_cons (pe_op op_add (pe_callB call_len_seq (by rfl) b.len PySem.boot_len (pa_cons (pv 1) pa_nil)) pe_int) pa_nil)))))))))
      (pss_one (ps_ret pe_bl))
      pss_nil)
    (pss_cons (ps_if (PW.pt (pw_or (pt_not (pt_val (pe_call GTu hr1 rfl aTu.gl aTu.fn.kp aTu.bd .nil pass0 (pa_cons (pv 3) (pa_cons pe_int (pa_cons (pe_glob (v := .int 6) rfl Wmt ⟨_, rfl⟩) pa_nil)))))) (pw_or1 (pt_not (pt_val (pe_callB (cr_all rfl) (by rfl) b.all (by decide +kernel) (pa_cons (pe_lc (own := [("tie", 5)]) (g := (gName 5)) (tt := tYes) (te := (tCall (spIsTie K) [] E0 (tCons (tVar 5) (tCons (tVar 1) tNil)))) rfl scIsQuestion.nd (pi_tup (pv 3)) (blkOk_by (N := nIsQuestion) (sc := defScope sIsQuestion) (by decide +kernel)) (fun _ _ _ _ _ => (pg_name (i := 5) scIsQuestion.nd rfl (.inl rfl))) (fun _ _ _ _ _ => pts_nil) (fun _ _ _ _ _ => (pe_call GTi hr3 rfl aTi.gl aTi.fn.kp aTi.bd .nil pass0 (pa_cons (pv 5) (pa_cons (pv 1) pa_nil))))) pa_nil)))))))
      (pss_one (ps_ret pe_bl))
      pss_nil)
    (pss_cons (ps_if (PW.pt (pw_or (pt_not (pt_val (pe_call GTu hr1 rfl aTu.gl aTu.fn.kp aTu.bd .nil pass0 (pa_cons (pv 4) (pa_cons pe_int (pa_cons (pe_glob (v := .int 3) rfl Wmr ⟨_, rfl⟩) pa_nil)))))) (pw_or1 (pt_not (pt_val (pe_callB (cr_all rfl) (by rfl) b.all (by decide +kernel) (pa_cons (pe_lc (own := [("pair", 6)]) (g := (gName 6)) (tt := tYes) (te := (tCall (spIsPair K) [] E0 (tCons (tVar 6) (tCons (tVar 1) tNil)))) rfl scIsQuestion.nd (pi_tup (pv 4)) (blkOk_by (N := nIsQuestion) (sc := defScope sIsQuestion) (by decide +kernel)) (fun _ _ _ _ _ => (pg_name (i := 6) scIsQuestion.nd rfl (.inl rfl))) (fun _ _ _ _ _ => pts_nil) (fun _ _ _ _ _ => (pe_call GPa hr2 rfl aPa.gl aPa.fn.kp aPa.bd .nil pass0 (pa_cons (pv 6) (pa_cons (pv 1) pa_nil))))) pa_nil)))))))
      (pss_one (ps_ret pe_bl))
      pss_nil)
    (pss_one (ps_ret (pe_call GAt hr1 rfl aAt.gl aAt.fn.kp aAt.bd .nil pass0 (pa_cons (pv 1) (pa_cons (pv 3) pa_nil)))))))))), ?_⟩
    have n1 := ok.n1
    have n5 := ok.n5
    have m1 := ok.m1
    have mn := ok.mn
    have t1 := ok.t1
    have t6 := ok.t6
    have l3 := ok.l3
    have elt := et.len
    have ell := el.len
    refine ⟨_, rfl, _, _, 4, 4, rfl, .tup ha, _, rfl, iteF ?_⟩
    refine ⟨_, rfl, a, _, rfl, SqT.of ha, rfl, _, _, rfl, _, _, rfl, _, _, rfl, _, _, rfl, rfl, ?_⟩
    refine ⟨_, rfl, n, q.names, rfl, hn, n1, n5, ok.nm, ok.nd, fun H1 s1 => ⟨_, rfl, iteF ?_⟩⟩
    refine ⟨_, rfl, _, rfl, n, _, rfl, .inr ((hn.same s1).sq), _, _, rfl, rfl, _, "int", 1, _, rfl, .base (.int _), by decide, _, rfl, ?_⟩
    have e1 : numB 1 (((q.names.map V.str).length : Int) + 1) (.int (q.many : Nat)) = true := by
      show (decide _ && decide _) = true
      rw [List.length_map, decide_eq_true (by omega), decide_eq_true (by omega)]
      rfl
    rw [e1]
    refine iteF ?_
    refine ⟨_, rfl, _, _, 1, 6, rfl, .tup (s1 _ _ ht), _, rfl, ?_⟩
    have e2 : lenO 1 6 (some ts) = true := by
      show (decide _ && decide _) = true
      rw [decide_eq_true (by omega), decide_eq_true (by omega)]
      rfl
    rw [e2]
    refine iteF ?_
    refine ⟨_, rfl, t, rfl, ⟨_, SqT.of (s1 _ _ ht)⟩, fun D hD => ?_⟩
    refine lc_tupV (xs := ts) (fun _ => .bl true) hD (SqT.of (s1 _ _ ht)) (by omega) ?_ ?_
    · rintro i x H2 hx s2 k1 k2 y1
      obtain ⟨tie, etie, tat⟩ := et.get hx
      exact ⟨rfl, yes_turn ⟨_, rfl, _, rfl, x, n, q.names, tie, rfl, tat.moved (same_tups (s1.trans s2)), hn.same (s1.trans s2), ok.tt tie (List.mem_of_getElem? etie), fun H3 s3 => y1 H3 s3⟩⟩
    · intro H2 s2 h2
      refine ⟨D, ts.map fun _ => true, rfl, SqL.of (by rw [h2, List.map_map]; rfl), _, rfl, ?_⟩
      rw [all_true]
      refine iteF ?_
      have s12 := s1.trans s2
      refine ⟨_, rfl, _, _, 0, 3, rfl, .tup (s12 _ _ hl), _, rfl, ?_⟩
      have e3 : lenO 0 3 (some ls) = true := by
        show (decide ((0 : Int) ≤ ls.length) && decide ((ls.length : Int) ≤ 3)) = true
        rw [decide_eq_true (by omega), decide_eq_true (by omega)]
        rfl
      rw [e3]
      refine iteF ?_
      refine ⟨_, rfl, l, rfl, ⟨_, SqT.of (s12 _ _ hl)⟩, fun D2 hD2 => ?_⟩
      refine lc_tupV (xs := ls) (fun _ => .bl true) hD2 (SqT.of (s12 _ _ hl)) (by omega) ?_ ?_
      · rintro i x H3 hx s3 k1 k2 y1
        obtain ⟨pr, epr, pat⟩ := el.get hx
        obtain ⟨p1, p2, p3⟩ := ok.ll pr (List.mem_of_getElem? epr)
        exact ⟨rfl, yes_turn ⟨_, rfl, _, rfl, x, n, q.names, pr, rfl, pat.moved (same_tups (s12.trans s3)), hn.same (s12.trans s3), n5, p1, p2, p3, fun H4 s4 => y1 H4 s4⟩⟩
      · intro H3 s3 h3
        refine ⟨D2, ls.map fun _ => true, rfl, SqL.of (by rw [h3, List.map_map]; rfl), _, rfl, ?_⟩
        rw [all_true]
        refine iteF ?_
        have s13 := s12.trans s3
        exact ⟨_, rfl, _, rfl, n, t, l, q, rfl, qp.moved (same_tups s13), ok, fun H4 s4 => k H4 (s13.trans s4)⟩
def spNeedQn : Sp := fun vs H Q _ => ∃ (a : Addr) (q : Qn), vs = [.ref a] ∧ QAt H a q ∧ QOk q ∧ ∀ H', Same H H' → Q .non H'
theorem has_needqn (h : Has P w K mg base CX0 4 "is_question" sIsQuestion ["thing"] spIsQn) (a : AtE K mg "need_question" sNeedQuestion ["question"]) : Has P w K mg base CX0 5 "need_question" sNeedQuestion ["question"] spNeedQn := by
  obtain ⟨f, fd, a⟩ := a
  obtain ⟨fQu, fdQu, aQu, GQu⟩ := h
  refine ⟨f, fd, a, a.fn.ok scNeedQuestion (fun vs H Q E h => ?_) (fun cdv A outer s H vs Q E hr4 h => ?_)⟩
  · obtain ⟨a, q, rfl, _⟩ := h
    rfl
  · obtain ⟨a, q, rfl, qa, ok, k⟩ := h
    refine ⟨_, (pss_one (ps_if (pt_not (pt_val (pe_call GQu hr4 rfl aQu.gl aQu.fn.kp aQu.bd .nil pass0 (pa_cons (pv 0) pa_nil)))) (pss_one ps_never) pss_nil)), ?_⟩
    exact ⟨_, rfl, a, q, rfl, qa, ok, fun H1 s1 => ⟨_, rfl, iteF (k H1 s1)⟩⟩
/-! ### a tie's own names -/
def ownZ (q : Qn) (t : Nat) : List Str := q.names.filter fun z => decide (Term.nm z ∈ (q.ties.getD t ("", [])).2)
def placesM (names : List Str) (ts : List Term) : Nat → List Nat
  | 0 => []
  | i + 1 => placesM names ts i ++ (if Term.nm (names.getD i "") ∈ ts then [i] else [])
theorem placesM_names (names : List Str) (ts : List Term) : ∀ i, i ≤ names.length → (placesM names ts i).map (fun j => names.getD j "") = (names.take i).filter fun z => decide (Term.nm z ∈ ts)
  | 0, _ => rfl
  | i + 1, h => by
    have lt : i < names.length := h
    have e : names[i]? = some names[i] := List.getElem?_eq_getElem lt
    have e2 : names.getD i "" = names[i] := by rw [List.getD_eq_getElem?_getD, e]; rfl
    rw [List.take_add_one, e, List.filter_append, ← placesM_names names ts i (by omega)]
    show (placesM names ts i ++ _).map _ = _
    rw [List.map_append, e2]
    congr 1
    show _ = List.filter _ [names[i]]
    by_cases m : Term.nm names[i] ∈ ts
    · rw [if_pos m, List.filter_cons_of_pos (by rw [decide_eq_true m])]
      show [names.getD i ""] = _
      rw [e2]
      rfl
    · rw [if_neg m, List.filter_cons_of_neg (by rw [decide_eq_false m]; exact Bool.false_ne_true)]
      rfl
theorem placesM_lt (names : List Str) (ts : List Term) : ∀ i, ∀ j ∈ placesM names ts i, j < i
  | 0, j, m => by cases m
  | i + 1, j, m => by
    rcases List.mem_append.mp m with m | m
    · exact Nat.lt_succ_of_lt (placesM_lt names ts i j m)
    · by_cases c : Term.nm (names.getD i "") ∈ ts
      · rw [if_pos c] at m
        rw [List.mem_singleton.mp m]
        exact Nat.lt_succ_self i
      · rw [if_neg c] at m
        cases m
theorem placesM_len (names : List Str) (ts : List Term) : ∀ i, (placesM names ts i).length ≤ i
  | 0 => Nat.le_refl 0
  | i + 1 => by
    have := placesM_len names ts i
    show (placesM names ts i ++ _).length ≤ _
    rw [List.length_append]
    split <;> simp <;> omega
def spOwnP : Sp := fun vs H Q _ => ∃ (a : Addr) (q : Qn) (t : Nat) (tie : Str × List Term), vs = [.ref a, .int (t : Nat)] ∧ QAt H a q ∧ QOk q ∧ q.ties[t]? = some tie ∧
  ∀ (p : Addr) (H' : Hp), H p = none → Same H H' → H' p = some (.lst ((placesM q.names tie.2 q.names.length).map numV)) → Q (.ref p) H'
theorem has_ownp (en : mg "enumerate" = none) (a : AtE K mg "own_places" sOwnPlaces ["question", "tie"]) : Has P w K mg base CX0 1 "own_places" sOwnPlaces ["question", "tie"] spOwnP := by
  obtain ⟨f, fd, a⟩ := a
  refine ⟨f, fd, a, a.fn.ok scOwnPlaces (fun vs H Q E h => ?_) (fun cdv A outer s H vs Q E hr h => ?_)⟩
  · obtain ⟨a, q, t, tie, rfl, _⟩ := h
    rfl
  · obtain ⟨a, q, t, tie, rfl, ⟨n, t', l, ha, qp⟩, ok, etie, k⟩ := h
    obtain ⟨hn, ⟨ts, ht, et⟩, _⟩ := qp
    obtain ⟨v, ev, c, d, rfl, hc, hd⟩ := et.at_ etie
    refine ⟨_,
    (pss_cons (ps_set (i := 2) scOwnPlaces.nd rfl (.inr rfl) (pe_ix ix_tup (pe_ix ix_tup (pe_ix ix_tup (pv 0) pe_int fun _ _ => rfl) (pv 1) fun _ _ => rfl) pe_int fun _ _ => rfl))
    (pss_one (ps_ret (pe_lc (own := [("at", 3), ("name", 4)]) (g := (gTup K 2 (gCons (gName 3) (gCons (gName 4) gNil)))) (tt := (tTest (tOp (rIn K false) (tVar 4) (tVar 2)))) (te := (tVar 3)) rfl scOwnPlaces.nd (pi_enumT rfl en (pa_cons (pe_ix ix_tup (pv 0) pe_int fun _ _ => rfl) pa_nil)) (blkOk_by (N := nOwnPlaces) (sc := defScope sOwnPlaces) (by decide +kernel)) (fun _ _ _ _ _ => (pg_tup rfl (pgs_cons (pg_name (i := 3) scOwnPlaces.nd rfl (.inl rfl)) (pgs_cons (pg_name (i := 4) scOwnPlaces.nd rfl (.inl rfl)) pgs_nil)))) (fun _ _ _ _ _ => pts_one (pt_cmpR op_in_seq (pv 4) (pv 2) rfl)) (fun _ _ _ _ _ => (pv 3)))))), ?_⟩
    refine ⟨_, rfl, a, _, _, _, rfl, rfl, SqT.of ha, atI_nat (j := 2) rfl, ?_⟩
    refine ⟨_, rfl, t', _, _, _, rfl, rfl, SqT.of ht, atI_nat ev, ?_⟩
    refine ⟨c, _, _, _, rfl, rfl, SqT.of hc, atI_nat (j := 1) rfl, ?_⟩
    refine ⟨_, rfl, a, _, _, _, rfl, rfl, SqT.of ha, atI_nat (j := 0) rfl, n, _, rfl, hn.sq, fun D hD => ?_⟩
    refine lc_enumTS (xs := q.names.map V.str) (fun i acc _ => acc = (placesM q.names tie.2 i).map numV) hD (hn.sq) (by rw [List.length_map]; have := ok.n5; omega) (fun _ _ _ _ _ h => h) rfl ?_ ?_
    · rintro i x T acc H2 hx s2 hT h2 rfl k1 k2 y1 y2
      obtain ⟨z, ez, rfl⟩ := map_get hx
      have e2 : q.names.getD i "" = z := by rw [List.getD_eq_getElem?_getD, ez]; rfl
      refine ⟨T, _, rfl, SqT.of hT, rfl, _, _, rfl, _, _, rfl, rfl, rfl, ?_⟩
      refine ⟨_, rfl, _, rfl, d, _, rfl, .inr ((hd.same s2).sq), rfl, terms_flat _, _, rfl, ?_⟩
      rw [inV_term]
      by_cases m : Term.nm z ∈ tie.2
      · rw [decide_eq_true m]
        refine iteT ⟨_, rfl, y1 _ _ (Same.refl _) ?_⟩
        show _ = (placesM q.names tie.2 i ++ _).map numV
        rw [e2, if_pos m, List.map_append]
        rfl
      · rw [decide_eq_false m]
        refine iteF (y2 _ (Same.refl _) ?_)
        show _ = (placesM q.names tie.2 i ++ _).map numV
        rw [e2, if_neg m, List.append_nil]
    · rintro acc H2 s2 h2 rfl
      rw [List.length_map] at h2
      exact k D H2 hD s2 h2
def spOwnN : Sp := fun vs H Q _ => ∃ (a : Addr) (q : Qn) (t : Nat), vs = [.ref a, .int (t : Nat)] ∧ QAt H a q ∧ QOk q ∧ t < q.ties.length ∧
  ∀ (p : Addr) (H' : Hp), H p = none → Same H H' → NmAt H' p (ownZ q t) → Q (.ref p) H'
theorem has_ownn (b : Blt mg) (hq : Has P w K mg base CX0 5 "need_question" sNeedQuestion ["question"] spNeedQn) (hp : Has P w K mg base CX0 1 "own_places" sOwnPlaces ["question", "tie"] spOwnP) (a : AtE K mg "own_names" sOwnNames ["question", "tie"]) :
    Has P w K mg base CX0 6 "own_names" sOwnNames ["question", "tie"] spOwnN := by
  obtain ⟨f, fd, a⟩ := a
  obtain ⟨fNq, fdNq, aNq, GNq⟩ := hq
  obtain ⟨fOp, fdOp, aOp, GOp⟩ := hp
  refine ⟨f, fd, a, a.fn.ok scOwnNames (fun vs H Q E h => ?_) (fun cdv A outer s H vs Q E hr5 h => ?_)⟩
  · obtain ⟨a, q, t, rfl, _⟩ := h
    rfl
  · obtain ⟨a, q, t, rfl, qa, ok, lt, k⟩ := h
    have hr1 : Room 1 _ := hr5.mono (by decide)
    have etie : q.ties[t]? = some q.ties[t] := List.getElem?_eq_getElem lt
    have n5 := ok.n5
    refine ⟨_,
    (pss_cons (ps_expr (pe_call GNq hr5 rfl aNq.gl aNq.fn.kp aNq.bd .nil pass0 (pa_cons (pv 0) pa_nil)))
    (pss_one (ps_ret (pe_callTy call_tuple_of (by rfl) b.tuple (by decide +kernel) (pa_cons (pe_lc (own := [("at", 2)]) (g := (gName 2)) (tt := tYes) (te := (tOp (rIxT K) (tOp (rIxT K) (tVar 0) (tC (.int 0))) (tVar 2))) rfl scOwnNames.nd (pi_list (pe_call GOp hr1 rfl aOp.gl aOp.fn.kp aOp.bd .nil pass0 (pa_cons (pv 0) (pa_cons (pv 1) pa_nil)))) (blkOk_by (N := nOwnNames) (sc := defScope sOwnNames) (by decide +kernel)) (fun _ _ _ _ _ => (pg_name (i := 2) scOwnNames.nd rfl (.inl rfl))) (fun _ _ _ _ _ => pts_nil) (fun _ _ _ _ _ => (pe_ix ix_tup (pe_ix ix_tup (pv 0) pe_int fun _ _ => rfl) (pv 2) fun _ _ => rfl))) pa_nil))))), ?_⟩
    refine ⟨_, rfl, a, q, rfl, qa, ok, fun H1 s1 => ?_⟩
    have qa1 := qa.moved (same_tups s1)
    refine ⟨_, rfl, _, rfl, a, q, t, _, rfl, qa1, ok, etie, fun p H2 np s2 hp => ?_⟩
    refine ⟨p, rfl, ⟨_, SqL.of hp⟩, fun D hD => ?_⟩
    obtain ⟨n, t', l, ha, qp⟩ := qa1.moved (same_tups s2)
    refine lc_listV (xs := (placesM q.names q.ties[t].2 q.names.length).map numV) (fun v => match v with | .int i => .str (q.names.getD i.toNat "") | _ => .non) hD (SqL.of hp) (by rw [List.length_map]; have := placesM_len q.names q.ties[t].2 q.names.length; omega) ?_ ?_
    · rintro i x H3 hx s3 k1 k2 y1
      obtain ⟨j, ej, rfl⟩ := num_get hx
      have lj : j < q.names.length := placesM_lt _ _ _ j (List.mem_of_getElem? ej)
      have e3 : (q.names.map V.str)[j]? = some (.str (q.names.getD j "")) := by
        rw [List.getElem?_map, List.getD_eq_getElem?_getD, List.getElem?_eq_getElem lj]
        rfl
      refine ⟨rfl, yes_turn ?_⟩
      refine ⟨_, rfl, a, _, _, _, rfl, rfl, SqT.of (s3 _ _ ha), atI_nat (j := 0) rfl, ?_⟩
      exact ⟨_, rfl, n, _, _, _, rfl, rfl, (qp.nm.same s3).sq, atI_nat e3, y1 _ (Same.refl _)⟩
    · intro H3 s3 h3
      refine ⟨D, _, rfl, .inl ⟨SqL.of h3, fun r nr => ?_⟩⟩
      have s13 := (s1.trans s2).trans s3
      refine k r _ (s13.free nr) (s13.trans (same_new nr)) ?_
      show upd H3 r _ r = _
      rw [upd_same]
      have e4 : ownZ q t = (placesM q.names q.ties[t].2 q.names.length).map fun j => q.names.getD j "" := by
        rw [placesM_names _ _ _ (Nat.le_refl _), List.take_of_length_le (Nat.le_refl _)]
        unfold ownZ
        rw [List.getD_eq_getElem?_getD, etie]
        rfl
      rw [e4, List.map_map, List.map_map]
      rfl
end
end VQ
namespace VQ
open PySem L2 LamX
theorem tups_lst {H : Hp} {a : Addr} {xs ys : List V} (h : H a = some (.lst xs)) : Tups H (upd H a (.lst ys)) := by
  have ne : ∀ p o, (∀ zs, o ≠ .lst zs) → H p = some o → upd H a (.lst ys) p = some o := fun p o no hp => by
    rw [upd_ne (fun e => by rw [e, h] at hp; injection hp with hp; exact no _ hp.symm)]
    exact hp
  exact ⟨fun p zs hp => ne p _ (fun _ e => by cases e) hp, fun p zs ⟨o, d, hp⟩ => ⟨o, d, ne p _ (fun _ e => by cases e) hp⟩⟩
theorem NmN.keep {H H' : Hp} {b n : Addr} {zs : List Str} (h : NmN H n zs) (B : Bag H b) (k : Keep b H H') : NmN H' n zs := by
  obtain ⟨o, d, e⟩ := h
  obtain ⟨l, ns, i, r, x, m, nl, h1, _⟩ := B
  exact ⟨o, d, k.1 _ _ (fun q => by rw [q, h1] at e; cases e) e⟩
theorem NmN.ne {H : Hp} {b n : Addr} {zs : List Str} (h : NmN H n zs) (B : Bag H b) : n ≠ b := fun q => by
  obtain ⟨o, d, e⟩ := h
  obtain ⟨l, ns, i, r, x, m, nl, h1, _⟩ := B
  rw [q, h1] at e
  cases e
theorem TupN.keep {H H' : Hp} {b n : Addr} {xs : List V} (h : TupN H n xs) (B : Bag H b) (k : Keep b H H') : TupN H' n xs := by
  obtain ⟨o, d, e⟩ := h
  obtain ⟨l, ns, i, r, x, m, nl, h1, _⟩ := B
  exact ⟨o, d, k.1 _ _ (fun q => by rw [q, h1] at e; cases e) e⟩
end VQ
namespace VQ
open PySem L2 LamX
/-! ### names drawn -/
def chV (c : Nat) : V := .str ⟨#[c]⟩
theorem letters_at {d : Int} (h0 : 0 ≤ d) (h1 : d < 26) : ∃ c, atI letters.cps.toList d = some c ∧ letB c = true := by
  obtain ⟨n, rfl⟩ := Int.eq_ofNat_of_zero_le h0
  have hn : n < letters.cps.toList.length := by
    have e : letters.cps.toList.length = 26 := by decide +kernel
    omega
  exact ⟨_, atI_nat (List.getElem?_eq_getElem hn), decide_eq_true (List.getElem_mem hn)⟩
theorem joinL_nil : ∀ ps : List (List Nat), TL.joinL [] ps = ps.flatten
  | [] => rfl
  | [p] => by simp [TL.joinL]
  | p :: q :: r => by
    show p ++ ([] ++ TL.joinL [] (q :: r)) = _
    rw [joinL_nil (q :: r)]
    rfl
theorem join_chs (cs : List Nat) : Txt.join "" (cs.map fun c => (⟨#[c]⟩ : Str)) = ⟨cs.toArray⟩ := by
  have e : TL.tl (Txt.join "" (cs.map fun c => (⟨#[c]⟩ : Str))) = cs := by
    rw [TL.join_eq, TL.tl_join]
    show TL.joinL [] _ = _
    rw [joinL_nil, List.map_map]
    induction cs with
    | nil => rfl
    | cons c cs ih =>
      show [c] ++ (List.map _ cs).flatten = _
      rw [ih]
      rfl
  generalize Txt.join "" (cs.map fun c => (⟨#[c]⟩ : Str)) = z at e
  obtain ⟨a⟩ := z
  have e' : a.toList = cs := e
  rw [← e', Array.toArray_toList]
theorem chs_sum (cs : List Nat) : ((cs.map fun c => (⟨#[c]⟩ : Str)).map (·.length)).sum + (cs.map fun c => (⟨#[c]⟩ : Str)).length * ("" : Str).length = cs.length := by
  show _ + _ * 0 = _
  rw [Nat.mul_zero, Nat.add_zero]
  induction cs with
  | nil => rfl
  | cons c cs ih =>
    rw [List.map_cons, List.map_cons, List.sum_cons, ih]
    show 1 + cs.length = cs.length + 1
    omega
theorem name_chs {m : Nat} {cs : List Nat} (h1 : 1 ≤ cs.length) (hm : cs.length ≤ m) (hl : ∀ c ∈ cs, letB c = true) (nf : (⟨cs.toArray⟩ : Str) ≠ "find") (ns : (⟨cs.toArray⟩ : Str) ≠ "some") : NameS m ⟨cs.toArray⟩ :=
  ⟨h1, hm, nf, ns, fun c m => hl c (by simpa using m)⟩
theorem NameS.of_len {m : Nat} {cs : List Nat} (h1 : 1 ≤ cs.length) (hm : cs.length ≤ m) (h4 : cs.length ≠ 4) (hl : ∀ c ∈ cs, letB c = true) : NameS m ⟨cs.toArray⟩ :=
  name_chs h1 hm hl (fun e => h4 (by have := congrArg PySem.Str.length e; exact this)) fun e => h4 (by have := congrArg PySem.Str.length e; exact this)
theorem NameS.mono {m n : Nat} {z : Str} (h : NameS m z) (l : m ≤ n) : NameS n z := ⟨h.lo, Nat.le_trans h.hi l, h.nf, h.ns, h.lt⟩
abbrev sLawPool : Stmt := top 73
abbrev nLawPool : List Str := ["_law_bag_here", "_law_many", "_law_most", "_law_letters", "_law_size", "_law_place", "_law_begin", "_law_same", "_law_found", "_law_k", "_law_row", "_law_word", "_law_at"]
theorem scLawPool : FnScope nLawPool ["_law_bag_here", "_law_many", "_law_most"] (defScope sLawPool) := ⟨rfl, rfl, rfl, by decide +kernel, rfl, by decide +kernel, by decide +kernel⟩
abbrev nLawTerm : List Str := ["_law_bag_here", "_law_names_here"]
abbrev nLawTerms : List Str := ["_law_bag_here", "_law_names_here", "_law_width", "_law_k"]
abbrev sLawNames : Stmt := top 75
abbrev nLawNames : List Str := ["_law_bag_here", "_law_many"]
theorem scLawNames : FnScope nLawNames ["_law_bag_here", "_law_many"] (defScope sLawNames) := ⟨rfl, rfl, rfl, by decide +kernel, rfl, by decide +kernel, by decide +kernel⟩
abbrev sLawPairs : Stmt := top 76
abbrev nLawPairs : List Str := ["_law_bag_here", "_law_names_here", "_law_most", "_law_found", "_law_k", "_law_one", "_law_other"]
theorem scLawPairs : FnScope nLawPairs ["_law_bag_here", "_law_names_here", "_law_most"] (defScope sLawPairs) := ⟨rfl, rfl, rfl, by decide +kernel, rfl, by decide +kernel, by decide +kernel⟩
abbrev sLawUnlikeNames : Stmt := top 77
abbrev nLawUnlikeNames : List Str := ["_law_bag_here", "_law_many", "_law_found", "_law_one"]
theorem scLawUnlikeNames : FnScope nLawUnlikeNames ["_law_bag_here", "_law_many"] (defScope sLawUnlikeNames) := ⟨rfl, rfl, rfl, by decide +kernel, rfl, by decide +kernel, by decide +kernel⟩
section
variable {P : Program} {w : World} {K : PySem.W.Frag} {mg : Str → Option Value} {base : Heap} {aB : Addr}
/-- an item of a list or a tuple, drawn -/
def spOfA (K : PySem.W.Frag) : Sp := fun vs H Q _ => ∃ (b p : Addr) (xs : List V), vs = [.ref b, .ref p] ∧ Bag H b ∧ (H p = some (.lst xs) ∨ H p = some (.tup xs) ∨ TupN H p xs) ∧ p ≠ b ∧ 1 ≤ xs.length ∧ xs.length < 1000 ∧
  ∀ (v : V) (H' : Hp), v ∈ xs → Bag H' b → Keep b H H' → Q v H'
theorem has_ofA (b : Blt mg) (hP : Has P w K mg base CX0 1 "_law_pull" sPull ["_law_bag_here", "_law_size"] spPull) (a : AtE K mg "_law_of" sOf ["_law_bag_here", "_law_some"]) : Has P w K mg base CX0 2 "_law_of" sOf ["_law_bag_here", "_law_some"] (spOfA K) := by
  obtain ⟨f, fd, a⟩ := a
  obtain ⟨fP, fdP, aP, GP⟩ := hP
  refine ⟨f, fd, a, a.fn.ok scOf (fun vs H Q E h => ?_) (fun cdv A outer s H vs Q E hr h => ?_)⟩
  · obtain ⟨b, p, xs, rfl, _⟩ := h
    rfl
  · obtain ⟨bg, p, xs, rfl, B, hp, np, l1, l2, k⟩ := h
    refine ⟨_, pss_one (ps_ret (pe_ix ix_seq (pv 1) (pe_call GP hr rfl aP.gl aP.fn.kp aP.bd .nil pass0 (pa_cons (pv 0) (pa_cons (pe_callB call_len_seq (by rfl) b.len PySem.boot_len (pa_cons (pv 1) pa_nil)) pa_nil))) fun _ _ => rfl)), ?_⟩
    have sq : SqL K H p xs ∨ SqT K H p xs := hp.imp SqL.of fun h => h.elim SqT.of TupN.sq
    refine ⟨_, rfl, _, rfl, _, rfl, p, xs, rfl, sq, bg, _, rfl, B, by omega, by omega, fun d H' d0 d1 B' kp => ?_⟩
    obtain ⟨j, rfl⟩ := Int.eq_ofNat_of_zero_le d0
    have hj : j < xs.length := Int.ofNat_lt.mp d1
    have kk := k _ H' (List.getElem_mem hj) B' kp
    rcases hp with hp | hp | hp
    · exact .inl ⟨p, xs, _, _, rfl, rfl, SqL.of (kp.1 _ _ np hp), atI_nat (List.getElem?_eq_getElem hj), kk⟩
    · exact .inr (.inl ⟨p, xs, _, _, rfl, rfl, SqT.of (kp.1 _ _ np hp), atI_nat (List.getElem?_eq_getElem hj), kk⟩)
    · exact .inr (.inl ⟨p, xs, _, _, rfl, rfl, (hp.keep B kp).sq, atI_nat (List.getElem?_eq_getElem hj), kk⟩)
def spPool : Sp := fun vs H Q _ => ∃ (b : Addr) (many most : Nat), vs = [.ref b, .int (many : Nat), .int (most : Nat)] ∧ Bag H b ∧ many ≤ 5 ∧ 1 ≤ most ∧ most ≤ 8 ∧
  ∀ (p : Addr) (zs : List Str) (H' : Hp), zs.length = many → (∀ z ∈ zs, NameS most z) → H p = none → H' p = some (.lst (zs.map V.str)) → Bag H' b → Keep b H H' → Q (.ref p) H'
theorem has_pool (b : Blt mg) (hP : Has P w K mg base CX0 1 "_law_pull" sPull ["_law_bag_here", "_law_size"] spPull) (a : AtE K mg "_law_pool" sLawPool ["_law_bag_here", "_law_many", "_law_most"]) : Has P w K mg base CX0 2 "_law_pool" sLawPool ["_law_bag_here", "_law_many", "_law_most"] spPool := by
  obtain ⟨f, fd, a⟩ := a
  obtain ⟨fP, fdP, aP, GP⟩ := hP
  refine ⟨f, fd, a, a.fn.ok scLawPool (fun vs H Q E h => ?_) (fun cdv A outer s H vs Q E hr1 h => ?_)⟩
  · obtain ⟨b, many, most, rfl, _⟩ := h
    rfl
  · obtain ⟨bg, many, most, rfl, B, m5, q1, q8, k⟩ := h
    refine ⟨_,
    (pss_cons (ps_set (i := 3) scLawPool.nd rfl (.inr rfl) pe_str)
    (pss_cons (ps_set (i := 4) scLawPool.nd rfl (.inl rfl) (pe_op op_add pe_int (pe_call GP hr1 rfl aP.gl aP.fn.kp aP.bd .nil pass0 (pa_cons (pv 0) (pa_cons (pv 2) pa_nil)))))
    (pss_cons (ps_par (i := 5) (j := 6) rfl scLawPool.nd rfl rfl (by decide) rfl rfl (pa_cons (pe_call GP hr1 rfl aP.gl aP.fn.kp aP.bd .nil pass0 (pa_cons (pv 0) (pa_cons (pv 4) pa_nil))) (pa_cons (pe_call GP hr1 rfl aP.gl aP.fn.kp aP.bd .nil pass0 (pa_cons (pv 0) (pa_cons pe_int pa_nil))) pa_nil)) rfl)
    (pss_cons (ps_setLc (i := 7) (own := [("_law_k", 9)]) (g := (gName 9)) (tt := tYes) (te := (tOp rIxS (tVar 3) (tCall spPull [] E0 (tCons (tVar 0) (tCons (tC (.int 26)) tNil))))) rfl scLawPool.nd rfl rfl (sw_true rfl rfl rfl (by decide +kernel)) (pi_range1 rfl b.range (pa_cons (pv 4) pa_nil)) (blkOk_by (N := nLawPool) (sc := defScope sLawPool) (by decide +kernel)) (fun _ _ _ _ _ => (pg_name (i := 9) scLawPool.nd rfl (.inl rfl))) (fun _ _ _ _ _ => pts_nil) (fun _ _ _ _ _ => (pe_ix ix_str (pv 3) (pe_call GP hr1 rfl aP.gl aP.fn.kp aP.bd .nil pass0 (pa_cons (pv 0) (pa_cons pe_int pa_nil))) fun _ _ => rfl)))
    (pss_cons (ps_set (i := 8) scLawPool.nd rfl (.inl rfl) (pe_lst pa_nil))
    (pss_cons (ps_for PassesOwn.never rfl (pi_range1 rfl b.range (pa_cons (pv 1) pa_nil)) (pg_name (i := 9) scLawPool.nd rfl (.inl rfl))
      (pss_cons (ps_set (i := 10) scLawPool.nd rfl (.inl rfl) (pe_callTy call_list_of (by rfl) b.list (by decide +kernel) (pa_cons (pv 7) pa_nil)))
      (C8.pss_cut (ps_if (pt_cmpR op_eq (pe_call GP hr1 rfl aP.gl aP.fn.kp aP.bd .nil pass0 (pa_cons (pv 0) (pa_cons pe_int pa_nil))) pe_int (nomark _))
        (pss_one (ps_set (i := 10) scLawPool.nd rfl (.inl rfl) (pe_op op_cat (pv 10) (pe_lc (own := [("_law_at", 12)]) (g := (gName 12)) (tt := tYes) (te := (tOp rIxS (tVar 3) (tCall spPull [] E0 (tCons (tVar 0) (tCons (tC (.int 26)) tNil))))) rfl scLawPool.nd (pi_range1 rfl b.range (pa_cons (pe_call GP hr1 rfl aP.gl aP.fn.kp aP.bd .nil pass0 (pa_cons (pv 0) (pa_cons (pe_op op_add (pe_op op_sub (pv 2) (pv 4)) pe_int) pa_nil))) pa_nil)) (blkOk_by (N := nLawPool) (sc := defScope sLawPool) (by decide +kernel)) (fun _ _ _ _ _ => (pg_name (i := 12) scLawPool.nd rfl (.inl rfl))) (fun _ _ _ _ _ => pts_nil) (fun _ _ _ _ _ => (pe_ix ix_str (pv 3) (pe_call GP hr1 rfl aP.gl aP.fn.kp aP.bd .nil pass0 (pa_cons (pv 0) (pa_cons pe_int pa_nil))) fun _ _ => rfl))))))
        pss_nil)
      (pss_cons (ps_asg (pe_ix ix_str (pv 3) (pe_op op_mod (pe_op op_add (pv 6) (pe_op op_mul pe_int (pv 9))) pe_int) fun _ _ => rfl) (pg_sub (pv 10) (pv 5) set_list))
      (pss_cons (ps_set (i := 11) scLawPool.nd rfl (.inl rfl) (pe_join pe_str (pv 10)))
      (pss_one (ps_expr (pe_bm PySem.F.plainAttrs_list PySem.F.slot_list_append PySem.F.type_list_append mt_append (pv 8) (pa_cons (pe_ifExp (pt_cmpR op_notIn_seq (pv 11) (pe_tup (pa_cons pe_str (pa_cons pe_str pa_nil))) rfl) (pv 11) (pe_join pe_str (pe_slice sl_list (pv 10) po_none (po_some pe_int)))) pa_nil)))))))))
    (pss_one (ps_ret (pv 8))))))))), ?_⟩
    refine ⟨_, rfl, _, rfl, bg, _, rfl, B, by omega, by omega, fun d H1 d0 d1 B1 k1 => ⟨_, _, rfl, rfl, ?_⟩⟩
    obtain ⟨dn, rfl⟩ := Int.eq_ofNat_of_zero_le d0
    obtain ⟨sz, es⟩ : ∃ sz : Nat, sz = 1 + dn := ⟨_, rfl⟩
    have es' : (1 : Int) + (dn : Int) = ((sz : Nat) : Int) := by omega
    show gName 4 (V.int ((1 : Int) + (dn : Int))) _ _ _
    rw [es']
    have sz8 : sz ≤ most := by omega
    refine ⟨_, rfl, _, rfl, bg, _, rfl, B1, by omega, by omega, fun e H2 e0 e1 B2 k2 => ?_⟩
    refine ⟨_, rfl, bg, _, rfl, B2, by omega, by omega, fun g H3 g0 g1 B3 k3 => ⟨_, _, rfl, ?_⟩⟩
    obtain ⟨en, rfl⟩ := Int.eq_ofNat_of_zero_le e0
    have le : en < sz := Int.ofNat_lt.mp e1
    have K3 := (k1.trans k2).trans k3
    refine ⟨_, rfl, _, rfl, by omega, by omega, fun D hD => ?_⟩
    have hD0 := K3.free B B3 hD
    have Db : D ≠ bg := B.ne hD0
    obtain ⟨B4, K4⟩ := Bag.put (o := .lst []) B hD0 K3 B3
    have low : ("abcdefghijklmnopqrstuvwxyz" : Str).length ≤ sizeLine := by decide +kernel
    refine lc_range (lo := 0) (n := sz) (fun i H' => Bag H' bg ∧ Keep bg H H' ∧ ∃ cs : List Nat, cs.length = i ∧ (∀ c ∈ cs, letB c = true) ∧ H' D = some (.lst (cs.map chV))) ⟨B4, K4, [], rfl, (fun x m => by cases m), upd_same⟩ ?_ ?_
    · rintro i H5 hi ⟨B5, K5, cs, el, ec, h5⟩
      refine ⟨rfl, yes_turn ?_⟩
      refine ⟨_, rfl, _, rfl, bg, _, rfl, B5, by omega, by omega, fun x H6 x0 x1 B6 k6 => ?_⟩
      obtain ⟨c, ac, lc⟩ := letters_at x0 x1
      obtain ⟨B7, K7⟩ := Bag.put (o := .lst (cs.map chV ++ [chV c])) B hD0 (K5.trans k6) B6
      refine ⟨_, _, c, rfl, rfl, low, ac, _, k6.1 _ _ Db h5, by rw [List.length_map]; exact lt_line (by omega), B7, K7, cs ++ [c], by rw [List.length_append, el]; rfl, fun y m => ?_, ?_⟩
      · rcases List.mem_append.mp m with m | m
        · exact ec y m
        · rw [List.mem_singleton.mp m]
          exact lc
      · rw [List.map_append]
        exact upd_same
    · rintro H5 ⟨B5, K5, cs, el, ec, h5⟩
      refine ⟨by show 0 ≤ sizeLine; decide, fun F hF => ?_⟩
      have hF0 := K5.free B B5 hF
      have Fb : F ≠ bg := B.ne hF0
      have FD : D ≠ F := ne_of_none h5 hF
      obtain ⟨B6, K6⟩ := Bag.put (o := .lst []) B hF0 K5 B5
      refine ⟨_, rfl, _, rfl, by omega, by omega, ?_⟩
      refine for_range (lo := 0) (n := many) (fun i σ H' => ∃ x y z : Option V, σ = [some (.ref bg), some (.int (many : Nat)), some (.int (most : Nat)), some (.str letters), some (.int (sz : Nat)), some (.int (en : Nat)), some (.int g), some (.ref D), some (.ref F), x, y, z, none] ∧
          Bag H' bg ∧ Keep bg H H' ∧ H' D = some (.lst (cs.map chV)) ∧ ∃ zs : List Str, zs.length = i ∧ (∀ z ∈ zs, NameS most z) ∧ H' F = some (.lst (zs.map V.str)))
        ⟨none, none, none, rfl, B6, K6, (upd_ne FD).trans h5, [], rfl, (fun z m => by cases m), upd_same⟩ ?_ ?_
      · rintro i σ H7 hi ⟨x, y, z, rfl, B7, K7, h7, zs, lz, nz, f7⟩
        refine ⟨_, rfl, D, _, rfl, .inl (SqL.of h7), fun R hR => ?_⟩
        have hR0 := K7.free B B7 hR
        have RD : D ≠ R := ne_of_none h7 hR
        have RF : F ≠ R := ne_of_none f7 hR
        have Rb : R ≠ bg := B.ne hR0
        obtain ⟨B8, K8⟩ := Bag.put (o := .lst (cs.map chV)) B hR0 K7 B7
        have h8 := (upd_ne (H := H7) (o := .lst (cs.map chV)) RD).trans h7
        have f8 := (upd_ne (H := H7) (o := .lst (cs.map chV)) RF).trans f7
        refine ⟨fun σ' H' => ∃ (R' : Addr) (us : List Nat), σ' = [some (.ref bg), some (.int (many : Nat)), some (.int (most : Nat)), some (.str letters), some (.int (sz : Nat)), some (.int (en : Nat)), some (.int g), some (.ref D), some (.ref F), some (.int (0 + (i : Nat))), some (.ref R'), z, none] ∧
            H R' = none ∧ R' ≠ D ∧ R' ≠ F ∧ sz ≤ us.length ∧ us.length ≤ most ∧ (∀ c ∈ us, letB c = true) ∧ H' R' = some (.lst (us.map chV)) ∧ H' D = some (.lst (cs.map chV)) ∧ H' F = some (.lst (zs.map V.str)) ∧ Bag H' bg ∧ Keep bg H H', ?_, ?_⟩
        · refine ⟨_, rfl, bg, _, rfl, B8, by omega, by omega, fun u H9 u0 u1 B9 k9 => ⟨rfl, _, rfl, ?_⟩⟩
          have r9 := k9.1 _ _ Rb (upd_same (H := H7) (a := R) (o := .lst (cs.map chV)))
          have h9 := k9.1 _ _ Db h8
          have f9 := k9.1 _ _ Fb f8
          have K9 := K8.trans k9
          by_cases c0 : u = 0
          · rw [decide_eq_true (by rw [c0])]
            refine iteT ?_
            refine ⟨_, rfl, _, rfl, _, rfl, _, rfl, _, _, rfl, rfl, _, _, rfl, rfl, bg, _, rfl, B9, by omega, by omega, fun v H10 v0 v1 B10 k10 => ?_⟩
            obtain ⟨vn, rfl⟩ := Int.eq_ofNat_of_zero_le v0
            have r10 := k10.1 _ _ Rb r9
            have h10 := k10.1 _ _ Db h9
            have f10 := k10.1 _ _ Fb f9
            have K10 := K9.trans k10
            refine ⟨_, rfl, by omega, by omega, fun G hG => ?_⟩
            have hG0 := K10.free B B10 hG
            have Gb : G ≠ bg := B.ne hG0
            have GR : R ≠ G := ne_of_none r10 hG
            have GD : D ≠ G := ne_of_none h10 hG
            have GF : F ≠ G := ne_of_none f10 hG
            obtain ⟨B11, K11⟩ := Bag.put (o := .lst []) B hG0 K10 B10
            refine lc_range (lo := 0) (n := vn) (fun i H' => Bag H' bg ∧ Keep bg H H' ∧ H' R = some (.lst (cs.map chV)) ∧ H' D = some (.lst (cs.map chV)) ∧ H' F = some (.lst (zs.map V.str)) ∧ ∃ ds : List Nat, ds.length = i ∧ (∀ c ∈ ds, letB c = true) ∧ H' G = some (.lst (ds.map chV)))
              ⟨B11, K11, (upd_ne GR).trans r10, (upd_ne GD).trans h10, (upd_ne GF).trans f10, [], rfl, (fun x m => by cases m), upd_same⟩ ?_ ?_
            · rintro i2 H12 hi2 ⟨B12, K12, r12, h12, f12, ds, ed, ec', g12⟩
              refine ⟨rfl, yes_turn ?_⟩
              refine ⟨_, rfl, _, rfl, bg, _, rfl, B12, by omega, by omega, fun x H13 x0 x1 B13 k13 => ?_⟩
              obtain ⟨c, ac, lc⟩ := letters_at x0 x1
              obtain ⟨B14, K14⟩ := Bag.put (o := .lst (ds.map chV ++ [chV c])) B hG0 (K12.trans k13) B13
              refine ⟨_, _, c, rfl, rfl, low, ac, _, k13.1 _ _ Gb g12, by rw [List.length_map]; exact lt_line (by omega), B14, K14, (upd_ne GR).trans (k13.1 _ _ Rb r12), (upd_ne GD).trans (k13.1 _ _ Db h12), (upd_ne GF).trans (k13.1 _ _ Fb f12), ds ++ [c], by rw [List.length_append, ed]; rfl, fun y m => ?_, ?_⟩
              · rcases List.mem_append.mp m with m | m
                · exact ec' y m
                · rw [List.mem_singleton.mp m]
                  exact lc
              · rw [List.map_append]
                exact upd_same
            · rintro H12 ⟨B12, K12, r12, h12, f12, ds, ed, ec', g12⟩
              refine ⟨R, G, _, _, rfl, rfl, r12, g12, Nat.le_of_lt (lt_line (by rw [List.length_map, List.length_map]; omega)), fun S hS => ?_⟩
              have hS0 := K12.free B B12 hS
              obtain ⟨B13, K13⟩ := Bag.put (o := .lst (cs.map chV ++ ds.map chV)) B hS0 K12 B12
              refine ⟨S, cs ++ ds, rfl, hS0, (ne_of_none h12 hS).symm, (ne_of_none f12 hS).symm, by rw [List.length_append]; omega, by rw [List.length_append]; omega, fun c m => ?_, ?_, (upd_ne (ne_of_none h12 hS)).trans h12, (upd_ne (ne_of_none f12 hS)).trans f12, B13, K13⟩
              · rcases List.mem_append.mp m with m | m
                · exact ec c m
                · exact ec' c m
              · rw [List.map_append]
                exact upd_same
          · rw [decide_eq_false (fun q => c0 (by injection q))]
            exact iteF ⟨R, cs, rfl, hR0, RD.symm, RF.symm, by omega, by omega, ec, r9, h9, f9, B9, K9⟩
        · rintro σ' H9 ⟨R', us, rfl, hR', RD', RF', u1, u8, lu, r9, h9, f9, B9, K9⟩
          have Rb' : R' ≠ bg := B.ne hR'
          obtain ⟨c, ac, lc⟩ := letters_at (d := (g + 7 * (0 + (i : Nat))) % 26) (Int.emod_nonneg _ (by decide)) (Int.emod_lt_of_pos _ (by decide))
          refine ⟨_, rfl, _, rfl, _, rfl, _, _, rfl, rfl, .inl ⟨by decide, by decide⟩, _, _, rfl, rfl, _, _, rfl, rfl, by show (0 : Int) < 26; decide, _, _, c, rfl, rfl, low, ac, ?_⟩
          refine ⟨_, rfl, _, rfl, R', _, _, en, rfl, rfl, r9, ?_, ?_⟩
          · unfold ixN
            rw [List.length_map, if_pos (by omega), if_pos (by omega)]
            rfl
          have e1 : (us.map chV).set en (chV c) = (us.set en c).map chV := by rw [List.map_set]
          rw [show (V.str ⟨#[c]⟩ : V) = chV c from rfl, e1]
          have lu' : ∀ c' ∈ us.set en c, letB c' = true := fun c' m => by
            rcases List.mem_or_eq_of_mem_set m with m | m
            · exact lu c' m
            · rw [m]
              exact lc
          have ll : (us.set en c).length = us.length := List.length_set
          generalize us.set en c = ts at lu' ll ⊢
          obtain ⟨B10, K10⟩ := Bag.put (o := .lst (ts.map chV)) B hR' K9 B9
          have ech : ∀ xs : List Nat, xs.map chV = (xs.map fun c => (⟨#[c]⟩ : Str)).map V.str := fun xs => by
            rw [List.map_map]
            rfl
          refine ⟨⟨_, rfl⟩, _, rfl, "", R', ts.map (fun c => (⟨#[c]⟩ : Str)), rfl, rfl, .inl (SqL.of (by rw [upd_same, ech])), by rw [chs_sum]; omega, ?_⟩
          rw [join_chs]
          have h10 := (upd_ne (H := H9) (o := .lst (ts.map chV)) RD'.symm).trans h9
          have f10 := (upd_ne (H := H9) (o := .lst (ts.map chV)) RF'.symm).trans f9
          refine ⟨_, rfl, .inl ⟨rfl, _, SqL.of f10⟩, _, rfl, by show 2 ≤ sizeLine; decide, fun T hT => ?_⟩
          have hT0 := K10.free B B10 hT
          obtain ⟨B11, K11⟩ := Bag.put (o := .tup [.str "find", .str "some"]) B hT0 K10 B10
          have h11 := (upd_ne (o := .tup [.str "find", .str "some"]) (ne_of_none h10 hT)).trans h10
          have f11 := (upd_ne (o := .tup [.str "find", .str "some"]) (ne_of_none f10 hT)).trans f10
          refine ⟨T, _, rfl, .inr (SqT.of upd_same), rfl, rfl, _, rfl, ?_⟩
          have ein := inV_str (z := (⟨ts.toArray⟩ : Str)) (zs := ["find", "some"])
          rw [show ([.str "find", .str "some"] : List V) = (["find", "some"] : List Str).map V.str from rfl, ein]
          by_cases bad : (⟨ts.toArray⟩ : Str) ∈ (["find", "some"] : List Str)
          · rw [decide_eq_true bad]
            refine iteF ?_
            have l4 : ts.length = 4 := by
              have e4 : ∀ z ∈ (["find", "some"] : List Str), z.length = 4 := by decide +kernel
              exact e4 _ bad
            have r11 := (upd_ne (o := .tup [.str "find", .str "some"]) (ne_of_none (upd_same (H := H9) (a := R') (o := .lst (ts.map chV))) hT)).trans (upd_same (H := H9) (a := R') (o := .lst (ts.map chV)))
            refine ⟨⟨_, rfl⟩, _, rfl, _, rfl, R', _, rfl, SqL.of r11, fun U hU => ?_⟩
            have hU0 := K11.free B B11 hU
            have e5 : cutV (ts.map chV) none (some 3) = (ts.take 3).map chV := by
              have e6 := cut_upto (ts.map chV) (k := 3) (by rw [List.length_map]; omega)
              rw [List.map_take]
              exact e6
            rw [show cutV (ts.map chV) (none : Option Int) (some 3) = (ts.take 3).map chV from e5]
            obtain ⟨B12, K12⟩ := Bag.put (o := .lst ((ts.take 3).map chV)) B hU0 K11 B11
            have h12 := (upd_ne (o := .lst ((ts.take 3).map chV)) (ne_of_none h11 hU)).trans h11
            have f12 := (upd_ne (o := .lst ((ts.take 3).map chV)) (ne_of_none f11 hU)).trans f11
            refine ⟨"", U, (ts.take 3).map (fun c => (⟨#[c]⟩ : Str)), rfl, rfl, .inl (SqL.of (by rw [upd_same, ech])), by rw [chs_sum, List.length_take]; omega, ?_⟩
            rw [join_chs]
            obtain ⟨B13, K13⟩ := Bag.put (o := .lst (zs.map V.str ++ [.str ⟨(ts.take 3).toArray⟩])) B hF0 K12 B12
            refine ⟨F, _, _, rfl, rfl, f12, by rw [List.length_map]; exact lt_line (by omega), _, _, _, rfl, B13, K13, (upd_ne FD).trans h12, zs ++ [⟨(ts.take 3).toArray⟩], by rw [List.length_append, lz]; rfl, fun z m => ?_, ?_⟩
            · rcases List.mem_append.mp m with m | m
              · exact nz z m
              · rw [List.mem_singleton.mp m]
                have l3 : (ts.take 3).length = 3 := by rw [List.length_take]; omega
                exact NameS.of_len (by omega) (by omega) (by omega) fun c' m => lu' c' (List.mem_of_mem_take m)
            · rw [List.map_append]
              exact upd_same
          · rw [decide_eq_false bad]
            refine iteT ?_
            obtain ⟨B13, K13⟩ := Bag.put (o := .lst (zs.map V.str ++ [.str ⟨ts.toArray⟩])) B hF0 K11 B11
            refine ⟨_, rfl, F, _, _, rfl, rfl, f11, by rw [List.length_map]; exact lt_line (by omega), _, _, _, rfl, B13, K13, (upd_ne FD).trans h11, zs ++ [⟨ts.toArray⟩], by rw [List.length_append, lz]; rfl, fun z m => ?_, ?_⟩
            · rcases List.mem_append.mp m with m | m
              · exact nz z m
              · rw [List.mem_singleton.mp m]
                exact name_chs (by omega) (by omega) lu' (fun e => bad (by rw [e]; exact List.mem_cons_self)) fun e => bad (by rw [e]; exact List.mem_cons_of_mem _ List.mem_cons_self)
            · rw [List.map_append]
              exact upd_same
      · rintro σ H7 ⟨x, y, z, rfl, B7, K7, h7, zs, lz, nz, f7⟩
        exact ⟨_, rfl, k F zs H7 lz nz hF0 f7 B7 K7⟩
end
end VQ
namespace VQ
open PySem L2 LamX
theorem keep_tups {b : Addr} {H H' : Hp} (k : Keep b H H') (B : Bag H b) : Tups H H' := ⟨fun _ _ h => k.tup B h, fun _ _ h => h.keep B k⟩
theorem perm_each {α : Type} {R : V → α → Prop} : ∀ {ys vs : List V}, ys.Perm vs → ∀ {ts : List α}, Each R vs ts → ∃ us, us.Perm ts ∧ Each R ys us := by
  intro ys vs p
  induction p with
  | nil =>
    intro ts h
    exact ⟨ts, .refl _, h⟩
  | cons x _ ih =>
    intro ts h
    cases h with
    | cons h t =>
      obtain ⟨us, pu, eu⟩ := ih t
      exact ⟨_, pu.cons _, .cons h eu⟩
  | swap x y l =>
    intro ts h
    cases h with
    | cons h1 t =>
      cases t with
      | cons h2 t => exact ⟨_, .swap _ _ _, .cons h2 (.cons h1 t)⟩
  | trans _ _ ih1 ih2 =>
    intro ts h
    obtain ⟨us, pu, eu⟩ := ih2 h
    obtain ⟨us', pu', eu'⟩ := ih1 eu
    exact ⟨us', pu'.trans pu, eu'⟩
section
variable {P : Program} {w : World} {K : PySem.W.Frag} {mg : Str → Option Value} {base : Heap} {aB : Addr}
/-- what the drawing of questions asks -/
structure GDefs (P : Program) (w : World) (K : PySem.W.Frag) (mg : Str → Option Value) (base : Heap) : Prop where
  b : Blt mg
  pl : Has P w K mg base CX0 1 "_law_pull" sPull ["_law_bag_here", "_law_size"] spPull
  of_ : Has P w K mg base CX0 2 "_law_of" sOf ["_law_bag_here", "_law_some"] (spOfA K)
  mx : Has P w K mg base CX0 2 "_law_mixed" sLawMixed ["_law_bag_here", "_law_some"] spMixed
  wo : Has P w K mg base CX0 3 "_law_worth" sWorth ["_law_bag_here"] (spDraw fun i => 0 ≤ i ∧ i < 32)
  po : Has P w K mg base CX0 2 "_law_pool" sLawPool ["_law_bag_here", "_law_many", "_law_most"] spPool
def spNames : Sp := fun vs H Q _ => ∃ (b : Addr) (many : Nat), vs = [.ref b, .int (many : Nat)] ∧ Bag H b ∧ many ≤ 5 ∧
  ∀ (p : Addr) (zs : List Str) (H' : Hp), zs.length = many → (∀ z ∈ zs, NameS 4 z) → H p = none → NmAt H' p zs → Bag H' b → Keep b H H' → Q (.ref p) H'
theorem has_names (b : Blt mg) (hP : Has P w K mg base CX0 2 "_law_pool" sLawPool ["_law_bag_here", "_law_many", "_law_most"] spPool) (a : AtE K mg "_law_names" sLawNames ["_law_bag_here", "_law_many"]) : Has P w K mg base CX0 3 "_law_names" sLawNames ["_law_bag_here", "_law_many"] spNames := by
  obtain ⟨f, fd, a⟩ := a
  obtain ⟨fPo, fdPo, aPo, GPo⟩ := hP
  refine ⟨f, fd, a, a.fn.ok scLawNames (fun vs H Q E h => ?_) (fun cdv A outer s H vs Q E hr2 h => ?_)⟩
  · obtain ⟨b, m, rfl, _⟩ := h
    rfl
  · obtain ⟨bg, m, rfl, B, m5, k⟩ := h
    refine ⟨_,
    (pss_one (ps_ret (pe_callTy call_tuple_of (by rfl) b.tuple (by decide +kernel) (pa_cons (pe_call GPo hr2 rfl aPo.gl aPo.fn.kp aPo.bd .nil pass0 (pa_cons (pv 0) (pa_cons (pv 1) (pa_cons pe_int pa_nil)))) pa_nil)))), ?_⟩
    refine ⟨_, rfl, _, rfl, bg, m, 4, rfl, B, m5, by decide, by decide, fun p zs H1 lz nz np hp B1 k1 => ?_⟩
    refine ⟨p, _, rfl, .inl ⟨SqL.of hp, fun l hl => ?_⟩⟩
    have hl0 := k1.free B B1 hl
    obtain ⟨B2, K2⟩ := Bag.put (o := .tup (zs.map V.str)) B hl0 k1 B1
    exact k l zs _ lz nz hl0 upd_same B2 K2
def PairOk (zs : List Str) (p : Str × Str) : Prop := p.1 ∈ zs ∧ p.2 ∈ zs ∧ p.1 ≠ p.2
def spPairs : Sp := fun vs H Q _ => ∃ (b n : Addr) (zs : List Str) (m : Nat), vs = [.ref b, .ref n, .int (m : Nat)] ∧ Bag H b ∧ NmN H n zs ∧ zs.length ≤ 5 ∧ zs.Nodup ∧ m ≤ 3 ∧
  ∀ (p : Addr) (ls : List V) (ps : List (Str × Str)) (H' : Hp), ps.length ≤ m → (∀ x ∈ ps, PairOk zs x) → H p = none → H' p = some (.tup ls) → Each (PairAt H') ls ps → Bag H' b → Keep b H H' → Q (.ref p) H'
theorem has_pairs (b : Blt mg) (hP : Has P w K mg base CX0 1 "_law_pull" sPull ["_law_bag_here", "_law_size"] spPull) (a : AtE K mg "_law_pairs" sLawPairs ["_law_bag_here", "_law_names_here", "_law_most"]) :
    Has P w K mg base CX0 2 "_law_pairs" sLawPairs ["_law_bag_here", "_law_names_here", "_law_most"] spPairs := by
  obtain ⟨f, fd, a⟩ := a
  obtain ⟨fP, fdP, aP, GP⟩ := hP
  refine ⟨f, fd, a, a.fn.ok scLawPairs (fun vs H Q E h => ?_) (fun cdv A outer s H vs Q E hr1 h => ?_)⟩
  · obtain ⟨b, n, zs, m, rfl, _⟩ := h
    rfl
  · obtain ⟨bg, n, zs, m, rfl, B, hn, z5, nd, m3, k⟩ := h
    refine ⟨_,
    (pss_cons (ps_if (pt_cmpR op_lt (pe_callB call_len_seq (by rfl) b.len PySem.boot_len (pa_cons (pv 1) pa_nil)) pe_int (nomark _))
      (pss_one (ps_ret (pe_tup pa_nil)))
      pss_nil)
    (pss_cons (ps_set (i := 3) scLawPairs.nd rfl (.inl rfl) (pe_lst pa_nil))
    (pss_cons (ps_for PassesOwn.never rfl (pi_range1 rfl b.range (pa_cons (pe_call GP hr1 rfl aP.gl aP.fn.kp aP.bd .nil pass0 (pa_cons (pv 0) (pa_cons (pe_op op_add (pv 2) pe_int) pa_nil))) pa_nil)) (pg_name (i := 4) scLawPairs.nd rfl (.inl rfl))
      (pss_cons (ps_set (i := 5) scLawPairs.nd rfl (.inl rfl) (pe_call GP hr1 rfl aP.gl aP.fn.kp aP.bd .nil pass0 (pa_cons (pv 0) (pa_cons (pe_callB call_len_seq (by rfl) b.len PySem.boot_len (pa_cons (pv 1) pa_nil)) pa_nil))))
      (pss_cons (ps_set (i := 6) scLawPairs.nd rfl (.inl rfl) (pe_op op_mod (pe_op op_add (pe_op op_add (pv 5) pe_int) (pe_call GP hr1 rfl aP.gl aP.fn.kp aP.bd .nil pass0 (pa_cons (pv 0) (pa_cons (pe_op op_sub (pe_callB call_len_seq (by rfl) b.len PySem.boot_len (pa_cons (pv 1) pa_nil)) pe_int) pa_nil)))) (pe_callB call_len_seq (by rfl) b.len PySem.boot_len (pa_cons (pv 1) pa_nil))))
      (pss_one (ps_expr (pe_bm PySem.F.plainAttrs_list PySem.F.slot_list_append PySem.F.type_list_append mt_append (pv 3) (pa_cons (pe_tup (pa_cons (pe_ix ix_tup (pv 1) (pv 5) fun _ _ => rfl) (pa_cons (pe_ix ix_tup (pv 1) (pv 6) fun _ _ => rfl) pa_nil))) pa_nil)))))))
    (pss_one (ps_ret (pe_callTy call_tuple_of (by rfl) b.tuple (by decide +kernel) (pa_cons (pv 3) pa_nil))))))), ?_⟩
    refine ⟨_, rfl, n, _, rfl, .inr (hn.sq), _, _, rfl, rfl, _, rfl, ?_⟩
    by_cases c2 : zs.length < 2
    · rw [decide_eq_true (show ((zs.map V.str).length : Int) < 2 by rw [List.length_map]; omega)]
      refine iteT ⟨by show 0 ≤ sizeLine; decide, fun p hp => ?_⟩
      obtain ⟨B1, K1⟩ := Bag.put (o := .tup []) B hp (Keep.refl bg H) B
      exact k p [] [] _ (Nat.zero_le _) (fun x m => by cases m) hp upd_same .nil B1 K1
    · rw [decide_eq_false (show ¬ ((zs.map V.str).length : Int) < 2 by rw [List.length_map]; omega)]
      refine iteF ⟨by show 0 ≤ sizeLine; decide, fun F hF => ?_⟩
      obtain ⟨B1, K1⟩ := Bag.put (o := .lst []) B hF (Keep.refl bg H) B
      have Fb : F ≠ bg := B.ne hF
      refine ⟨_, rfl, _, rfl, _, _, rfl, rfl, bg, _, rfl, B1, by omega, by omega, fun u H2 u0 u1 B2 k2 => ?_⟩
      obtain ⟨un, rfl⟩ := Int.eq_ofNat_of_zero_le u0
      have f2 := k2.1 _ _ Fb (upd_same (H := H) (a := F) (o := .lst []))
      have K2 := K1.trans k2
      refine ⟨_, rfl, by omega, by omega, ?_⟩
      refine for_range (lo := 0) (n := un) (fun i σ H' => ∃ x y z : Option V, σ = [some (.ref bg), some (.ref n), some (.int (m : Nat)), some (.ref F), x, y, z] ∧ Bag H' bg ∧ Keep bg H H' ∧ ∃ (ls : List V) (ps : List (Str × Str)), ps.length = i ∧ (∀ x ∈ ps, PairOk zs x) ∧ H' F = some (.lst ls) ∧ Each (PairAt H') ls ps)
        ⟨none, none, none, rfl, B2, K2, [], [], rfl, (fun x m => by cases m), f2, .nil⟩ ?_ ?_
      · rintro i σ H3 hi ⟨x, y, z, rfl, B3, K3, ls, ps, lp, okp, f3, ep⟩
        have n3 := hn.keep B K3
        refine ⟨_, rfl, _, rfl, n, _, rfl, .inr (n3.sq), bg, _, rfl, B3, by rw [List.length_map]; omega, by rw [List.length_map]; omega, fun o H4 o0 o1 B4 k4 => ?_⟩
        obtain ⟨on, rfl⟩ := Int.eq_ofNat_of_zero_le o0
        rw [List.length_map] at o1
        have K4 := K3.trans k4
        have n4 := hn.keep B K4
        refine ⟨_, rfl, _, _, rfl, rfl, _, rfl, _, rfl, n, _, rfl, .inr (n4.sq), _, _, rfl, rfl, bg, _, rfl, B4, by rw [List.length_map]; omega, by rw [List.length_map]; omega, fun t H5 t0 t1 B5 k5 => ⟨_, _, rfl, rfl, ?_⟩⟩
        obtain ⟨tn, rfl⟩ := Int.eq_ofNat_of_zero_le t0
        rw [List.length_map] at t1
        have K5 := K4.trans k5
        have n5 := hn.keep B K5
        refine ⟨_, rfl, n, _, rfl, .inr (n5.sq), _, _, rfl, rfl, by rw [List.length_map]; omega, ?_⟩
        obtain ⟨r, er⟩ : ∃ r : Nat, r = (on + 1 + tn) % zs.length := ⟨_, rfl⟩
        have er' : ((on : Int) + 1 + (tn : Int)) % (((zs.map V.str).length : Nat) : Int) = ((r : Nat) : Int) := by
          rw [List.length_map, er]
          norm_cast
        have lr : r < zs.length := by rw [er]; exact Nat.mod_lt _ (by omega)
        have lo : on < zs.length := by omega
        have rne : zs[on] ≠ zs[r] := fun e => by
          have q := (List.getElem_inj nd).mp e
          by_cases w : on + 1 + tn < zs.length
          · rw [Nat.mod_eq_of_lt w] at er
            omega
          · have : (on + 1 + tn) % zs.length = on + 1 + tn - zs.length := by
              rw [Nat.mod_eq_sub_mod (by omega), Nat.mod_eq_of_lt (by omega)]
            omega
        have f5 := k5.1 _ _ Fb (k4.1 _ _ Fb f3)
        have ep5 : Each (PairAt H5) ls ps := ep.mono fun v p z => z.moved ((keep_tups k4 B3).trans (keep_tups k5 B4))
        show gName 6 (V.int (((on : Int) + 1 + (tn : Int)) % (((zs.map V.str).length : Nat) : Int))) _ _ _
        rw [er']
        refine ⟨_, rfl, .inl ⟨rfl, _, SqL.of f5⟩, ?_⟩
        refine ⟨_, rfl, _, rfl, n, _, _, _, rfl, rfl, n5.sq, atI_nat (j := on) (by rw [List.getElem?_map, List.getElem?_eq_getElem lo]; rfl), ?_⟩
        refine ⟨_, rfl, _, rfl, n, _, _, _, rfl, rfl, n5.sq, atI_nat (j := r) (by rw [List.getElem?_map, List.getElem?_eq_getElem lr]; rfl), by show 2 ≤ sizeLine; decide, fun T hT => ?_⟩
        have hT0 := K5.free B B5 hT
        obtain ⟨B6, K6⟩ := Bag.put (o := .tup [.str zs[on], .str zs[r]]) B hT0 K5 B5
        have s6 := same_new (o := HO.tup [.str zs[on], .str zs[r]]) hT
        have f6 := s6 _ _ f5
        obtain ⟨B7, K7⟩ := Bag.put (o := .lst (ls ++ [.ref T])) B hF K6 B6
        have t7 := tups_lst (ys := ls ++ [.ref T]) f6
        refine ⟨F, _, _, rfl, rfl, f6, by rw [ep.len]; exact lt_line (by omega), _, _, _, rfl, B7, K7, _, ps ++ [(zs[on], zs[r])], by rw [List.length_append, lp]; rfl, fun x mx => ?_, upd_same, ?_⟩
        · rcases List.mem_append.mp mx with mx | mx
          · exact okp x mx
          · rw [List.mem_singleton.mp mx]
            exact ⟨List.getElem_mem lo, List.getElem_mem lr, rne⟩
        · exact (ep5.mono fun v p z => z.moved ((same_tups s6).trans t7)).snoc ⟨T, rfl, t7.1 _ _ upd_same⟩
      · rintro σ H3 ⟨x, y, z, rfl, B3, K3, ls, ps, lp, okp, f3, ep⟩
        refine ⟨_, rfl, F, _, rfl, .inl ⟨SqL.of f3, fun p hp => ?_⟩⟩
        have hp0 := K3.free B B3 hp
        obtain ⟨B4, K4⟩ := Bag.put (o := .tup ls) B hp0 K3 B3
        exact k p ls ps _ (by omega) okp hp0 upd_same (ep.mono fun v p z => z.moved (same_tups (same_new hp))) B4 K4
def spUnlike : Sp := fun vs H Q _ => ∃ (b : Addr) (many : Nat), vs = [.ref b, .int (many : Nat)] ∧ Bag H b ∧ 1 ≤ many ∧ many ≤ 5 ∧
  ∀ (p : Addr) (zs : List Str) (H' : Hp), 1 ≤ zs.length → zs.length ≤ many → zs.Nodup → (∀ z ∈ zs, NameS 4 z) → H p = none → NmN H' p zs → Bag H' b → Keep b H H' → Q (.ref p) H'
abbrev sixN : List Str := ["ab", "ba", "abc", "b", "zzzz", "yx"]
theorem six_names : ∀ z ∈ (["ab", "ba", "abc", "b", "zzzz", "yx"] : List Str), NameS 4 z := by
  intro z m
  have h : ∀ z ∈ (["ab", "ba", "abc", "b", "zzzz", "yx"] : List Str), (1 ≤ z.length ∧ z.length ≤ 4) ∧ z ≠ "find" ∧ z ≠ "some" ∧ ∀ c ∈ z.cps.toList, letB c = true := by decide +kernel
  obtain ⟨⟨a, b⟩, c, d, e⟩ := h z m
  exact ⟨a, b, c, d, e⟩
theorem has_unlike (b : Blt mg) (hN : Has P w K mg base CX0 3 "_law_names" sLawNames ["_law_bag_here", "_law_many"] spNames) (a : AtE K mg "_law_unlike_names" sLawUnlikeNames ["_law_bag_here", "_law_many"]) :
    Has P w K mg base CX0 4 "_law_unlike_names" sLawUnlikeNames ["_law_bag_here", "_law_many"] spUnlike := by
  obtain ⟨f, fd, a⟩ := a
  obtain ⟨fNa, fdNa, aNa, GNa⟩ := hN
  refine ⟨f, fd, a, a.fn.ok scLawUnlikeNames (fun vs H Q E h => ?_) (fun cdv A outer s H vs Q E hr3 h => ?_)⟩
  · obtain ⟨b, m, rfl, _⟩ := h
    rfl
  · obtain ⟨bg, m, rfl, B, m1, m5, k⟩ := h
    refine ⟨_,
    (pss_cons (ps_set (i := 2) scLawUnlikeNames.nd rfl (.inl rfl) (pe_lst pa_nil))
    (pss_cons (ps_for PassesOwn.never rfl (pi_tup (pe_op op_catA (pe_call GNa hr3 rfl aNa.gl aNa.fn.kp aNa.bd .nil pass0 (pa_cons (pv 0) (pa_cons (pv 1) pa_nil))) (pe_tup (pa_cons pe_str (pa_cons pe_str (pa_cons pe_str (pa_cons pe_str (pa_cons pe_str (pa_cons pe_str pa_nil))))))))) (pg_name (i := 3) scLawUnlikeNames.nd rfl (.inl rfl))
      (pss_one (ps_if (PW.pt (pw_and (pt_cmpR op_notIn_seq (pv 3) (pv 2) rfl) (pw_and1 (pt_cmpR op_lt (pe_callB call_len_seq (by rfl) b.len PySem.boot_len (pa_cons (pv 2) pa_nil)) (pv 1) (nomark _)))))
        (pss_one (ps_expr (pe_bm PySem.F.plainAttrs_list PySem.F.slot_list_append PySem.F.type_list_append mt_append (pv 2) (pa_cons (pv 3) pa_nil))))
        pss_nil)))
    (pss_one (ps_ret (pe_callTy call_tuple_N (by rfl) b.tuple (by decide +kernel) (pa_cons (pv 2) pa_nil)))))), ?_⟩
    refine ⟨by show 0 ≤ sizeLine; decide, fun F hF => ?_⟩
    obtain ⟨B1, K1⟩ := Bag.put (o := .lst []) B hF (Keep.refl bg H) B
    have Fb : F ≠ bg := B.ne hF
    refine ⟨_, rfl, _, rfl, bg, m, rfl, B1, m5, fun p zs H2 lz nz np hp B2 k2 => ?_⟩
    have f2 := k2.1 _ _ Fb (upd_same (H := H) (a := F) (o := .lst []))
    have K2 := K1.trans k2
    refine ⟨by show 6 ≤ sizeLine; decide, fun T hT => ?_⟩
    have hT0 := K2.free B B2 hT
    obtain ⟨B3, K3⟩ := Bag.put (o := .tup [.str "ab", .str "ba", .str "abc", .str "b", .str "zzzz", .str "yx"]) B hT0 K2 B2
    have s3 := same_new (o := HO.tup [.str "ab", .str "ba", .str "abc", .str "b", .str "zzzz", .str "yx"]) hT
    refine rd_cat (s3 _ _ hp) upd_same (by rw [List.length_map]; show zs.length + 6 ≤ 1000; omega) fun U H4 s4 hU => ?_
    have f4 := s4 _ _ (s3 _ _ f2)
    have K4 := K3.trans (Same.keep s4)
    have B4 := B3.same s4
    have eU : (zs.map V.str ++ [.str "ab", .str "ba", .str "abc", .str "b", .str "zzzz", .str "yx"] : List V) = (zs ++ sixN).map V.str := by
      rw [List.map_append]
      rfl
    rw [eU] at hU
    have allN : ∀ z ∈ zs ++ sixN, NameS 4 z := fun z mz => by
      rcases List.mem_append.mp mz with mz | mz
      · exact nz z mz
      · exact six_names z mz
    have long : 1 ≤ (zs ++ sixN).length := by
      rw [List.length_append]
      show 1 ≤ zs.length + 6
      omega
    generalize (zs ++ sixN) = us at hU allN long
    refine ⟨U, rfl, ⟨_, SqT.of hU⟩, ?_⟩
    refine for_tup (xs := us.map V.str) (fun i σ H' => ∃ (x : Option V) (ws : List Str), σ = [some (.ref bg), some (.int (m : Nat)), some (.ref F), x] ∧ Bag H' bg ∧ Keep bg H H' ∧ H' U = some (.tup (us.map V.str)) ∧ H' F = some (.lst (ws.map V.str)) ∧ ws.Nodup ∧ ws.length ≤ m ∧ (1 ≤ i → 1 ≤ ws.length) ∧ ∀ z ∈ ws, NameS 4 z)
      ⟨none, [], rfl, B4, K4, hU, f4, List.nodup_nil, Nat.zero_le _, fun h => by omega, fun z m => by cases m⟩ (fun i σ H' _ ⟨_, _, _, _, _, z, _⟩ => SqT.of z) ?_ ?_
    · rintro i v σ H5 hv ⟨x, ws, rfl, B5, K5, u5, f5, nd, lw, l1, nw⟩
      obtain ⟨z, ez, rfl⟩ := map_get hv
      refine ⟨_, rfl, _, rfl, F, _, rfl, .inl (SqL.of f5), rfl, strs_flat _, _, rfl, ?_⟩
      rw [inV_str]
      by_cases mz : z ∈ ws
      · rw [decide_eq_true mz]
        refine iteF ⟨_, ws, rfl, B5, K5, u5, f5, nd, lw, fun _ => ?_, nw⟩
        exact List.length_pos_of_mem mz
      · rw [decide_eq_false mz]
        refine iteT ⟨_, rfl, F, _, rfl, .inl (SqL.of f5), _, rfl, _, _, rfl, rfl, _, rfl, ?_⟩
        by_cases c : ws.length < m
        · rw [decide_eq_true (show (((ws.map V.str).length : Nat) : Int) < (m : Int) by rw [List.length_map]; omega)]
          refine iteT ⟨_, rfl, .inl ⟨rfl, _, SqL.of f5⟩, _, rfl, F, _, _, rfl, rfl, f5, by rw [List.length_map]; exact lt_line (by omega), ?_⟩
          obtain ⟨B6, K6⟩ := Bag.put (o := .lst (ws.map V.str ++ [.str z])) B hF K5 B5
          refine ⟨_, ws ++ [z], rfl, B6, K6, (tups_lst f5).1 _ _ u5, by rw [List.map_append]; exact upd_same, snoc_nodup.mpr ⟨nd, mz⟩, by rw [List.length_append]; exact c, fun _ => by rw [List.length_append]; exact Nat.succ_le_succ (Nat.zero_le _), fun y my => ?_⟩
          rcases List.mem_append.mp my with my | my
          · exact nw y my
          · rw [List.mem_singleton.mp my]
            exact allN z (List.mem_of_getElem? ez)
        · rw [decide_eq_false (show ¬ (((ws.map V.str).length : Nat) : Int) < (m : Int) by rw [List.length_map]; omega)]
          exact iteF ⟨_, ws, rfl, B5, K5, u5, f5, nd, lw, fun _ => by omega, nw⟩
    · rintro σ H5 ⟨x, ws, rfl, B5, K5, u5, f5, nd, lw, l1, nw⟩
      refine ⟨_, rfl, F, _, rfl, SqL.of f5, fun p ob hp hd => ?_⟩
      have hp0 := K5.free B B5 hp
      obtain ⟨B6, K6⟩ := Bag.put (o := .frz ob (.tup (ws.map V.str))) B hp0 K5 B5
      exact k p ws _ (l1 (by rw [List.length_map]; exact long)) lw nd nw hp0 (TupN.upd hd) B6 K6
end
end VQ
namespace VQ
open PySem L2 LamX
/-- ties in a list, all of them good ones -/
structure TiesIn (H : Hp) (T : Addr) (zs : List Str) (ts : List (Str × List Term)) : Prop where
  at_ : ∃ vs, H T = some (.lst vs) ∧ Each (TieAt H) vs ts
  ok : ∀ t ∈ ts, TieOk zs t
theorem TiesIn.moved {H H' : Hp} {T : Addr} {zs : List Str} {ts : List (Str × List Term)} (h : TiesIn H T zs ts) (t : Tups H H') (k : ∀ vs, H T = some (.lst vs) → H' T = some (.lst vs)) : TiesIn H' T zs ts := by
  obtain ⟨⟨vs, h1, h2⟩, h3⟩ := h
  exact ⟨⟨vs, k vs h1, h2.mono fun _ _ z => z.moved t⟩, h3⟩
theorem TiesIn.keep {H H' : Hp} {b T : Addr} {zs : List Str} {ts : List (Str × List Term)} (h : TiesIn H T zs ts) (k : Keep b H H') (B : Bag H b) (ne : T ≠ b) : TiesIn H' T zs ts := h.moved (keep_tups k B) fun _ z => k.1 _ _ ne z
theorem TiesIn.same {H H' : Hp} {T : Addr} {zs : List Str} {ts : List (Str × List Term)} (h : TiesIn H T zs ts) (s : Same H H') : TiesIn H' T zs ts := h.moved (same_tups s) fun _ z => s _ _ z
theorem TiesIn.snoc {H : Hp} {T p c : Addr} {zs : List Str} {ts : List (Str × List Term)} (h : TiesIn H T zs ts) {t : Str × List Term} (hp : H p = some (.tup [.str t.1, .ref c])) (hc : TupN H c (t.2.map termV)) (ok : TieOk zs t) {vs : List V} (hT : H T = some (.lst vs)) :
    TiesIn (upd H T (.lst (vs ++ [.ref p]))) T zs (ts ++ [t]) := by
  obtain ⟨⟨vs', h1, h2⟩, h3⟩ := h
  rw [hT] at h1
  cases h1
  have tt := tups_lst (ys := vs ++ [.ref p]) hT
  refine ⟨⟨_, upd_same, (h2.mono fun _ _ z => z.moved tt).snoc ⟨p, c, rfl, tt.1 _ _ hp, tt.2 _ _ hc⟩⟩, fun u m => ?_⟩
  rcases List.mem_append.mp m with m | m
  · exact h3 u m
  · rw [List.mem_singleton.mp m]
    exact ok
theorem TiesIn.few {H : Hp} {T : Addr} {zs : List Str} {ts : List (Str × List Term)} (h : TiesIn H T zs ts) : ∃ vs, H T = some (.lst vs) ∧ vs.length = ts.length := by
  obtain ⟨⟨vs, h1, h2⟩, _⟩ := h
  exact ⟨vs, h1, h2.len⟩
theorem lay_strs {zs : List Str} (h : ∀ z ∈ zs, NameS 4 z) : Lay 1 (.list (zs.map PyData.str)) := .list fun d m => by
  obtain ⟨z, mz, rfl⟩ := List.mem_map.mp m
  refine .str _ fun c mc => ?_
  have q : ∀ c ∈ letters.cps.toList, c < 1114112 := by decide +kernel
  exact q c (of_decide_eq_true ((h z mz).lt c mc))
def leftM (zs : List Str) (ts : List (Str × List Term)) : List Str := zs.filter fun z => !ts.any fun t => decide (Term.nm z ∈ t.2)
theorem left_V (zs : List Str) (ts : List (Str × List Term)) : (zs.map V.str).filterMap (fun v => match v with | .str z => if ts.any (fun t => decide (Term.nm z ∈ t.2)) = true then none else some (V.str z) | _ => none) = (leftM zs ts).map V.str := by
  unfold leftM
  induction zs with
  | nil => rfl
  | cons z zs ih =>
    by_cases c : ts.any (fun t => decide (Term.nm z ∈ t.2)) = true
    · rw [List.filter_cons_of_neg (p := fun z => !ts.any fun t => decide (Term.nm z ∈ t.2)) (by rw [c]; exact Bool.false_ne_true), List.map_cons, List.filterMap_cons]
      simp only [c, if_true]
      exact ih
    · rw [List.filter_cons_of_pos (p := fun z => !ts.any fun t => decide (Term.nm z ∈ t.2)) (by rw [Bool.eq_false_iff.mpr c]; rfl), List.map_cons, List.map_cons, List.filterMap_cons]
      simp only [c, if_false]
      rw [ih]
      rfl
theorem left_sub {zs : List Str} {ts : List (Str × List Term)} {z : Str} (m : z ∈ leftM zs ts) : z ∈ zs := (List.mem_filter.mp m).1
theorem left_not {zs : List Str} {ts : List (Str × List Term)} {z : Str} (m : z ∈ zs) (n : z ∉ leftM zs ts) : ∃ t ∈ ts, Term.nm z ∈ t.2 := by
  by_cases c : ts.any (fun t => decide (Term.nm z ∈ t.2)) = true
  · obtain ⟨t, mt, e⟩ := List.any_eq_true.mp c
    exact ⟨t, mt, of_decide_eq_true e⟩
  · exact absurd (List.mem_filter.mpr ⟨m, by rw [Bool.eq_false_iff.mpr c]; rfl⟩) n
theorem nm_map (us : List Str) : us.map V.str = (us.map Term.nm).map termV := by
  rw [List.map_map]
  rfl
end VQ
namespace VQ
open PySem L2 LamX
abbrev sLawOwn : Stmt := top 81
abbrev nLawOwn : List Str := ["_law_question", "_law_tie", "_law_name"]
theorem scLawOwn : FnScope nLawOwn ["_law_question", "_law_tie"] (defScope sLawOwn) := ⟨rfl, rfl, rfl, by decide +kernel, rfl, by decide +kernel, by decide +kernel⟩
theorem own_V (zs : List Str) (ts : List Term) : (zs.map V.str).filterMap (fun v => match v with | .str z => if Term.nm z ∈ ts then some (V.str z) else none | _ => none) = (zs.filter fun z => decide (Term.nm z ∈ ts)).map V.str := by
  induction zs with
  | nil => rfl
  | cons z zs ih =>
    by_cases c : Term.nm z ∈ ts
    · rw [List.filter_cons_of_pos (p := fun z => decide (Term.nm z ∈ ts)) (decide_eq_true c), List.map_cons, List.map_cons, List.filterMap_cons]
      simp only [c, if_true]
      rw [ih]
    · rw [List.filter_cons_of_neg (p := fun z => decide (Term.nm z ∈ ts)) (by rw [decide_eq_false c]; exact Bool.false_ne_true), List.map_cons, List.filterMap_cons]
      simp only [c, if_false]
      exact ih
section
variable {P : Program} {w : World} {K : PySem.W.Frag} {mg : Str → Option Value} {base : Heap} {aB : Addr}
def spOwnL : Sp := fun vs H Q _ => ∃ (a : Addr) (q : Qn) (t : Nat), vs = [.ref a, .int (t : Nat)] ∧ QAt H a q ∧ QOk q ∧ t < q.ties.length ∧ ∀ (p : Addr) (H' : Hp), H p = none → Same H H' → NmN H' p (ownZ q t) → Q (.ref p) H'
theorem has_ownL (b : Blt mg) (a : AtE K mg "_law_own" sLawOwn ["_law_question", "_law_tie"]) : Has P w K mg base CX0 1 "_law_own" sLawOwn ["_law_question", "_law_tie"] spOwnL := by
  obtain ⟨f, fd, a⟩ := a
  refine ⟨f, fd, a, a.fn.ok scLawOwn (fun vs H Q E h => ?_) (fun cdv A outer s H vs Q E hr h => ?_)⟩
  · obtain ⟨a, q, t, rfl, _⟩ := h
    rfl
  · obtain ⟨a, q, t, rfl, ⟨n, t', l, ha, qp⟩, ok, lt, k⟩ := h
    have etie : q.ties[t]? = some q.ties[t] := List.getElem?_eq_getElem lt
    obtain ⟨hn, ⟨ts, ht, et⟩, _⟩ := qp
    obtain ⟨v, ev, c, d, rfl, hc, hd⟩ := et.at_ etie
    have n5 := ok.n5
    refine ⟨_,
    (pss_one (ps_ret (pe_callTy call_tuple_N (by rfl) b.tuple (by decide +kernel) (pa_cons (pe_lc (own := [("_law_name", 2)]) (g := (gName 2)) (tt := (tTest (tOp (rIn K false) (tVar 2) (tOp (rIxT K) (tOp (rIxT K) (tOp (rIxT K) (tVar 0) (tC (.int 2))) (tVar 1)) (tC (.int 1)))))) (te := (tVar 2)) rfl scLawOwn.nd (pi_tup (pe_ix ix_tup (pv 0) pe_int fun _ _ => rfl)) (blkOk_by (N := nLawOwn) (sc := defScope sLawOwn) (by decide +kernel)) (fun _ _ _ _ _ => (pg_name (i := 2) scLawOwn.nd rfl (.inl rfl))) (fun _ _ _ _ _ => pts_one (pt_cmpR op_in_seq (pv 2) (pe_ix ix_tup (pe_ix ix_tup (pe_ix ix_tup (pv 0) pe_int fun _ _ => rfl) (pv 1) fun _ _ => rfl) pe_int fun _ _ => rfl) rfl)) (fun _ _ _ _ _ => (pv 2))) pa_nil)))), ?_⟩
    refine ⟨_, rfl, a, _, _, _, rfl, rfl, SqT.of ha, atI_nat (j := 0) rfl, n, rfl, ⟨_, hn.sq⟩, fun D hD => ?_⟩
    refine lc_tupF (xs := q.names.map V.str) (fun v => match v with | .str z => if Term.nm z ∈ q.ties[t].2 then some (.str z) else none | _ => none) hD hn.sq (by rw [List.length_map]; omega) ?_ ?_
    · rintro i x H2 hx s2 k1 k2 y1 y2
      obtain ⟨z, ez, rfl⟩ := map_get hx
      refine ⟨rfl, _, rfl, _, rfl, a, _, _, _, rfl, rfl, SqT.of (s2 _ _ ha), atI_nat (j := 2) rfl, ?_⟩
      refine ⟨_, rfl, t', _, _, _, rfl, rfl, SqT.of (s2 _ _ ht), atI_nat ev, c, _, _, _, rfl, rfl, SqT.of (s2 _ _ hc), atI_nat (j := 1) rfl, d, _, rfl, .inr ((hd.same s2).sq), rfl, terms_flat _, _, rfl, ?_⟩
      rw [inV_term]
      by_cases m : Term.nm z ∈ q.ties[t].2
      · rw [decide_eq_true m]
        exact iteT ⟨_, rfl, y1 _ _ (if_pos m) (Same.refl _)⟩
      · rw [decide_eq_false m]
        exact iteF (y2 _ (if_neg m) (Same.refl _))
    · intro H2 s2 h2
      rw [own_V] at h2
      refine ⟨D, _, rfl, SqL.of h2, fun r ob nr hd => ?_⟩
      refine k r _ (s2.free nr) (s2.trans (same_new nr)) ?_
      have e : ((q.names.filter fun z => decide (Term.nm z ∈ q.ties[t].2)).map V.str) = (ownZ q t).map V.str := by
        unfold ownZ
        rw [List.getD_eq_getElem?_getD, etie]
        rfl
      rw [e]
      exact TupN.upd hd
def spOwnT : Sp := fun vs H Q _ => ∃ (a : Addr) (q : Qn) (t : Nat), vs = [.ref a, .int (t : Nat)] ∧ QAt H a q ∧ QOk q ∧ t < q.ties.length ∧ ∀ (p : Addr) (H' : Hp), H p = none → Same H H' → H' p = some (.tup ((ownZ q t).map V.str)) → Q (.ref p) H'
theorem has_ownT (b : Blt mg) (a : AtE K mg "_law_own" sLawOwn ["_law_question", "_law_tie"]) : Has P w K mg base CX0 1 "_law_own" sLawOwn ["_law_question", "_law_tie"] spOwnT := by
  obtain ⟨f, fd, a⟩ := a
  refine ⟨f, fd, a, a.fn.ok scLawOwn (fun vs H Q E h => ?_) (fun cdv A outer s H vs Q E hr h => ?_)⟩
  · obtain ⟨a, q, t, rfl, _⟩ := h
    rfl
  · obtain ⟨a, q, t, rfl, ⟨n, t', l, ha, qp⟩, ok, lt, k⟩ := h
    have etie : q.ties[t]? = some q.ties[t] := List.getElem?_eq_getElem lt
    obtain ⟨hn, ⟨ts, ht, et⟩, _⟩ := qp
    obtain ⟨v, ev, c, d, rfl, hc, hd⟩ := et.at_ etie
    have n5 := ok.n5
    refine ⟨_,
    (pss_one (ps_ret (pe_callTy call_tuple_of (by rfl) b.tuple (by decide +kernel) (pa_cons (pe_lc (own := [("_law_name", 2)]) (g := (gName 2)) (tt := (tTest (tOp (rIn K false) (tVar 2) (tOp (rIxT K) (tOp (rIxT K) (tOp (rIxT K) (tVar 0) (tC (.int 2))) (tVar 1)) (tC (.int 1)))))) (te := (tVar 2)) rfl scLawOwn.nd (pi_tup (pe_ix ix_tup (pv 0) pe_int fun _ _ => rfl)) (blkOk_by (N := nLawOwn) (sc := defScope sLawOwn) (by decide +kernel)) (fun _ _ _ _ _ => (pg_name (i := 2) scLawOwn.nd rfl (.inl rfl))) (fun _ _ _ _ _ => pts_one (pt_cmpR op_in_seq (pv 2) (pe_ix ix_tup (pe_ix ix_tup (pe_ix ix_tup (pv 0) pe_int fun _ _ => rfl) (pv 1) fun _ _ => rfl) pe_int fun _ _ => rfl) rfl)) (fun _ _ _ _ _ => (pv 2))) pa_nil)))), ?_⟩
    refine ⟨_, rfl, a, _, _, _, rfl, rfl, SqT.of ha, atI_nat (j := 0) rfl, n, rfl, ⟨_, hn.sq⟩, fun D hD => ?_⟩
    refine lc_tupF (xs := q.names.map V.str) (fun v => match v with | .str z => if Term.nm z ∈ q.ties[t].2 then some (.str z) else none | _ => none) hD hn.sq (by rw [List.length_map]; omega) ?_ ?_
    · rintro i x H2 hx s2 k1 k2 y1 y2
      obtain ⟨z, ez, rfl⟩ := map_get hx
      refine ⟨rfl, _, rfl, _, rfl, a, _, _, _, rfl, rfl, SqT.of (s2 _ _ ha), atI_nat (j := 2) rfl, ?_⟩
      refine ⟨_, rfl, t', _, _, _, rfl, rfl, SqT.of (s2 _ _ ht), atI_nat ev, c, _, _, _, rfl, rfl, SqT.of (s2 _ _ hc), atI_nat (j := 1) rfl, d, _, rfl, .inr ((hd.same s2).sq), rfl, terms_flat _, _, rfl, ?_⟩
      rw [inV_term]
      by_cases m : Term.nm z ∈ q.ties[t].2
      · rw [decide_eq_true m]
        exact iteT ⟨_, rfl, y1 _ _ (if_pos m) (Same.refl _)⟩
      · rw [decide_eq_false m]
        exact iteF (y2 _ (if_neg m) (Same.refl _))
    · intro H2 s2 h2
      rw [own_V] at h2
      refine ⟨D, _, rfl, .inl ⟨SqL.of h2, fun r nr => ?_⟩⟩
      refine k r _ (s2.free nr) (s2.trans (same_new nr)) ?_
      rw [upd_same]
      unfold ownZ
      rw [List.getD_eq_getElem?_getD, etie]
      rfl
end
end VQ
namespace VQ
open PySem L2 LamX
/-! ### tables of a book, what is handed in being good -/
abbrev sIsRow : Stmt := top 28
abbrev nIsRow : List Str := ["thing", "width", "part"]
theorem scIsRow : FnScope nIsRow ["thing", "width"] (defScope sIsRow) := ⟨rfl, rfl, rfl, by decide +kernel, rfl, by decide +kernel, by decide +kernel⟩
abbrev sAreRows : Stmt := top 29
abbrev nAreRows : List Str := ["thing", "width", "part"]
theorem scAreRows : FnScope nAreRows ["thing", "width"] (defScope sAreRows) := ⟨rfl, rfl, rfl, by decide +kernel, rfl, by decide +kernel, by decide +kernel⟩
abbrev sTableOf : Stmt := top 31
abbrev nTableOf : List Str := ["tables", "name"]
theorem scTableOf : FnScope nTableOf ["tables", "name"] (defScope sTableOf) := ⟨rfl, rfl, rfl, by decide +kernel, rfl, by decide +kernel, by decide +kernel⟩
abbrev sWithRows : Stmt := top 32
abbrev nWithRows : List Str := ["tables", "name", "rows", "width"]
theorem scWithRows : FnScope nWithRows ["tables", "name", "rows"] (defScope sWithRows) := ⟨rfl, rfl, rfl, by decide +kernel, rfl, by decide +kernel, by decide +kernel⟩
abbrev sMakeTable : Stmt := top 33
abbrev nMakeTable : List Str := ["tables", "name", "width"]
theorem scMakeTable : FnScope nMakeTable ["tables", "name", "width"] (defScope sMakeTable) := ⟨rfl, rfl, rfl, by decide +kernel, rfl, by decide +kernel, by decide +kernel⟩
abbrev sFillTable : Stmt := top 37
abbrev nFillTable : List Str := ["tables", "name", "rows", "width"]
theorem scFillTable : FnScope nFillTable ["tables", "name", "rows"] (defScope sFillTable) := ⟨rfl, rfl, rfl, by decide +kernel, rfl, by decide +kernel, by decide +kernel⟩
/-- a table: its width, its rows -/
def TabAt (H : Hp) (v : V) (wd : Nat) (rs : List (List Nat)) : Prop := ∃ t r us, v = .ref t ∧ H t = some (.tup [.int (wd : Int), .ref r]) ∧ H r = some (.tup us) ∧ Rows H us rs
theorem TabAt.same {H H' : Hp} (s : Same H H') {v : V} {wd : Nat} {rs : List (List Nat)} (h : TabAt H v wd rs) : TabAt H' v wd rs := by
  obtain ⟨t, r, us, e, h1, h2, h3⟩ := h
  exact ⟨t, r, us, e, s _ _ h1, s _ _ h2, h3.same s⟩
abbrev Tbs := Str → Option (Nat × List (List Nat))
def TabO (H : Hp) : Option V → Option (Nat × List (List Nat)) → Prop
  | some v, some t => TabAt H v t.1 t.2
  | none, none => True
  | _, _ => False
/-- n tables by their names -/
def TsAt (H : Hp) (a : Addr) (n : Nat) (f : Tbs) : Prop := ∃ kvs : List (L2.Key × V), H a = some (.dK kvs) ∧ kvs.length = n ∧ ∀ nm : Str, TabO H (valV kvs (Sum.inr nm)) (f nm)
theorem TabO.same {H H' : Hp} (s : Same H H') {o : Option V} {t : Option (Nat × List (List Nat))} (h : TabO H o t) : TabO H' o t := by
  cases o <;> cases t
  · trivial
  · exact h
  · exact h
  · exact TabAt.same s h
theorem TsAt.same {H H' : Hp} (s : Same H H') {a : Addr} {n : Nat} {f : Tbs} (h : TsAt H a n f) : TsAt H' a n f := by
  obtain ⟨kvs, h1, h2, h3⟩ := h
  exact ⟨kvs, s _ _ h1, h2, fun nm => (h3 nm).same s⟩
def fset (f : Tbs) (nm : Str) (t : Nat × List (List Nat)) : Tbs := fun z => if z = nm then some t else f z
theorem putK_old {kvs : List (L2.Key × V)} {k : L2.Key} {v x : V} (h : valV kvs k = some x) : (putK kvs k v).length = kvs.length := by
  have e : (kvs.any fun kv => decide (kv.1 = k)) = true := by rw [valV_any, h]; rfl
  unfold putK
  rw [if_pos e, List.length_map]
theorem putK_fresh {kvs : List (L2.Key × V)} {k : L2.Key} {v : V} (h : valV kvs k = none) : (putK kvs k v).length = kvs.length + 1 := by
  rw [putK_new v h, List.length_append]
  rfl
theorem ts_put {H : Hp} {a : Addr} {kvs : List (L2.Key × V)} {f : Tbs} {nm : Str} {v : V} {t : Nat × List (List Nat)} (ha : H a = some (.dK (putK kvs (Sum.inr nm) v))) (old : ∀ z : Str, TabO H (valV kvs (Sum.inr z)) (f z)) (hv : TabAt H v t.1 t.2) : TsAt H a (putK kvs (Sum.inr nm) v).length (fset f nm t) := by
  refine ⟨_, ha, rfl, fun z => ?_⟩
  rw [valV_put]
  unfold fset
  by_cases c : z = nm
  · rw [if_pos (by rw [c]), if_pos c]
    exact hv
  · rw [if_neg (fun e => c (by injection e)), if_neg c]
    exact old z
theorem rows_ks {K : PySem.W.Frag} {H : Hp} : ∀ {us : List V} {rs : List (List Nat)}, Rows H us rs → ∃ ks : List (Addr × List Int), us = ks.map (fun p => V.ref p.1) ∧ ks.map (·.2) = rs.map (fun r => r.map fun n => ((n : Nat) : Int)) ∧ ∀ p ∈ ks, SqT K H p.1 (p.2.map V.int)
  | _, _, .nil => ⟨[], rfl, rfl, fun p m => by cases m⟩
  | _, _, .cons (a := a) (r := r) h t => by
    obtain ⟨ks, e1, e2, e3⟩ := rows_ks (K := K) t
    refine ⟨(a, r.map fun n => ((n : Nat) : Int)) :: ks, by rw [e1]; rfl, by rw [List.map_cons, e2]; rfl, fun p m => ?_⟩
    rcases List.mem_cons.mp m with rfl | m
    · refine SqT.of ?_
      rw [h, List.map_map]
      rfl
    · exact e3 p m
theorem cast_inj : ∀ {r q : List Nat}, (r.map fun n => ((n : Nat) : Int)) = (q.map fun n => ((n : Nat) : Int)) → r = q
  | [], [], _ => rfl
  | [], _ :: _, h => by cases h
  | _ :: _, [], h => by cases h
  | x :: r, y :: q, h => by
    rw [List.map_cons, List.map_cons] at h
    injection h with h1 h2
    rw [cast_inj h2, show x = y by omega]
theorem nodup_casts {rs : List (List Nat)} (h : rs.Nodup) : (rs.map (fun r => r.map fun n => ((n : Nat) : Int))).Nodup := by
  induction rs with
  | nil => exact List.nodup_nil
  | cons r rs ih =>
    rw [List.nodup_cons] at h
    rw [List.map_cons, List.nodup_cons]
    refine ⟨fun m => ?_, ih h.2⟩
    obtain ⟨q, mq, e⟩ := List.mem_map.mp m
    rw [cast_inj e] at mq
    exact h.1 mq
def rSortW (K : PySem.W.Frag) : List V → Hp → VK → Prop := fun vs H Q => ∃ d : Nat, 1 ≤ d ∧ rSortM K d 32 vs H Q
theorem cr_sortW {X : Cx} : CallR X (.builtin "sorted") (rSortW X.K) := by
  intro pins s σ H vs us Q inv r ⟨d, hd, h⟩
  exact cr_sortM hd pins s σ H vs us Q inv r h
/-- isinstance(y, (list, tuple)) -/
theorem pe_isiLT {X : Cx} {p p0 p1 p2 p3 pos : Pos} {i k : Nat} {y : Str} (he : PE X (.Name y p0) (tVar i)) (g : Gl X "isinstance") (hm : X.mg "isinstance" = none) (gi : Gl X "list") (hi : X.mg "list" = none) (gs : Gl X "tuple") (hs : X.mg "tuple" = none) :
    PE X (.Call (.Name "isinstance" p) [.Name y p0, .Tuple [.Name "list" p1, .Name "tuple" p2] k p3] [] pos) (tCB (rIsiT X.K) (tCons (tVar i) (tCons (tTup (tCons (tC (.ty "list")) (tCons (tC (.ty "tuple")) tNil))) tNil))) :=
  pe_callB call_isiT g hm (by decide +kernel) (pa_cons he (pa_cons (pe_tup (pa_cons (pe_bltn (v := .ty "list") gi hi (by decide +kernel) rfl) (pa_cons (pe_bltn (v := .ty "tuple") gs hs (by decide +kernel) rfl) pa_nil))) pa_nil))
section
variable {P : Program} {w : World} {K : PySem.W.Frag} {mg : Str → Option Value} {base : Heap} {aB : Addr}
def RowOk (wd : Nat) (r : List Nat) : Prop := r.length = wd ∧ ∀ n ∈ r, n < 32
def spIsRow : Sp := fun vs H Q _ => ∃ (a : Addr) (r : List Nat) (wd : Nat), vs = [.ref a, .int (wd : Int)] ∧ H a = some (.tup (r.map numV)) ∧ RowOk wd r ∧ wd ≤ 4 ∧ ∀ H', Same H H' → Q (.bl true) H'
theorem has_isrow (b : Blt mg) (hWo : Has P w K mg base CX0 2 "is_worth" sIsWorth ["thing"] (spIsWorth K)) (a : AtE K mg "is_row" sIsRow ["thing", "width"]) : Has P w K mg base CX0 3 "is_row" sIsRow ["thing", "width"] spIsRow := by
  obtain ⟨f, fd, a⟩ := a
  obtain ⟨fWo, fdWo, aWo, GWo⟩ := hWo
  refine ⟨f, fd, a, a.fn.ok scIsRow (fun vs H Q E h => ?_) (fun cdv A outer s H vs Q E hr2 h => ?_)⟩
  · obtain ⟨ad, r, wd, rfl, _⟩ := h
    rfl
  · obtain ⟨ad, r, wd, rfl, ha, ok, w4, k⟩ := h
    refine ⟨_,
    (pss_one (ps_ret (pe_and (pe_isi (pv 0) rfl b.isi rfl b.tuple (c := "tuple") (by decide +kernel)) (pe_and (pe_cmpR op_eq (pe_callB call_len_seq (by rfl) b.len PySem.boot_len (pa_cons (pv 0) pa_nil)) (pv 1) (nomark _)) (pe_one (pe_callB (cr_all rfl) (by rfl) b.all (by decide +kernel) (pa_cons (pe_lc (own := [("part", 2)]) (g := (gName 2)) (tt := tYes) (te := (tCall (spIsWorth K) [] E0 (tCons (tVar 2) tNil))) rfl scIsRow.nd (pi_tup (pv 0)) (blkOk_by (N := nIsRow) (sc := defScope sIsRow) (by decide +kernel)) (fun _ _ _ _ _ => (pg_name (i := 2) scIsRow.nd rfl (.inl rfl))) (fun _ _ _ _ _ => pts_nil) (fun _ _ _ _ _ => (pe_call GWo hr2 rfl aWo.gl aWo.fn.kp aWo.bd .nil pass0 (pa_cons (pv 2) pa_nil)))) pa_nil))))))), ?_⟩
    refine rd_isi rfl (.base (.tup ha)) (b := true) (by decide +kernel) ⟨_, rfl, iteT ?_⟩
    refine ⟨_, rfl, ad, _, rfl, .inr (SqT.of ha), _, rfl, rfl, _, rfl, ?_⟩
    rw [List.length_map, ok.1, decide_eq_true rfl]
    refine iteT ⟨_, rfl, ad, rfl, ⟨_, SqT.of ha⟩, fun D hD => ?_⟩
    refine lc_tupV (xs := r.map numV) (fun _ => .bl true) hD (SqT.of ha) (by rw [List.length_map, ok.1]; omega) ?_ ?_
    · intro i x H2 hx s2 c1 c2 kk
      obtain ⟨n, hn, rfl⟩ := getF hx
      have ln := ok.2 n (List.mem_of_getElem? hn)
      have e : worthB (numV n) = true := by
        show (decide (0 ≤ (n : Int)) && decide ((n : Int) < 32)) = true
        rw [decide_eq_true (show 0 ≤ (n : Int) by omega), decide_eq_true (show (n : Int) < 32 by omega)]
        rfl
      refine ⟨rfl, yes_turn ⟨_, rfl, numV n, "int", rfl, .base (.int _), by decide, ?_⟩⟩
      rw [e]
      exact kk _ (Same.refl _)
    · intro H2 s2 hd
      refine ⟨D, (r.map numV).map (fun _ => true), rfl, SqL.of (by rw [hd, List.map_map, List.map_map, List.map_map]; rfl), ?_⟩
      have e : ((r.map numV).map (fun _ => true)).all id = true := by
        rw [List.all_map]
        exact List.all_eq_true.mpr fun _ _ => rfl
      rw [e]
      exact k H2 s2
def spAreRows (K : PySem.W.Frag) : Sp := fun vs H Q _ => ∃ (l : Addr) (us : List V) (rs : List (List Nat)) (wd : Nat), vs = [.ref l, .int (wd : Int)] ∧ H l = some (.lst us) ∧ Rows H us rs ∧ (∀ r ∈ rs, RowOk wd r) ∧ wd ≤ 4 ∧ rs.Nodup ∧ rs.length < 60 ∧ ∀ H', Same H H' → Q (.bl true) H'
theorem has_arerows (b : Blt mg) (st : mg "set" = none) (hIr : Has P w K mg base CX0 3 "is_row" sIsRow ["thing", "width"] spIsRow) (a : AtE K mg "are_rows" sAreRows ["thing", "width"]) : Has P w K mg base CX0 4 "are_rows" sAreRows ["thing", "width"] (spAreRows K) := by
  obtain ⟨f, fd, a⟩ := a
  obtain ⟨fIr, fdIr, aIr, GIr⟩ := hIr
  refine ⟨f, fd, a, a.fn.ok scAreRows (fun vs H Q E h => ?_) (fun cdv A outer s H vs Q E hr3 h => ?_)⟩
  · obtain ⟨l, us, rs, wd, rfl, _⟩ := h
    rfl
  · obtain ⟨l, us, rs, wd, rfl, hl, ro, ok, w4, nd, few, k⟩ := h
    have hu : (A.deeper (PyProof.Rows.envOfC "are_rows" (defScope sAreRows) s.heap.objs.size f cdv)).units + 64 < cLine := hr3.units
    refine ⟨_,
    (pss_cons (ps_if (PW.pt (pw_or (pt_not (pt_val (pe_isiLT (pv 0) rfl b.isi rfl b.list rfl b.tuple))) (pw_or1 (pt_not (pt_val (pe_callB (cr_all rfl) (by rfl) b.all (by decide +kernel) (pa_cons (pe_lc (own := [("part", 2)]) (g := (gName 2)) (tt := tYes) (te := (tCall spIsRow [] E0 (tCons (tVar 2) (tCons (tVar 1) tNil)))) rfl scAreRows.nd (pi_list (pv 0)) (blkOk_by (N := nAreRows) (sc := defScope sAreRows) (by decide +kernel)) (fun _ _ _ _ _ => (pg_name (i := 2) scAreRows.nd rfl (.inl rfl))) (fun _ _ _ _ _ => pts_nil) (fun _ _ _ _ _ => (pe_call GIr hr3 rfl aIr.gl aIr.fn.kp aIr.bd .nil pass0 (pa_cons (pv 2) (pa_cons (pv 1) pa_nil))))) pa_nil)))))))
      (pss_one (ps_ret pe_bl))
      pss_nil)
    (pss_one (ps_ret (pe_cmpR op_eq (pe_lenSetT rfl hu (pv 0) (by rfl) b.len (by rfl) st) (pe_callB call_len_seq (by rfl) b.len PySem.boot_len (pa_cons (pv 0) pa_nil)) (nomark _))))), ?_⟩
    have len := ro.len
    refine ⟨_, rfl, by show 2 ≤ sizeLine; decide, fun T nT => ?_⟩
    have sT := same_new (o := HO.tup [.ty "list", .ty "tuple"]) nT
    refine ⟨.ref l, T, _, .type "list", _, true, rfl, upd_same, .cons (.ty "list") (.cons (.ty "tuple") .nil), .base (.lst (sT _ _ hl)), by rfl, _, rfl, iteF ?_⟩
    have ro1 := ro.same sT
    refine ⟨_, rfl, l, rfl, ⟨_, SqL.of (sT _ _ hl)⟩, fun D hD => ?_⟩
    refine lc_listV (xs := us) (fun _ => .bl true) hD (SqL.of (sT _ _ hl)) (by rw [len]; omega) ?_ ?_
    · intro i x H2 hx s2 c1 c2 kk
      obtain ⟨ad, r, rfl, hr, ha⟩ := ro1.get hx
      exact ⟨rfl, yes_turn ⟨_, rfl, _, rfl, ad, r, wd, rfl, s2 _ _ ha, ok r (List.mem_of_getElem? hr), w4, fun H3 s3 => kk _ s3⟩⟩
    · intro H2 s2 hd
      refine ⟨D, us.map (fun _ => true), rfl, SqL.of (by rw [hd, List.map_map]; rfl), ?_⟩
      have e : (us.map (fun _ => true)).all id = true := by
        rw [List.all_map]
        exact List.all_eq_true.mpr fun _ _ => rfl
      rw [e]
      refine ⟨true, rfl, iteF ?_⟩
      have s3 := sT.trans s2
      obtain ⟨ks, e1, e2, e3⟩ := rows_ks (K := K) (ro.same s3)
      have el : ks.length = rs.length := by rw [← len, e1, List.length_map]
      refine ⟨_, rfl, l, ks, rfl, SqL.of (by rw [← e1]; exact s3 _ _ hl), e3, by omega, fun n n1 n2 => ?_⟩
      have en := n1 (by rw [e2]; exact nodup_casts nd)
      refine ⟨_, rfl, l, us, rfl, .inl (SqL.of (s3 _ _ hl)), ?_⟩
      refine ⟨rfl, ?_⟩
      rw [show (V.int (n : Int)) = V.int (us.length : Int) by rw [en, el, len], decide_eq_true rfl]
      exact k _ s3
def spTableOf : Sp := fun vs H Q _ => ∃ (a : Addr) (nm : Str) (n : Nat) (f : Tbs) (t : Nat × List (List Nat)), vs = [.ref a, .str nm] ∧ TsAt H a n f ∧ f nm = some t ∧ n < 100 ∧ ∀ v, TabAt H v t.1 t.2 → Q v H
theorem has_tableof (b : Blt mg) (a : AtE K mg "table_of" sTableOf ["tables", "name"]) : Has P w K mg base CX0 1 "table_of" sTableOf ["tables", "name"] spTableOf := by
  obtain ⟨f, fd, a⟩ := a
  refine ⟨f, fd, a, a.fn.ok scTableOf (fun vs H Q E h => ?_) (fun cdv A outer s H vs Q E hr0 h => ?_)⟩
  · obtain ⟨ad, nm, n, tb, t, rfl, _⟩ := h
    rfl
  · obtain ⟨ad, nm, n, tb, t, rfl, ⟨kvs, hk, lk, all⟩, ht, few, k⟩ := h
    have hu1 : (A.deeper (PyProof.Rows.envOfC "table_of" (defScope sTableOf) s.heap.objs.size f cdv)).units + 1 < cLine := by
      have := hr0.units
      omega
    refine ⟨_,
    (pss_cons (ps_if (PW.pt (pw_or (pt_not (pt_val (pe_isi (pv 1) rfl b.isi rfl b.str (c := "str") (by decide +kernel)))) (pw_or1 (pt_cmp (pc_dnotin hu1 (pv 1) (pv 0))))))
      (pss_one ps_never)
      pss_nil)
    (pss_one (ps_ret (pe_dget hu1 (pv 0) (pv 1) fun _ _ => rfl)))), ?_⟩
    have h1 := all nm
    rw [ht] at h1
    cases ev : valV kvs (Sum.inr nm) with
    | none =>
      rw [ev] at h1
      exact h1.elim
    | some v =>
      rw [ev] at h1
      have dg : DGet H ad (.str nm) (some v) := .inl ⟨kvs, Sum.inr nm, .inl hk, rfl, ev.symm⟩
      refine rd_isi rfl (.base (.str nm)) (b := true) (by decide +kernel) ⟨_, rfl, iteF ?_⟩
      exact ⟨_, rfl, _, rfl, ad, _, rfl, dg, _, rfl, iteF ⟨_, rfl, _, rfl, ad, v, rfl, dg, k v h1⟩⟩
def Sorted (rs : List (List Nat)) : Prop := rs.Pairwise fun x y => TS.code 32 (x.map fun n => ((n : Nat) : Int)) ≤ TS.code 32 (y.map fun n => ((n : Nat) : Int))
/-- what sorted(rows) hands out -/
theorem sort_rowsW {K : PySem.W.Frag} {H : Hp} {l : Addr} {us : List V} {rs : List (List Nat)} {wd : Nat} {Q : VK} (hl : H l = some (.lst us)) (ro : Rows H us rs) (w1 : 1 ≤ wd) (hrs : ∀ r ∈ rs, RowOk wd r)
    (k : ∀ (p : Addr) (ys : List V) (ss : List (List Nat)), H p = none → Rows H ys ss → ss.Perm rs → Sorted ss → Q (.ref p) (upd H p (.lst ys))) : rSortW K [.ref l] H Q := by
  have tup : ∀ {a : Addr} {r : List Nat}, H a = some (.tup (r.map numV)) → TupI K H (.ref a) (r.map fun n => ((n : Nat) : Int)) := fun {a r} h => ⟨a, rfl, SqT.of (by rw [h, List.map_map]; rfl)⟩
  refine ⟨wd, w1, l, us, rfl, SqL.of hl, fun x mx => ?_, fun ys p pm pw np => ?_⟩
  · obtain ⟨a, r, rfl, mr, ha⟩ := ro.mem mx
    obtain ⟨e1, e2⟩ := hrs r mr
    refine ⟨_, tup ha, by rw [List.length_map, e1], fun m mm => ?_⟩
    obtain ⟨n, mn, rfl⟩ := List.mem_map.mp mm
    have := e2 n mn
    exact ⟨by omega, by omega⟩
  obtain ⟨ss, ps, rss⟩ := Rows.perm pm.symm ro
  refine k p ys ss np rss ps.symm ?_
  refine List.pairwise_iff_getElem.mpr fun i j li lj lt => ?_
  have li' : i < ys.length := by rw [rss.len]; exact li
  have lj' : j < ys.length := by rw [rss.len]; exact lj
  obtain ⟨a, q', e1, e2, e3⟩ := rss.get (List.getElem?_eq_getElem li')
  obtain ⟨c, r', f1, f2, f3⟩ := rss.get (List.getElem?_eq_getElem lj')
  rw [List.getElem?_eq_getElem li] at e2
  rw [List.getElem?_eq_getElem lj] at f2
  cases e2
  cases f2
  exact List.pairwise_iff_getElem.mp pw i j li' lj' lt _ _ (by rw [e1]; exact tup e3) (by rw [f1]; exact tup f3)
def spWithRows (K : PySem.W.Frag) : Sp := fun vs H Q _ => ∃ (a l : Addr) (us : List V) (nm : Str) (n : Nat) (f : Tbs) (t : Nat × List (List Nat)) (rs : List (List Nat)), vs = [.ref a, .str nm, .ref l] ∧ TsAt H a n f ∧ f nm = some t ∧ n < 100 ∧ 1 ≤ t.1 ∧ t.1 ≤ 4 ∧ H l = some (.lst us) ∧ Rows H us rs ∧ (∀ r ∈ rs, RowOk t.1 r) ∧ rs.length < 100 ∧
  ∀ (p d : Addr) (ss : List (List Nat)) (H' : Hp), Same H H' → H' p = some (.tup [.ref d, .int (rs.length : Int)]) → TsAt H' d n (fset f nm (t.1, ss)) → ss.Perm rs → Sorted ss → Q (.ref p) H'
theorem has_withrows (b : Blt mg) (so : mg "sorted" = none) (a : AtE K mg "with_rows" sWithRows ["tables", "name", "rows"]) : Has P w K mg base CX0 1 "with_rows" sWithRows ["tables", "name", "rows"] (spWithRows K) := by
  obtain ⟨f, fd, a⟩ := a
  refine ⟨f, fd, a, a.fn.ok scWithRows (fun vs H Q E h => ?_) (fun cdv A outer s H vs Q E hr0 h => ?_)⟩
  · obtain ⟨ad, l, us, nm, n, tb, t, rs, rfl, _⟩ := h
    rfl
  · obtain ⟨ad, l, us, nm, n, tb, t, rs, rfl, ⟨kvs, hk, lk, all⟩, ht, few, t1, t4, hl, ro, ok, fr, k⟩ := h
    have hu1 : (A.deeper (PyProof.Rows.envOfC "with_rows" (defScope sWithRows) s.heap.objs.size f cdv)).units + 1 < cLine := by
      have := hr0.units
      omega
    refine ⟨_,
    (pss_cons (ps_set (i := 3) scWithRows.nd rfl (.inl rfl) (pe_ix ix_tup (pe_dget hu1 (pv 0) (pv 1) fun _ _ => rfl) pe_int fun _ _ => rfl))
    (pss_one (ps_ret (pe_tup (pa_cons (pe_spread (pv 0) (pv 1) (pe_tup (pa_cons (pv 3) (pa_cons (pe_callTy call_tuple_of (by rfl) b.tuple (by decide +kernel) (pa_cons (pe_callB cr_sortW (by rfl) so (by decide +kernel) (pa_cons (pv 2) pa_nil)) pa_nil)) pa_nil)))) (pa_cons (pe_callB call_len_seq (by rfl) b.len PySem.boot_len (pa_cons (pv 2) pa_nil)) pa_nil)))))), ?_⟩
    have h1 := all nm
    rw [ht] at h1
    cases ev : valV kvs (Sum.inr nm) with
    | none =>
      rw [ev] at h1
      exact h1.elim
    | some v =>
      rw [ev] at h1
      have dg : DGet H ad (.str nm) (some v) := .inl ⟨kvs, Sum.inr nm, .inl hk, rfl, ev.symm⟩
      obtain ⟨ta, ra, vs0, rfl, htb, hr, old⟩ := h1
      refine ⟨_, rfl, _, rfl, ad, _, rfl, dg, ?_⟩
      refine ⟨ta, _, 0, _, rfl, rfl, SqT.of htb, rfl, ?_⟩
      intro pd npd
      have nad : ad ≠ pd := ne_of_none hk npd
      refine ⟨_, rfl, ad, kvs, rfl, (upd_ne nad).trans hk, nad, upd_same, by rw [lk]; exact Nat.lt_trans few (by decide), fun q nq => ?_⟩
      have nqp : q ≠ pd := fun e => by rw [e, upd_same] at nq; cases nq
      have nqH : H q = none := by
        rw [upd_ne nqp, upd_ne nqp] at nq
        exact nq
      have s2 : Same H (upd (upd (upd H pd (.dK [])) pd (.dK kvs)) q (.dK [])) := fun x o h => by
        rw [upd_ne (ne_of_none h nqH), upd_ne (ne_of_none h npd), upd_ne (ne_of_none h npd)]
        exact h
      have p2 : (upd (upd (upd H pd (.dK [])) pd (.dK kvs)) q (.dK [])) pd = some (.dK kvs) := (upd_ne nqp.symm).trans upd_same
      have q2 : (upd (upd (upd H pd (.dK [])) pd (.dK kvs)) q (.dK [])) q = some (.dK []) := upd_same
      generalize (upd (upd (upd H pd (.dK [])) pd (.dK kvs)) q (.dK [])) = H2 at s2 p2 q2
      refine ⟨_, rfl, _, rfl, _, rfl, sort_rowsW (s2 _ _ hl) (ro.same s2) t1 ok fun ps ys ss nps ros pm sr => ?_⟩
      refine ⟨ps, ys, rfl, .inl ⟨SqL.of upd_same, fun tl ntl => ?_⟩⟩
      have s3 : Same H2 (upd (upd H2 ps (.lst ys)) tl (.tup ys)) := (same_new nps).trans (same_new ntl)
      have tl3 : (upd (upd H2 ps (.lst ys)) tl (.tup ys)) tl = some (.tup ys) := upd_same
      generalize (upd (upd H2 ps (.lst ys)) tl (.tup ys)) = H3 at s3 tl3
      refine ⟨by show 2 ≤ sizeLine; decide, fun T nT => ?_⟩
      have s4 : Same H3 (upd H3 T (.tup [.int (t.1 : Int), .ref tl])) := same_new nT
      have T4 : (upd H3 T (.tup [.int (t.1 : Int), .ref tl])) T = some (.tup [.int (t.1 : Int), .ref tl]) := upd_same
      have nTp : T ≠ pd := (ne_of_none (s3 _ _ p2) nT).symm
      have nTq : T ≠ q := (ne_of_none (s3 _ _ q2) nT).symm
      have ntp : tl ≠ pd := fun e => by rw [e] at ntl; rw [upd_ne (ne_of_none p2 nps), p2] at ntl; cases ntl
      have ntq : tl ≠ q := fun e => by rw [e] at ntl; rw [upd_ne (ne_of_none q2 nps), q2] at ntl; cases ntl
      refine ⟨.ref T, Sum.inr nm, rfl, s4 _ _ (s3 _ _ q2), s4 _ _ (s3 _ _ p2), ?_⟩
      have sH := s2.trans (s3.trans s4)
      have p4 := s4 _ _ (s3 _ _ p2)
      have tl4 := s4 _ _ tl3
      have q4 := s4 _ _ (s3 _ _ q2)
      have ro4 := ros.same (s3.trans s4)
      generalize (upd H3 T (.tup [.int (t.1 : Int), .ref tl])) = H4 at sH T4 p4 tl4 ro4 q4
      have s5 : Same H (upd (upd H4 q (.dK [(Sum.inr nm, .ref T)])) pd (.dK (putK kvs (Sum.inr nm) (.ref T)))) := fun x o h => by
        rw [upd_ne (ne_of_none h npd), upd_ne (ne_of_none h nqH)]
        exact sH _ _ h
      have p5 : (upd (upd H4 q (.dK [(Sum.inr nm, .ref T)])) pd (.dK (putK kvs (Sum.inr nm) (.ref T)))) pd = some (.dK (putK kvs (Sum.inr nm) (.ref T))) := upd_same
      have mv : ∀ (x : Addr) (xs : List V), H4 x = some (.tup xs) → (upd (upd H4 q (.dK [(Sum.inr nm, .ref T)])) pd (.dK (putK kvs (Sum.inr nm) (.ref T)))) x = some (.tup xs) := fun x xs h => by
        rw [upd_ne (fun e => by rw [e, p4] at h; cases h), upd_ne (fun e => by rw [e, q4] at h; cases h)]
        exact h
      have T5 := mv _ _ T4
      have tl5 := mv _ _ tl4
      have ro5 := ro4.moved mv
      generalize (upd (upd H4 q (.dK [(Sum.inr nm, .ref T)])) pd (.dK (putK kvs (Sum.inr nm) (.ref T)))) = H5 at s5 p5 T5 tl5 ro5
      refine ⟨_, rfl, l, us, rfl, .inl (SqL.of (s5 _ _ hl)), by show 2 ≤ sizeLine; decide, fun R nR => ?_⟩
      have s6 : Same H5 (upd H5 R (.tup [.ref pd, .int (us.length : Int)])) := same_new nR
      have ts := ts_put (f := tb) (nm := nm) (t := (t.1, ss)) p5 (fun z => (all z).same s5) ⟨T, tl, ys, rfl, T5, tl5, ro5⟩
      rw [putK_old ev, lk] at ts
      exact k R pd ss _ (s5.trans s6) (by rw [← ro.len]; exact upd_same) (ts.same s6) pm sr
def spMakeT : Sp := fun vs H Q _ => ∃ (a : Addr) (nm : Str) (wd n : Nat) (f : Tbs), vs = [.ref a, .str nm, .int (wd : Int)] ∧ TsAt H a n f ∧ f nm = none ∧ n < 8 ∧ NameS 8 nm ∧ 1 ≤ wd ∧ wd ≤ 4 ∧
  ∀ (p d : Addr) (H' : Hp), Same H H' → H' p = some (.tup [.ref d, .non]) → TsAt H' d (n + 1) (fset f nm (wd, [])) → Q (.ref p) H'
theorem has_maketable {k1 k2 k3 : Tok} (b : Blt mg) (Wml : mg "MOST_LETTERS" = some (.int 8 k1)) (Wmw : mg "MOST_WIDTH" = some (.int 4 k2)) (Wta : mg "MOST_TABLES" = some (.int 8 k3)) (hNm : Has P w K mg base CX0 1 "is_name" sIsName ["thing", "most"] spIsName) (hNu : Has P w K mg base CX0 1 "is_number" sIsNumber ["thing", "low", "behind"] (spIsNumber K)) (a : AtE K mg "make_table" sMakeTable ["tables", "name", "width"]) : Has P w K mg base CX0 2 "make_table" sMakeTable ["tables", "name", "width"] spMakeT := by
  obtain ⟨f, fd, a⟩ := a
  obtain ⟨fNm, fdNm, aNm, GNm⟩ := hNm
  obtain ⟨fNu, fdNu, aNu, GNu⟩ := hNu
  refine ⟨f, fd, a, a.fn.ok scMakeTable (fun vs H Q E h => ?_) (fun cdv A outer s H vs Q E hr1 h => ?_)⟩
  · obtain ⟨ad, nm, wd, n, tb, rfl, _⟩ := h
    rfl
  · obtain ⟨ad, nm, wd, n, tb, rfl, ⟨kvs, hk, lk, all⟩, ht, few, ok, t1, t4, k⟩ := h
    have hu1 : (A.deeper (PyProof.Rows.envOfC "make_table" (defScope sMakeTable) s.heap.objs.size f cdv)).units + 1 < cLine := by
      have := hr1.units
      omega
    refine ⟨_,
    (pss_cons (ps_if (pt_not (pt_val (pe_call GNm hr1 rfl aNm.gl aNm.fn.kp aNm.bd .nil pass0 (pa_cons (pv 1) (pa_cons (pe_glob (v := .int 8) rfl Wml ⟨_, rfl⟩) pa_nil)))))
      (pss_one ps_never)
      pss_nil)
    (pss_cons (ps_if (pt_cmp (pc_din hu1 (pv 1) (pv 0)))
      (pss_one ps_never)
      pss_nil)
    (pss_cons (ps_if (pt_not (pt_val (pe_call GNu hr1 rfl aNu.gl aNu.fn.kp aNu.bd .nil pass0 (pa_cons (pv 2) (pa_cons pe_int (pa_cons (pe_op op_add (pe_glob (v := .int 4) rfl Wmw ⟨_, rfl⟩) pe_int) pa_nil))))))
      (pss_one ps_never)
      pss_nil)
    (pss_cons (ps_if (pt_cmpR op_ge (pe_callB call_lenD (by rfl) b.len PySem.boot_len (pa_cons (pv 0) pa_nil)) (pe_glob (v := .int 8) rfl Wta ⟨_, rfl⟩) (nomark _))
      (pss_one ps_never)
      pss_nil)
    (pss_one (ps_ret (pe_tup (pa_cons (pe_spread (pv 0) (pv 1) (pe_tup (pa_cons (pv 2) (pa_cons (pe_tup pa_nil) pa_nil)))) (pa_cons pe_non pa_nil))))))))), ?_⟩
    have h1 := all nm
    rw [ht] at h1
    cases ev : valV kvs (Sum.inr nm) with
    | some v =>
      rw [ev] at h1
      exact h1.elim
    | none =>
      have dg : ∀ {H2 : Hp}, Same H H2 → DGet H2 ad (.str nm) none := fun s2 => .inl ⟨kvs, Sum.inr nm, .inl (s2 _ _ hk), rfl, ev.symm⟩
      refine ⟨_, rfl, nm, 8, rfl, ok, by decide, fun H2 s2 => ⟨_, rfl, iteF ?_⟩⟩
      refine ⟨_, rfl, _, rfl, ad, _, rfl, dg s2, _, rfl, iteF ?_⟩
      have en : numB 1 5 (.int (wd : Int)) = true := by
        show (decide (1 ≤ (wd : Int)) && decide ((wd : Int) < 5)) = true
        rw [decide_eq_true (show 1 ≤ (wd : Int) by omega), decide_eq_true (show (wd : Int) < 5 by omega)]
        rfl
      refine ⟨_, rfl, 4, 1, rfl, rfl, .int (wd : Int), "int", 1, 5, rfl, .base (.int _), by decide, ?_⟩
      rw [en]
      refine ⟨_, rfl, iteF ?_⟩
      refine ⟨_, rfl, ad, kvs, rfl, s2 _ _ hk, _, 8, rfl, rfl, _, rfl, ?_⟩
      rw [decide_eq_false (show ¬ (8 : Int) ≤ (kvs.length : Int) by omega)]
      refine iteF ?_
      intro pd npd
      have nad : ad ≠ pd := ne_of_none (s2 _ _ hk) npd
      refine ⟨_, rfl, ad, kvs, rfl, (upd_ne nad).trans (s2 _ _ hk), nad, upd_same, by rw [lk]; exact Nat.lt_trans few (by decide), fun q nq => ?_⟩
      have nqp : q ≠ pd := fun e => by rw [e, upd_same] at nq; cases nq
      have nqH : H2 q = none := by
        rw [upd_ne nqp, upd_ne nqp] at nq
        exact nq
      have s3 : Same H2 (upd (upd (upd H2 pd (.dK [])) pd (.dK kvs)) q (.dK [])) := fun x o h => by
        rw [upd_ne (ne_of_none h nqH), upd_ne (ne_of_none h npd), upd_ne (ne_of_none h npd)]
        exact h
      have p3 : (upd (upd (upd H2 pd (.dK [])) pd (.dK kvs)) q (.dK [])) pd = some (.dK kvs) := (upd_ne nqp.symm).trans upd_same
      have q3 : (upd (upd (upd H2 pd (.dK [])) pd (.dK kvs)) q (.dK [])) q = some (.dK []) := upd_same
      generalize (upd (upd (upd H2 pd (.dK [])) pd (.dK kvs)) q (.dK [])) = H3 at s3 p3 q3
      refine ⟨_, rfl, _, rfl, by show 0 ≤ sizeLine; decide, fun tl ntl => ⟨by show 2 ≤ sizeLine; decide, fun T nT => ?_⟩⟩
      have s4 : Same H3 (upd (upd H3 tl (.tup [])) T (.tup [.int (wd : Int), .ref tl])) := (same_new ntl).trans (same_new nT)
      have T4 : (upd (upd H3 tl (.tup [])) T (.tup [.int (wd : Int), .ref tl])) T = some (.tup [.int (wd : Int), .ref tl]) := upd_same
      have tl4 : (upd (upd H3 tl (.tup [])) T (.tup [.int (wd : Int), .ref tl])) tl = some (.tup []) := (upd_ne (fun e => by rw [← e, upd_same] at nT; cases nT)).trans upd_same
      generalize (upd (upd H3 tl (.tup [])) T (.tup [.int (wd : Int), .ref tl])) = H4 at s4 T4 tl4
      have p4 := s4 _ _ p3
      have q4 := s4 _ _ q3
      refine ⟨.ref T, Sum.inr nm, rfl, q4, p4, ?_⟩
      have s5 : Same H2 (upd (upd H4 q (.dK [(Sum.inr nm, .ref T)])) pd (.dK (putK kvs (Sum.inr nm) (.ref T)))) := fun x o h => by
        rw [upd_ne (ne_of_none h npd), upd_ne (ne_of_none h nqH)]
        exact s4 _ _ (s3 _ _ h)
      have p5 : (upd (upd H4 q (.dK [(Sum.inr nm, .ref T)])) pd (.dK (putK kvs (Sum.inr nm) (.ref T)))) pd = some (.dK (putK kvs (Sum.inr nm) (.ref T))) := upd_same
      have mv : ∀ (x : Addr) (xs : List V), H4 x = some (.tup xs) → (upd (upd H4 q (.dK [(Sum.inr nm, .ref T)])) pd (.dK (putK kvs (Sum.inr nm) (.ref T)))) x = some (.tup xs) := fun x xs h => by
        rw [upd_ne (fun e => by rw [e, p4] at h; cases h), upd_ne (fun e => by rw [e, q4] at h; cases h)]
        exact h
      have T5 := mv _ _ T4
      have tl5 := mv _ _ tl4
      generalize (upd (upd H4 q (.dK [(Sum.inr nm, .ref T)])) pd (.dK (putK kvs (Sum.inr nm) (.ref T)))) = H5 at s5 p5 T5 tl5
      refine ⟨by show 2 ≤ sizeLine; decide, fun R nR => ?_⟩
      have s6 : Same H5 (upd H5 R (.tup [.ref pd, .non])) := same_new nR
      have ts := ts_put (f := tb) (nm := nm) (t := (wd, [])) p5 (fun z => (all z).same (s2.trans s5)) ⟨T, tl, [], rfl, T5, tl5, .nil⟩
      rw [putK_fresh ev, lk] at ts
      exact k R pd _ (s2.trans (s5.trans s6)) upd_same (ts.same s6)
def spFillT (K : PySem.W.Frag) : Sp := fun vs H Q _ => ∃ (a l : Addr) (us : List V) (nm : Str) (n : Nat) (f : Tbs) (t : Nat × List (List Nat)) (rs : List (List Nat)), vs = [.ref a, .str nm, .ref l] ∧ TsAt H a n f ∧ f nm = some t ∧ n < 100 ∧ 1 ≤ t.1 ∧ t.1 ≤ 4 ∧ H l = some (.lst us) ∧ Rows H us rs ∧ (∀ r ∈ rs, RowOk t.1 r) ∧ rs.length ≤ 40 ∧ rs.Nodup ∧
  ∀ (p d : Addr) (ss : List (List Nat)) (H' : Hp), Same H H' → H' p = some (.tup [.ref d, .int (rs.length : Int)]) → TsAt H' d n (fset f nm (t.1, ss)) → ss.Perm rs → Sorted ss → Q (.ref p) H'
theorem has_filltable {k1 : Tok} (b : Blt mg) (Wro : mg "MOST_ROWS" = some (.int 40 k1)) (hTo : Has P w K mg base CX0 1 "table_of" sTableOf ["tables", "name"] spTableOf) (hAr : Has P w K mg base CX0 4 "are_rows" sAreRows ["thing", "width"] (spAreRows K)) (hWr : Has P w K mg base CX0 1 "with_rows" sWithRows ["tables", "name", "rows"] (spWithRows K)) (a : AtE K mg "fill_table" sFillTable ["tables", "name", "rows"]) : Has P w K mg base CX0 5 "fill_table" sFillTable ["tables", "name", "rows"] (spFillT K) := by
  obtain ⟨f, fd, a⟩ := a
  obtain ⟨fTo, fdTo, aTo, GTo⟩ := hTo
  obtain ⟨fAr, fdAr, aAr, GAr⟩ := hAr
  obtain ⟨fWr, fdWr, aWr, GWr⟩ := hWr
  refine ⟨f, fd, a, a.fn.ok scFillTable (fun vs H Q E h => ?_) (fun cdv A outer s H vs Q E hr4 h => ?_)⟩
  · obtain ⟨ad, l, us, nm, n, tb, t, rs, rfl, _⟩ := h
    rfl
  · obtain ⟨ad, l, us, nm, n, tb, t, rs, rfl, ts, ht, few, t1, t4, hl, ro, ok, fr, nd, k⟩ := h
    have hr1 := hr4.mono (show 1 ≤ 4 by decide)
    refine ⟨_,
    (pss_cons (ps_set (i := 3) scFillTable.nd rfl (.inl rfl) (pe_ix ix_tup (pe_call GTo hr1 rfl aTo.gl aTo.fn.kp aTo.bd .nil pass0 (pa_cons (pv 0) (pa_cons (pv 1) pa_nil))) pe_int fun _ _ => rfl))
    (pss_cons (ps_if (pt_not (pt_val (pe_call GAr hr4 rfl aAr.gl aAr.fn.kp aAr.bd .nil pass0 (pa_cons (pv 2) (pa_cons (pv 3) pa_nil)))))
      (pss_one ps_never)
      pss_nil)
    (pss_cons (ps_if (pt_cmpR op_gt (pe_callB call_len_seq (by rfl) b.len PySem.boot_len (pa_cons (pv 2) pa_nil)) (pe_glob (v := .int 40) rfl Wro ⟨_, rfl⟩) (nomark _))
      (pss_one ps_never)
      pss_nil)
    (pss_one (ps_ret (pe_call GWr hr1 rfl aWr.gl aWr.fn.kp aWr.bd .nil pass0 (pa_cons (pv 0) (pa_cons (pv 1) (pa_cons (pv 2) pa_nil))))))))), ?_⟩
    refine ⟨_, rfl, _, rfl, ad, nm, n, tb, t, rfl, ts, ht, few, fun v tv => ?_⟩
    obtain ⟨ta, ra, us0, rfl, hta, _, _⟩ := tv
    refine ⟨ta, _, 0, _, rfl, rfl, SqT.of hta, rfl, ?_⟩
    refine ⟨_, rfl, _, rfl, l, us, rs, t.1, rfl, hl, ro, ok, t4, nd, by omega, fun H2 s2 => ⟨_, rfl, iteF ?_⟩⟩
    refine ⟨_, rfl, l, us, rfl, .inl (SqL.of (s2 _ _ hl)), _, 40, rfl, rfl, _, rfl, ?_⟩
    rw [ro.len, decide_eq_false (show ¬ (40 : Int) < (rs.length : Int) by omega)]
    refine iteF ⟨_, rfl, _, rfl, _, rfl, ad, l, us, nm, n, tb, t, rs, rfl, ts.same s2, ht, few, t1, t4, s2 _ _ hl, ro.same s2, ok, by omega, fun p d ss H3 s3 hp hd pm sr => k p d ss H3 (s2.trans s3) hp hd pm sr⟩
end
end VQ
namespace VQ
open PySem L2 LamX
/-! ### deeds of a book, what is handed in being good -/
abbrev sNeedDeed : Stmt := top 40
abbrev nNeedDeed : List Str := ["thing"]
theorem scNeedDeed : FnScope nNeedDeed ["thing"] (defScope sNeedDeed) := ⟨rfl, rfl, rfl, by decide +kernel, rfl, by decide +kernel, by decide +kernel⟩
abbrev sDone : Stmt := top 41
abbrev nDone : List Str := ["tables", "deed", "word", "things", "action"]
theorem scDone : FnScope nDone ["tables", "deed"] (defScope sDone) := ⟨rfl, rfl, rfl, by decide +kernel, rfl, by decide +kernel, by decide +kernel⟩
/-- x(e, *xs), x a local name that holds one of several defs that raise nothing here -/
structure HeldC (P : Program) (w : World) (K : PySem.W.Frag) (mg : Str → Option Value) (base : Heap) (CX : CXT) (k : Nat) (f : Addr) (sp : Sp) : Prop where
  ex : ∃ (fd : FuncData) (ps : List Str), FnOk P w K mg base CX k f fd ps sp ∧ PySem.W.keepIn K (.ref f) = true ∧ Binds K fd ps []
def tCallC (P : Program) (w : World) (K : PySem.W.Frag) (mg : Str → Option Value) (base : Heap) (CX : CXT) (k i : Nat) (E : XK) (t : TA) : TE := fun σ H Q => ∃ (f : Addr) (sp : Sp), σ[i]? = some (some (.ref f)) ∧ HeldC P w K mg base CX k f sp ∧ t σ H fun vs H1 => sp vs H1 Q E
open PyProof.Rows in
theorem pe_callC {X : Cx} {CX : CXT} {k i : Nat} {x : Str} {p pos : Pos} {e : Expr} {es : List Expr} {t : TA} {E : XK} (room : Room k X.A) (hN : X.N[i]? = some x) (hv : Vis X.env.scope x) (out : Passes CX X E) (ha : PA X (e :: es) t)
    (hdb : (x == ("__debug__" : Str)) = false := by decide) (hcd : (x == ("__classdict__" : Str)) = false := by decide)
    (he : starEach (e :: es) X.env = (false, eval e X.env) :: starEach es X.env := by rfl) (hst : (backTo pos (starEach es X.env)).any (·.1) = true := by rfl) : PE X (.Call (.Name x p) (e :: es) [] pos) (tCallC X.prog X.w X.K X.mg X.base CX k i E t) := by
  refine ⟨fun pins s σ H Q inv want => ?_⟩
  obtain ⟨f, sp, hs, ⟨fd, ps, F, hk, hb⟩, ht⟩ := want
  refine wpAny_Call_Name_kw (thn ((pe_var (pos := p) hN hv hdb hcd).run pins s σ H (fun v H1 => v = .ref f ∧ H1 = H) inv ⟨.ref f, hs, rfl, rfl⟩) fun u s1 ⟨v, H1, inv1, r1, q1⟩ => ?_)
  obtain ⟨rfl, rfl⟩ := q1
  cases r1
  refine PySem.W.callWith_S2 (h₀ := X.base) inv.ok.mod.kin hk (thn (ha.run pos pins s1 σ _ _ inv1 ht) fun us s2 ⟨vs, H2, inv2, r, q⟩ => ⟨inv2.kIn, ?_⟩) he hst
  refine run_fn F room hb .nil out inv2 r ?_
  show sp (vs ++ []) H2 Q E
  rw [List.append_nil]
  exact q
theorem make_mono {vs : List V} {H H' : Hp} {Q : VK} {E : XK} (s : Same H H') (h : spMakeT vs H Q E) : spMakeT vs H' Q E := by
  obtain ⟨a, nm, wd, n, f, e, ts, h1, h2, h3, h4, h5, k⟩ := h
  exact ⟨a, nm, wd, n, f, e, ts.same s, h1, h2, h3, h4, h5, fun p d H2 s2 => k p d H2 (s.trans s2)⟩
theorem fill_mono {K : PySem.W.Frag} {vs : List V} {H H' : Hp} {Q : VK} {E : XK} (s : Same H H') (h : spFillT K vs H Q E) : spFillT K vs H' Q E := by
  obtain ⟨a, l, us, nm, n, f, t, rs, e, ts, h1, h2, h3, h4, hl, ro, h5, h6, h7, k⟩ := h
  exact ⟨a, l, us, nm, n, f, t, rs, e, ts.same s, h1, h2, h3, h4, s _ _ hl, ro.same s, h5, h6, h7, fun p d ss H2 s2 => k p d ss H2 (s.trans s2)⟩
section
variable {P : Program} {w : World} {K : PySem.W.Frag} {mg : Str → Option Value} {base : Heap} {aCo aAc : Addr}
def CountTab (K : PySem.W.Frag) (w : World) (d : Addr) : Prop := TabK K w d [("make", .int 3), ("drop", .int 2), ("put", .int 3), ("take", .int 3), ("fill", .int 3)]
def ActTab (K : PySem.W.Frag) (w : World) (d fM fD fP fT fF : Addr) : Prop := TabK K w d [("make", .ref fM), ("drop", .ref fD), ("put", .ref fP), ("take", .ref fT), ("fill", .ref fF)]
def spNeedDeed : Sp := fun vs H Q _ => ∃ (d : Addr) (z : Str) (x y : V), vs = [.ref d] ∧ H d = some (.tup [.str z, x, y]) ∧ (z = "make" ∨ z = "put" ∨ z = "take" ∨ z = "fill") ∧ Q .non H
theorem has_needdeed (b : Blt mg) (gCo : mg "COUNTS" = some (.ref aCo)) (tCo : CountTab K w aCo) (a : AtE K mg "need_deed" sNeedDeed ["thing"]) : Has P w K mg base CX0 1 "need_deed" sNeedDeed ["thing"] spNeedDeed := by
  obtain ⟨f, fd, a⟩ := a
  refine ⟨f, fd, a, a.fn.ok scNeedDeed (fun vs H Q E h => ?_) (fun cdv A outer s H vs Q E hr0 h => ?_)⟩
  · obtain ⟨d, z, x, y, rfl, _⟩ := h
    rfl
  · obtain ⟨d, z, x, y, rfl, hd, hz, k⟩ := h
    refine ⟨_,
    (pss_cons (ps_if (PW.pt (pw_or (pt_not (pt_val (pe_isi (pv 0) rfl b.isi rfl b.tuple (c := "tuple") (by decide +kernel)))) (pw_or (pt_cmpR op_eq (pe_callB call_len_seq (by rfl) b.len PySem.boot_len (pa_cons (pv 0) pa_nil)) pe_int (nomark _)) (pw_or1 (pt_not (pt_val (pe_callB call_isi (by rfl) b.isi (by decide +kernel) (pa_cons (pe_ix ix_tup (pv 0) pe_int fun _ _ => rfl) (pa_cons (pe_bltn (v := .ty "str") rfl b.str (by decide +kernel) rfl) pa_nil)))))))))
      (pss_one ps_never)
      pss_nil)
    (pss_one (ps_if (pt_cmpR op_ne (pe_getTab (pe_glob (v := .ref aCo) rfl gCo rfl) (pe_ix ix_tup (pv 0) pe_int fun _ _ => rfl) ⟨rfl, rfl, rfl, rfl⟩) (pe_callB call_len_seq (by rfl) b.len PySem.boot_len (pa_cons (pv 0) pa_nil)) (nomark _))
      (pss_one ps_never)
      pss_nil))), ?_⟩
    refine rd_isi rfl (.base (.tup hd)) (b := true) (by decide +kernel) ⟨_, rfl, iteF ?_⟩
    refine ⟨_, rfl, d, _, rfl, .inr (SqT.of hd), rfl, _, rfl, ?_⟩
    rw [decide_eq_false (show ¬ V.int (([V.str z, x, y].length : Nat) : Int) = V.int 0 by intro e; injection e with e; exact absurd (show (3 : Int) = 0 from e) (by decide))]
    refine iteF ⟨_, rfl, d, _, 0, _, rfl, rfl, SqT.of hd, rfl, _, _, _, _, true, rfl, .ty "str", .base (.str z), kit_ty (by decide +kernel), _, rfl, iteF ?_⟩
    refine ⟨aCo, _, rfl, tCo, _, rfl, d, _, 0, _, rfl, rfl, SqT.of hd, rfl, z, rfl, fun v mv => ?_, fun no => ?_⟩
    · have ev : v = .int 3 := by
        have nd : z ≠ "drop" := by rcases hz with rfl | rfl | rfl | rfl <;> decide +kernel
        simp only [List.mem_cons, Prod.mk.injEq, List.not_mem_nil, or_false] at mv
        rcases mv with ⟨_, e⟩ | ⟨e, _⟩ | ⟨_, e⟩ | ⟨_, e⟩ | ⟨_, e⟩
        · exact e
        · exact absurd e nd
        · exact e
        · exact e
        · exact e
      rw [ev]
      refine ⟨_, rfl, d, _, rfl, .inr (SqT.of hd), rfl, _, rfl, ?_⟩
      rw [show decide (V.int 3 = V.int (([V.str z, x, y].length : Nat) : Int)) = true from decide_eq_true rfl]
      exact iteF k
    · exact absurd (by rcases hz with rfl | rfl | rfl | rfl <;> decide +kernel) no
def spDone (K : PySem.W.Frag) : Sp := fun vs H Q E => ∃ (a d : Addr) (x y : V), vs = [.ref a, .ref d] ∧ ((H d = some (.tup [.str "make", x, y]) ∧ spMakeT [.ref a, x, y] H Q E0) ∨ (H d = some (.tup [.str "fill", x, y]) ∧ spFillT K [.ref a, x, y] H Q E0))
theorem done_mono {vs : List V} {H H' : Hp} {Q : VK} {E : XK} (s : Same H H') (h : spDone K vs H Q E) : spDone K vs H' Q E := by
  obtain ⟨a, d, x, y, e, h | h⟩ := h
  · exact ⟨a, d, x, y, e, .inl ⟨s _ _ h.1, make_mono s h.2⟩⟩
  · exact ⟨a, d, x, y, e, .inr ⟨s _ _ h.1, fill_mono s h.2⟩⟩
theorem has_done {fM fD fP fT fF : Addr} (b : Blt mg) (gAc : mg "ACTIONS" = some (.ref aAc)) (tAc : ActTab K w aAc fM fD fP fT fF) (hNd : Has P w K mg base CX0 1 "need_deed" sNeedDeed ["thing"] spNeedDeed)
    (hM : HeldC P w K mg base CX0 2 fM spMakeT) (hF : HeldC P w K mg base CX0 5 fF (spFillT K)) (a : AtE K mg "done" sDone ["tables", "deed"]) : Has P w K mg base CX0 6 "done" sDone ["tables", "deed"] (spDone K) := by
  obtain ⟨f, fd, a⟩ := a
  obtain ⟨fNd, fdNd, aNd, GNd⟩ := hNd
  refine ⟨f, fd, a, a.fn.ok scDone (fun vs H Q E h => ?_) (fun cdv A outer s H vs Q E hr5 h => ?_)⟩
  · obtain ⟨ad, d, x, y, rfl, _⟩ := h
    rfl
  · have hr1 := hr5.mono (show 1 ≤ 5 by decide)
    have hM5 : HeldC P w K mg base CX0 5 fM spMakeT := by
      obtain ⟨fd2, ps, F, k1, k2⟩ := hM
      exact ⟨fd2, ps, F.mono (by decide), k1, k2⟩
    obtain ⟨ad, d, x, y, rfl, h⟩ := h
    refine ⟨_,
    (pss_cons (ps_expr (pe_call GNd hr1 rfl aNd.gl aNd.fn.kp aNd.bd .nil pass0 (pa_cons (pv 1) pa_nil)))
    (pss_cons (ps_asg (pv 1) (pg_star (n := 2) (i := 1) rfl (pgs_cons (pg_name (i := 2) scDone.nd rfl (.inl rfl)) (pgs_cons (pg_name (i := 3) scDone.nd rfl (.inl rfl)) pgs_nil)) rfl))
    (pss_cons (ps_set (i := 4) scDone.nd rfl (.inl rfl) (pe_ix ix_kdict (pe_glob (v := .ref aAc) rfl gAc rfl) (pv 2) fun _ _ => rfl))
    (pss_one (ps_ret (pe_callC (CX := CX0) (E := E0) (i := 4) hr5 rfl (.inl rfl) pass0 (pa_cons (pv 0) (StX.pa_star (pv 3) pa_nil)))))))), ?_⟩
    rcases h with ⟨hd, h⟩ | ⟨hd, h⟩
    · refine ⟨_, rfl, d, _, x, y, rfl, hd, .inl rfl, ?_⟩
      refine ⟨_, rfl, d, _, rfl, .inr (SqT.of hd), by show 2 ≤ 4; decide, fun D nD => ?_⟩
      have sD : Same H (upd H D (.lst [x, y])) := same_new nD
      refine ⟨_, _, rfl, _, _, rfl, rfl, ?_⟩
      refine ⟨_, rfl, aAc, "make", _, rfl, rfl, tAc.dct (List.mem_cons_self ..), ?_⟩
      exact ⟨fM, spMakeT, rfl, hM5, _, rfl, _, rfl, D, [x, y], rfl, .inr (SqL.of upd_same), make_mono sD h⟩
    · refine ⟨_, rfl, d, _, x, y, rfl, hd, .inr (.inr (.inr rfl)), ?_⟩
      refine ⟨_, rfl, d, _, rfl, .inr (SqT.of hd), by show 2 ≤ 4; decide, fun D nD => ?_⟩
      have sD : Same H (upd H D (.lst [x, y])) := same_new nD
      refine ⟨_, _, rfl, _, _, rfl, rfl, ?_⟩
      refine ⟨_, rfl, aAc, "fill", _, rfl, rfl, tAc.dct (p := ("fill", .ref fF)) (by simp), ?_⟩
      exact ⟨fF, spFillT K, rfl, hF, _, rfl, _, rfl, D, [x, y], rfl, .inr (SqL.of upd_same), fill_mono sD h⟩
end
end VQ
namespace VQ
open PySem L2 LamX
/-! ### a book -/
abbrev sBookInit : Stmt := inClass (top 42) 0
abbrev nBookInit : List Str := ["self"]
theorem scBookInit : FnScope nBookInit ["self"] (defScope sBookInit) := ⟨rfl, rfl, rfl, by decide +kernel, rfl, by decide +kernel, by decide +kernel⟩
abbrev sBookMake : Stmt := inClass (top 42) 1
abbrev nBookMake : List Str := ["self", "name", "width"]
theorem scBookMake : FnScope nBookMake ["self", "name", "width"] (defScope sBookMake) := ⟨rfl, rfl, rfl, by decide +kernel, rfl, by decide +kernel, by decide +kernel⟩
abbrev sBookFill : Stmt := inClass (top 42) 5
abbrev nBookFill : List Str := ["self", "name", "rows"]
theorem scBookFill : FnScope nBookFill ["self", "name", "rows"] (defScope sBookFill) := ⟨rfl, rfl, rfl, by decide +kernel, rfl, by decide +kernel, by decide +kernel⟩
abbrev sBookDo : Stmt := inClass (top 42) 6
abbrev nBookDo : List Str := ["self", "deed"]
theorem scBookDo : FnScope nBookDo ["self", "deed"] (defScope sBookDo) := ⟨rfl, rfl, rfl, by decide +kernel, rfl, by decide +kernel, by decide +kernel⟩
abbrev sBookMany : Stmt := inClass (top 42) 7
abbrev nBookMany : List Str := ["self", "deeds", "tables", "told", "deed", "answer"]
theorem scBookMany : FnScope nBookMany ["self", "deeds"] (defScope sBookMany) := ⟨rfl, rfl, rfl, by decide +kernel, rfl, by decide +kernel, by decide +kernel⟩
abbrev sBookWidth : Stmt := inClass (top 42) 11
abbrev nBookWidth : List Str := ["self", "name"]
theorem scBookWidth : FnScope nBookWidth ["self", "name"] (defScope sBookWidth) := ⟨rfl, rfl, rfl, by decide +kernel, rfl, by decide +kernel, by decide +kernel⟩
abbrev sBookRows : Stmt := inClass (top 42) 12
abbrev nBookRows : List Str := ["self", "name"]
theorem scBookRows : FnScope nBookRows ["self", "name"] (defScope sBookRows) := ⟨rfl, rfl, rfl, by decide +kernel, rfl, by decide +kernel, by decide +kernel⟩
/-- a book's attributes -/
def bf (t p u : V) : List (Str × V) := [("tables", t), ("past", p), ("future", u)]
theorem bf_init {t p u : V} : putF "future" u (putF "past" p (putF "tables" t [])) = bf t p u := by
  have e1 : putF "past" p [(("tables" : Str), t)] = [(("tables" : Str), t), (("past" : Str), p)] := by
    unfold putF
    rw [if_neg (by decide +kernel)]
    rfl
  have e2 : putF "future" u [(("tables" : Str), t), (("past" : Str), p)] = bf t p u := by
    unfold putF
    rw [if_neg (by decide +kernel)]
    unfold putF
    rw [if_neg (by decide +kernel)]
    rfl
  show putF "future" u (putF "past" p [(("tables" : Str), t)]) = _
  rw [e1, e2]
theorem bf_tables {t p u : V} : (bf t p u).lookup ("tables" : Str) = some t := rfl
theorem bf_past {t p u : V} : (bf t p u).lookup ("past" : Str) = some p := rfl
theorem bf_future {t p u : V} : (bf t p u).lookup ("future" : Str) = some u := rfl
theorem bf_setF {t p u v : V} : putF "future" v (bf t p u) = bf t p v := by
  unfold bf putF
  rw [if_neg (by decide +kernel)]
  unfold putF
  rw [if_neg (by decide +kernel)]
  unfold putF
  rw [if_pos rfl]
theorem bf_setT {t p u v : V} : putF "tables" v (bf t p u) = bf v p u := by
  unfold bf putF
  rw [if_pos rfl]
/-- a book: its past, how many deeds are behind it, how many can be done again, its tables -/
def BookAt (C : Addr) (H : Hp) (a pa : Addr) (k j n : Nat) (f : Tbs) : Prop := ∃ (dx t fu : Addr) (ps us : List V), H a = some (.ins C dx (bf (.ref t) (.ref pa) (.ref fu))) ∧ H pa = some (.lst ps) ∧ ps.length = k ∧ H fu = some (.lst us) ∧ us.length = j ∧ TsAt H t n f ∧ a ≠ pa ∧ fu ≠ pa
/-- nothing but the book and its past has changed -/
def OnlyB (a pa : Addr) (H H' : Hp) : Prop := ∀ x o, x ≠ a → x ≠ pa → H x = some o → H' x = some o
theorem OnlyB.trans {a pa : Addr} {H H1 H2 : Hp} (h : OnlyB a pa H H1) (g : OnlyB a pa H1 H2) : OnlyB a pa H H2 := fun x o n1 n2 e => g x o n1 n2 (h x o n1 n2 e)
theorem OnlyB.of {a pa : Addr} {H H' : Hp} (s : Same H H') : OnlyB a pa H H' := fun x o _ _ e => s x o e
theorem BookAt.same {C : Addr} {H H' : Hp} {a pa : Addr} {k j n : Nat} {f : Tbs} (s : Same H H') (h : BookAt C H a pa k j n f) : BookAt C H' a pa k j n f := by
  obtain ⟨dx, t, fu, ps, us, h1, h2, h3, h4, hj, h5, h6, h7⟩ := h
  exact ⟨dx, t, fu, ps, us, s _ _ h1, s _ _ h2, h3, s _ _ h4, hj, h5.same s, h6, h7⟩
structure BCls (K : PySem.W.Frag) (C : Addr) : Prop where
  cl : Cls K C
  nT : NoAttr K C "tables"
  nP : NoAttr K C "past"
  nF : NoAttr K C "future"
section
variable {P : Program} {w : World} {K : PySem.W.Frag} {mg : Str → Option Value} {base : Heap} {C : Addr}
def spBInit (C : Addr) : Sp := fun vs H Q _ => ∃ (x dx : Addr), vs = [.ref x] ∧ H x = some (.ins C dx []) ∧ ∀ (pa : Addr) (H' : Hp), (∀ y o, y ≠ x → H y = some o → H' y = some o) → H pa = none → BookAt C H' x pa 0 0 0 (fun _ => none) → Q .non H'
theorem ok_binit {f : Addr} {fd : FuncData} (F : Fun K "__init__" "Book.__init__" sBookInit f fd) (T : BCls K C) : FnOk P w K mg base CX0 1 f fd ["self"] (spBInit C) := by
  refine F.ok scBookInit (fun vs H Q E h => ?_) (fun cdv A outer s H vs Q E hr h => ?_)
  · obtain ⟨x, dx, rfl, _⟩ := h
    rfl
  · obtain ⟨x, dx, rfl, hx, k⟩ := h
    refine ⟨_,
    (pss_cons (ps_fld (pv 0) pe_dnewK rfl)
    (pss_cons (ps_fld (pv 0) (pe_lst pa_nil) rfl)
    (pss_one (ps_fld (pv 0) (pe_lst pa_nil) rfl)))), ?_⟩
    intro t nt
    have nxt : x ≠ t := ne_of_none hx nt
    refine ⟨_, rfl, x, C, dx, [], rfl, (upd_ne nxt).trans hx, T.cl, T.nT, by decide, ?_⟩
    have x1 : (upd (upd H t (.dK [])) x (.ins C dx (putF "tables" (.ref t) []))) x = some (.ins C dx (putF "tables" (.ref t) [])) := upd_same
    have t1 : (upd (upd H t (.dK [])) x (.ins C dx (putF "tables" (.ref t) []))) t = some (.dK []) := (upd_ne nxt.symm).trans upd_same
    have o1 : ∀ y o, y ≠ x → H y = some o → (upd (upd H t (.dK [])) x (.ins C dx (putF "tables" (.ref t) []))) y = some o := fun y o n h => by
      rw [upd_ne n, upd_ne (ne_of_none h nt)]
      exact h
    generalize (upd (upd H t (.dK [])) x (.ins C dx (putF "tables" (.ref t) []))) = H1 at x1 t1 o1
    refine ⟨by decide, fun pa np => ?_⟩
    have nxp : x ≠ pa := ne_of_none x1 np
    refine ⟨_, rfl, x, C, dx, _, rfl, (upd_ne nxp).trans x1, T.cl, T.nP, Nat.lt_of_le_of_lt (length_putF _ _ _) (by decide), ?_⟩
    have x2 : (upd (upd H1 pa (.lst [])) x (.ins C dx (putF "past" (.ref pa) (putF "tables" (.ref t) [])))) x = some (.ins C dx (putF "past" (.ref pa) (putF "tables" (.ref t) []))) := upd_same
    have p2 : (upd (upd H1 pa (.lst [])) x (.ins C dx (putF "past" (.ref pa) (putF "tables" (.ref t) [])))) pa = some (.lst []) := (upd_ne nxp.symm).trans upd_same
    have o2 : ∀ y o, y ≠ x → H1 y = some o → (upd (upd H1 pa (.lst [])) x (.ins C dx (putF "past" (.ref pa) (putF "tables" (.ref t) [])))) y = some o := fun y o n h => by
      rw [upd_ne n, upd_ne (ne_of_none h np)]
      exact h
    generalize (upd (upd H1 pa (.lst [])) x (.ins C dx (putF "past" (.ref pa) (putF "tables" (.ref t) [])))) = H2 at x2 p2 o2
    refine ⟨by decide, fun fu nf => ?_⟩
    have nxf : x ≠ fu := ne_of_none x2 nf
    have nfp : fu ≠ pa := (ne_of_none p2 nf).symm
    refine ⟨_, rfl, x, C, dx, _, rfl, (upd_ne nxf).trans x2, T.cl, T.nF, Nat.lt_of_le_of_lt (length_putF _ _ _) (Nat.lt_of_le_of_lt (Nat.add_le_add_right (length_putF _ _ _) 1) (by decide)), ?_⟩
    rw [bf_init]
    have o3 : ∀ y o, y ≠ x → H2 y = some o → (upd (upd H2 fu (.lst [])) x (.ins C dx (bf (.ref t) (.ref pa) (.ref fu)))) y = some o := fun y o n h => by
      rw [upd_ne n, upd_ne (ne_of_none h nf)]
      exact h
    have t3 := o3 _ _ nxt.symm (o2 _ _ nxt.symm t1)
    refine k pa _ (fun y o n h => o3 _ _ n (o2 _ _ n (o1 _ _ n h))) ?_ ⟨dx, t, fu, [], [], upd_same, o3 _ _ nxp.symm p2, rfl, (upd_ne nxf.symm).trans upd_same, rfl, ⟨[], t3, rfl, fun nm => True.intro⟩, nxp, nfp⟩
    cases e : H pa with
    | none => rfl
    | some o =>
      have := o1 pa o nxp.symm e
      rw [np] at this
      cases this
def spBWidth (C : Addr) : Sp := fun vs H Q _ => ∃ (a pa : Addr) (k j n : Nat) (f : Tbs) (nm : Str) (t : Nat × List (List Nat)), vs = [.ref a, .str nm] ∧ BookAt C H a pa k j n f ∧ n < 100 ∧ f nm = some t ∧ Q (.int (t.1 : Int)) H
theorem ok_bwidth {f : Addr} {fd : FuncData} (F : Fun K "width" "Book.width" sBookWidth f fd) (T : BCls K C) (hTo : Has P w K mg base CX0 1 "table_of" sTableOf ["tables", "name"] spTableOf) : FnOk P w K mg base CX0 2 f fd ["self", "name"] (spBWidth C) := by
  obtain ⟨fTo, fdTo, aTo, GTo⟩ := hTo
  refine F.ok scBookWidth (fun vs H Q E h => ?_) (fun cdv A outer s H vs Q E hr1 h => ?_)
  · obtain ⟨a, pa, k, j, n, f, nm, t, rfl, _⟩ := h
    rfl
  · obtain ⟨a, pa, k, j, n, f, nm, t, rfl, ⟨dx, tb, fu, ps, us, ha, hp, lp, hf, lj, ts, ne1, ne2⟩, few, ht, q⟩ := h
    refine ⟨_,
    (pss_one (ps_ret (pe_ix ix_tup (pe_call GTo hr1 rfl aTo.gl aTo.fn.kp aTo.bd .nil pass0 (pa_cons (pe_fld (pv 0) rfl) (pa_cons (pv 1) pa_nil))) pe_int fun _ _ => rfl))), ?_⟩
    refine ⟨_, rfl, a, C, dx, _, _, rfl, ha, T.cl, T.nT, bf_tables, _, rfl, tb, nm, n, f, t, rfl, ts, ht, few, fun v tv => ?_⟩
    obtain ⟨ta, ra, us0, rfl, hta, hra, ro⟩ := tv
    exact ⟨ta, _, 0, _, rfl, rfl, SqT.of hta, rfl, q⟩
def spBRows (C : Addr) : Sp := fun vs H Q _ => ∃ (a pa : Addr) (k j n : Nat) (f : Tbs) (nm : Str) (t : Nat × List (List Nat)), vs = [.ref a, .str nm] ∧ BookAt C H a pa k j n f ∧ n < 100 ∧ f nm = some t ∧ ∀ (p : Addr) (us : List V), H p = none → Rows H us t.2 → Q (.ref p) (upd H p (.lst us))
theorem ok_brows {f : Addr} {fd : FuncData} (F : Fun K "rows" "Book.rows" sBookRows f fd) (b : Blt mg) (T : BCls K C) (hTo : Has P w K mg base CX0 1 "table_of" sTableOf ["tables", "name"] spTableOf) : FnOk P w K mg base CX0 2 f fd ["self", "name"] (spBRows C) := by
  obtain ⟨fTo, fdTo, aTo, GTo⟩ := hTo
  refine F.ok scBookRows (fun vs H Q E h => ?_) (fun cdv A outer s H vs Q E hr1 h => ?_)
  · obtain ⟨a, pa, k, j, n, f, nm, t, rfl, _⟩ := h
    rfl
  · obtain ⟨a, pa, k, j, n, f, nm, t, rfl, ⟨dx, tb, fu, ps, us, ha, hp, lp, hf, lj, ts, ne1, ne2⟩, few, ht, q⟩ := h
    refine ⟨_,
    (pss_one (ps_ret (pe_callTy call_list_of (by rfl) b.list (by decide +kernel) (pa_cons (pe_ix ix_tup (pe_call GTo hr1 rfl aTo.gl aTo.fn.kp aTo.bd .nil pass0 (pa_cons (pe_fld (pv 0) rfl) (pa_cons (pv 1) pa_nil))) pe_int fun _ _ => rfl) pa_nil)))), ?_⟩
    refine ⟨_, rfl, a, C, dx, _, _, rfl, ha, T.cl, T.nT, bf_tables, _, rfl, tb, nm, n, f, t, rfl, ts, ht, few, fun v tv => ?_⟩
    obtain ⟨ta, ra, us0, rfl, hta, hra, ro⟩ := tv
    exact ⟨ta, _, 1, _, rfl, rfl, SqT.of hta, rfl, ra, us0, rfl, .inr (SqT.of hra), fun l nl => q l us0 nl ro⟩
end
end VQ
namespace VQ
open PySem L2 LamX
/-! ### a book: one deed done -/
def TD (o : HO) : Prop := (∃ xs, o = .tup xs) ∨ ∃ kvs, o = .dK kvs
theorem TabAt.moved {H H' : Hp} (m : ∀ x o, TD o → H x = some o → H' x = some o) {v : V} {wd : Nat} {rs : List (List Nat)} (h : TabAt H v wd rs) : TabAt H' v wd rs := by
  obtain ⟨t, r, us, e, h1, h2, h3⟩ := h
  exact ⟨t, r, us, e, m _ _ (.inl ⟨_, rfl⟩) h1, m _ _ (.inl ⟨_, rfl⟩) h2, h3.moved fun x xs e => m _ _ (.inl ⟨_, rfl⟩) e⟩
theorem TabO.moved {H H' : Hp} (m : ∀ x o, TD o → H x = some o → H' x = some o) {o : Option V} {t : Option (Nat × List (List Nat))} (h : TabO H o t) : TabO H' o t := by
  cases o <;> cases t
  · trivial
  · exact h
  · exact h
  · exact TabAt.moved m h
theorem TsAt.moved {H H' : Hp} (m : ∀ x o, TD o → H x = some o → H' x = some o) {a : Addr} {n : Nat} {f : Tbs} (h : TsAt H a n f) : TsAt H' a n f := by
  obtain ⟨kvs, h1, h2, h3⟩ := h
  exact ⟨kvs, m _ _ (.inr ⟨_, rfl⟩) h1, h2, fun nm => (h3 nm).moved m⟩
section
variable {P : Program} {w : World} {K : PySem.W.Frag} {mg : Str → Option Value} {base : Heap} {C : Addr}
theorem done_up {vs : List V} {H H' : Hp} {Q Q' : VK} {E E' : XK} (s : Same H H') (h : spDone K vs H Q E) (k : ∀ v H1, Same H' H1 → Q v H1 → Q' v H1) : spDone K vs H' Q' E' := by
  obtain ⟨a, d, x, y, e, h | h⟩ := h
  · obtain ⟨hd, a, nm, wd, n, f, e2, ts, h1, h2, h3, h4, h5, q⟩ := h
    exact ⟨_, d, x, y, e, .inl ⟨s _ _ hd, a, nm, wd, n, f, e2, ts.same s, h1, h2, h3, h4, h5, fun p d H2 s2 u v => k _ _ s2 (q p d H2 (s.trans s2) u v)⟩⟩
  · obtain ⟨hd, a, l, us, nm, n, f, t, rs, e2, ts, h1, h2, h3, h4, hl, ro, h5, h6, h7, q⟩ := h
    exact ⟨_, d, x, y, e, .inr ⟨s _ _ hd, a, l, us, nm, n, f, t, rs, e2, ts.same s, h1, h2, h3, h4, s _ _ hl, ro.same s, h5, h6, h7, fun p d ss H2 s2 u v v1 v2 => k _ _ s2 (q p d ss H2 (s.trans s2) u v v1 v2)⟩⟩
/-- many([deed]) -/
def spMany1 (K : PySem.W.Frag) (C : Addr) : Sp := fun vs H Q _ => ∃ (a pa l d t dx fu : Addr) (ps us : List V) (k : Nat), vs = [.ref a, .ref l] ∧ H l = some (.lst [.ref d]) ∧ H a = some (.ins C dx (bf (.ref t) (.ref pa) (.ref fu))) ∧ H pa = some (.lst ps) ∧ ps.length = k ∧ k < 1000 ∧ H fu = some (.lst us) ∧ a ≠ pa ∧ fu ≠ pa ∧
  spDone K [.ref t, .ref d] H (fun v H1 => ∃ (p dd : Addr) (ans : V) (n : Nat) (f : Tbs), v = .ref p ∧ H1 p = some (.tup [.ref dd, ans]) ∧ TsAt H1 dd n f ∧ ∀ L H3, OnlyB a pa H H3 → H3 L = some (.lst [ans]) → BookAt C H3 a pa (k + 1) 0 n f → Q (.ref L) H3) E0
theorem ok_many {f : Addr} {fd : FuncData} (F : Fun K "many" "Book.many" sBookMany f fd) (b : Blt mg) (T : BCls K C) (hDo : Has P w K mg base CX0 6 "done" sDone ["tables", "deed"] (spDone K)) : FnOk P w K mg base CX0 7 f fd ["self", "deeds"] (spMany1 K C) := by
  obtain ⟨fDo, fdDo, aDo, GDo⟩ := hDo
  refine F.ok scBookMany (fun vs H Q E h => ?_) (fun cdv A outer s H vs Q E hr6 h => ?_)
  · obtain ⟨a, pa, l, d, t, dx, fu, ps, us, k, rfl, _⟩ := h
    rfl
  · obtain ⟨a, pa, l, d, t, dx, fu, ps, us, k, rfl, hl, ha, hp, lp, fk, hf, n1, n2, h⟩ := h
    refine ⟨_,
    (pss_cons (ps_set (i := 2) scBookMany.nd rfl (.inl rfl) (pe_fld (pv 0) rfl))
    (pss_cons (ps_set (i := 3) scBookMany.nd rfl (.inl rfl) (pe_lst pa_nil))
    (pss_cons (ps_for PassesOwn.never rfl (pi_list (pv 1)) (pg_name (i := 4) scBookMany.nd rfl (.inl rfl))
      (pss_cons (ps_asg (pe_call GDo hr6 rfl aDo.gl aDo.fn.kp aDo.bd .nil pass0 (pa_cons (pv 2) (pa_cons (pv 4) pa_nil))) (pg_tup rfl (pgs_cons (pg_name (i := 2) scBookMany.nd rfl (.inl rfl)) (pgs_cons (pg_name (i := 5) scBookMany.nd rfl (.inl rfl)) pgs_nil))))
      (pss_one (ps_expr (pe_bm PySem.F.plainAttrs_list PySem.F.slot_list_append PySem.F.type_list_append mt_append (pv 3) (pa_cons (pv 5) pa_nil))))))
    (pss_cons (ps_if (pt_truth (pv 3) (by intro _; rfl))
      (pss_cons (ps_expr (pe_bm PySem.F.plainAttrs_list PySem.F.slot_list_append PySem.F.type_list_append mt_append (pe_fld (pv 0) rfl) (pa_cons (pe_fld (pv 0) rfl) pa_nil)))
      (pss_cons (ps_fld (pv 0) (pe_lst pa_nil) rfl)
      (pss_one (ps_fld (pv 0) (pv 2) rfl))))
      pss_nil)
    (pss_one (ps_ret (pv 3))))))), ?_⟩
    refine ⟨_, rfl, a, C, dx, _, _, rfl, ha, T.cl, T.nT, bf_tables, ?_⟩
    refine ⟨by decide, fun L nL => ?_⟩
    have sL : Same H (upd H L (.lst [])) := same_new nL
    have nLa : L ≠ a := (ne_of_none ha nL).symm
    have nLp : L ≠ pa := (ne_of_none hp nL).symm
    refine ⟨_, rfl, l, rfl, ⟨_, SqL.of (sL _ _ hl)⟩, ?_⟩
    refine for_list (xs := [V.ref d]) (fun i σ H' => (i = 0 ∧ σ = [some (.ref a), some (.ref l), some (.ref t), some (.ref L), none, none] ∧ H' = upd H L (.lst [])) ∨ (i = 1 ∧ ∃ (dd : Addr) (ans : V) (n : Nat) (f : Tbs), σ = [some (.ref a), some (.ref l), some (.ref dd), some (.ref L), some (.ref d), some ans] ∧ Same H H' ∧ H' L = some (.lst [ans]) ∧ TsAt H' dd n f ∧
      ∀ L' H3, OnlyB a pa H H3 → H3 L' = some (.lst [ans]) → BookAt C H3 a pa (k + 1) 0 n f → Q (.ref L') H3)) (.inl ⟨rfl, rfl, rfl⟩) ?_ ?_ ?_
    · rintro i σ H' _ (⟨_, _, rfl⟩ | ⟨_, dd, ans, n, f, _, s1, _⟩)
      · exact SqL.of (sL _ _ hl)
      · exact SqL.of (s1 _ _ hl)
    · rintro i x σ H' hx (⟨rfl, rfl, rfl⟩ | ⟨rfl, _⟩)
      · have ex : V.ref d = x := by injection hx
        subst ex
        refine ⟨_, rfl, _, rfl, done_up (E' := E0) sL h fun v H1 s1 ⟨p, dd, ans, n, f, ev, hp1, ts, kk⟩ => ?_⟩
        subst ev
        have hL1 := s1 _ _ (show upd H L (.lst []) L = some (.lst []) from upd_same)
        refine ⟨p, _, rfl, SqT.of hp1, rfl, _, _, rfl, _, _, rfl, rfl, ?_⟩
        refine ⟨_, rfl, .inl ⟨rfl, _, SqL.of hL1⟩, _, rfl, L, [], ans, rfl, rfl, hL1, by decide, ?_⟩
        refine .inr ⟨rfl, dd, ans, n, f, rfl, fun x o e => ?_, upd_same, ts.moved fun x o td e => ?_, kk⟩
        · rw [upd_ne (ne_of_none e nL)]
          exact s1 _ _ (sL _ _ e)
        · rw [upd_ne (fun q => by rw [q, hL1] at e; rcases td with ⟨xs, rfl⟩ | ⟨kvs, rfl⟩ <;> cases e)]
          exact e
      · cases hx
    · rintro σ H2 (⟨e, _⟩ | ⟨_, dd, ans, n, f, rfl, s2, hL2, ts, kk⟩)
      · cases e
      refine ⟨_, rfl, true, .inl ⟨[ans], SqL.of hL2, rfl⟩, iteT ?_⟩
      have ha2 := s2 _ _ ha
      have hp2 := s2 _ _ hp
      refine ⟨_, rfl, a, C, dx, _, _, rfl, ha2, T.cl, T.nP, bf_past, .inl ⟨rfl, _, SqL.of hp2⟩, _, rfl, a, C, dx, _, _, rfl, ha2, T.cl, T.nT, bf_tables, pa, ps, .ref t, rfl, rfl, hp2, by rw [lp]; exact Nat.lt_trans fk (by decide), ?_⟩
      have ha3 : (upd H2 pa (.lst (ps ++ [.ref t]))) a = some (.ins C dx (bf (.ref t) (.ref pa) (.ref fu))) := (upd_ne n1).trans ha2
      refine ⟨by decide, fun u2 nu => ?_⟩
      have nau : a ≠ u2 := ne_of_none ha3 nu
      have npu : pa ≠ u2 := ne_of_none (show (upd H2 pa (.lst (ps ++ [.ref t]))) pa = _ from upd_same) nu
      refine ⟨_, rfl, a, C, dx, _, rfl, (upd_ne nau).trans ha3, T.cl, T.nF, by show 3 < 1000; decide, ?_⟩
      rw [bf_setF]
      refine ⟨_, rfl, _, rfl, a, C, dx, _, rfl, upd_same, T.cl, T.nT, by show 3 < 1000; decide, ?_⟩
      rw [bf_setT]
      have keep : ∀ x o, x ≠ a → x ≠ pa → H2 x = some o → (upd (upd (upd (upd H2 pa (.lst (ps ++ [.ref t]))) u2 (.lst [])) a (.ins C dx (bf (.ref t) (.ref pa) (.ref u2)))) a (.ins C dx (bf (.ref dd) (.ref pa) (.ref u2)))) x = some o := fun x o m1 m2 e => by
        have e3 : (upd H2 pa (.lst (ps ++ [.ref t]))) x = some o := (upd_ne m2).trans e
        rw [upd_ne m1, upd_ne m1, upd_ne (ne_of_none e3 nu)]
        exact e3
      refine ⟨_, rfl, kk L _ (fun x o m1 m2 e => keep x o m1 m2 (s2 _ _ e)) (keep _ _ nLa nLp hL2) ⟨dx, dd, u2, ps ++ [.ref t], [], upd_same, ?_, by rw [List.length_append, lp]; rfl, ?_, rfl, ts.moved fun x o td e => keep x o ?_ ?_ e, n1, npu.symm⟩⟩
      · rw [upd_ne n1.symm, upd_ne n1.symm, upd_ne npu]
        exact upd_same
      · rw [upd_ne nau.symm, upd_ne nau.symm]
        exact upd_same
      · intro q
        rw [q, ha2] at e
        rcases td with ⟨xs, rfl⟩ | ⟨kvs, rfl⟩ <;> cases e
      · intro q
        rw [q, hp2] at e
        rcases td with ⟨xs, rfl⟩ | ⟨kvs, rfl⟩ <;> cases e
end
end VQ
namespace VQ
open PySem L2 LamX
/-! ### a book: do, make, fill -/
section
variable {P : Program} {w : World} {K : PySem.W.Frag} {mg : Str → Option Value} {base : Heap} {C fMa fDo : Addr} {fdMa fdDo : FuncData}
theorem OnlyB.back {a pa : Addr} {H H1 H2 : Hp} (s : Same H H1) (g : OnlyB a pa H1 H2) : OnlyB a pa H H2 := fun x o n1 n2 e => g x o n1 n2 (s x o e)
theorem bno {t p u : V} {m : Str} (n1 : ¬ m = "tables") (n2 : ¬ m = "past") (n3 : ¬ m = "future") : (bf t p u).lookup m = none := by
  have e : bf t p u = putF "future" u (putF "past" p (putF "tables" t [])) := bf_init.symm
  rw [e, lookup_putF, if_neg n3, lookup_putF, if_neg n2, lookup_putF, if_neg n1]
  rfl
/-- do(deed) -/
def spDo1 (K : PySem.W.Frag) (C : Addr) : Sp := fun vs H Q _ => ∃ (a pa d t dx fu : Addr) (ps us : List V) (k : Nat), vs = [.ref a, .ref d] ∧ H a = some (.ins C dx (bf (.ref t) (.ref pa) (.ref fu))) ∧ H pa = some (.lst ps) ∧ ps.length = k ∧ k < 1000 ∧ H fu = some (.lst us) ∧ a ≠ pa ∧ fu ≠ pa ∧
  spDone K [.ref t, .ref d] H (fun v H1 => ∃ (p dd : Addr) (ans : V) (n : Nat) (f : Tbs), v = .ref p ∧ H1 p = some (.tup [.ref dd, ans]) ∧ TsAt H1 dd n f ∧ ∀ H3, OnlyB a pa H H3 → BookAt C H3 a pa (k + 1) 0 n f → Q ans H3) E0
theorem ok_do {f : Addr} {fd : FuncData} (F : Fun K "do" "Book.do" sBookDo f fd) (T : BCls K C) (mMa : Meth K C "many" fMa) (bMa : Binds K fdMa ["self", "deeds"] []) (GbMa : FnOk P w K mg base CX0 7 fMa fdMa ["self", "deeds"] (spMany1 K C)) : FnOk P w K mg base CX0 8 f fd ["self", "deed"] (spDo1 K C) := by
  refine F.ok scBookDo (fun vs H Q E h => ?_) (fun cdv A outer s H vs Q E hr7 h => ?_)
  · obtain ⟨a, pa, d, t, dx, fu, ps, us, k, rfl, _⟩ := h
    rfl
  · obtain ⟨a, pa, d, t, dx, fu, ps, us, k, rfl, ha, hp, lp, fk, hf, n1, n2, h⟩ := h
    refine ⟨_,
    (pss_one (ps_ret (pe_ix ix_list (pe_meth (pv 0) T.cl mMa GbMa hr7 bMa .nil pass0 (pa_cons (pe_lst (pa_cons (pv 1) pa_nil)) pa_nil)) pe_int fun _ _ => rfl))), ?_⟩
    refine ⟨_, rfl, a, dx, _, rfl, ha, bno (by decide +kernel) (by decide +kernel) (by decide +kernel), _, rfl, by show 1 ≤ sizeLine; decide, fun l nl => ?_⟩
    have sl : Same H (upd H l (.lst [.ref d])) := same_new nl
    refine ⟨a, pa, l, d, t, dx, fu, ps, us, k, rfl, upd_same, sl _ _ ha, sl _ _ hp, lp, fk, sl _ _ hf, n1, n2, done_up (E' := E0) sl h fun v H1 s1 ⟨p, dd, ans, n, f, ev, hp1, ts, kk⟩ => ?_⟩
    exact ⟨p, dd, ans, n, f, ev, hp1, ts, fun L H3 o3 hL bk => ⟨L, [ans], 0, ans, rfl, rfl, SqL.of hL, rfl, kk H3 (o3.back sl) bk⟩⟩
def spBMake (C : Addr) : Sp := fun vs H Q _ => ∃ (a pa : Addr) (k j n : Nat) (f : Tbs) (nm : Str) (wd : Nat), vs = [.ref a, .str nm, .int (wd : Int)] ∧ BookAt C H a pa k j n f ∧ k < 1000 ∧ f nm = none ∧ n < 8 ∧ NameS 8 nm ∧ 1 ≤ wd ∧ wd ≤ 4 ∧ ∀ H', OnlyB a pa H H' → BookAt C H' a pa (k + 1) 0 (n + 1) (fset f nm (wd, [])) → Q .non H'
theorem ok_bmake {f : Addr} {fd : FuncData} (F : Fun K "make" "Book.make" sBookMake f fd) (T : BCls K C) (mDo : Meth K C "do" fDo) (bDo : Binds K fdDo ["self", "deed"] []) (GbDo : FnOk P w K mg base CX0 8 fDo fdDo ["self", "deed"] (spDo1 K C)) : FnOk P w K mg base CX0 9 f fd ["self", "name", "width"] (spBMake C) := by
  refine F.ok scBookMake (fun vs H Q E h => ?_) (fun cdv A outer s H vs Q E hr8 h => ?_)
  · obtain ⟨a, pa, k, j, n, f, nm, wd, rfl, _⟩ := h
    rfl
  · obtain ⟨a, pa, k, j, n, f, nm, wd, rfl, ⟨dx, t, fu, ps, us, ha, hp, lp, hf, lj, ts, n1, n2⟩, fk, h1, h2, h3, h4, h5, q⟩ := h
    refine ⟨_,
    (pss_one (ps_ret (pe_meth (pv 0) T.cl mDo GbDo hr8 bDo .nil pass0 (pa_cons (pe_tup (pa_cons pe_str (pa_cons (pv 1) (pa_cons (pv 2) pa_nil)))) pa_nil)))), ?_⟩
    refine ⟨_, rfl, a, dx, _, rfl, ha, bno (by decide +kernel) (by decide +kernel) (by decide +kernel), _, rfl, _, rfl, by show 3 ≤ sizeLine; decide, fun d nd => ?_⟩
    have sd : Same H (upd H d (.tup [.str "make", .str nm, .int (wd : Int)])) := same_new nd
    refine ⟨a, pa, d, t, dx, fu, ps, us, k, rfl, sd _ _ ha, sd _ _ hp, lp, fk, sd _ _ hf, n1, n2, t, d, .str nm, .int (wd : Int), rfl, .inl ⟨upd_same, t, nm, wd, n, f, rfl, ts.same sd, h1, h2, h3, h4, h5, fun p dd H1 s1 hp1 ts1 => ?_⟩⟩
    exact ⟨p, dd, .non, n + 1, _, rfl, hp1, ts1, fun H3 o3 bk => q H3 (o3.back sd) bk⟩
def spBFill (C : Addr) : Sp := fun vs H Q _ => ∃ (a pa l : Addr) (k j n : Nat) (f : Tbs) (nm : Str) (us : List V) (t : Nat × List (List Nat)) (rs : List (List Nat)), vs = [.ref a, .str nm, .ref l] ∧ BookAt C H a pa k j n f ∧ k < 1000 ∧ f nm = some t ∧ n < 100 ∧ 1 ≤ t.1 ∧ t.1 ≤ 4 ∧ H l = some (.lst us) ∧ Rows H us rs ∧ (∀ r ∈ rs, RowOk t.1 r) ∧ rs.length ≤ 40 ∧ rs.Nodup ∧
  ∀ (ss : List (List Nat)) (H' : Hp), OnlyB a pa H H' → BookAt C H' a pa (k + 1) 0 n (fset f nm (t.1, ss)) → ss.Perm rs → Sorted ss → Q (.int (rs.length : Int)) H'
theorem ok_bfill {f : Addr} {fd : FuncData} (F : Fun K "fill" "Book.fill" sBookFill f fd) (T : BCls K C) (mDo : Meth K C "do" fDo) (bDo : Binds K fdDo ["self", "deed"] []) (GbDo : FnOk P w K mg base CX0 8 fDo fdDo ["self", "deed"] (spDo1 K C)) : FnOk P w K mg base CX0 9 f fd ["self", "name", "rows"] (spBFill C) := by
  refine F.ok scBookFill (fun vs H Q E h => ?_) (fun cdv A outer s H vs Q E hr8 h => ?_)
  · obtain ⟨a, pa, l, k, j, n, f, nm, us, t, rs, rfl, _⟩ := h
    rfl
  · obtain ⟨a, pa, l, k, j, n, f, nm, us0, t, rs, rfl, ⟨dx, tb, fu, ps, us, ha, hp, lp, hf, lj, ts, n1, n2⟩, fk, h1, h2, h3, h4, hl, ro, h5, h6, h7, q⟩ := h
    refine ⟨_,
    (pss_one (ps_ret (pe_meth (pv 0) T.cl mDo GbDo hr8 bDo .nil pass0 (pa_cons (pe_tup (pa_cons pe_str (pa_cons (pv 1) (pa_cons (pv 2) pa_nil)))) pa_nil)))), ?_⟩
    refine ⟨_, rfl, a, dx, _, rfl, ha, bno (by decide +kernel) (by decide +kernel) (by decide +kernel), _, rfl, _, rfl, by show 3 ≤ sizeLine; decide, fun d nd => ?_⟩
    have sd : Same H (upd H d (.tup [.str "fill", .str nm, .ref l])) := same_new nd
    refine ⟨a, pa, d, tb, dx, fu, ps, us, k, rfl, sd _ _ ha, sd _ _ hp, lp, fk, sd _ _ hf, n1, n2, tb, d, .str nm, .ref l, rfl, .inr ⟨upd_same, tb, l, us0, nm, n, f, t, rs, rfl, ts.same sd, h1, h2, h3, h4, sd _ _ hl, ro.same sd, h5, h6, h7, fun p dd ss H1 s1 hp1 ts1 pm sr => ?_⟩⟩
    exact ⟨p, dd, _, n, _, rfl, hp1, ts1, fun H3 o3 bk => q ss H3 (o3.back sd) bk pm sr⟩
end
end VQ
namespace VQ
open PySem L2 LamX
/-! ### a book made from a model -/
abbrev sLawCopied : Stmt := top 74
abbrev nLawCopied : List Str := ["_law_model", "_law_book", "_law_name"]
theorem scLawCopied : FnScope nLawCopied ["_law_model"] (defScope sLawCopied) := ⟨rfl, rfl, rfl, by decide +kernel, rfl, by decide +kernel, by decide +kernel⟩
/-- a table of a model: its width, a list of its rows -/
def ModT (H : Hp) (v : V) (wd : Nat) (rs : List (List Nat)) : Prop := ∃ t l us, v = .ref t ∧ H t = some (.tup [.int (wd : Int), .ref l]) ∧ H l = some (.lst us) ∧ Rows H us rs
theorem ModT.same {H H' : Hp} (s : Same H H') {v : V} {wd : Nat} {rs : List (List Nat)} (h : ModT H v wd rs) : ModT H' v wd rs := by
  obtain ⟨t, l, us, e, h1, h2, h3⟩ := h
  exact ⟨t, l, us, e, s _ _ h1, s _ _ h2, h3.same s⟩
abbrev Mod := List (Str × Nat × List (List Nat))
inductive ModL (H : Hp) : List (L2.Key × V) → Mod → Prop
  | nil : ModL H [] []
  | cons {nm : Str} {v : V} {wd : Nat} {rs : List (List Nat)} {kvs : List (L2.Key × V)} {M : Mod} (h : ModT H v wd rs) (t : ModL H kvs M) : ModL H ((Sum.inr nm, v) :: kvs) ((nm, wd, rs) :: M)
theorem ModL.same {H H' : Hp} (s : Same H H') : ∀ {kvs : List (L2.Key × V)} {M : Mod}, ModL H kvs M → ModL H' kvs M
  | _, _, .nil => .nil
  | _, _, .cons h t => .cons (h.same s) (t.same s)
theorem ModL.keys {H : Hp} : ∀ {kvs : List (L2.Key × V)} {M : Mod}, ModL H kvs M → kvs.map (·.1) = (M.map (·.1)).map Sum.inr
  | _, _, .nil => rfl
  | _, _, .cons h t => by rw [List.map_cons, t.keys]; rfl
theorem ModL.get {H : Hp} : ∀ {kvs : List (L2.Key × V)} {M : Mod}, ModL H kvs M → (M.map (·.1)).Nodup → ∀ {nm : Str} {wd : Nat} {rs : List (List Nat)}, (nm, wd, rs) ∈ M → ∃ v, valV kvs (Sum.inr nm) = some v ∧ ModT H v wd rs
  | _, _, .nil, _, _, _, _, m => by cases m
  | _, _, .cons (nm := n0) (v := v0) h t, nd, nm, wd, rs, m => by
    rw [List.map_cons, List.nodup_cons] at nd
    rcases List.mem_cons.mp m with e | m
    · cases e
      exact ⟨v0, valV_pos rfl, h⟩
    · obtain ⟨v, e1, e2⟩ := t.get nd.2 m
      refine ⟨v, ?_, e2⟩
      rw [valV_neg (fun e => nd.1 (by injection e with e; exact List.mem_map.mpr ⟨_, m, e.symm⟩))]
      exact e1
def ModAt (H : Hp) (m : Addr) (M : Mod) : Prop := ∃ kvs, H m = some (.dK kvs) ∧ ModL H kvs M
theorem ModAt.same {H H' : Hp} (s : Same H H') {m : Addr} {M : Mod} (h : ModAt H m M) : ModAt H' m M := by
  obtain ⟨kvs, h1, h2⟩ := h
  exact ⟨kvs, s _ _ h1, h2.same s⟩
structure ModOk (M : Mod) : Prop where
  nd : (M.map (·.1)).Nodup
  few : M.length ≤ 8
  nm : ∀ x ∈ M, NameS 8 x.1
  wd : ∀ x ∈ M, 1 ≤ x.2.1 ∧ x.2.1 ≤ 4
  row : ∀ x ∈ M, ∀ r ∈ x.2.2, RowOk x.2.1 r
  len : ∀ x ∈ M, x.2.2.length ≤ 40
  one : ∀ x ∈ M, x.2.2.Nodup
/-- the tables of these names, as the model has them -/
def Told (M : Mod) (zs : List Str) (f : Tbs) : Prop := ∀ nm, (nm ∈ zs → ∃ wd rs ss, (nm, wd, rs) ∈ M ∧ f nm = some (wd, ss) ∧ ss.Perm rs ∧ Sorted ss) ∧ (nm ∉ zs → f nm = none)
theorem take_one_more {α : Type} {xs : List α} {i : Nat} {x : α} (h : xs[i]? = some x) : xs.take (i + 1) = xs.take i ++ [x] := by
  rw [List.take_add_one, h]
  rfl
theorem not_before {α : Type} {xs : List α} (nd : xs.Nodup) {i : Nat} {x : α} (h : xs[i]? = some x) : x ∉ xs.take i := by
  have e : xs.take (i + 1) = xs.take i ++ [x] := take_one_more h
  have n2 : (xs.take i ++ [x]).Nodup := by
    rw [← e]
    exact nd.sublist (List.take_sublist _ _)
  intro m
  rw [List.nodup_append] at n2
  exact n2.2.2 x m x List.mem_cons_self rfl
theorem Told.more {M : Mod} {zs : List Str} {f : Tbs} {nm : Str} {wd : Nat} {rs ss : List (List Nat)} (h : Told M zs f) (m : (nm, wd, rs) ∈ M) (pm : ss.Perm rs) (sr : Sorted ss) : Told M (zs ++ [nm]) (fset (fset f nm (wd, [])) nm (wd, ss)) := by
  intro z
  unfold fset
  by_cases c : z = nm
  · refine ⟨fun _ => ⟨wd, rs, ss, by rw [c]; exact m, if_pos c, pm, sr⟩, fun no => absurd (List.mem_append.mpr (.inr (by rw [c]; exact List.mem_cons_self))) no⟩
  · rw [if_neg c, if_neg c]
    refine ⟨fun mz => (h z).1 ?_, fun no => (h z).2 fun mz => no (List.mem_append.mpr (.inl mz))⟩
    rcases List.mem_append.mp mz with mz | mz
    · exact mz
    · exact absurd (List.mem_singleton.mp mz) c
section
variable {P : Program} {w : World} {K : PySem.W.Frag} {mg : Str → Option Value} {base : Heap} {C fIn fMk fFi : Addr} {fdIn fdMk fdFi : FuncData}
def spCopied (C : Addr) : Sp := fun vs H Q _ => ∃ (m : Addr) (M : Mod), vs = [.ref m] ∧ ModAt H m M ∧ ModOk M ∧ ∀ (bk pa : Addr) (f : Tbs) (H' : Hp), H bk = none → H pa = none → Same H H' → BookAt C H' bk pa (2 * M.length) 0 M.length f → Told M (M.map (·.1)) f → Q (.ref bk) H'
theorem has_copied (b : Blt mg) (so : mg "sorted" = none) (T : BCls K C) (Mb : Mk K C fIn) (gBk : mg "Book" = some (.ref C)) (bIn : Binds K fdIn ["self"] []) (GbIn : FnOk P w K mg base CX0 1 fIn fdIn ["self"] (spBInit C))
    (mMk : Meth K C "make" fMk) (bMk : Binds K fdMk ["self", "name", "width"] []) (GbMk : FnOk P w K mg base CX0 9 fMk fdMk ["self", "name", "width"] (spBMake C))
    (mFi : Meth K C "fill" fFi) (bFi : Binds K fdFi ["self", "name", "rows"] []) (GbFi : FnOk P w K mg base CX0 9 fFi fdFi ["self", "name", "rows"] (spBFill C)) (a : AtE K mg "_law_copied" sLawCopied ["_law_model"]) : Has P w K mg base CX0 10 "_law_copied" sLawCopied ["_law_model"] (spCopied C) := by
  obtain ⟨f, fd, a⟩ := a
  refine ⟨f, fd, a, a.fn.ok scLawCopied (fun vs H Q E h => ?_) (fun cdv A outer s H vs Q E hr9 h => ?_)⟩
  · obtain ⟨m, M, rfl, _⟩ := h
    rfl
  · obtain ⟨m, M, rfl, ⟨kvs, hm, ml⟩, ok, q⟩ := h
    have hr2 := hr9.mono (show 2 ≤ 9 by decide)
    have hu1 : (A.deeper (PyProof.Rows.envOfC "_law_copied" (defScope sLawCopied) s.heap.objs.size f cdv)).units + 1 < cLine := by
      have := hr9.units
      omega
    refine ⟨_,
    (pss_cons (ps_set (i := 1) scLawCopied.nd rfl (.inl rfl) (pe_make0 Mb GbIn hr2 rfl gBk bIn .nil pass0))
    (pss_cons (ps_for PassesOwn.never rfl (pi_list (pe_callB (call_sortedD rfl) (by rfl) so (by decide +kernel) (pa_cons (pv 0) pa_nil))) (pg_name (i := 2) scLawCopied.nd rfl (.inl rfl))
      (pss_cons (ps_expr (pe_meth (pv 1) T.cl mMk GbMk hr9 bMk .nil pass0 (pa_cons (pv 2) (pa_cons (pe_ix ix_tup (pe_dget hu1 (pv 0) (pv 2) fun _ _ => rfl) pe_int fun _ _ => rfl) pa_nil))))
      (pss_one (ps_expr (pe_meth (pv 1) T.cl mFi GbFi hr9 bFi .nil pass0 (pa_cons (pv 2) (pa_cons (pe_ix ix_tup (pe_dget hu1 (pv 0) (pv 2) fun _ _ => rfl) pe_int fun _ _ => rfl) pa_nil)))))))
    (pss_one (ps_ret (pv 1))))), ?_⟩
    intro bk dx nb ndx nxb
    refine ⟨bk, dx, rfl, upd_same, fun pa H1 keep npa bk1 => ⟨rfl, ?_⟩⟩
    have npb : pa ≠ bk := fun e => by rw [e, upd_same] at npa; cases npa
    have npd : pa ≠ dx := fun e => by rw [e, upd_ne nxb, upd_same] at npa; cases npa
    have npH : H pa = none := by
      rw [upd_ne npb, upd_ne npd] at npa
      exact npa
    have s1 : Same H H1 := fun y o e => keep y o (ne_of_none e nb) (by rw [upd_ne (ne_of_none e nb), upd_ne (ne_of_none e ndx)]; exact e)
    refine ⟨_, rfl, m, kvs, M.map (·.1), rfl, .inl (s1 _ _ hm), ml.keys, by rw [List.length_map]; have := ok.few; omega, fun ys p pm _ np => ⟨p, rfl, ⟨_, SqL.of upd_same⟩, ?_⟩⟩
    have sp : Same H1 (upd H1 p (.lst (ys.map V.str))) := same_new np
    have hp0 : upd H1 p (.lst (ys.map V.str)) p = some (.lst (ys.map V.str)) := upd_same
    have bk2 := bk1.same sp
    have npk : p ≠ bk ∧ p ≠ pa := by
      obtain ⟨_, _, _, _, _, e1, e2, _⟩ := bk1
      exact ⟨(ne_of_none e1 np).symm, (ne_of_none e2 np).symm⟩
    have s2 : Same H (upd H1 p (.lst (ys.map V.str))) := s1.trans sp
    generalize upd H1 p (.lst (ys.map V.str)) = Hs at sp hp0 bk2 s2
    have ndy : ys.Nodup := pm.nodup_iff.mpr ok.nd
    have ly : ys.length = M.length := by rw [pm.length_eq, List.length_map]
    have few := ok.few
    have sH : ∀ {H' : Hp}, OnlyB bk pa Hs H' → Same H H' := fun o x ob e => o x ob (ne_of_none e nb) (ne_of_none e npH) (s2 _ _ e)
    refine for_list (xs := ys.map V.str) (fun i σ H' => (∃ x2, σ = [some (.ref m), some (.ref bk), x2]) ∧ ∃ f, OnlyB bk pa Hs H' ∧ BookAt C H' bk pa (2 * i) 0 i f ∧ Told M (ys.take i) f) ⟨⟨none, rfl⟩, _, OnlyB.of (Same.refl _), bk2, fun nm => ⟨fun h => (by cases h), fun _ => rfl⟩⟩ ?_ ?_ ?_
    · rintro i σ H' _ ⟨_, f, o, _⟩
      exact SqL.of (o _ _ npk.1 npk.2 hp0)
    · rintro i x σ H' hx ⟨⟨x2, rfl⟩, f, o, bki, told⟩
      obtain ⟨nm, hn, rfl⟩ := getF hx
      have mn : nm ∈ M.map (·.1) := pm.mem_iff.mp (List.mem_of_getElem? hn)
      obtain ⟨⟨nm', wd, rs⟩, mM, e0⟩ := List.mem_map.mp mn
      have e0' : nm' = nm := e0
      subst e0'
      have li : i < M.length := by
        rw [← ly]
        exact (List.getElem?_eq_some_iff.mp hn).1
      obtain ⟨v, ev, mt⟩ := ml.get ok.nd mM
      have hwd := ok.wd _ mM
      have hsame := sH o
      obtain ⟨t, l, us, rfl, ht, hl, ro⟩ := mt
      have dg : ∀ {H2 : Hp}, Same H H2 → DGet H2 m (.str nm') (some (.ref t)) := fun s3 => .inl ⟨kvs, Sum.inr nm', .inl (s3 _ _ hm), rfl, ev.symm⟩
      have bki' := bki
      obtain ⟨dx', _, _, _, _, hb', _⟩ := bki'
      refine ⟨_, rfl, bk, dx', _, rfl, hb', bno (by decide +kernel) (by decide +kernel) (by decide +kernel), _, rfl, _, rfl, _, rfl, m, _, rfl, dg hsame, t, _, 0, _, rfl, rfl, SqT.of (hsame _ _ ht), rfl, ?_⟩
      refine ⟨bk, pa, 2 * i, 0, i, f, nm', wd, rfl, bki, by omega, (told nm').2 (not_before ndy hn), by omega, ok.nm _ mM, hwd.1, hwd.2, fun H2 o2 b2 => ?_⟩
      have same2 := sH (o.trans o2)
      have b2' := b2
      obtain ⟨dx2, _, _, _, _, hb2, _⟩ := b2'
      refine ⟨_, rfl, bk, dx2, _, rfl, hb2, bno (by decide +kernel) (by decide +kernel) (by decide +kernel), _, rfl, _, rfl, _, rfl, m, _, rfl, dg same2, t, _, 1, _, rfl, rfl, SqT.of (same2 _ _ ht), rfl, ?_⟩
      refine ⟨bk, pa, l, 2 * i + 1, 0, i + 1, _, nm', us, (wd, []), rs, rfl, b2, by omega, if_pos rfl, by omega, hwd.1, hwd.2, same2 _ _ hl, ro.same same2, ok.row _ mM, ok.len _ mM, ok.one _ mM, fun ss H3 o3 b3 pm3 sr => ?_⟩
      refine ⟨⟨_, rfl⟩, _, o.trans (o2.trans o3), b3, ?_⟩
      rw [take_one_more hn]
      exact told.more mM pm3 sr
    · rintro σ H' ⟨⟨x2, rfl⟩, f, o, bki, told⟩
      rw [List.length_map, ly] at bki
      rw [List.length_map, List.take_length] at told
      refine ⟨_, rfl, q bk pa f H' nb npH (sH o) bki fun nm => ?_⟩
      exact ⟨fun h => (told nm).1 (pm.mem_iff.mpr h), fun no => (told nm).2 fun h => no (pm.mem_iff.mp h)⟩
end
end VQ
namespace VQ
open PySem L2 LamX
/-! ### own_worths -/
abbrev sOwnWorths : Stmt := top 59
abbrev nOwnWorths : List Str := ["terms", "row", "worths", "term", "worth", "wanted"]
theorem scOwnWorths : FnScope nOwnWorths ["terms", "row"] (defScope sOwnWorths) := ⟨rfl, rfl, rfl, by decide +kernel, rfl, by decide +kernel, by decide +kernel⟩
abbrev Asg := Str → Option Nat
def stepF (g : Asg) : Term × Nat → Option Asg
  | (.wo m, r) => if m = r then some g else none
  | (.nm z, r) => match g z with
    | some v => if v = r then some g else none
    | none => some fun y => if y = z then some r else g y
def ownF (ts : List Term) (row : List Nat) : Option Asg := (ts.zip row).foldlM stepF fun _ => none
def WorthsAt (H : Hp) (d : Addr) (g : Asg) : Prop := ∃ kvs : List (L2.Key × V), H d = some (.dK kvs) ∧ ∀ z : Str, valV kvs (Sum.inr z) = (g z).map numV
def WorthsV (H : Hp) (o : Option Asg) (v : V) : Prop := match o with
  | none => v = .non
  | some g => ∃ d, v = .ref d ∧ WorthsAt H d g
theorem fold_none {α β : Type} {f : β → α → Option β} {b : β} {xs : List α} {i : Nat} (h : (xs.take i).foldlM f b = none) : xs.foldlM f b = none := by
  rw [← List.take_append_drop i xs, List.foldlM_append, h]
  rfl
theorem fold_next {α β : Type} {f : β → α → Option β} {b g : β} {xs : List α} {i : Nat} {x : α} (hx : xs[i]? = some x) (h : (xs.take i).foldlM f b = some g) : (xs.take (i + 1)).foldlM f b = f g x := by
  rw [take_one_more hx, List.foldlM_append, h]
  show ([x].foldlM f g) = _
  rw [List.foldlM_cons]
  cases f g x <;> rfl
theorem ite_no {c : Bool} {A B : Prop} (e : c = false) (h : B) : if c = true then A else B := by
  rw [if_neg (by rw [e]; exact Bool.false_ne_true)]
  exact h
theorem ite_yes {c : Bool} {A B : Prop} (e : c = true) (h : A) : if c = true then A else B := by
  rw [if_pos e]
  exact h
theorem num_eq {m n : Nat} (e : m = n) : (!decide (numV m = numV n)) = false := by
  rw [e, decide_eq_true rfl]
  rfl
theorem num_ne {m n : Nat} (e : ¬ m = n) : (!decide (numV m = numV n)) = true := by
  rw [decide_eq_false (fun h => e (by injection h with h; exact Int.ofNat.inj h))]
  rfl
section
variable {P : Program} {w : World} {K : PySem.W.Frag} {mg : Str → Option Value} {base : Heap}
def spOwnW (K : PySem.W.Frag) : Sp := fun vs H Q _ => ∃ (a r : Addr) (ts : List Term) (row : List Nat), vs = [.ref a, .ref r] ∧ TupN H a (ts.map termV) ∧ H r = some (.tup (row.map numV)) ∧ ts.length = row.length ∧ ts.length ≤ 100 ∧ ∀ (v : V) (H' : Hp), Same H H' → WorthsV H' (ownF ts row) v → Q v H'
theorem has_ownw (b : Blt mg) (zp : mg "zip" = none) (a : AtE K mg "own_worths" sOwnWorths ["terms", "row"]) : Has P w K mg base CX0 1 "own_worths" sOwnWorths ["terms", "row"] (spOwnW K) := by
  obtain ⟨f, fd, a⟩ := a
  refine ⟨f, fd, a, a.fn.ok scOwnWorths (fun vs H Q E h => ?_) (fun cdv A outer s H vs Q E hr0 h => ?_)⟩
  · obtain ⟨a, r, ts, row, rfl, _⟩ := h
    rfl
  · obtain ⟨a, r, ts, row, rfl, ha, hr, len, few, q⟩ := h
    refine ⟨_,
    (pss_cons (ps_set (i := 2) scOwnWorths.nd rfl (.inl rfl) pe_dnewK)
    (pss_cons (ps_for PassesOwn.never rfl (RZ.pi_zipA rfl zp (pa_cons (pv 0) (pa_cons (pv 1) pa_nil))) (pg_tup rfl (pgs_cons (pg_name (i := 3) scOwnWorths.nd rfl (.inl rfl)) (pgs_cons (pg_name (i := 4) scOwnWorths.nd rfl (.inl rfl)) pgs_nil)))
      (pss_cons (ps_set (i := 5) scOwnWorths.nd rfl (.inl rfl) (pe_ifExp (pt_val (pe_isi (pv 3) rfl b.isi rfl b.str (c := "str") (by decide +kernel))) (pe_dsetd (pv 2) (pv 3) (pv 4) ⟨rfl, rfl, rfl, rfl⟩) (pv 3)))
      (pss_one (ps_if (pt_cmpR op_ne (pv 5) (pv 4) (nomark _))
        (pss_one (ps_ret pe_non))
        pss_nil))))
    (pss_one (ps_ret (pv 2))))), ?_⟩
    intro d nd
    have sd : Same H (upd H d (.dK [])) := same_new nd
    refine ⟨_, rfl, _, rfl, a, r, _, _, rfl, .inr ⟨(ha.same sd).sq, SqT.of (sd _ _ hr), ?_⟩⟩
    refine RZ.for_zipT (xs := ts.map termV) (ys := row.map numV) (by rw [List.length_map, List.length_map, len]) (fun i σ H' => (∃ x3 x4 x5, σ = [some (.ref a), some (.ref r), some (.ref d), x3, x4, x5]) ∧ Same H H' ∧ ∃ g kvs, ((ts.zip row).take i).foldlM stepF (fun _ => none) = some g ∧ H' d = some (.dK kvs) ∧ kvs.length ≤ i ∧ ∀ z : Str, valV kvs (Sum.inr z) = (g z).map numV)
      ⟨⟨_, _, _, rfl⟩, sd, _, [], rfl, upd_same, Nat.le_refl _, fun z => rfl⟩ ?_ ?_ ?_
    · rintro i σ H' ⟨_, s1, _⟩
      exact ⟨(ha.same s1).sq, SqT.of (s1 _ _ hr)⟩
    · rintro i x y T σ H' hx hy ⟨⟨x3, x4, x5, rfl⟩, s1, g, kvs, hg, hd, lk, all⟩ nT
      have sT : Same H' (upd H' T (.tup [x, y])) := same_new nT
      obtain ⟨t, ht, rfl⟩ := getF hx
      obtain ⟨n, hn, rfl⟩ := getF hy
      have hz : (ts.zip row)[i]? = some (t, n) := by
        rw [List.getElem?_zip_eq_some]
        exact ⟨ht, hn⟩
      have nx := fold_next hz hg
      have li : i < ts.length := (List.getElem?_eq_some_iff.mp ht).1
      refine ⟨T, _, rfl, SqT.of upd_same, rfl, _, _, rfl, _, _, rfl, rfl, ?_⟩
      have hd2 := sT _ _ hd
      have s2 := s1.trans sT
      generalize upd H' T (.tup [termV t, numV n]) = H2 at sT hd2 s2
      cases t with
      | wo m =>
        refine rd_isi rfl (.base (.int _)) (b := false) (by decide +kernel) ⟨_, rfl, iteF ⟨_, rfl, ?_⟩⟩
        refine ⟨_, rfl, _, rfl, rfl, _, rfl, ?_⟩
        by_cases c : m = n
        · exact ite_no (num_eq c) ⟨⟨_, _, _, rfl⟩, s2, g, kvs, by rw [nx]; exact if_pos c, hd2, by omega, all⟩
        · exact ite_yes (num_ne c) (q .non H2 s2 (by rw [show ownF ts row = none from fold_none (i := i + 1) (nx.trans (if_neg c))]; rfl))
      | nm z =>
        refine rd_isi rfl (.base (.str z)) (b := true) (by decide +kernel) ⟨_, rfl, iteT ⟨_, rfl, d, rfl, ?_, _, rfl, _, rfl, kvs, Sum.inr z, hd2, rfl, Nat.lt_of_le_of_lt lk (Nat.lt_of_lt_of_le li (Nat.le_trans few (by decide))), fun v ev => ?_, fun ev => ?_⟩⟩
        · exact .inl ⟨kvs, .inl hd2⟩
        · have az := all z
          rw [ev] at az
          cases eg : g z with
          | none =>
            rw [eg] at az
            cases az
          | some k =>
            rw [eg] at az
            injection az with az
            subst az
            have st : stepF g (.nm z, n) = if k = n then some g else none := by
              show (match g z with | some v => if v = n then some g else none | none => some fun y => if y = z then some n else g y) = _
              rw [eg]
            rw [st] at nx
            refine ⟨_, rfl, _, rfl, rfl, _, rfl, ?_⟩
            by_cases c : k = n
            · exact ite_no (num_eq c) ⟨⟨_, _, _, rfl⟩, s2, g, kvs, by rw [nx]; exact if_pos c, hd2, by omega, all⟩
            · exact ite_yes (num_ne c) (q .non H2 s2 (by rw [show ownF ts row = none from fold_none (i := i + 1) (nx.trans (if_neg c))]; rfl))
        · have az := all z
          rw [ev] at az
          have eg : g z = none := by
            cases eg : g z with
            | none => rfl
            | some k =>
              rw [eg] at az
              cases az
          have st : stepF g (.nm z, n) = some fun y => if y = z then some n else g y := by
            show (match g z with | some v => if v = n then some g else none | none => some fun y => if y = z then some n else g y) = _
            rw [eg]
          rw [st] at nx
          refine ⟨_, rfl, _, rfl, rfl, _, rfl, ?_⟩
          refine ite_no (num_eq rfl) ⟨⟨_, _, _, rfl⟩, fun x o e => ?_, _, _, nx, upd_same, by rw [putK_fresh ev]; omega, fun y => ?_⟩
          · rw [upd_ne (ne_of_none e nd)]
            exact s2 _ _ e
          · rw [valV_put]
            by_cases c : y = z
            · rw [if_pos (by rw [c]), if_pos c]
              rfl
            · rw [if_neg (fun e => c (by injection e)), if_neg c]
              exact all y
    · rintro σ H' ⟨⟨x3, x4, x5, rfl⟩, s1, g, kvs, hg, hd, lk, all⟩
      refine ⟨_, rfl, q _ H' s1 ?_⟩
      have e : ownF ts row = some g := by
        rw [List.length_map] at hg
        rw [List.take_of_length_le (by rw [List.length_zip]; omega)] at hg
        exact hg
      rw [e]
      exact ⟨d, rfl, kvs, hd, all⟩
end
end VQ
namespace VQ
open PySem L2 LamX
/-! ### need_fit, lets_by -/
abbrev sNeedFit : Stmt := top 55
abbrev nNeedFit : List Str := ["book", "question", "ties", "widths", "at", "table", "terms"]
theorem scNeedFit : FnScope nNeedFit ["book", "question"] (defScope sNeedFit) := ⟨rfl, rfl, rfl, by decide +kernel, rfl, by decide +kernel, by decide +kernel⟩
section
variable {P : Program} {w : World} {K : PySem.W.Frag} {mg : Str → Option Value} {base : Heap} {C fWi fRo : Addr} {fdWi fdRo : FuncData}
def Fits (f : Tbs) (q : Qn) : Prop := ∀ tie ∈ q.ties, ∃ t : Nat × List (List Nat), f tie.1 = some t ∧ tie.2.length = t.1
def spNeedFit (C : Addr) : Sp := fun vs H Q _ => ∃ (bk pa qa : Addr) (k j n : Nat) (f : Tbs) (q : Qn), vs = [.ref bk, .ref qa] ∧ BookAt C H bk pa k j n f ∧ n < 100 ∧ QAt H qa q ∧ QOk q ∧ Fits f q ∧ ∀ H', Same H H' → Q .non H'
theorem has_needfit (b : Blt mg) (en : mg "enumerate" = none) (T : BCls K C) (hNq : Has P w K mg base CX0 5 "need_question" sNeedQuestion ["question"] spNeedQn) (mWi : Meth K C "width" fWi) (bWi : Binds K fdWi ["self", "name"] []) (GbWi : FnOk P w K mg base CX0 2 fWi fdWi ["self", "name"] (spBWidth C)) (a : AtE K mg "need_fit" sNeedFit ["book", "question"]) : Has P w K mg base CX0 6 "need_fit" sNeedFit ["book", "question"] (spNeedFit C) := by
  obtain ⟨f, fd, a⟩ := a
  obtain ⟨fNq, fdNq, aNq, GNq⟩ := hNq
  refine ⟨f, fd, a, a.fn.ok scNeedFit (fun vs H Q E h => ?_) (fun cdv A outer s H vs Q E hr5 h => ?_)⟩
  · obtain ⟨bk, pa, qa, k, j, n, f, q, rfl, _⟩ := h
    rfl
  · obtain ⟨bk, pa, qa, k, j, n, f, q, rfl, ba, few, qq, ok, fit, kk⟩ := h
    have hr2 := hr5.mono (show 2 ≤ 5 by decide)
    refine ⟨_,
    (pss_cons (ps_expr (pe_call GNq hr5 rfl aNq.gl aNq.fn.kp aNq.bd .nil pass0 (pa_cons (pv 1) pa_nil)))
    (pss_cons (ps_set (i := 2) scNeedFit.nd rfl (.inl rfl) (pe_ix ix_tup (pv 1) pe_int fun _ _ => rfl))
    (pss_cons (ps_setLc (i := 3) (own := [("table", 5), ("terms", 6)]) (g := (gTup K 2 (gCons (gName 5) (gCons (gName 6) gNil)))) (tt := tYes) (te := (tMeth C "width" (spBWidth C) [] E0 (tVar 0) (tCons (tVar 5) tNil))) rfl scNeedFit.nd rfl rfl (sw_true rfl rfl rfl (by decide +kernel)) (pi_tup (pv 2)) (blkOk_by (N := nNeedFit) (sc := defScope sNeedFit) (by decide +kernel)) (fun _ _ _ _ _ => (pg_tup rfl (pgs_cons (pg_name (i := 5) scNeedFit.nd rfl (.inl rfl)) (pgs_cons (pg_name (i := 6) scNeedFit.nd rfl (.inl rfl)) pgs_nil)))) (fun _ _ _ _ _ => pts_nil) (fun _ _ _ _ _ => (pe_meth (pv 0) T.cl mWi GbWi hr2 bWi .nil pass0 (pa_cons (pv 5) pa_nil))))
    (pss_one (ps_for PassesOwn.never rfl (pi_enumT rfl en (pa_cons (pv 2) pa_nil)) (pg_tup rfl (pgs_cons (pg_name (i := 4) scNeedFit.nd rfl (.inl rfl)) (pgs_cons (pg_tup rfl (pgs_cons (pg_name (i := 5) scNeedFit.nd rfl (.inl rfl)) (pgs_cons (pg_name (i := 6) scNeedFit.nd rfl (.inl rfl)) pgs_nil))) pgs_nil)))
      (pss_one (ps_if (pt_cmpR op_ne (pe_callB call_len_seq (by rfl) b.len PySem.boot_len (pa_cons (pv 6) pa_nil)) (pe_ix ix_list (pv 3) (pv 4) fun _ _ => rfl) (nomark _))
        (pss_one ps_never)
        pss_nil))))))), ?_⟩
    refine ⟨_, rfl, qa, q, rfl, qq, ok, fun H1 s1 => ?_⟩
    obtain ⟨an, at', al, hqa, hq⟩ := qq.moved (same_tups s1)
    obtain ⟨ts, hts, ets⟩ := hq.ti
    refine ⟨_, rfl, qa, _, 2, _, rfl, rfl, SqT.of hqa, rfl, ?_⟩
    refine ⟨_, rfl, at', rfl, ⟨_, SqT.of hts⟩, fun D hD => ?_⟩
    have lts : ts.length = q.ties.length := ets.len
    refine lc_tupS (xs := ts) (fun i acc _ => acc = (q.ties.take i).map (fun t => numV t.2.length)) hD (SqT.of hts) (by rw [lts]; have := ok.t6; omega) (fun _ _ _ _ _ h => h) rfl ?_ ?_
    · rintro i x acc H2 hx s2 h2 rfl k1 k2 y1 y2
      obtain ⟨tie, et, a1, c1, rfl, ha1, hc1⟩ := ets.get hx
      obtain ⟨t, hft, hw⟩ := fit tie (List.mem_of_getElem? et)
      have b2 := ba.same (s1.trans s2)
      have b3 := b2
      obtain ⟨dx, _, _, _, _, hb, _⟩ := b3
      refine ⟨a1, _, rfl, SqT.of (s2 _ _ ha1), rfl, _, _, rfl, _, _, rfl, rfl, rfl, yes_turn ?_⟩
      refine ⟨_, rfl, bk, dx, _, rfl, hb, bno (by decide +kernel) (by decide +kernel) (by decide +kernel), _, rfl, ?_⟩
      refine ⟨bk, pa, k, j, n, f, tie.1, t, rfl, b2, few, hft, y1 _ _ (Same.refl _) ?_⟩
      rw [take_one_more et, List.map_append, ← hw]
      rfl
    · rintro acc H2 s2 h2 rfl
      refine ⟨_, rfl, at', ts, rfl, SqT.of (s2 _ _ hts), ?_⟩
      have e0 : (q.ties.take ts.length) = q.ties := by rw [lts, List.take_length]
      rw [e0] at h2
      refine for_enumT (xs := ts) (fun i σ H' => (∃ x4 x5 x6, σ = [some (.ref bk), some (.ref qa), some (.ref at'), some (.ref D), x4, x5, x6]) ∧ Same H2 H') ⟨⟨_, _, _, rfl⟩, Same.refl _⟩ ?_ ?_ ?_
      · rintro i σ H' ⟨_, s3⟩
        exact SqT.of (s3 _ _ (s2 _ _ hts))
      · rintro i x T' σ H' hx ⟨⟨x4, x5, x6, rfl⟩, s3⟩ nT
        have sT : Same H' (upd H' T' (.tup [.int (i : Nat), x])) := same_new nT
        obtain ⟨tie, et, a1, c1, rfl, ha1, hc1⟩ := ets.get hx
        have s4 := s3.trans sT
        have s5 := s2.trans s4
        refine ⟨T', _, rfl, SqT.of upd_same, rfl, _, _, rfl, _, _, rfl, ?_⟩
        refine ⟨a1, _, rfl, SqT.of (s5 _ _ ha1), rfl, _, _, rfl, _, _, rfl, rfl, rfl, ?_⟩
        refine ⟨_, rfl, c1, _, rfl, .inr ((hc1.same s5).sq), _, rfl, _, rfl, D, _, _, _, rfl, rfl, SqL.of (s4 _ _ h2), atI_nat (by rw [List.getElem?_map, et]; rfl), rfl, _, rfl, ?_⟩
        exact ite_no (c := !decide (V.int (((tie.2.map termV).length : Nat) : Int) = numV tie.2.length)) (by rw [List.length_map]; exact num_eq rfl) ⟨⟨_, _, _, rfl⟩, s4⟩
      · rintro σ H' ⟨⟨x4, x5, x6, rfl⟩, s3⟩
        exact kk H' (s1.trans (s2.trans s3))
end
end VQ
namespace VQ
open PySem L2 LamX
/-! ### what own_worths gives, in numbers -/
theorem step_keeps {g g' : Asg} {p : Term × Nat} (h : stepF g p = some g') (z : Str) (hz : (g z).isSome = true) : (g' z).isSome = true := by
  obtain ⟨t, r⟩ := p
  cases t with
  | wo m =>
    have e : (if m = r then some g else none) = some g' := h
    split at e
    · cases e
      exact hz
    · cases e
  | nm y =>
    have e : (match g y with | some v => if v = r then some g else none | none => some fun x => if x = y then some r else g x) = some g' := h
    split at e
    · split at e
      · cases e
        exact hz
      · cases e
    · cases e
      show (if z = y then some r else g z).isSome = true
      split
      · rfl
      · exact hz
theorem step_has {g g' : Asg} {z : Str} {r : Nat} (h : stepF g (.nm z, r) = some g') : (g' z).isSome = true := by
  have e : (match g z with | some v => if v = r then some g else none | none => some fun x => if x = z then some r else g x) = some g' := h
  split at e
  · rename_i v ev
    split at e
    · cases e
      rw [ev]
      rfl
    · cases e
  · cases e
    show (if z = z then some r else g z).isSome = true
    rw [if_pos rfl]
    rfl
theorem step_bd {g g' : Asg} {p : Term × Nat} (h : stepF g p = some g') (hp : p.2 < 32) (hg : ∀ z v, g z = some v → v < 32) : ∀ z v, g' z = some v → v < 32 := by
  obtain ⟨t, r⟩ := p
  cases t with
  | wo m =>
    have e : (if m = r then some g else none) = some g' := h
    split at e
    · cases e
      exact hg
    · cases e
  | nm y =>
    have e : (match g y with | some v => if v = r then some g else none | none => some fun x => if x = y then some r else g x) = some g' := h
    split at e
    · split at e
      · cases e
        exact hg
      · cases e
    · cases e
      intro z v ev
      have ev' : (if z = y then some r else g z) = some v := ev
      split at ev'
      · cases ev'
        exact hp
      · exact hg z v ev'
theorem fold_has : ∀ {ps : List (Term × Nat)} {g0 g : Asg}, ps.foldlM stepF g0 = some g → (∀ z, (g0 z).isSome = true → (g z).isSome = true) ∧ (∀ z r, (Term.nm z, r) ∈ ps → (g z).isSome = true) ∧ ((∀ p ∈ ps, p.2 < 32) → (∀ z v, g0 z = some v → v < 32) → ∀ z v, g z = some v → v < 32)
  | [], g0, g, h => by
    cases h
    exact ⟨fun _ h => h, fun _ _ m => (by cases m), fun _ h => h⟩
  | p :: ps, g0, g, h => by
    rw [List.foldlM_cons] at h
    cases e : stepF g0 p with
    | none =>
      rw [e] at h
      cases h
    | some g1 =>
      rw [e] at h
      obtain ⟨h1, h2, h3⟩ := fold_has (ps := ps) (g0 := g1) (g := g) h
      refine ⟨fun z hz => h1 z (step_keeps e z hz), fun z r m => ?_, fun hp hg => h3 (fun q mq => hp q (List.mem_cons_of_mem _ mq)) (step_bd e (hp p List.mem_cons_self) hg)⟩
      rcases List.mem_cons.mp m with rfl | m
      · exact h1 z (step_has e)
      · exact h2 z r m
theorem own_has {ts : List Term} {row : List Nat} {g : Asg} (len : ts.length = row.length) (h : ownF ts row = some g) {z : Str} (m : Term.nm z ∈ ts) : ∃ v, g z = some v := by
  obtain ⟨i, hi⟩ := List.mem_iff_getElem?.mp m
  have li : i < row.length := by
    rw [← len]
    exact (List.getElem?_eq_some_iff.mp hi).1
  have hz : (ts.zip row)[i]? = some (Term.nm z, row[i]) := by
    rw [List.getElem?_zip_eq_some]
    exact ⟨hi, List.getElem?_eq_getElem li⟩
  have hs := (fold_has h).2.1 z _ (List.mem_of_getElem? hz)
  cases e : g z with
  | none =>
    rw [e] at hs
    cases hs
  | some v => exact ⟨v, rfl⟩
theorem own_bd {ts : List Term} {row : List Nat} {g : Asg} (hr : ∀ n ∈ row, n < 32) (h : ownF ts row = some g) : ∀ z v, g z = some v → v < 32 :=
  (fold_has h).2.2 (fun p m => hr p.2 (List.of_mem_zip (a := p.1) (b := p.2) m).2) fun z v e => by cases e
/-- a tie without names lets by one row at most -/
theorem own_bare : ∀ {ts : List Term} {row : List Nat} {g0 g : Asg}, ts.length = row.length → (∀ z, Term.nm z ∉ ts) → (ts.zip row).foldlM stepF g0 = some g → ts = row.map Term.wo
  | [], [], _, _, _, _, _ => rfl
  | [], _ :: _, _, _, l, _, _ => by cases l
  | _ :: _, [], _, _, l, _, _ => by cases l
  | t :: ts, r :: row, g0, g, l, no, h => by
    rw [List.zip_cons_cons, List.foldlM_cons] at h
    cases t with
    | nm z => exact absurd List.mem_cons_self (no z)
    | wo m =>
      cases e : stepF g0 (.wo m, r) with
      | none =>
        rw [e] at h
        cases h
      | some g1 =>
        rw [e] at h
        have e' : (if m = r then some g0 else none) = some g1 := e
        have em : m = r := by
          split at e'
          · assumption
          · cases e'
        rw [own_bare (ts := ts) (row := row) (g0 := g1) (g := g) (by simpa using l) (fun z mz => no z (List.mem_cons_of_mem _ mz)) h, em]
        rfl
/-- what lets_by hands out, before it is sorted -/
def wor (g : Asg) (zs : List Str) : List Nat := zs.map fun z => (g z).getD 0
def letM (ts : List Term) (zs : List Str) (rows : List (List Nat)) : List (List Nat) := rows.filterMap fun r => (ownF ts r).map fun g => wor g zs
end VQ
namespace VQ
open PySem L2 LamX
/-! ### lets_by -/
abbrev sLetsBy : Stmt := top 60
abbrev nLetsBy : List Str := ["book", "question", "tie", "table", "terms", "names", "agreeing", "row", "worths", "name"]
theorem scLetsBy : FnScope nLetsBy ["book", "question", "tie"] (defScope sLetsBy) := ⟨rfl, rfl, rfl, by decide +kernel, rfl, by decide +kernel, by decide +kernel⟩
/-- tuple(xs) -/
abbrev rTupOf (K : PySem.W.Frag) : List V → Hp → VK → Prop := fun xs H Q => ∃ p ys, xs = [.ref p] ∧ ((SqL K H p ys ∧ ∀ l, H l = none → Q (.ref l) (upd H l (.tup ys))) ∨ (SqT K H p ys ∧ Q (.ref p) H))
theorem Rows.off {D : Addr} {H H' : Hp} (o : Off D H H') : ∀ {vs : List V} {rs : List (List Nat)}, Rows H vs rs → V.ref D ∉ vs → Rows H' vs rs
  | _, _, .nil, _ => .nil
  | _, _, .cons (a := a) h t, no => .cons (o _ _ (fun e => no (by rw [e]; exact List.mem_cons_self)) h) (t.off o fun m => no (List.mem_cons_of_mem _ m))
/-- what stands in agreeing -/
def AgV (D : Addr) (H : Hp) (ts : List Term) (v : V) (r : List Nat) : Prop := WorthsV H (ownF ts r) v ∧ v ≠ .ref D
theorem AgV.off {D : Addr} {H H' : Hp} (o : Off D H H') {ts : List Term} {v : V} {r : List Nat} (h : AgV D H ts v r) : AgV D H' ts v r := by
  obtain ⟨h, n⟩ := h
  refine ⟨?_, n⟩
  unfold WorthsV at h ⊢
  cases e : ownF ts r with
  | none =>
    rw [e] at h
    exact h
  | some g =>
    rw [e] at h
    obtain ⟨d, rfl, kvs, h1, h2⟩ := h
    exact ⟨d, rfl, kvs, o _ _ (fun e => n (by rw [e])) h1, h2⟩
theorem let_rows {ts : List Term} {zs : List Str} {rows : List (List Nat)} (hr : ∀ r ∈ rows, ∀ n ∈ r, n < 32) : ∀ r ∈ letM ts zs rows, RowOk zs.length r := by
  intro r m
  obtain ⟨r0, m0, e⟩ := List.mem_filterMap.mp m
  cases eo : ownF ts r0 with
  | none =>
    rw [eo] at e
    cases e
  | some g =>
    rw [eo] at e
    cases e
    refine ⟨List.length_map _, fun n mn => ?_⟩
    obtain ⟨z, _, rfl⟩ := List.mem_map.mp mn
    cases eg : g z with
    | none => decide
    | some v => exact own_bd (hr r0 m0) eo z v eg
theorem let_bare {ts : List Term} {zs : List Str} (no : ∀ z, Term.nm z ∉ ts) : ∀ {rows : List (List Nat)}, (∀ r ∈ rows, ts.length = r.length) → rows.Nodup → (letM ts zs rows).length ≤ 1
  | [], _, _ => Nat.zero_le _
  | r :: rows, len, nd => by
    rw [List.nodup_cons] at nd
    have ih := let_bare (zs := zs) no (rows := rows) (fun x m => len x (List.mem_cons_of_mem _ m)) nd.2
    cases eo : ownF ts r with
    | none =>
      have e : letM ts zs (r :: rows) = letM ts zs rows := by
        unfold letM
        rw [List.filterMap_cons, eo]
        rfl
      rw [e]
      exact ih
    | some g =>
      have e : letM ts zs (r :: rows) = wor g zs :: letM ts zs rows := by
        unfold letM
        rw [List.filterMap_cons, eo]
        rfl
      have e1 := own_bare (len r List.mem_cons_self) no eo
      have e2 : letM ts zs rows = [] := by
        unfold letM
        refine List.filterMap_eq_nil_iff.mpr fun x mx => ?_
        cases ex : ownF ts x with
        | none => rfl
        | some g2 =>
          have e3 := own_bare (len x (List.mem_cons_of_mem _ mx)) no ex
          have e4 : r = x := by
            have e5 := e1.symm.trans e3
            exact List.map_inj_right (fun a b h => by injection h) |>.mp e5
          exact absurd (by rw [e4]; exact mx) nd.1
      rw [e, e2]
      exact Nat.le_refl _
section
variable {P : Program} {w : World} {K : PySem.W.Frag} {mg : Str → Option Value} {base : Heap} {C fWi fRo : Addr} {fdWi fdRo : FuncData}
def spLetsBy (C : Addr) : Sp := fun vs H Q _ => ∃ (bk pa qa : Addr) (k j n : Nat) (f : Tbs) (q : Qn) (i : Nat) (tie : Str × List Term) (t : Nat × List (List Nat)), vs = [.ref bk, .ref qa, .int (i : Nat)] ∧ BookAt C H bk pa k j n f ∧ n < 100 ∧ QAt H qa q ∧ QOk q ∧ Fits f q ∧ q.ties[i]? = some tie ∧ f tie.1 = some t ∧ (∀ r ∈ t.2, RowOk t.1 r) ∧ t.2.Nodup ∧ t.2.length ≤ 40 ∧
  ∀ (p : Addr) (us : List V) (ss : List (List Nat)) (H' : Hp), H p = none → Same H H' → H' p = some (.lst us) → Rows H' us ss → ss.Perm (letM tie.2 (ownZ q i) t.2) → Sorted ss → Q (.ref p) H'
theorem has_letsby (b : Blt mg) (so : mg "sorted" = none) (T : BCls K C) (hNf : Has P w K mg base CX0 6 "need_fit" sNeedFit ["book", "question"] (spNeedFit C)) (hOn : Has P w K mg base CX0 6 "own_names" sOwnNames ["question", "tie"] spOwnN) (hOo : Has P w K mg base CX0 1 "own_worths" sOwnWorths ["terms", "row"] (spOwnW K))
    (mRo : Meth K C "rows" fRo) (bRo : Binds K fdRo ["self", "name"] []) (GbRo : FnOk P w K mg base CX0 2 fRo fdRo ["self", "name"] (spBRows C)) (a : AtE K mg "lets_by" sLetsBy ["book", "question", "tie"]) : Has P w K mg base CX0 7 "lets_by" sLetsBy ["book", "question", "tie"] (spLetsBy C) := by
  obtain ⟨fA, fd, a⟩ := a
  obtain ⟨fNf, fdNf, aNf, GNf⟩ := hNf
  obtain ⟨fOn, fdOn, aOn, GOn⟩ := hOn
  obtain ⟨fOo, fdOo, aOo, GOo⟩ := hOo
  refine ⟨fA, fd, a, a.fn.ok scLetsBy (fun vs H Q E h => ?_) (fun cdv A outer s H vs Q E hr6 h => ?_)⟩
  · obtain ⟨bk, pa, qa, k, j, n, f, q, i, tie, t, rfl, _⟩ := h
    rfl
  · obtain ⟨bk, pa, qa, k, j, n, f, q, i, tie, t, rfl, ba, few, qq, ok, fit, et, hft, hrow, hnd, h40, kk⟩ := h
    have hr2 := hr6.mono (show 2 ≤ 6 by decide)
    have hr1 := hr6.mono (show 1 ≤ 6 by decide)
    have hu1 : (A.deeper (PyProof.Rows.envOfC "lets_by" (defScope sLetsBy) s.heap.objs.size fA cdv)).units + 1 < cLine := by
      have := hr6.units
      omega
    refine ⟨_,
    (pss_cons (ps_expr (pe_call GNf hr6 rfl aNf.gl aNf.fn.kp aNf.bd .nil pass0 (pa_cons (pv 0) (pa_cons (pv 1) pa_nil))))
    (pss_cons (ps_asg (pe_ix ix_tup (pe_ix ix_tup (pv 1) pe_int fun _ _ => rfl) (pv 2) fun _ _ => rfl) (pg_tup rfl (pgs_cons (pg_name (i := 3) scLetsBy.nd rfl (.inl rfl)) (pgs_cons (pg_name (i := 4) scLetsBy.nd rfl (.inr rfl)) pgs_nil))))
    (pss_cons (ps_set (i := 5) scLetsBy.nd rfl (.inr rfl) (pe_call GOn hr6 rfl aOn.gl aOn.fn.kp aOn.bd .nil pass0 (pa_cons (pv 1) (pa_cons (pv 2) pa_nil))))
    (pss_cons (ps_setLc (i := 6) (own := [("row", 7)]) (g := (gName 7)) (tt := tYes) (te := (tCall (spOwnW K) [] E0 (tCons (tVar 4) (tCons (tVar 7) tNil)))) rfl scLetsBy.nd rfl rfl (sw_true rfl rfl rfl (by decide +kernel)) (pi_list (pe_meth (pv 0) T.cl mRo GbRo hr2 bRo .nil pass0 (pa_cons (pv 3) pa_nil))) (blkOk_by (N := nLetsBy) (sc := defScope sLetsBy) (by decide +kernel)) (fun _ _ _ _ _ => (pg_name (i := 7) scLetsBy.nd rfl (.inl rfl))) (fun _ _ _ _ _ => pts_nil) (fun _ _ _ _ _ => (pe_call GOo hr1 rfl aOo.gl aOo.fn.kp aOo.bd .nil pass0 (pa_cons (pv 4) (pa_cons (pv 7) pa_nil)))))
    (pss_one (ps_ret (pe_callB (cr_or cr_sortW cr_sort1) (by rfl) so (by decide +kernel) (pa_cons (pe_lc (own := [("worths", 8)]) (g := (gName 8)) (tt := (tTest (tOp rNotN1 (tVar 8) (tC .non)))) (te := (tCB (rTupOf K) (tCons (tLc (iTup K (tVar 5)) (gName 9) tYes (tDGet (tVar 8) (tVar 9)) [9]) tNil))) rfl scLetsBy.nd (pi_list (pv 6)) (blkOk_by (N := nLetsBy) (sc := defScope sLetsBy) (by decide +kernel)) (fun _ _ _ _ _ => (pg_name (i := 8) scLetsBy.nd rfl (.inr rfl))) (fun _ _ _ _ _ => pts_one (pt_cmpR op_notN (pv 8) pe_non (nomark _))) (fun _ _ _ _ _ => (pe_callTy call_tuple_of (by rfl) b.tuple (by decide +kernel) (pa_cons (pe_lc (own := [("name", 9)]) (g := (gName 9)) (tt := tYes) (te := (tDGet (tVar 8) (tVar 9))) rfl scLetsBy.nd (pi_tup (pv 5)) (blkOk_by (N := nLetsBy) (sc := ({ kind := .function, names := [(".0", .local), ("worths", .cell), ("tuple", .globalImplicit), ("names", .cell)], isGenerator := false, isCoroutine := false } : Scope)) (by decide +kernel)) (fun _ _ _ _ _ => (pg_name (i := 9) scLetsBy.nd rfl (.inl rfl))) (fun _ _ _ _ _ => pts_nil) (fun _ _ _ _ _ => (pe_dget hu1 (pv 8) (pv 9) fun _ _ => rfl))) pa_nil)))) pa_nil)))))))), ?_⟩
    refine ⟨_, rfl, _, rfl, bk, pa, qa, k, j, n, f, q, rfl, ba, few, qq, ok, fit, fun H1 s1 => ?_⟩
    have q1 := qq.moved (same_tups s1)
    have q1' := q1
    obtain ⟨an, at', al, hqa, hq⟩ := q1'
    obtain ⟨ts, hts, ets⟩ := hq.ti
    obtain ⟨v, ev, a1, c1, rfl, ha1, hc1⟩ := ets.at_ et
    have tok := ok.tt tie (List.mem_of_getElem? et)
    have lt : i < q.ties.length := (List.getElem?_eq_some_iff.mp et).1
    refine ⟨_, rfl, qa, _, _, _, rfl, rfl, SqT.of hqa, atI_nat (j := 2) rfl, ?_⟩
    refine ⟨_, rfl, at', _, _, _, rfl, rfl, SqT.of hts, atI_nat ev, ?_⟩
    refine ⟨a1, _, rfl, SqT.of ha1, rfl, _, _, rfl, _, _, rfl, rfl, ?_⟩
    refine ⟨_, rfl, _, rfl, qa, q, i, rfl, q1, ok, lt, fun pn H2 npn s2 hn => ?_⟩
    have b2 := ba.same (s1.trans s2)
    have b2' := b2
    obtain ⟨dx, _, _, _, _, hb, _⟩ := b2'
    refine ⟨_, rfl, bk, dx, _, rfl, hb, bno (by decide +kernel) (by decide +kernel) (by decide +kernel), _, rfl, bk, pa, k, j, n, f, tie.1, t, rfl, b2, few, hft, fun pr us npr ro => ⟨pr, rfl, ⟨_, SqL.of upd_same⟩, fun D hD => ?_⟩⟩
    have sr : Same H2 (upd H2 pr (.lst us)) := same_new npr
    have hpr : upd H2 pr (.lst us) pr = some (.lst us) := upd_same
    generalize upd H2 pr (.lst us) = H3 at sr hpr hD
    have ro3 := ro.same sr
    have lu : us.length = t.2.length := ro.len
    have hw : tie.2.length = t.1 := by
      obtain ⟨t', e1, e2⟩ := fit tie (List.mem_of_getElem? et)
      rw [hft] at e1
      cases e1
      exact e2
    have sH3 : Same H H3 := s1.trans (s2.trans sr)
    have hc3 := (hc1.same s2).same sr
    refine lc_listS (xs := us) (fun j acc H' => Each (AgV D H' tie.2) acc (t.2.take j)) hD (SqL.of hpr) (by omega) (fun _ _ _ _ o h => h.mono fun _ _ z => z.off o) .nil ?_ ?_
    · rintro j x acc H4 hx s4 h4 ag k1 k2 y1 y2
      obtain ⟨ar, r, rfl, er, har⟩ := ro3.get hx
      have hrk := hrow r (List.mem_of_getElem? er)
      refine ⟨rfl, yes_turn ⟨_, rfl, _, rfl, c1, ar, tie.2, r, rfl, hc3.same s4, s4 _ _ har, by rw [hw, hrk.1], by have := tok.hi; omega, fun v H5 s5 wv => y1 v H5 s5 ?_⟩⟩
      rw [take_one_more er]
      refine (ag.mono fun _ _ z => z.off (Off.of s5)).snoc ⟨wv, fun e => ?_⟩
      rw [e] at wv
      unfold WorthsV at wv
      split at wv
      · cases wv
      · obtain ⟨d, ed, kvs, hd, _⟩ := wv
        cases ed
        rw [s5 _ _ h4] at hd
        cases hd
    · rintro acc H4 s4 h4 ag
      rw [lu, List.take_length] at ag
      refine ⟨_, rfl, D, rfl, ⟨_, SqL.of h4⟩, fun D2 hD2 => ?_⟩
      have la : acc.length = t.2.length := ag.len
      have hn4 : H4 pn = some (.tup ((ownZ q i).map V.str)) := s4 _ _ (sr _ _ hn)
      have l5 : (ownZ q i).length ≤ 5 := Nat.le_trans (List.length_filter_le _ _) ok.n5
      have own : ∀ z ∈ ownZ q i, Term.nm z ∈ tie.2 := fun z mz => by
        have := (List.mem_filter.mp mz).2
        rw [List.getD_eq_getElem?_getD, et] at this
        exact of_decide_eq_true this
      refine lc_listS (xs := acc) (fun j acc2 H' => Rows H' acc2 (letM tie.2 (ownZ q i) (t.2.take j)) ∧ V.ref D2 ∉ acc2) hD2 (SqL.of h4) (by omega) (fun _ _ _ _ o h => ⟨h.1.off o h.2, h.2⟩) ⟨.nil, fun m => by cases m⟩ ?_ ?_
      · rintro j x acc2 H5 hx s5 h5 ⟨ro2, no2⟩ k1 k2 y1 y2
        obtain ⟨r, er, wv, _⟩ := ag.get hx
        have hrk := hrow r (List.mem_of_getElem? er)
        unfold WorthsV at wv
        cases eo : ownF tie.2 r with
        | none =>
          rw [eo] at wv
          subst wv
          have nxt : letM tie.2 (ownZ q i) (t.2.take (j + 1)) = letM tie.2 (ownZ q i) (t.2.take j) := by
            rw [take_one_more er]
            unfold letM
            rw [List.filterMap_append, List.filterMap_cons, eo]
            exact List.append_nil _
          exact ⟨rfl, ⟨_, rfl, rfl, _, rfl, ite_no rfl (y2 _ (Same.refl _) ⟨by rw [nxt]; exact ro2, no2⟩)⟩⟩
        | some g =>
          rw [eo] at wv
          have nxt : letM tie.2 (ownZ q i) (t.2.take (j + 1)) = letM tie.2 (ownZ q i) (t.2.take j) ++ [wor g (ownZ q i)] := by
            rw [take_one_more er]
            unfold letM
            rw [List.filterMap_append, List.filterMap_cons, eo]
            rfl
          obtain ⟨d, rfl, kvs, hd, hv⟩ := wv
          refine ⟨rfl, ⟨_, rfl, rfl, _, rfl, ite_yes rfl ?_⟩⟩
          have hn5 := s5 _ _ hn4
          have hd5 := s5 _ _ hd
          refine ⟨_, rfl, pn, rfl, ⟨_, SqT.of hn5⟩, fun D3 hD3 => ?_⟩
          refine lc_tupS (xs := (ownZ q i).map V.str) (fun m acc3 _ => acc3 = ((ownZ q i).take m).map fun z => numV ((g z).getD 0)) hD3 (SqT.of hn5) (by rw [List.length_map]; omega) (fun _ _ _ _ _ h => h) rfl ?_ ?_
          · rintro m x acc3 H6 hx6 s6 h6 rfl k3 k4 z1 z2
            obtain ⟨z, hz, rfl⟩ := map_get hx6
            obtain ⟨v, ev⟩ := own_has (by rw [hw, hrk.1]) eo (own z (List.mem_of_getElem? hz))
            have hvz := hv z
            rw [ev] at hvz
            refine ⟨rfl, yes_turn ⟨_, rfl, _, rfl, d, _, rfl, .inl ⟨kvs, Sum.inr z, .inl (s6 _ _ hd5), rfl, hvz.symm⟩, z1 _ _ (Same.refl _) ?_⟩⟩
            rw [take_one_more hz, List.map_append]
            show _ = _ ++ [numV ((g z).getD 0)]
            rw [ev]
            rfl
          · rintro acc3 H6 s6 h6 rfl
            rw [List.length_map, List.take_length] at h6
            refine ⟨D3, _, rfl, .inl ⟨SqL.of h6, fun l nl => y1 _ _ (s6.trans (same_new nl)) ?_⟩⟩
            rw [nxt]
            refine ⟨Rows.snoc ?_ (ro2.same (s6.trans (same_new nl))), fun m => ?_⟩
            · rw [upd_same]
              unfold wor
              rw [List.map_map]
              rfl
            · rcases List.mem_append.mp m with m | m
              · exact no2 m
              · have e : D2 = l := by
                  have := List.mem_singleton.mp m
                  injection this
                rw [← e, s6 _ _ h5] at nl
                cases nl
      · rintro acc2 H5 s5 h5 ⟨ro2, no2⟩
        rw [la, List.take_length] at ro2
        have sH5 : Same H H5 := sH3.trans (s4.trans s5)
        have back : ∀ p, H5 p = none → H p = none := fun p np => by
          cases e : H p with
          | none => rfl
          | some o =>
            rw [sH5 _ _ e] at np
            cases np
        by_cases c : ownZ q i = []
        · refine .inr ⟨D2, acc2, rfl, SqL.of h5, ?_, fun p np => ?_⟩
          · rw [ro2.len]
            refine let_bare (fun z mz => ?_) (fun r mr => by rw [hw, (hrow r mr).1]) hnd
            have mo : z ∈ ownZ q i := List.mem_filter.mpr ⟨tok.tm _ mz, by rw [List.getD_eq_getElem?_getD, et]; exact decide_eq_true mz⟩
            rw [c] at mo
            cases mo
          · refine kk p acc2 _ _ (back p np) (sH5.trans (same_new np)) upd_same (ro2.same (same_new np)) (List.Perm.refl _) ?_
            have l1 : (letM tie.2 (ownZ q i) t.2).length ≤ 1 := by
              refine let_bare (fun z mz => ?_) (fun r mr => by rw [hw, (hrow r mr).1]) hnd
              have mo : z ∈ ownZ q i := List.mem_filter.mpr ⟨tok.tm _ mz, by rw [List.getD_eq_getElem?_getD, et]; exact decide_eq_true mz⟩
              rw [c] at mo
              cases mo
            generalize letM tie.2 (ownZ q i) t.2 = L at l1
            match L, l1 with
            | [], _ => exact List.Pairwise.nil
            | [x], _ => exact List.pairwise_singleton _ _
        · refine .inl (sort_rowsW (wd := (ownZ q i).length) h5 ro2 (List.length_pos_iff.mpr c) (let_rows fun r mr => (hrow r mr).2) fun p ys ss np ros pm sr => kk p ys ss _ (back p np) (sH5.trans (same_new np)) upd_same (ros.same (same_new np)) pm sr)
end
end VQ
namespace VQ
open PySem L2 LamX
/-- a book that has nothing to be done again stands while the bag is drawn from -/
theorem BookAt.keep {C : Addr} {H H' : Hp} {a pa b : Addr} {k n : Nat} {f : Tbs} (B : Bag H b) (np : pa ≠ b) (s : Keep b H H') (h : BookAt C H a pa k 0 n f) : BookAt C H' a pa k 0 n f := by
  obtain ⟨dx, t, fu, ps, us, h1, h2, h3, h4, hj, h5, h6, h7⟩ := h
  obtain ⟨l, ns, i, r, x, m, nl, hb, _⟩ := B
  have na : a ≠ b := fun e => by rw [e, hb] at h1; cases h1
  have nf : fu ≠ b := fun e => by
    rw [e, hb] at h4
    cases h4
    cases hj
  refine ⟨dx, t, fu, ps, us, s.1 _ _ na h1, s.1 _ _ np h2, h3, s.1 _ _ nf h4, hj, h5.moved fun x o td e => s.1 _ _ (fun q => ?_) e, h6, h7⟩
  rw [q, hb] at e
  rcases td with ⟨xs, rfl⟩ | ⟨kvs, rfl⟩ <;> cases e
end VQ
namespace VQ
open PySem L2 LamX
/-! ### rows and terms, drawn of few worths -/
abbrev sLawFewRows : Stmt := top 78
abbrev nLawFewRows : List Str := ["_law_bag_here", "_law_few", "_law_width", "_law_most", "_law_found", "_law_k", "_law_row", "_law_at"]
theorem scLawFewRows : FnScope nLawFewRows ["_law_bag_here", "_law_few", "_law_width", "_law_most"] (defScope sLawFewRows) := ⟨rfl, rfl, rfl, by decide +kernel, rfl, by decide +kernel, by decide +kernel⟩
abbrev sLawTermsOf : Stmt := top 79
abbrev nLawTermsOf : List Str := ["_law_bag_here", "_law_names_here", "_law_few", "_law_width", "_law_found", "_law_k"]
theorem scLawTermsOf : FnScope nLawTermsOf ["_law_bag_here", "_law_names_here", "_law_few", "_law_width"] (defScope sLawTermsOf) := ⟨rfl, rfl, rfl, by decide +kernel, rfl, by decide +kernel, by decide +kernel⟩
theorem isW_of {z : Int} (h : 0 ≤ z ∧ z < 32) : IsW (.int z) := by
  obtain ⟨n, rfl⟩ := Int.eq_ofNat_of_zero_le h.1
  exact ⟨n, rfl, by omega⟩
section
variable {P : Program} {w : World} {K : PySem.W.Frag} {mg : Str → Option Value} {base : Heap}
def spFew : Sp := fun vs H Q _ => ∃ (b fw : Addr) (wd mo : Nat) (fs : List V), vs = [.ref b, .ref fw, .int (wd : Int), .int (mo : Int)] ∧ Bag H b ∧ fw ≠ b ∧ H fw = some (.lst fs) ∧ 1 ≤ fs.length ∧ fs.length < 1000 ∧ (∀ x ∈ fs, IsW x) ∧ wd ≤ 5 ∧ mo ≤ 500 ∧
  ∀ (l : Addr) (us : List V) (rs : List (List Nat)) (H' : Hp), H l = none → H' l = some (.lst us) → Rows H' us rs → rs.length ≤ mo → (∀ r ∈ rs, RowOk wd r) → rs.Nodup → Bag H' b → Keep b H H' → Q (.ref l) H'
theorem has_few (b : Blt mg) (hP : Has P w K mg base CX0 1 "_law_pull" sPull ["_law_bag_here", "_law_size"] spPull) (hO : Has P w K mg base CX0 2 "_law_of" sOf ["_law_bag_here", "_law_some"] (spOfA K)) (hW : Has P w K mg base CX0 3 "_law_worth" sWorth ["_law_bag_here"] (spDraw fun i => 0 ≤ i ∧ i < 32))
    (a : AtE K mg "_law_few_rows" sLawFewRows ["_law_bag_here", "_law_few", "_law_width", "_law_most"]) : Has P w K mg base CX0 4 "_law_few_rows" sLawFewRows ["_law_bag_here", "_law_few", "_law_width", "_law_most"] spFew := by
  obtain ⟨f, fd, a⟩ := a
  obtain ⟨fP, fdP, aP, GP⟩ := hP
  obtain ⟨fO, fdO, aO, GO⟩ := hO
  obtain ⟨fW, fdW, aW, GW⟩ := hW
  refine ⟨f, fd, a, a.fn.ok scLawFewRows (fun vs H Q E h => ?_) (fun cdv A outer s H vs Q E hr3 h => ?_)⟩
  · obtain ⟨b, fw, wd, mo, fs, rfl, _⟩ := h
    rfl
  · obtain ⟨bg, fw, wd, mo, fs, rfl, B, nfb, hf, f1, fk, iw, w5, m5, k⟩ := h
    have hr1 : Room 1 _ := hr3.mono (by decide)
    have hr2 : Room 2 _ := hr3.mono (by decide)
    have hu65 : (A.deeper (PyProof.Rows.envOfC "_law_few_rows" (defScope sLawFewRows) s.heap.objs.size f cdv)).units + 65 < cLine := by
      have := hr3.un
      omega
    refine ⟨_,
    (pss_cons (ps_set (i := 4) scLawFewRows.nd rfl (.inl rfl) (pe_lst pa_nil))
    (pss_cons (ps_for PassesOwn.never rfl (pi_range1 rfl b.range (pa_cons (pe_call GP hr1 rfl aP.gl aP.fn.kp aP.bd .nil pass0 (pa_cons (pv 0) (pa_cons (pe_op op_add (pv 3) pe_int) pa_nil))) pa_nil)) (pg_name (i := 5) scLawFewRows.nd rfl (.inl rfl))
      (pss_cons (ps_set (i := 6) scLawFewRows.nd rfl (.inl rfl) (pe_lst pa_nil))
      (pss_cons (ps_for PassesOwn.never rfl (pi_range1 rfl b.range (pa_cons (pv 2) pa_nil)) (pg_name (i := 7) scLawFewRows.nd rfl (.inl rfl))
        (pss_one (ps_expr (pe_bm PySem.F.plainAttrs_list PySem.F.slot_list_append PySem.F.type_list_append mt_append (pv 6) (pa_cons (pe_ifExp (pt_cmpR op_gt (pe_call GP hr1 rfl aP.gl aP.fn.kp aP.bd .nil pass0 (pa_cons (pv 0) (pa_cons pe_int pa_nil))) pe_int (nomark _)) (pe_call GO hr2 rfl aO.gl aO.fn.kp aO.bd .nil pass0 (pa_cons (pv 0) (pa_cons (pv 1) pa_nil))) (pe_call GW hr3 rfl aW.gl aW.fn.kp aW.bd .nil pass0 (pa_cons (pv 0) pa_nil))) pa_nil)))))
      (pss_one (ps_if (pt_cmpR (op_notInD hu65) (pe_callTy call_tuple_of (by rfl) b.tuple (by decide +kernel) (pa_cons (pv 6) pa_nil)) (pv 4) rfl)
        (pss_one (ps_expr (pe_bm PySem.F.plainAttrs_list PySem.F.slot_list_append PySem.F.type_list_append mt_append (pv 4) (pa_cons (pe_callTy call_tuple_of (by rfl) b.tuple (by decide +kernel) (pa_cons (pv 6) pa_nil)) pa_nil))))
        pss_nil)))))
    (pss_one (ps_ret (pv 4))))), ?_⟩
    refine ⟨by show 0 ≤ sizeLine; decide, fun l nl => ?_⟩
    obtain ⟨B1, K1⟩ := Bag.put (o := .lst []) B nl (Keep.refl bg H) B
    have lb : l ≠ bg := B.ne nl
    refine ⟨_, rfl, _, rfl, _, _, rfl, rfl, bg, _, rfl, B1, by omega, by omega, fun d H4 d0 d1 B4 K4 => ?_⟩
    obtain ⟨tn, rfl⟩ := Int.eq_ofNat_of_zero_le d0
    refine ⟨tn, rfl, by omega, by omega, for_range (lo := 0) (n := tn) (fun i σ H' => Bag H' bg ∧ Keep bg H H' ∧ ∃ (us : List V) (rs : List (List Nat)) (v5 v6 v7 : Option V), σ = [some (.ref bg), some (.ref fw), some (.int (wd : Int)), some (.int (mo : Int)), some (.ref l), v5, v6, v7] ∧ H' l = some (.lst us) ∧ Rows H' us rs ∧ rs.length ≤ i ∧ (∀ r ∈ rs, RowOk wd r) ∧ rs.Nodup)
      ⟨B4, K1.trans K4, [], [], none, none, none, rfl, K4.1 _ _ lb upd_same, .nil, Nat.le_refl _, (fun r m => by cases m), List.nodup_nil⟩ ?_ ?_⟩
    · rintro i σ H5 hi ⟨B5, K5, us, rs, v5, v6, v7, rfl, h5, ro, lr, hrs, nd⟩
      refine ⟨by show 0 ≤ sizeLine; decide, fun R nR => ?_⟩
      obtain ⟨B6, K6⟩ := Bag.put (o := .lst []) B5 nR (Keep.refl bg H5) B5
      have Rb : R ≠ bg := B5.ne nR
      refine ⟨_, rfl, wd, rfl, by omega, by omega, for_range (lo := 0) (n := wd) (fun j σ' H' => Bag H' bg ∧ Keep bg H5 H' ∧ ∃ (xs : List V) (v7 : Option V), σ' = [some (.ref bg), some (.ref fw), some (.int (wd : Int)), some (.int (mo : Int)), some (.ref l), some (.int (0 + (i : Nat))), some (.ref R), v7] ∧ xs.length = j ∧ (∀ x ∈ xs, IsW x) ∧ H' R = some (.lst xs))
        ⟨B6, K6, [], v7, rfl, rfl, (fun x m => by cases m), upd_same⟩ ?_ ?_⟩
      · rintro j σ' H7 hj ⟨B7, K7, xs, v7', rfl, lx, hx, c7⟩
        refine ⟨_, rfl, .inl ⟨rfl, _, SqL.of c7⟩, ?_⟩
        refine ⟨_, rfl, bg, _, rfl, B7, by omega, by omega, fun d H8 d0 d1 B8 K8 => ⟨_, _, rfl, rfl, _, rfl, ?_⟩⟩
        have hf8 := (K5.trans (K7.trans K8)).1 _ _ nfb hf
        have c8 := K8.1 _ _ Rb c7
        have fin : ∀ (y : V) (H9 : Hp), IsW y → Bag H9 bg → Keep bg H8 H9 → Bag (upd H9 R (.lst (xs ++ [y]))) bg ∧ Keep bg H5 (upd H9 R (.lst (xs ++ [y]))) ∧ ∀ x ∈ xs ++ [y], IsW x := fun y H9 yw B9 K9 => by
          obtain ⟨B10, K10⟩ := Bag.put (o := .lst (xs ++ [y])) B5 nR (K7.trans (K8.trans K9)) B9
          refine ⟨B10, K10, fun x m => ?_⟩
          rcases List.mem_append.mp m with m | m
          · exact hx x m
          · rw [List.mem_singleton.mp m]
            exact yw
        have lt : xs.length < sizeLine := lt_line (by omega)
        by_cases c : 0 < d
        · rw [decide_eq_true c]
          refine iteT ⟨_, rfl, _, rfl, bg, fw, fs, rfl, B8, .inl hf8, nfb, f1, fk, fun y H9 my B9 K9 => ?_⟩
          obtain ⟨B10, K10, hx'⟩ := fin y H9 (iw y my) B9 K9
          exact ⟨R, xs, _, rfl, rfl, K9.1 _ _ Rb c8, lt, B10, K10, _, _, rfl, by rw [List.length_append, lx]; rfl, hx', upd_same⟩
        · rw [decide_eq_false c]
          refine iteF ⟨_, rfl, bg, rfl, B8, fun z H9 hz B9 K9 => ?_⟩
          obtain ⟨B10, K10, hx'⟩ := fin (.int z) H9 (isW_of hz) B9 K9
          exact ⟨R, xs, _, rfl, rfl, K9.1 _ _ Rb c8, lt, B10, K10, _, _, rfl, by rw [List.length_append, lx]; rfl, hx', upd_same⟩
      · rintro σ' H7 ⟨B7, K7, xs, v7', rfl, lx, hx, c7⟩
        obtain ⟨r, rfl, hr32⟩ := worths_of hx
        rw [List.length_map] at lx
        refine ⟨_, rfl, R, _, rfl, .inl ⟨SqL.of c7, fun q nq => ?_⟩⟩
        have nq0 : H5 q = none := K7.free B5 B7 nq
        obtain ⟨B8, K8⟩ := Bag.put (o := .tup (r.map numV)) B5 nq0 K7 B7
        have h8 := K8.1 _ _ lb h5
        have ro8 := ro.keep B5 K8
        have c8 := same_new (o := HO.tup (r.map numV)) nq _ _ c7
        refine ⟨_, rfl, rowD r, rs.map rowD, .tup (SqT.of upd_same) (dp_nums _), .lst (SqL.of h8) ro8.dp, (lay_row _).shaped (by decide), (lay_rows _).shaped (by decide), _, rfl, ?_⟩
        rw [eqv_rows_any]
        by_cases e : r ∈ rs
        · rw [decide_eq_true e]
          exact iteF ⟨B8, K5.trans K8, us, rs, _, _, _, rfl, h8, ro8, by omega, hrs, nd⟩
        · rw [decide_eq_false e]
          refine iteT ⟨_, rfl, .inl ⟨rfl, _, SqL.of h8⟩, _, rfl, R, _, rfl, .inl ⟨SqL.of c8, fun q2 nq2 => ?_⟩⟩
          obtain ⟨B9, K9⟩ := Bag.put (o := .tup (r.map numV)) B5 (K8.free B5 B8 nq2) K8 B8
          have h9 := K9.1 _ _ lb h5
          have ro9 := ro.keep B5 K9
          have nl0 : H l = none := nl
          obtain ⟨B10, K10⟩ := Bag.put (o := .lst (us ++ [.ref q2])) B nl0 (K5.trans K9) B9
          have ql : q2 ≠ l := fun z => by
            rw [z, h8] at nq2
            cases nq2
          refine ⟨l, _, _, rfl, rfl, h9, by rw [ro.len]; exact lt_line (by omega), B10, K10, us ++ [.ref q2], rs ++ [r], _, _, _, rfl, upd_same, (ro9.moved (tups_lst h9).1).snoc ((upd_ne ql).trans upd_same), ?_, fun r' m => ?_, ?_⟩
          · rw [List.length_append]
            show _ + 1 ≤ _
            omega
          · rcases List.mem_append.mp m with m | m
            · exact hrs r' m
            · rw [List.mem_singleton.mp m]
              exact ⟨lx, hr32⟩
          · exact nodup_snoc nd e
    · rintro σ H5 ⟨B5, K5, us, rs, v5, v6, v7, rfl, h5, ro, lr, hrs, nd⟩
      exact ⟨_, rfl, k l us rs H5 nl h5 ro (by omega) hrs nd B5 K5⟩
/-- terms drawn of names and few worths -/
def spTermsOf (K : PySem.W.Frag) : Sp := fun vs H Q _ => ∃ (b n fw : Addr) (zs : List Str) (wd : Nat) (fs : List V), vs = [.ref b, .ref n, .ref fw, .int (wd : Int)] ∧ Bag H b ∧ NmN H n zs ∧ 1 ≤ zs.length ∧ zs.length ≤ 5 ∧ fw ≠ b ∧ H fw = some (.lst fs) ∧ 1 ≤ fs.length ∧ fs.length < 1000 ∧ (∀ x ∈ fs, IsW x) ∧ wd ≤ 4 ∧
  ∀ (p : Addr) (ts : List Term) (H' : Hp), ts.length = wd → (∀ t ∈ ts, TermOk zs t) → H p = none → TupN H' p (ts.map termV) → Bag H' b → Keep b H H' → Q (.ref p) H'
theorem has_termsof (b : Blt mg) (hP : Has P w K mg base CX0 1 "_law_pull" sPull ["_law_bag_here", "_law_size"] spPull) (hO : Has P w K mg base CX0 2 "_law_of" sOf ["_law_bag_here", "_law_some"] (spOfA K))
    (a : AtE K mg "_law_terms_of" sLawTermsOf ["_law_bag_here", "_law_names_here", "_law_few", "_law_width"]) : Has P w K mg base CX0 3 "_law_terms_of" sLawTermsOf ["_law_bag_here", "_law_names_here", "_law_few", "_law_width"] (spTermsOf K) := by
  obtain ⟨f, fd, a⟩ := a
  obtain ⟨fP, fdP, aP, GP⟩ := hP
  obtain ⟨fO, fdO, aO, GO⟩ := hO
  refine ⟨f, fd, a, a.fn.ok scLawTermsOf (fun vs H Q E h => ?_) (fun cdv A outer s H vs Q E hr2 h => ?_)⟩
  · obtain ⟨b, n, fw, zs, wd, fs, rfl, _⟩ := h
    rfl
  · obtain ⟨bg, n, fw, zs, wd, fs, rfl, B, hn, z1, z5, nfb, hf, f1, fk, iw, w4, k⟩ := h
    have hr1 : Room 1 _ := hr2.mono (by decide)
    refine ⟨_,
    (pss_cons (ps_set (i := 4) scLawTermsOf.nd rfl (.inl rfl) (pe_lst pa_nil))
    (pss_cons (ps_for PassesOwn.never rfl (pi_range1 rfl b.range (pa_cons (pv 3) pa_nil)) (pg_name (i := 5) scLawTermsOf.nd rfl (.inl rfl))
      (pss_one (ps_expr (pe_bm PySem.F.plainAttrs_list PySem.F.slot_list_append PySem.F.type_list_append mt_append (pv 4) (pa_cons (pe_ifExp (pt_cmpR op_eq (pe_call GP hr1 rfl aP.gl aP.fn.kp aP.bd .nil pass0 (pa_cons (pv 0) (pa_cons pe_int pa_nil))) pe_int (nomark _)) (pe_call GO hr2 rfl aO.gl aO.fn.kp aO.bd .nil pass0 (pa_cons (pv 0) (pa_cons (pv 2) pa_nil))) (pe_call GO hr2 rfl aO.gl aO.fn.kp aO.bd .nil pass0 (pa_cons (pv 0) (pa_cons (pv 1) pa_nil)))) pa_nil)))))
    (pss_one (ps_ret (pe_callTy call_tuple_N (by rfl) b.tuple (by decide +kernel) (pa_cons (pv 4) pa_nil)))))), ?_⟩
    refine ⟨by show 0 ≤ sizeLine; decide, fun F nF => ?_⟩
    obtain ⟨B1, K1⟩ := Bag.put (o := .lst []) B nF (Keep.refl bg H) B
    have Fb : F ≠ bg := B.ne nF
    refine ⟨_, rfl, wd, rfl, by omega, by omega, for_range (lo := 0) (n := wd) (fun i σ H' => Bag H' bg ∧ Keep bg H H' ∧ ∃ (ts : List Term) (v5 : Option V), σ = [some (.ref bg), some (.ref n), some (.ref fw), some (.int (wd : Int)), some (.ref F), v5] ∧ ts.length = i ∧ (∀ t ∈ ts, TermOk zs t) ∧ H' F = some (.lst (ts.map termV)))
      ⟨B1, K1, [], none, rfl, rfl, (fun r m => by cases m), upd_same⟩ ?_ ?_⟩
    · rintro i σ H5 hi ⟨B5, K5, ts, v5, rfl, lt, ok, h5⟩
      refine ⟨_, rfl, .inl ⟨rfl, _, SqL.of h5⟩, ?_⟩
      refine ⟨_, rfl, bg, _, rfl, B5, by omega, by omega, fun d H8 d0 d1 B8 K8 => ⟨rfl, _, rfl, ?_⟩⟩
      have h8 := K8.1 _ _ Fb h5
      have fin : ∀ (t : Term) (H9 : Hp), TermOk zs t → Bag H9 bg → Keep bg H8 H9 → ∃ (l : Addr) (xs : List V) (v : V), V.ref F = .ref l ∧ [termV t] = [v] ∧ H9 l = some (.lst xs) ∧ xs.length < sizeLine ∧ (Bag (upd H9 l (.lst (xs ++ [v]))) bg ∧ Keep bg H (upd H9 l (.lst (xs ++ [v]))) ∧ ∃ (ts : List Term) (v5' : Option V), [some (V.ref bg), some (.ref n), some (.ref fw), some (.int (wd : Int)), some (.ref F), some (.int (0 + (i : Nat)))] = [some (.ref bg), some (.ref n), some (.ref fw), some (.int (wd : Int)), some (.ref F), v5'] ∧ ts.length = i + 1 ∧ (∀ t ∈ ts, TermOk zs t) ∧ (upd H9 l (.lst (xs ++ [v]))) F = some (.lst (ts.map termV))) := fun t H9 tk B9 K9 => by
        obtain ⟨B10, K10⟩ := Bag.put (o := .lst (ts.map termV ++ [termV t])) B nF (K5.trans (K8.trans K9)) B9
        refine ⟨F, _, _, rfl, rfl, K9.1 _ _ Fb h8, by rw [List.length_map]; exact lt_line (by omega), B10, K10, ts ++ [t], _, rfl, by rw [List.length_append, lt]; rfl, fun x m => ?_, by rw [List.map_append]; exact upd_same⟩
        rcases List.mem_append.mp m with m | m
        · exact ok x m
        · rw [List.mem_singleton.mp m]
          exact tk
      by_cases c0 : d = 0
      · rw [decide_eq_true (by rw [c0])]
        refine iteT ⟨_, rfl, _, rfl, bg, fw, fs, rfl, B8, .inl ((K5.trans K8).1 _ _ nfb hf), nfb, f1, fk, fun y H9 my B9 K9 => ?_⟩
        obtain ⟨m, rfl, ml⟩ := iw y my
        exact fin (.wo m) H9 ml B9 K9
      · rw [decide_eq_false (fun q => c0 (by injection q))]
        refine iteF ⟨_, rfl, _, rfl, bg, n, _, rfl, B8, .inr (.inr (hn.keep B (K5.trans K8))), hn.ne B, by rw [List.length_map]; omega, by rw [List.length_map]; omega, fun y H9 my B9 K9 => ?_⟩
        obtain ⟨z, mz, rfl⟩ := List.mem_map.mp my
        exact fin (.nm z) H9 mz B9 K9
    · rintro σ H5 ⟨B5, K5, ts, v5, rfl, lt, ok, h5⟩
      refine ⟨_, rfl, F, _, rfl, SqL.of h5, fun l ob hl hd => ?_⟩
      have hl0 : H l = none := K5.free B B5 hl
      obtain ⟨B6, K6⟩ := Bag.put (o := .frz ob (.tup (ts.map termV))) B hl0 K5 B5
      exact k l ts _ lt ok hl0 (TupN.upd hd) B6 K6
end
end VQ
namespace VQ
open PySem L2 LamX
/-! ### a world: a book, its model, a question that fits it -/
abbrev sLawWorld : Stmt := top 80
abbrev nLawWorld : List Str := ["_law_bag_here", "_law_most_names", "_law_most_ties", "_law_most_rows", "_law_names_here", "_law_few", "_law_model", "_law_name", "_law_width", "_law_ties", "_law_k", "_law_left", "_law_some", "_law_question", "_law_table", "_law_terms"]
theorem scLawWorld : FnScope nLawWorld ["_law_bag_here", "_law_most_names", "_law_most_ties", "_law_most_rows"] (defScope sLawWorld) := ⟨rfl, rfl, rfl, by decide +kernel, rfl, by decide +kernel, by decide +kernel⟩
theorem tdpW {K : PySem.W.Frag} {H : Hp} : ∀ ts : List Term, DpAll K H (ts.map termV) (ts.map fun t => match t with | .wo n => PyData.int (n : Nat) | .nm z => PyData.str z)
  | [] => .nil
  | .wo n :: ts => .cons (.int _) (tdpW ts)
  | .nm z :: ts => .cons (.str z) (tdpW ts)
theorem let_tiny {c : Nat} (h : letB c = true) : c < 1114112 := by
  have q : ∀ c ∈ letters.cps.toList, c < 1114112 := by decide +kernel
  exact q c (of_decide_eq_true h)
theorem name_layW {m n : Nat} {z : Str} (h : NameS m z) : Lay n (.str z) := .str _ fun c mc => let_tiny (h.lt c mc)
theorem TupN.dp {K : PySem.W.Frag} {H : Hp} {c : Addr} {xs : List V} {ds : List PyData} (h : TupN H c xs) (d : DpAll K H xs ds) : Dp K H (.ref c) (.tuple ds) := .tup h.sq d
theorem dpW_ties {K : PySem.W.Frag} {H : Hp} : ∀ {us : List V} {ties : List (Str × List Term)}, Each (TieAt H) us ties → ∃ ds, DpAll K H us ds ∧ ds.length = ties.length ∧ ∀ zs, (∀ z ∈ zs, NameS 4 z) → (∀ t ∈ ties, TieOk zs t) → ∀ d ∈ ds, Lay 2 d
  | _, _, .nil => ⟨[], .nil, rfl, fun _ _ _ d m => by cases m⟩
  | _, _, .cons (x := t) ⟨a, c, e, ha, hc⟩ r => by
    obtain ⟨ds, h1, h2, h3⟩ := dpW_ties r
    subst e
    refine ⟨_ :: ds, .cons (.tup (SqT.of ha) (.cons (.str _) ((.cons (hc.dp (tdpW _)) .nil)))) h1, congrArg (· + 1) h2, fun zs nz ok d m => ?_⟩
    rcases List.mem_cons.mp m with rfl | m
    · have okt := ok t List.mem_cons_self
      refine .tuple fun d m => ?_
      rcases List.mem_cons.mp m with rfl | m
      · exact name_layW okt.nm
      · rw [List.mem_singleton.mp m]
        refine .tuple fun d m => ?_
        obtain ⟨u, mu, rfl⟩ := List.mem_map.mp m
        have oku := okt.tm u mu
        cases u with
        | wo n => exact .int _ _
        | nm z => exact name_layW (nz z oku)
    · exact h3 zs nz (fun x mx => ok x (List.mem_cons_of_mem _ mx)) d m
/-! #### the heap without some places -/
def Wo (N : List Addr) (H : Hp) : Hp := fun a => if a ∈ N then none else H a
theorem Wo.up {N N' : List Addr} {H H' : Hp} (h : ∀ a o, a ∉ N → H a = some o → a ∉ N' ∧ H' a = some o) : Same (Wo N H) (Wo N' H') := fun a o e => by
  unfold Wo at e ⊢
  by_cases m : a ∈ N
  · rw [if_pos m] at e
    cases e
  · rw [if_neg m] at e
    obtain ⟨h1, h2⟩ := h a o m e
    rw [if_neg h1]
    exact h2
theorem Wo.out {N : List Addr} {H : Hp} : Same (Wo N H) H := fun a o e => by
  unfold Wo at e
  by_cases m : a ∈ N
  · rw [if_pos m] at e
    cases e
  · rw [if_neg m] at e
    exact e
theorem wo_of {N : List Addr} {H : Hp} {a : Addr} {o : HO} (h : H a = some o) (n : a ∉ N) : Wo N H a = some o := by
  unfold Wo
  rw [if_neg n]
  exact h
theorem Rows.wo {N : List Addr} {H : Hp} (no : ∀ a ∈ N, ∀ xs, H a ≠ some (.tup xs)) {us : List V} {rs : List (List Nat)} (h : Rows H us rs) : Rows (Wo N H) us rs := h.moved fun a xs e => wo_of e fun m => no a m xs e
theorem ModL.snoc {H : Hp} {nm : Str} {v : V} {wd : Nat} {rs : List (List Nat)} (h : ModT H v wd rs) : ∀ {kvs : List (L2.Key × V)} {M : Mod}, ModL H kvs M → ModL H (kvs ++ [(Sum.inr nm, v)]) (M ++ [(nm, wd, rs)])
  | _, _, .nil => .cons h .nil
  | _, _, .cons h' t => .cons h' (t.snoc h)
theorem ModL.fresh {H : Hp} {nm : Str} : ∀ {kvs : List (L2.Key × V)} {M : Mod}, ModL H kvs M → nm ∉ M.map (·.1) → valV kvs (Sum.inr nm) = none
  | _, _, .nil, _ => rfl
  | _, _, .cons h t, n => by
    rw [valV_neg (fun e => n (by injection e with e; rw [e]; exact List.mem_cons_self))]
    exact t.fresh fun m => n (List.mem_cons_of_mem _ m)
theorem ModL.len {H : Hp} : ∀ {kvs : List (L2.Key × V)} {M : Mod}, ModL H kvs M → kvs.length = M.length
  | _, _, .nil => rfl
  | _, _, .cons h t => congrArg (· + 1) t.len
theorem ModOk.snoc {M : Mod} {nm : Str} {wd : Nat} {rs : List (List Nat)} (h : ModOk M) (no : nm ∉ M.map (·.1)) (few : M.length < 8) (n8 : NameS 8 nm) (w1 : 1 ≤ wd) (w4 : wd ≤ 4) (row : ∀ r ∈ rs, RowOk wd r) (len : rs.length ≤ 40) (one : rs.Nodup) : ModOk (M ++ [(nm, wd, rs)]) := by
  have all : ∀ {p : Str × Nat × List (List Nat) → Prop}, (∀ x ∈ M, p x) → p (nm, wd, rs) → ∀ x ∈ M ++ [(nm, wd, rs)], p x := fun h1 h2 x m => by
    rcases List.mem_append.mp m with m | m
    · exact h1 x m
    · rw [List.mem_singleton.mp m]
      exact h2
  refine ⟨?_, by rw [List.length_append]; exact few, all h.nm n8, all h.wd ⟨w1, w4⟩, all h.row row, all h.len len, all h.one one⟩
  rw [List.map_append]
  exact nodup_snoc h.nd no
theorem name_of8 {z : Str} (h : (1 ≤ z.length ∧ z.length ≤ 8) ∧ z ≠ "find" ∧ z ≠ "some" ∧ ∀ c ∈ z.cps.toList, letB c = true) : NameS 8 z := ⟨h.1.1, h.1.2, h.2.1, h.2.2.1, h.2.2.2⟩
abbrev tabN : List Str := ["aa", "bb", "cc"]
abbrev leftN : List Str := ["da", "db", "dc"]
theorem tab_name : ∀ z ∈ tabN ++ leftN, NameS 8 z := fun z m => name_of8 ((by decide +kernel : ∀ z ∈ tabN ++ leftN, (1 ≤ z.length ∧ z.length ≤ 8) ∧ z ≠ "find" ∧ z ≠ "some" ∧ ∀ c ∈ z.cps.toList, letB c = true) z m)
theorem tab_nodup : (tabN ++ leftN).Nodup := by decide +kernel
theorem nodup_at {α : Type} {xs : List α} (nd : xs.Nodup) {i : Nat} {x : α} (h : xs[i]? = some x) : x ∉ xs.take i := not_before nd h
theorem tab_more : ∀ i, i < 3 → (tabN ++ leftN)[3 + i]? = leftN[i]? ∧ (tabN ++ leftN).take (3 + i) = tabN ++ leftN.take i
  | 0, _ => ⟨rfl, rfl⟩
  | 1, _ => ⟨rfl, rfl⟩
  | 2, _ => ⟨rfl, rfl⟩
  | i + 3, h => absurd h (by omega)
theorem rg_two : ∀ k, k ≤ 5 → RgC 0 (k : Nat) 2 ((k + 1) / 2)
  | 0, _ => ⟨by decide, by decide, by decide, by decide⟩
  | 1, _ => ⟨by decide, by decide, by decide, by decide⟩
  | 2, _ => ⟨by decide, by decide, by decide, by decide⟩
  | 3, _ => ⟨by decide, by decide, by decide, by decide⟩
  | 4, _ => ⟨by decide, by decide, by decide, by decide⟩
  | 5, _ => ⟨by decide, by decide, by decide, by decide⟩
  | k + 6, h => absurd h (by omega)
theorem cut_two (xs : List V) {a : Nat} (h : a ≤ xs.length) : cutV xs (some (a : Int)) (some ((a : Int) + 2)) = (xs.drop a).take 2 := by
  unfold cutV
  rw [show ((a : Int) + 2) = ((a + 2 : Nat) : Int) by omega, HT.sIx_nat, HT.sIx_nat, Nat.min_eq_left h]
  by_cases c : a + 2 ≤ xs.length
  · rw [Nat.min_eq_left c]
    congr 1
    omega
  · rw [Nat.min_eq_right (by omega), List.take_of_length_le (by rw [List.length_drop]; omega), List.take_of_length_le (by rw [List.length_drop]; omega)]
/-- a table more in a model -/
theorem mod_put {N : List Addr} {bg m l t : Addr} {z : Str} {wd : Nat} {rs : List (List Nat)} {us : List V} {kvs : List (L2.Key × V)} {M : Mod} {H7 H8 H9 : Hp} (bN : bg ∈ N) (mN : m ∈ N) (mb : m ≠ bg) (noT : ∀ a ∈ N, a ≠ bg → ∃ o, H7 a = some o ∧ ∀ xs, o ≠ .tup xs) (ml : ModL (Wo N H7) kvs M) (m7 : H7 m = some (.dK kvs))
    (k78 : Keep bg H7 H8) (B8 : Bag H8 bg) (nl : H8 l = none) (k9 : Keep bg H8 H9) (B9 : Bag H9 bg) (hl : H9 l = some (.lst us)) (ro : Rows H9 us rs) (nt : H9 t = none) (zM : z ∉ M.map (·.1)) :
    ModL (Wo N (upd (upd H9 t (.tup [.int (wd : Int), .ref l])) m (.dK (putK kvs (Sum.inr z) (.ref t))))) (putK kvs (Sum.inr z) (.ref t)) (M ++ [(z, wd, rs)]) := by
  have k79 := k78.trans k9
  have lN : l ∉ N := fun mem => by
    by_cases e : l = bg
    · exact B8.ne nl e
    · obtain ⟨o, ho, _⟩ := noT l mem e
      rw [k78.1 _ _ e ho] at nl
      cases nl
  have tN : t ∉ N := fun mem => by
    by_cases e : t = bg
    · exact B9.ne nt e
    · obtain ⟨o, ho, _⟩ := noT t mem e
      rw [k79.1 _ _ e ho] at nt
      cases nt
  have tm : t ≠ m := fun e => tN (by rw [e]; exact mN)
  have lm : l ≠ m := fun e => lN (by rw [e]; exact mN)
  have m9 := k79.1 _ _ mb m7
  have tn : ∀ a o, H9 a = some o → a ≠ t := fun a o e => ne_of_none e nt
  have up : ∀ a o, a ≠ m → H9 a = some o → (upd (upd H9 t (.tup [.int (wd : Int), .ref l])) m (.dK (putK kvs (Sum.inr z) (.ref t)))) a = some o := fun a o n e => (upd_ne n).trans ((upd_ne (tn a o e)).trans e)
  rw [putK_new _ (ml.fresh zM)] at up ⊢
  refine ModL.snoc ⟨t, l, us, rfl, wo_of ((upd_ne tm).trans upd_same) tN, wo_of (up _ _ lm hl) lN, Rows.wo (fun a mem xs e => ?_) (ro.moved fun a xs e => up _ _ (fun q => by rw [q, m9] at e; cases e) e)⟩ (ml.same (Wo.up fun a o n e => ⟨n, up _ _ (fun q => n (by rw [q]; exact mN)) (k79.1 _ _ (fun q => n (by rw [q]; exact bN)) e)⟩))
  by_cases eb : a = bg
  · obtain ⟨l0, ns, i, r, x, c, _, hb, _⟩ := B9
    rw [eb, up _ _ (Ne.symm mb) hb] at e
    cases e
  · obtain ⟨o, ho, no⟩ := noT a mem eb
    by_cases em : a = m
    · rw [em, upd_same] at e
      cases e
    · rw [up _ _ em (k79.1 _ _ eb ho)] at e
      injection e with e
      exact no xs e
/-- each tie's table has the tie's width -/
def FitsM (M : Mod) (ts : List (Str × List Term)) : Prop := ∀ t ∈ ts, ∃ rs, (t.1, t.2.length, rs) ∈ M
section
variable {P : Program} {w : World} {K : PySem.W.Frag} {mg : Str → Option Value} {base : Heap} {C : Addr}
def spWorld (C : Addr) : Sp := fun vs H Q _ => ∃ (b : Addr) (mn mt mr : Nat), vs = [.ref b, .int (mn : Int), .int (mt : Int), .int (mr : Int)] ∧ Bag H b ∧ 1 ≤ mn ∧ mn ≤ 5 ∧ mt + (mn + 1) / 2 ≤ 6 ∧ mr ≤ 40 ∧
  ∀ (p bk pa m qa : Addr) (M : Mod) (f : Tbs) (q : Qn) (H' : Hp), H' p = some (.tup [.ref bk, .ref m, .ref qa]) → BookAt C H' bk pa (2 * M.length) 0 M.length f → pa ≠ b → ModAt H' m M → ModOk M → Told M (M.map (·.1)) f → QAt H' qa q → QOk q → FitsM M q.ties → q.names.length ≤ mn → q.ties.length ≤ mt + (mn + 1) / 2 → (∀ x ∈ M, x.2.2.length ≤ mr) → Bag H' b → Keep b H H' → Q (.ref p) H'
/-- what the drawing of a world asks -/
structure WDefs (P : Program) (w : World) (K : PySem.W.Frag) (mg : Str → Option Value) (base : Heap) (C : Addr) : Prop where
  g : GDefs P w K mg base
  any : mg "any" = none
  pr : Has P w K mg base CX0 2 "_law_pairs" sLawPairs ["_law_bag_here", "_law_names_here", "_law_most"] spPairs
  un : Has P w K mg base CX0 4 "_law_unlike_names" sLawUnlikeNames ["_law_bag_here", "_law_many"] spUnlike
  fr : Has P w K mg base CX0 4 "_law_few_rows" sLawFewRows ["_law_bag_here", "_law_few", "_law_width", "_law_most"] spFew
  tf : Has P w K mg base CX0 3 "_law_terms_of" sLawTermsOf ["_law_bag_here", "_law_names_here", "_law_few", "_law_width"] (spTermsOf K)
  cp : Has P w K mg base CX0 10 "_law_copied" sLawCopied ["_law_model"] (spCopied C)
theorem has_world (D : WDefs P w K mg base C) (a : AtE K mg "_law_world" sLawWorld ["_law_bag_here", "_law_most_names", "_law_most_ties", "_law_most_rows"]) : Has P w K mg base CX0 11 "_law_world" sLawWorld ["_law_bag_here", "_law_most_names", "_law_most_ties", "_law_most_rows"] (spWorld C) := by
  obtain ⟨f, fd, a⟩ := a
  obtain ⟨⟨b, ⟨fP, fdP, aP, GP⟩, ⟨fO, fdO, aO, GO⟩, ⟨fMx, fdMx, aMx, GMx⟩, ⟨fW, fdW, aW, GW⟩, ⟨fPo, fdPo, aPo, GPo⟩⟩, any, ⟨fPr, fdPr, aPr, GPr⟩, ⟨fUn, fdUn, aUn, GUn⟩, ⟨fFr, fdFr, aFr, GFr⟩, ⟨fTf, fdTf, aTf, GTf⟩, ⟨fCp, fdCp, aCp, GCp⟩⟩ := D
  refine ⟨f, fd, a, a.fn.ok scLawWorld (fun vs H Q E h => ?_) (fun cdv A outer s H vs Q E hr10 h => ?_)⟩
  · obtain ⟨b, mn, mt, mr, rfl, _⟩ := h
    rfl
  · obtain ⟨bg, mn, mt, mr, rfl, B, n1, n5, t6, r40, k⟩ := h
    have hr1 : Room 1 _ := hr10.mono (by decide)
    have hr2 : Room 2 _ := hr10.mono (by decide)
    have hr3 : Room 3 _ := hr10.mono (by decide)
    have hr4 : Room 4 _ := hr10.mono (by decide)
    have hu : (A.deeper (PyProof.Rows.envOfC "_law_world" (defScope sLawWorld) s.heap.objs.size f cdv)).units + 64 < cLine := hr10.units
    have hu1 : (A.deeper (PyProof.Rows.envOfC "_law_world" (defScope sLawWorld) s.heap.objs.size f cdv)).units + 1 < cLine := by omega
    refine ⟨_,
    (pss_cons (ps_set (i := 4) scLawWorld.nd rfl (.inl rfl) (pe_call GUn hr4 rfl aUn.gl aUn.fn.kp aUn.bd .nil pass0 (pa_cons (pv 0) (pa_cons (pe_op op_add pe_int (pe_call GP hr1 rfl aP.gl aP.fn.kp aP.bd .nil pass0 (pa_cons (pv 0) (pa_cons (pv 1) pa_nil)))) pa_nil))))
    (pss_cons (ps_setLc (i := 5) (own := [("_law_k", 10)]) (g := (gName 10)) (tt := tYes) (te := (tCall (spDraw fun i => 0 ≤ i ∧ i < 32) [] E0 (tCons (tVar 0) tNil))) rfl scLawWorld.nd rfl rfl (sw_true rfl rfl rfl (by decide +kernel)) (pi_range1 rfl b.range (pa_cons (pe_op op_add pe_int (pe_call GP hr1 rfl aP.gl aP.fn.kp aP.bd .nil pass0 (pa_cons (pv 0) (pa_cons pe_int pa_nil)))) pa_nil)) (blkOk_by (N := nLawWorld) (sc := defScope sLawWorld) (by decide +kernel)) (fun _ _ _ _ _ => (pg_name (i := 10) scLawWorld.nd rfl (.inl rfl))) (fun _ _ _ _ _ => pts_nil) (fun _ _ _ _ _ => (pe_call GW hr3 rfl aW.gl aW.fn.kp aW.bd .nil pass0 (pa_cons (pv 0) pa_nil))))
    (pss_cons (ps_set (i := 6) scLawWorld.nd rfl (.inl rfl) pe_dnewK)
    (pss_cons (ps_for PassesOwn.never rfl (pi_tup (pe_tup (pa_cons pe_str (pa_cons pe_str (pa_cons pe_str pa_nil))))) (pg_name (i := 7) scLawWorld.nd rfl (.inl rfl))
      (pss_cons (ps_set (i := 8) scLawWorld.nd rfl (.inl rfl) (pe_call GO hr2 rfl aO.gl aO.fn.kp aO.bd .nil pass0 (pa_cons (pv 0) (pa_cons (pe_lst (pa_cons pe_int (pa_cons pe_int (pa_cons pe_int (pa_cons pe_int (pa_cons pe_int pa_nil)))))) pa_nil))))
      (pss_one (ps_dput hu1 (pv 6) (pv 7) (pe_tup (pa_cons (pv 8) (pa_cons (pe_call GFr hr4 rfl aFr.gl aFr.fn.kp aFr.bd .nil pass0 (pa_cons (pv 0) (pa_cons (pv 5) (pa_cons (pv 8) (pa_cons (pv 3) pa_nil))))) pa_nil))) rfl))))
    (pss_cons (ps_set (i := 9) scLawWorld.nd rfl (.inr rfl) (pe_lst pa_nil))
    (pss_cons (ps_for PassesOwn.never rfl (pi_range1 rfl b.range (pa_cons (pe_call GP hr1 rfl aP.gl aP.fn.kp aP.bd .nil pass0 (pa_cons (pv 0) (pa_cons (pe_op op_add (pv 2) pe_int) pa_nil))) pa_nil)) (pg_name (i := 10) scLawWorld.nd rfl (.inl rfl))
      (pss_cons (ps_set (i := 7) scLawWorld.nd rfl (.inl rfl) (pe_call GO hr2 rfl aO.gl aO.fn.kp aO.bd .nil pass0 (pa_cons (pv 0) (pa_cons (pe_lst (pa_cons pe_str (pa_cons pe_str (pa_cons pe_str pa_nil)))) pa_nil))))
      (pss_one (ps_expr (pe_bm PySem.F.plainAttrs_list PySem.F.slot_list_append PySem.F.type_list_append mt_append (pv 9) (pa_cons (pe_tup (pa_cons (pv 7) (pa_cons (pe_call GTf hr3 rfl aTf.gl aTf.fn.kp aTf.bd .nil pass0 (pa_cons (pv 0) (pa_cons (pv 4) (pa_cons (pv 5) (pa_cons (pe_ix ix_tup (pe_dget hu1 (pv 6) (pv 7) fun _ _ => rfl) pe_int fun _ _ => rfl) pa_nil))))) pa_nil))) pa_nil))))))
    (pss_cons (ps_setLc (i := 11) (own := [("_law_name", 7)]) (g := (gName 7)) (tt := (tNot (tTest (tCB (rAny K) (tCons (tLc (iList K (tVar 9)) (gTup K 2 (gCons (gName 14) (gCons (gName 15) gNil))) tYes (tOp (rIn K false) (tVar 7) (tVar 15)) [14, 15]) tNil))))) (te := (tVar 7)) rfl scLawWorld.nd rfl rfl (sw_true rfl rfl rfl (by decide +kernel)) (pi_tup (pv 4)) (blkOk_by (N := nLawWorld) (sc := defScope sLawWorld) (by decide +kernel)) (fun _ _ _ _ _ => (pg_name (i := 7) scLawWorld.nd rfl (.inr rfl))) (fun _ _ _ _ _ => pts_one (pt_not (pt_val (pe_callB (cr_any rfl) (by rfl) any (by decide +kernel) (pa_cons (pe_lc (own := [("_law_table", 14), ("_law_terms", 15)]) (g := (gTup K 2 (gCons (gName 14) (gCons (gName 15) gNil)))) (tt := tYes) (te := (tOp (rIn K false) (tVar 7) (tVar 15))) rfl scLawWorld.nd (pi_list (pv 9)) (blkOk_by (N := nLawWorld) (sc := ({ kind := .function, names := [(".0", .local), ("_law_name", .cell), ("any", .globalImplicit), ("_law_ties", .cell)], isGenerator := false, isCoroutine := false } : Scope)) (by decide +kernel)) (fun _ _ _ _ _ => (pg_tup rfl (pgs_cons (pg_name (i := 14) scLawWorld.nd rfl (.inl rfl)) (pgs_cons (pg_name (i := 15) scLawWorld.nd rfl (.inl rfl)) pgs_nil)))) (fun _ _ _ _ _ => pts_nil) (fun _ _ _ _ _ => (pe_cmpR op_in_seq (pv 7) (pv 15) rfl))) pa_nil))))) (fun _ _ _ _ _ => (pv 7)))
    (pss_cons (ps_for PassesOwn.never rfl (pi_range3 rfl b.range (pa_cons pe_int (pa_cons (pe_callB call_len_seq (by rfl) b.len PySem.boot_len (pa_cons (pv 11) pa_nil)) (pa_cons pe_int pa_nil)))) (pg_name (i := 10) scLawWorld.nd rfl (.inl rfl))
      (pss_cons (ps_set (i := 7) scLawWorld.nd rfl (.inl rfl) (pe_ix ix_list (pe_lst (pa_cons pe_str (pa_cons pe_str (pa_cons pe_str pa_nil)))) (pe_op op_fdiv (pv 10) pe_int) fun _ _ => rfl))
      (pss_cons (ps_set (i := 12) scLawWorld.nd rfl (.inl rfl) (pe_callTy call_tuple_N (by rfl) b.tuple (by decide +kernel) (pa_cons (pe_slice sl_list (pv 11) (po_some (pv 10)) (po_some (pe_op op_add (pv 10) pe_int))) pa_nil)))
      (pss_cons (ps_dput hu1 (pv 6) (pv 7) (pe_tup (pa_cons (pe_callB call_len_seq (by rfl) b.len PySem.boot_len (pa_cons (pv 12) pa_nil)) (pa_cons (pe_call GFr hr4 rfl aFr.gl aFr.fn.kp aFr.bd .nil pass0 (pa_cons (pv 0) (pa_cons (pv 5) (pa_cons (pe_callB call_len_seq (by rfl) b.len PySem.boot_len (pa_cons (pv 12) pa_nil)) (pa_cons (pv 3) pa_nil))))) pa_nil))) rfl)
      (pss_one (ps_expr (pe_bm PySem.F.plainAttrs_list PySem.F.slot_list_append PySem.F.type_list_append mt_append (pv 9) (pa_cons (pe_tup (pa_cons (pv 7) (pa_cons (pv 12) pa_nil))) pa_nil))))))))
    (pss_cons (ps_if (pt_cmpR (op_eqD hu) (pv 9) (pe_lst pa_nil) (nomark _))
      (pss_one (ps_expr (pe_bm PySem.F.plainAttrs_list PySem.F.slot_list_append PySem.F.type_list_append mt_append (pv 9) (pa_cons (pe_tup (pa_cons pe_str (pa_cons (pe_op op_times (pe_tup (pa_cons (pe_ix ix_tup (pv 4) pe_int fun _ _ => rfl) pa_nil)) (pe_ix ix_tup (pe_dget hu1 (pv 6) pe_str fun _ _ => rfl) pe_int fun _ _ => rfl)) pa_nil))) pa_nil))))
      pss_nil)
    (pss_cons (ps_set (i := 13) scLawWorld.nd rfl (.inl rfl) (pe_tup (pa_cons (pv 4) (pa_cons (pe_op op_add pe_int (pe_call GP hr1 rfl aP.gl aP.fn.kp aP.bd .nil pass0 (pa_cons (pv 0) (pa_cons (pe_callB call_len_seq (by rfl) b.len PySem.boot_len (pa_cons (pv 4) pa_nil)) pa_nil)))) (pa_cons (pe_callTy call_tuple_of (by rfl) b.tuple (by decide +kernel) (pa_cons (pe_call GMx hr2 rfl aMx.gl aMx.fn.kp aMx.bd .nil pass0 (pa_cons (pv 0) (pa_cons (pv 9) pa_nil))) pa_nil)) (pa_cons (pe_call GPr hr2 rfl aPr.gl aPr.fn.kp aPr.bd .nil pass0 (pa_cons (pv 0) (pa_cons (pv 4) (pa_cons pe_int pa_nil)))) pa_nil))))))
    (pss_one (ps_ret (pe_tup (pa_cons (pe_call GCp hr10 rfl aCp.gl aCp.fn.kp aCp.bd .nil pass0 (pa_cons (pv 6) pa_nil)) (pa_cons (pv 6) (pa_cons (pv 13) pa_nil)))))))))))))))), ?_⟩
    refine ⟨_, rfl, _, rfl, _, rfl, bg, _, rfl, B, by omega, by omega, fun u H1 u0 u1 B1 k1 => ?_⟩
    obtain ⟨un, rfl⟩ := Int.eq_ofNat_of_zero_le u0
    refine ⟨_, _, rfl, rfl, bg, 1 + un, by show [V.ref bg, V.int ((1 : Int) + (un : Int))] = _; rw [show ((1 : Int) + (un : Int)) = ((1 + un : Nat) : Int) by omega], B1, by omega, by omega, fun n zs H2 z1 zm nd nz nn hn B2 k2 => ?_⟩
    have lz5 : zs.length ≤ 5 := by omega
    have lzm : zs.length ≤ mn := by omega
    have K2 := k1.trans k2
    refine ⟨_, rfl, bg, _, rfl, B2, by omega, by omega, fun v H3 v0 v1 B3 k3 => ?_⟩
    obtain ⟨vn, rfl⟩ := Int.eq_ofNat_of_zero_le v0
    refine ⟨_, _, rfl, rfl, _, rfl, by omega, by omega, fun D nD => ?_⟩
    rw [show (1 + (vn : Int)).toNat = 1 + vn by omega]
    have n3 := hn.keep B2 k3
    have K3 := K2.trans k3
    have Db : D ≠ bg := B3.ne nD
    obtain ⟨B4, K4⟩ := Bag.put (o := .lst []) B3 nD (Keep.refl bg H3) B3
    refine lc_range (lo := 0) (n := 1 + vn) (fun i H' => Bag H' bg ∧ Keep bg H3 H' ∧ ∃ xs : List V, xs.length = i ∧ (∀ x ∈ xs, IsW x) ∧ H' D = some (.lst xs)) ⟨B4, K4, [], rfl, (fun x m => by cases m), upd_same⟩ ?_ ?_
    · rintro i H5 hi ⟨B5, K5, xs, el, ex, h5⟩
      refine ⟨rfl, yes_turn ?_⟩
      refine ⟨_, rfl, bg, rfl, B5, fun z H6 hz B6 K6 => ?_⟩
      obtain ⟨B7, K7⟩ := Bag.put (o := .lst (xs ++ [.int z])) B3 nD (K5.trans K6) B6
      refine ⟨_, K6.1 _ _ Db h5, by rw [el]; exact lt_line (by omega), B7, K7, _, by rw [List.length_append, el]; rfl, fun x m => ?_, upd_same⟩
      rcases List.mem_append.mp m with m | m
      · exact ex x m
      · rw [List.mem_singleton.mp m]
        exact isW_of hz
    · rintro H5 ⟨B5, K5, fs, lf, iw, h5⟩
      have n5' := n3.keep B3 K5
      have K05 := K3.trans K5
      have f1 : 1 ≤ fs.length := by omega
      have fk : fs.length < 1000 := by omega
      intro m nm
      have hm0 := K05.free B B5 nm
      have mb : m ≠ bg := B5.ne nm
      have mD : m ≠ D := (ne_of_none h5 nm).symm
      obtain ⟨B6, K6⟩ := Bag.put (o := .dK []) B hm0 K05 B5
      have s6 := same_new (o := HO.dK []) nm
      have n6 := n5'.same s6
      have h6 := s6 _ _ h5
      have m6 : upd H5 m (.dK []) m = some (.dK []) := upd_same
      generalize upd H5 m (.dK []) = H6 at B6 K6 n6 h6 m6
      refine ⟨by show 3 ≤ sizeLine; decide, fun T nT => ?_⟩
      have sT := same_new (o := HO.tup [.str "aa", .str "bb", .str "cc"]) nT
      refine ⟨T, rfl, ⟨_, SqT.of upd_same⟩, ?_⟩
      refine for_tup (xs := [V.str "aa", V.str "bb", V.str "cc"]) (fun i σ H' => ∃ (v7 v8 : Option V) (kvs : List (L2.Key × V)) (M : Mod), σ = [some (.ref bg), some (.int (mn : Int)), some (.int (mt : Int)), some (.int (mr : Int)), some (.ref n), some (.ref D), some (.ref m), v7, v8, none, none, none, none, none, none, none] ∧ Bag H' bg ∧ Keep bg H H' ∧ NmN H' n zs ∧ H' D = some (.lst fs) ∧ H' T = some (.tup [.str "aa", .str "bb", .str "cc"]) ∧ H' m = some (.dK kvs) ∧ ModL (Wo [bg, m] H') kvs M ∧ ModOk M ∧ M.map (·.1) = tabN.take i ∧ ∀ x ∈ M, x.2.2.length ≤ mr)
        ⟨none, none, [], [], rfl, B6.same sT, K6.trans (Same.keep sT), n6.same sT, sT _ _ h6, upd_same, sT _ _ m6, .nil, ⟨List.nodup_nil, Nat.zero_le _, (fun x m => by cases m), (fun x m => by cases m), (fun x m => by cases m), (fun x m => by cases m), (fun x m => by cases m)⟩, rfl, (fun x m => by cases m)⟩
        (fun i σ H' _ ⟨_, _, _, _, _, _, _, _, _, z, _⟩ => SqT.of z) ?_ ?_
      · rintro i v σ H7 hv ⟨v7, v8, kvs, M, rfl, B7, K7, n7, h7, t7, m7, ml, mo, em, el⟩
        obtain ⟨z, ez, rfl⟩ := map_get (zs := tabN) (show (tabN.map V.str)[i]? = some v from hv)
        have li : i < 3 := (List.getElem?_eq_some_iff.mp ez).1
        have zM : z ∉ M.map (·.1) := by
          rw [em]
          exact nodup_at (by decide +kernel) ez
        have lM : M.length ≤ 3 := by
          have := congrArg List.length em
          rw [List.length_map, List.length_take] at this
          omega
        refine ⟨_, rfl, by show 5 ≤ sizeLine; decide, fun L nL => ?_⟩
        have sL := same_new (o := HO.lst [.int 2, .int 2, .int 1, .int 3, .int 4]) nL
        refine ⟨bg, L, _, rfl, B7.same sL, .inl upd_same, B7.ne nL, by show 1 ≤ 5; decide, by show 5 < 1000; decide, fun v H8 mv B8 k8 => ?_⟩
        obtain ⟨wd, rfl, w1, w4⟩ : ∃ wd : Nat, v = .int (wd : Int) ∧ 1 ≤ wd ∧ wd ≤ 4 := by
          simp only [List.mem_cons, List.not_mem_nil, or_false] at mv
          rcases mv with rfl | rfl | rfl | rfl | rfl
          · exact ⟨2, rfl, by decide, by decide⟩
          · exact ⟨2, rfl, by decide, by decide⟩
          · exact ⟨1, rfl, by decide, by decide⟩
          · exact ⟨3, rfl, by decide, by decide⟩
          · exact ⟨4, rfl, by decide, by decide⟩
        have k78 := (Same.keep (b := bg) sL).trans k8
        have h8 := k78.1 _ _ Db h7
        refine ⟨_, rfl, _, rfl, _, rfl, _, rfl, _, rfl, bg, D, wd, mr, fs, rfl, B8, Db, h8, f1, fk, iw, by omega, by omega, fun l us rs H9 nl hl ro lr ok nd1 B9 k9 => ?_⟩
        refine ⟨by show 2 ≤ sizeLine; decide, fun t nt => ?_⟩
        have st := same_new (o := HO.tup [.int (wd : Int), .ref l]) nt
        have k79 := k78.trans k9
        have m10 := st _ _ (k79.1 _ _ mb m7)
        have tm : t ≠ m := (ne_of_none (k79.1 _ _ mb m7) nt).symm
        obtain ⟨B11, K11⟩ := Bag.put (o := .dK (putK kvs (Sum.inr z) (.ref t))) B hm0 (K7.trans (k79.trans (Same.keep st))) (B9.same st)
        have keep : ∀ x o, x ≠ bg → x ≠ m → H7 x = some o → (upd (upd H9 t (.tup [.int (wd : Int), .ref l])) m (.dK (putK kvs (Sum.inr z) (.ref t)))) x = some o := fun x o n1 n2 e => (upd_ne n2).trans (st _ _ (k79.1 _ _ n1 e))
        have tupk : ∀ x xs, H7 x = some (.tup xs) → (upd (upd H9 t (.tup [.int (wd : Int), .ref l])) m (.dK (putK kvs (Sum.inr z) (.ref t)))) x = some (.tup xs) := fun x xs e => (upd_ne (fun q => by rw [q, m7] at e; cases e)).trans (st _ _ (k79.tup B7 e))
        have nk : ∀ {a : Addr} {zs : List Str}, NmN H7 a zs → NmN (upd (upd H9 t (.tup [.int (wd : Int), .ref l])) m (.dK (putK kvs (Sum.inr z) (.ref t)))) a zs := fun h => by
          obtain ⟨o, d, e⟩ := (NmN.keep h B7 k79).same st
          exact ⟨o, d, (upd_ne (fun q => by rw [q, m10] at e; cases e)).trans e⟩
        refine ⟨_, rfl, _, rfl, m, _, rfl, DPut.k (k := Sum.inr z) m10 (lt_line (by rw [ml.len]; omega)), _, _, _, M ++ [(z, wd, rs)], rfl, B11, K11, nk n7, keep _ _ Db mD.symm h7, tupk _ _ t7, upd_same, mod_put (by simp) (by simp) mb (fun a mem na => ?_) ml m7 k78 B8 nl k9 B9 hl ro nt zM,
          mo.snoc zM (by omega) (tab_name z (List.mem_append.mpr (.inl (List.mem_of_getElem? ez)))) w1 w4 ok (by omega) nd1, ?_, fun x mx => ?_⟩
        · rcases List.mem_cons.mp mem with rfl | mem
          · exact absurd rfl na
          · rw [List.mem_singleton.mp mem]
            exact ⟨_, m7, fun xs e => by cases e⟩
        · rw [List.map_append, em, take_one_more ez]
          rfl
        · rcases List.mem_append.mp mx with mx | mx
          · exact el x mx
          · rw [List.mem_singleton.mp mx]
            exact lr
      · rintro σ H7 ⟨v7, v8, kvs, M, rfl, B7, K7, n7, h7, t7, m7, ml, mo, em, el⟩
        have em : M.map (·.1) = tabN := em
        have lM : M.length = 3 := by
          have := congrArg List.length em
          rw [List.length_map] at this
          exact this
        refine ⟨by show 0 ≤ sizeLine; decide, fun TT nTT => ?_⟩
        have hTT0 := K7.free B B7 nTT
        have TTb : TT ≠ bg := B7.ne nTT
        have TTm : TT ≠ m := (ne_of_none m7 nTT).symm
        have TTD : TT ≠ D := (ne_of_none h7 nTT).symm
        obtain ⟨B8, K8⟩ := Bag.put (o := .lst []) B hTT0 K7 B7
        have s8 := same_new (o := HO.lst []) nTT
        refine ⟨_, rfl, _, rfl, _, _, rfl, rfl, bg, _, rfl, B8, by omega, by omega, fun d H9 d0 d1 B9 k9 => ?_⟩
        obtain ⟨dn, rfl⟩ := Int.eq_ofNat_of_zero_le d0
        have up9 : ∀ a o, a ∉ [bg, m] → H7 a = some o → a ∉ [bg, m, TT] ∧ H9 a = some o := fun a o na e => by
          have ab : a ≠ bg := fun q => na (by rw [q]; simp)
          have am : a ≠ m := fun q => na (by rw [q]; simp)
          refine ⟨fun mem => ?_, k9.1 _ _ ab (s8 _ _ e)⟩
          simp only [List.mem_cons, List.not_mem_nil, or_false] at mem
          rcases mem with q | q | q
          · exact ab q
          · exact am q
          · exact (ne_of_none e nTT) q
        refine ⟨dn, rfl, by omega, by omega, for_range (lo := 0) (n := dn) (fun i σ H' => ∃ (v7 v8 v10 : Option V), σ = [some (.ref bg), some (.int (mn : Int)), some (.int (mt : Int)), some (.int (mr : Int)), some (.ref n), some (.ref D), some (.ref m), v7, v8, some (.ref TT), v10, none, none, none, none, none] ∧ Bag H' bg ∧ Keep bg H H' ∧ NmN H' n zs ∧ H' D = some (.lst fs) ∧ H' m = some (.dK kvs) ∧ ModL (Wo [bg, m, TT] H') kvs M ∧ ∃ ts, ts.length = i ∧ TiesIn H' TT zs ts ∧ FitsM M ts)
          ⟨_, _, _, rfl, B9, K8.trans k9, (n7.same s8).keep B8 k9, k9.1 _ _ Db (s8 _ _ h7), k9.1 _ _ mb (s8 _ _ m7), ml.same (Wo.up up9), [], rfl, ⟨⟨[], k9.1 _ _ TTb upd_same, .nil⟩, fun t m => by cases m⟩, fun t m => by cases m⟩ ?_ ?_⟩
        · rintro i σ H10 hi ⟨v7, v8, v10, rfl, B10, K10, n10, h10, m10, ml10, ts, lt, ti, fm⟩
          refine ⟨_, rfl, by show 3 ≤ sizeLine; decide, fun L nL => ?_⟩
          have sL := same_new (o := HO.lst [.str "aa", .str "bb", .str "cc"]) nL
          refine ⟨bg, L, _, rfl, B10.same sL, .inl upd_same, B10.ne nL, by show 1 ≤ 3; decide, by show 3 < 1000; decide, fun v H11 mv B11 k11 => ?_⟩
          obtain ⟨z, mz, rfl⟩ := List.mem_map.mp (show v ∈ tabN.map V.str from mv)
          obtain ⟨⟨z', wd, rs⟩, mM, e0⟩ := List.mem_map.mp (show z ∈ M.map (·.1) by rw [em]; exact mz)
          have e0' : z' = z := e0
          subst e0'
          have k1011 := (Same.keep (b := bg) sL).trans k11
          obtain ⟨vs, hT10, lv⟩ := ti.few
          have hT11 := k1011.1 _ _ TTb hT10
          have upW : ∀ {H' : Hp}, (∀ a o, a ≠ bg → a ≠ TT → H10 a = some o → H' a = some o) → ModL (Wo [bg, m, TT] H') kvs M := fun g => ml10.same (Wo.up fun a o na e => ⟨na, g a o (fun q => na (by rw [q]; simp)) (fun q => na (by rw [q]; simp)) e⟩)
          obtain ⟨v, ev, mtb⟩ := (upW fun a o n1 _ e => k1011.1 _ _ n1 e).get mo.nd mM
          obtain ⟨t, l, us, rfl, ht, hl, ro⟩ := mtb
          have hwd : 1 ≤ wd ∧ wd ≤ 4 := mo.wd _ mM
          refine ⟨_, rfl, .inl ⟨rfl, _, SqL.of hT11⟩, ?_⟩
          refine ⟨_, rfl, _, rfl, _, rfl, _, rfl, _, rfl, _, rfl, m, _, rfl, .inl ⟨kvs, Sum.inr z', .inl (k1011.1 _ _ mb m10), rfl, ev.symm⟩, t, _, 0, _, rfl, rfl, SqT.of (Wo.out _ _ ht), rfl, ?_⟩
          refine ⟨bg, n, D, zs, wd, fs, rfl, B11, n10.keep B10 k1011, z1, lz5, Db, k1011.1 _ _ Db h10, f1, fk, iw, hwd.2, fun p us' H12 lu ou np hp B12 k12 => ?_⟩
          refine ⟨by show 2 ≤ sizeLine; decide, fun r hr => ?_⟩
          have sr := same_new (o := HO.tup [.str z', .ref p]) hr
          have k1012 := k1011.trans k12
          have ti13 := (ti.keep k1012 B10 TTb).same sr
          have hT13 := sr _ _ (k1012.1 _ _ TTb hT10)
          obtain ⟨B14, K14⟩ := Bag.put (o := .lst (vs ++ [.ref r])) B hTT0 (K10.trans (k1012.trans (Same.keep sr))) (B12.same sr)
          refine ⟨TT, _, _, rfl, rfl, hT13, lt_line (by omega), _, _, _, rfl, B14, K14, (tups_lst hT13).2 _ _ ((n10.keep B10 k1012).same sr), (upd_ne TTD.symm).trans (sr _ _ (k1012.1 _ _ Db h10)), (upd_ne TTm.symm).trans (sr _ _ (k1012.1 _ _ mb m10)), upW (fun a o n1 n2 e => (upd_ne n2).trans (sr _ _ (k1012.1 _ _ n1 e))), ts ++ [(z', us')], by rw [List.length_append, lt]; rfl, ti13.snoc (t := (z', us')) upd_same (hp.same sr) ⟨tab_name z' (List.mem_append.mpr (.inl mz)), by show 1 ≤ us'.length; have := hwd.1; omega, by show us'.length ≤ 4; have := hwd.2; omega, ou⟩ hT13, fun x mx => ?_⟩
          rcases List.mem_append.mp mx with mx | mx
          · exact fm x mx
          · rw [List.mem_singleton.mp mx]
            exact ⟨rs, by show (z', us'.length, rs) ∈ M; rw [lu]; exact mM⟩
        · rintro σ H10 ⟨v7, v8, v10, rfl, B10, K10, n10, h10, m10, ml10, ts, lt, ti, fm⟩
          obtain ⟨vs, hT10, lv⟩ := ti.few
          refine ⟨_, rfl, n, rfl, ⟨_, n10.sq⟩, fun F hF => ?_⟩
          refine lc_tupF (xs := zs.map V.str) (fun v => match v with | .str z => if ts.any (fun t => decide (Term.nm z ∈ t.2)) = true then none else some (.str z) | _ => none) hF n10.sq (by rw [List.length_map]; omega) ?_ ?_
          · rintro i v H11 hv s11 k1' k2' y1 y2
            obtain ⟨z, ez, rfl⟩ := map_get hv
            have hT11 := s11 _ _ hT10
            obtain ⟨vs', q1, et⟩ := (ti.same s11).at_
            rw [hT11] at q1
            cases q1
            refine ⟨rfl, _, rfl, TT, rfl, ⟨_, SqL.of hT11⟩, fun D3 hD3 => ?_⟩
            refine lc_listS (xs := vs) (fun i acc _ => acc = ((ts.take i).map fun t => decide (Term.nm z ∈ t.2)).map V.bl) hD3 (SqL.of hT11) (by omega) (fun _ _ _ _ _ h => h) rfl ?_ ?_
            · rintro j y acc H12 hy s12 h12 rfl k3 k4 y3 y4
              obtain ⟨t, e1, pa, c, rfl, hpa, hc⟩ := et.get hy
              refine ⟨pa, _, rfl, SqT.of (s12 _ _ hpa), rfl, _, _, rfl, _, _, rfl, rfl, rfl, yes_turn ?_⟩
              refine ⟨_, rfl, _, rfl, c, _, rfl, .inr (hc.same s12).sq, rfl, terms_flat _, ?_⟩
              rw [inV_term]
              refine y3 _ _ (Same.refl _) ?_
              rw [← take_snoc (fun t : Str × List Term => decide (Term.nm z ∈ t.2)) e1, List.map_append]
              rfl
            · rintro acc H12 s12 h12 rfl
              rw [List.take_of_length_le (by omega)] at h12
              refine ⟨D3, _, rfl, SqL.of h12, _, rfl, ?_⟩
              have e2 : (ts.map fun t => decide (Term.nm z ∈ t.2)).any id = ts.any fun t => decide (Term.nm z ∈ t.2) := by
                rw [List.any_map]
                rfl
              rw [e2]
              by_cases c : ts.any (fun t => decide (Term.nm z ∈ t.2)) = true
              · rw [c]
                exact iteF (y2 _ (if_pos c) s12)
              · rw [Bool.eq_false_iff.mpr c]
                exact iteT ⟨_, rfl, y1 _ _ (if_neg c) s12⟩
          · intro H11 s11 h11
            have h11 : H11 F = some (.lst ((leftM zs ts).map V.str)) := h11.trans (congrArg (fun l => some (HO.lst l)) (left_V zs ts))
            have ll : (leftM zs ts).length ≤ mn := Nat.le_trans (List.length_filter_le _ _) lzm
            have lsub : ∀ z ∈ leftM zs ts, z ∈ zs := fun z m => left_sub m
            have lnot : ∀ z ∈ zs, z ∉ leftM zs ts → ∃ t ∈ ts, Term.nm z ∈ t.2 := fun z m n => left_not m n
            generalize leftM zs ts = lf at h11 ll lsub lnot
            have hF0 := K10.free B B10 hF
            have Fb : F ≠ bg := B.ne hF0
            have FT : TT ≠ F := ne_of_none hT10 hF
            have Fm : m ≠ F := ne_of_none m10 hF
            refine ⟨_, rfl, F, _, rfl, .inl (SqL.of h11), 0, _, 2, (lf.length + 1) / 2, rfl, by rw [List.length_map]; exact rg_two _ (by omega), for_rangeC (lo := 0) (c := 2) (n := (lf.length + 1) / 2) (fun i σ H' => ∃ (v7 v8 v10 v12 : Option V) (kvs : List (L2.Key × V)) (M : Mod) (ts' : List (Str × List Term)), σ = [some (.ref bg), some (.int (mn : Int)), some (.int (mt : Int)), some (.int (mr : Int)), some (.ref n), some (.ref D), some (.ref m), v7, v8, some (.ref TT), v10, some (.ref F), v12, none, none, none] ∧ Bag H' bg ∧ Keep bg H H' ∧ NmN H' n zs ∧ H' D = some (.lst fs) ∧ H' F = some (.lst (lf.map V.str)) ∧ H' m = some (.dK kvs) ∧ ModL (Wo [bg, m, TT] H') kvs M ∧ ModOk M ∧ M.map (·.1) = tabN ++ leftN.take i ∧ (∀ x ∈ M, x.2.2.length ≤ mr) ∧ TiesIn H' TT zs ts' ∧ FitsM M ts' ∧ ts'.length ≤ dn + i ∧ (∀ t ∈ ts, t ∈ ts') ∧ ∀ z ∈ lf.take (2 * i), ∃ t ∈ ts', Term.nm z ∈ t.2)
              ⟨_, _, _, _, kvs, M, ts, rfl, B10.same s11, K10.trans (Same.keep s11), n10.same s11, s11 _ _ h10, h11, s11 _ _ m10, ml10.same (Wo.up fun a o na e => ⟨na, s11 _ _ e⟩), mo, by rw [em]; rfl, el, ti.same s11, fm, by omega, fun t m => m, fun z m => by cases m⟩ ?_ ?_⟩
            · rintro i σ H12 hi ⟨v7, v8, v10, v12, kvs, M, ts', rfl, B12, K12, n12, h12, f12, m12, ml12, mo, em, el, ti12, fm, lt12, inc, cov⟩
              have ei : (0 + (i : Nat) * 2 : Int) = ((2 * i : Nat) : Int) := by omega
              rw [ei]
              have li3 : i < 3 := by omega
              have hz : leftN[i]? = some leftN[i] := List.getElem?_eq_getElem li3
              generalize leftN[i] = z at hz
              have zM : z ∉ M.map (·.1) := by
                rw [em]
                have e1 : (tabN ++ leftN)[3 + i]? = some z := (tab_more i li3).1.trans hz
                have e2 := (tab_more i li3).2
                rw [← e2]
                exact nodup_at tab_nodup e1
              have lM : M.length = 3 + i := by
                have := congrArg List.length em
                rw [List.length_map, List.length_append, List.length_take, Nat.min_eq_left (show i ≤ leftN.length by show i ≤ 3; omega)] at this
                exact this
              refine ⟨by show 3 ≤ sizeLine; decide, fun L nL => ?_⟩
              have sL := same_new (o := HO.lst [.str "da", .str "db", .str "dc"]) nL
              refine ⟨_, rfl, _, _, rfl, rfl, ⟨by decide, by decide⟩, L, _, _, _, rfl, rfl, SqL.of upd_same, by rw [show ((2 * i : Nat) : Int) / 2 = ((i : Nat) : Int) by omega]; exact atI_nat (v := .str z) (show (leftN.map V.str)[i]? = _ by rw [List.getElem?_map, hz]; rfl), ?_⟩
              refine ⟨_, rfl, _, rfl, _, rfl, _, rfl, _, _, rfl, rfl, _, rfl, F, _, rfl, SqL.of (sL _ _ f12), fun U nU => ?_⟩
              have lsm : 1 ≤ ((lf.drop (2 * i)).take 2).length ∧ ((lf.drop (2 * i)).take 2).length ≤ 2 := by
                rw [List.length_take, List.length_drop]
                omega
              have esm : ∀ y ∈ (lf.drop (2 * i)).take 2, y ∈ lf := fun y my => List.mem_of_mem_drop (List.mem_of_mem_take my)
              have cut : lf.take (2 * (i + 1)) = lf.take (2 * i) ++ (lf.drop (2 * i)).take 2 := by
                rw [show 2 * (i + 1) = 2 * i + 2 by omega, List.take_add]
              rw [show cutV (lf.map V.str) (some ((2 * i : Nat) : Int)) (some (((2 * i : Nat) : Int) + 2)) = ((lf.drop (2 * i)).take 2).map V.str by rw [cut_two _ (by rw [List.length_map]; omega), List.map_take, List.map_drop]] at *
              generalize (lf.drop (2 * i)).take 2 = sm at lsm esm cut ⊢
              have sU := same_new (o := HO.lst (sm.map V.str)) nU
              refine ⟨U, _, rfl, SqL.of upd_same, fun S ob nS hdd => ?_⟩
              have sS := same_new (o := HO.frz ob (.tup (sm.map V.str))) nS
              have hS : TupN (upd (upd (upd H12 L (.lst [.str "da", .str "db", .str "dc"])) U (.lst (sm.map V.str))) S (.frz ob (.tup (sm.map V.str)))) S (sm.map V.str) := TupN.upd hdd
              have s12 := (sL.trans sU).trans sS
              generalize (upd (upd (upd H12 L (.lst [.str "da", .str "db", .str "dc"])) U (.lst (sm.map V.str))) S (.frz ob (.tup (sm.map V.str)))) = H13 at s12 hS
              have B13 := B12.same s12
              refine ⟨_, rfl, S, _, rfl, .inr hS.sq, _, rfl, _, rfl, _, rfl, S, _, rfl, .inr hS.sq, _, rfl, bg, D, (sm.map V.str).length, mr, fs, rfl, B13, Db, s12 _ _ h12, f1, fk, iw, by rw [List.length_map]; omega, by omega, fun l us rs H14 nl hl ro lr ok nd1 B14 k14 => ?_⟩
              refine ⟨by show 2 ≤ sizeLine; decide, fun t nt => ?_⟩
              have st := same_new (o := HO.tup [.int (((sm.map V.str).length : Nat) : Int), .ref l]) nt
              have k1214 := (Same.keep (b := bg) s12).trans k14
              have m15 := st _ _ (k1214.1 _ _ mb m12)
              obtain ⟨B16, K16⟩ := Bag.put (o := .dK (putK kvs (Sum.inr z) (.ref t))) B hm0 (K12.trans (k1214.trans (Same.keep st))) (B14.same st)
              obtain ⟨vs2, hT12, lv2⟩ := ti12.few
              have ml16 := mod_put (wd := (sm.map V.str).length) (N := [bg, m, TT]) (by simp) (by simp) mb (fun a mem na => by
                simp only [List.mem_cons, List.not_mem_nil, or_false] at mem
                rcases mem with q | q | q
                · exact absurd q na
                · rw [q]
                  exact ⟨_, m12, fun xs e => by cases e⟩
                · rw [q]
                  exact ⟨_, hT12, fun xs e => by cases e⟩) ml12 m12 (Same.keep s12) B13 nl k14 B14 hl ro nt zM
              have keep : ∀ x o, x ≠ bg → x ≠ m → H12 x = some o → (upd (upd H14 t (.tup [.int (((sm.map V.str).length : Nat) : Int), .ref l])) m (.dK (putK kvs (Sum.inr z) (.ref t)))) x = some o := fun x o n1 n2 e => (upd_ne n2).trans (st _ _ (k1214.1 _ _ n1 e))
              have frk : ∀ {a : Addr} {xs : List V}, TupN H14 a xs → TupN (upd (upd H14 t (.tup [.int (((sm.map V.str).length : Nat) : Int), .ref l])) m (.dK (putK kvs (Sum.inr z) (.ref t)))) a xs := fun h => by
                obtain ⟨o, d, e⟩ := h.same st
                exact ⟨o, d, (upd_ne (fun q => by rw [q, m15] at e; cases e)).trans e⟩
              have tupk : Tups H12 (upd (upd H14 t (.tup [.int (((sm.map V.str).length : Nat) : Int), .ref l])) m (.dK (putK kvs (Sum.inr z) (.ref t)))) := ⟨fun x xs e => (upd_ne (fun q => by rw [q, m12] at e; cases e)).trans (st _ _ (k1214.tup B12 e)), fun x xs h => frk (h.keep B12 k1214)⟩
              have hS16 : TupN (upd (upd H14 t (.tup [.int (((sm.map V.str).length : Nat) : Int), .ref l])) m (.dK (putK kvs (Sum.inr z) (.ref t)))) S (sm.map V.str) := frk (hS.keep B13 k14)
              have hm16 : (upd (upd H14 t (.tup [.int (((sm.map V.str).length : Nat) : Int), .ref l])) m (.dK (putK kvs (Sum.inr z) (.ref t)))) m = some (.dK (putK kvs (Sum.inr z) (.ref t))) := upd_same
              refine ⟨_, rfl, _, rfl, m, _, rfl, DPut.k (k := Sum.inr z) m15 (lt_line (by rw [ml12.len]; omega)), ?_⟩
              generalize (upd (upd H14 t (.tup [.int (((sm.map V.str).length : Nat) : Int), .ref l])) m (.dK (putK kvs (Sum.inr z) (.ref t)))) = H16 at B16 K16 ml16 keep tupk hS16 hm16
              have hT16 := keep _ _ TTb TTm hT12
              refine ⟨_, rfl, .inl ⟨rfl, _, SqL.of hT16⟩, _, rfl, _, rfl, by show 2 ≤ sizeLine; decide, fun r hr => ?_⟩
              have sr := same_new (o := HO.tup [.str z, .ref S]) hr
              have ti17 := (ti12.moved tupk fun ws e => keep _ _ TTb TTm e).same sr
              have hT17 := sr _ _ hT16
              obtain ⟨B18, K18⟩ := Bag.put (o := .lst (vs2 ++ [.ref r])) B hTT0 (K16.trans (Same.keep sr)) (B16.same sr)
              have keep2 : ∀ x o, x ≠ bg → x ≠ m → x ≠ TT → H12 x = some o → (upd (upd H16 r (.tup [.str z, .ref S])) TT (.lst (vs2 ++ [.ref r]))) x = some o := fun x o n1 n2 n3 e => (upd_ne n3).trans (sr _ _ (keep _ _ n1 n2 e))
              have lts : ts'.length ≤ 6 := by omega
              refine ⟨TT, _, _, rfl, rfl, hT17, lt_line (by omega), _, _, _, _, _, M ++ [(z, (sm.map V.str).length, rs)], ts' ++ [(z, sm.map Term.nm)], rfl, B18, K18, (tups_lst hT17).2 _ _ (TupN.same sr (tupk.2 _ _ n12)), keep2 _ _ Db mD.symm TTD.symm h12, keep2 _ _ Fb Fm.symm FT.symm f12, (upd_ne TTm.symm).trans (sr _ _ hm16), ml16.same (Wo.up fun a o na e => ⟨na, (upd_ne (fun q => na (by rw [q]; simp))).trans (sr _ _ e)⟩),
                mo.snoc zM (by omega) (tab_name z (List.mem_append.mpr (.inr (List.mem_of_getElem? hz)))) (by rw [List.length_map]; omega) (by rw [List.length_map]; omega) ok (by omega) nd1, ?_, fun x mx => ?_, ti17.snoc (t := (z, sm.map Term.nm)) (c := S) upd_same ?_ ⟨tab_name z (List.mem_append.mpr (.inr (List.mem_of_getElem? hz))), by show 1 ≤ (List.map _ _).length; rw [List.length_map]; omega, by show (List.map _ _).length ≤ 4; rw [List.length_map]; omega, fun x mx => ?_⟩ hT17, fun x mx => ?_, by rw [List.length_append]; show ts'.length + 1 ≤ _; omega, fun t m => List.mem_append.mpr (.inl (inc t m)), fun y my => ?_⟩
              · rw [List.map_append, em, take_one_more hz, List.append_assoc]
                rfl
              · rcases List.mem_append.mp mx with mx | mx
                · exact el x mx
                · rw [List.mem_singleton.mp mx]
                  exact lr
              · rw [← nm_map]
                exact hS16.same sr
              · obtain ⟨y, my, rfl⟩ := List.mem_map.mp mx
                exact lsub y (esm y my)
              · rcases List.mem_append.mp mx with mx | mx
                · obtain ⟨rs', e⟩ := fm x mx
                  exact ⟨rs', List.mem_append.mpr (.inl e)⟩
                · rw [List.mem_singleton.mp mx]
                  refine ⟨rs, List.mem_append.mpr (.inr (List.mem_singleton.mpr ?_))⟩
                  show (z, (sm.map Term.nm).length, rs) = _
                  rw [List.length_map, List.length_map]
              · rw [cut] at my
                rcases List.mem_append.mp my with my | my
                · obtain ⟨t, mt, e⟩ := cov y my
                  exact ⟨t, List.mem_append.mpr (.inl mt), e⟩
                · exact ⟨_, List.mem_append.mpr (.inr List.mem_cons_self), List.mem_map.mpr ⟨y, my, rfl⟩⟩
            · rintro σ H12 ⟨v7, v8, v10, v12, kvs, M, ts', rfl, B12, K12, n12, h12, f12, m12, ml12, mo, em, el, ti12, fm, lt12, inc, cov⟩
              have cov' : ∀ z ∈ zs, ∃ t ∈ ts', Term.nm z ∈ t.2 := fun z mz => by
                by_cases c : z ∈ lf
                · exact cov z (by rw [List.take_of_length_le (by omega)]; exact c)
                · obtain ⟨t, mt, e⟩ := lnot z mz c
                  exact ⟨t, inc t mt, e⟩
              have lts : ts'.length ≤ mt + (mn + 1) / 2 := by omega
              have lt1 : 1 ≤ ts'.length := by
                obtain ⟨t, mt, _⟩ := cov' zs[0] (List.getElem_mem (by omega))
                exact List.length_pos_of_mem mt
              obtain ⟨vs2, hT12, et2⟩ := ti12.at_
              have lv2 := et2.len
              refine ⟨_, rfl, by show 0 ≤ sizeLine; decide, fun e he => ?_⟩
              have se := same_new (o := HO.lst []) he
              obtain ⟨ds', dp', lds', lay'⟩ := dpW_ties (K := K) (et2.mono fun _ _ z => z.moved (same_tups se))
              refine ⟨_, .list [], .lst (SqL.of (se _ _ hT12)) dp', .lst (SqL.of upd_same) .nil, ?_, by decide +kernel, _, rfl, ?_⟩
              · exact (Lay.list (lay' zs nz ti12.ok)).shaped (by decide)
              rw [eqv_nil]
              refine ite_no (c := ds'.isEmpty) (by cases ds' with
                | nil => exact absurd lds' (by show 0 ≠ _; omega)
                | cons _ _ => rfl) ?_
              have B13 := B12.same se
              have n13 := n12.same se
              have hT13 := se _ _ hT12
              have m13 := se _ _ m12
              have K13 := K12.trans (Same.keep se)
              have ml13 := ml12.same (Wo.up fun a o na e => ⟨na, se _ _ e⟩)
              have et13 : Each (TieAt _) vs2 ts' := et2.mono fun _ _ z => z.moved (same_tups se)
              generalize upd H12 e (.lst []) = H13 at B13 n13 hT13 m13 K13 ml13 et13
              refine ⟨_, rfl, _, rfl, _, rfl, n, _, rfl, .inr n13.sq, bg, _, rfl, B13, by rw [List.length_map]; omega, by rw [List.length_map]; omega, fun y H14 y0 y1 B14 k14 => ?_⟩
              obtain ⟨yn, rfl⟩ := Int.eq_ofNat_of_zero_le y0
              rw [List.length_map] at y1
              refine ⟨_, _, rfl, rfl, ?_⟩
              have hT14 := k14.1 _ _ TTb hT13
              have et14 : Each (TieAt H14) vs2 ts' := et13.mono fun _ _ z => z.moved (keep_tups k14 B13)
              refine ⟨_, rfl, _, rfl, bg, TT, _, rfl, B14, TTb, hT14, by omega, fun q ys H15 pm nq hq B15 k15 => ?_⟩
              refine ⟨q, _, rfl, .inl ⟨SqL.of hq, fun tt htt => ?_⟩⟩
              have stt := same_new (o := HO.tup ys) htt
              have n16 := ((n13.keep B13 k14).keep B14 k15).same stt
              have B16 := B15.same stt
              refine ⟨_, rfl, _, rfl, bg, n, zs, 3, rfl, B16, n16, lz5, nd, by decide, fun lp ls ps H17 l3 okp nlp hlp elp B17 k17 => ?_⟩
              refine ⟨by show 4 ≤ sizeLine; decide, fun p hp => ?_⟩
              have sp := same_new (o := HO.tup [.ref n, .int (1 + (yn : Int)), .ref tt, .ref lp]) hp
              have Kq := k14.trans (k15.trans ((Same.keep (b := bg) stt).trans (k17.trans (Same.keep sp))))
              have B18 := B17.same sp
              have ml18 := ml13.same (Wo.up fun a o na e => ⟨na, Kq.1 _ _ (fun q => na (by rw [q]; simp)) e⟩)
              have m18 := Kq.1 _ _ mb m13
              obtain ⟨us2, pu, eu⟩ := perm_each pm et14
              have tall : Tups H14 (upd H17 p (.tup [.ref n, .int (1 + (yn : Int)), .ref tt, .ref lp])) := (((keep_tups k15 B14).trans (same_tups stt)).trans (keep_tups k17 B16)).trans (same_tups sp)
              have qa : QAt (upd H17 p (.tup [.ref n, .int (1 + (yn : Int)), .ref tt, .ref lp])) p ⟨zs, 1 + yn, us2, ps⟩ := by
                refine ⟨n, tt, lp, ?_, (n16.keep B16 k17).same sp, ⟨ys, sp _ _ (k17.tup B16 upd_same), eu.mono fun _ _ z => z.moved tall⟩, ⟨ls, sp _ _ hlp, elp.mono fun _ _ z => z.moved (same_tups sp)⟩⟩
                rw [upd_same]
                show some (HO.tup [V.ref n, V.int (1 + (yn : Int)), V.ref tt, V.ref lp]) = some (HO.tup [V.ref n, V.int ((1 + yn : Nat) : Int), V.ref tt, V.ref lp])
                rw [show (1 + (yn : Int)) = ((1 + yn : Nat) : Int) by omega]
              have lu2 := pu.length_eq
              have okq : QOk ⟨zs, 1 + yn, us2, ps⟩ := ⟨z1, lz5, nz, nd, by show 1 ≤ 1 + yn; omega, by show 1 + yn ≤ zs.length; omega, by show 1 ≤ us2.length; omega, by show us2.length ≤ 6; omega, fun t m => ti12.ok t (pu.mem_iff.mp m), l3, fun x m => okp x m, fun z m => by
                obtain ⟨t, mt, e⟩ := cov' z m
                exact ⟨t, pu.mem_iff.mpr mt, e⟩⟩
              have fm' : FitsM M us2 := fun t m => fm t (pu.mem_iff.mp m)
              have K18 := K13.trans Kq
              generalize upd H17 p (.tup [.ref n, .int (1 + (yn : Int)), .ref tt, .ref lp]) = H18 at B18 ml18 m18 qa K18
              refine ⟨_, rfl, m, M, rfl, ⟨kvs, m18, ml18.same Wo.out⟩, mo, fun bk pa fb H19 nbk npa s19 bka told => ?_⟩
              refine ⟨_, rfl, _, rfl, by show 3 ≤ sizeLine; decide, fun wa nwa => ?_⟩
              have sw := same_new (o := HO.tup [.ref bk, .ref m, .ref p]) nwa
              have s20 := s19.trans sw
              exact k wa bk pa m p M fb ⟨zs, 1 + yn, us2, ps⟩ _ upd_same (bka.same sw) (B18.ne npa) ⟨kvs, s20 _ _ m18, (ml18.same Wo.out).same s20⟩ mo told (qa.moved (same_tups s20)) okq fm' lzm (by show us2.length ≤ _; omega) el (B18.same s20) (K18.trans (Same.keep s20))
end
end VQ
namespace VQ
open PySem L2 LamX
/-! ### what a tie lets by, by the law's own way -/
abbrev sLawLet : Stmt := top 82
abbrev nLawLet : List Str := ["_law_model", "_law_question", "_law_tie", "_law_table", "_law_terms", "_law_names_here", "_law_found", "_law_row", "_law_own_here", "_law_back", "_law_name", "_law_term"]
theorem scLawLet : FnScope nLawLet ["_law_model", "_law_question", "_law_tie"] (defScope sLawLet) := ⟨rfl, rfl, rfl, by decide +kernel, rfl, by decide +kernel, by decide +kernel⟩
def valF (g : Asg) : Term → Option Nat
  | .wo m => some m
  | .nm z => g z
def extF (g0 : Asg) (ps : List (Term × Nat)) : Asg := fun z => match g0 z with
  | some v => some v
  | none => (ps.find? fun p => decide (p.1 = Term.nm z)).map (·.2)
theorem ext_wo (g0 : Asg) (m r : Nat) (ps : List (Term × Nat)) : extF g0 ((.wo m, r) :: ps) = extF g0 ps := by
  funext z
  unfold extF
  rw [List.find?_cons_of_neg (by simp)]
theorem ext_old {g0 : Asg} {z : Str} {v : Nat} (h : g0 z = some v) (r : Nat) (ps : List (Term × Nat)) : extF g0 ((.nm z, r) :: ps) = extF g0 ps := by
  funext y
  unfold extF
  by_cases e : z = y
  · rw [← e, h]
  · rw [List.find?_cons_of_neg (by simpa using e)]
theorem ext_new {g0 : Asg} {z : Str} (h : g0 z = none) (r : Nat) (ps : List (Term × Nat)) : extF g0 ((.nm z, r) :: ps) = extF (fun y => if y = z then some r else g0 y) ps := by
  funext y
  unfold extF
  dsimp only
  by_cases e : y = z
  · rw [e, h, if_pos rfl, List.find?_cons_of_pos (by simp)]
    rfl
  · rw [if_neg e, List.find?_cons_of_neg (by simpa using fun q => e q.symm)]
theorem step_wo (g : Asg) (m r : Nat) : stepF g (.wo m, r) = if m = r then some g else none := rfl
theorem step_old {g : Asg} {z : Str} {v : Nat} (h : g z = some v) (r : Nat) : stepF g (.nm z, r) = if v = r then some g else none := by
  show (match g z with | some v => if v = r then some g else none | none => some fun y => if y = z then some r else g y) = _
  rw [h]
theorem step_new {g : Asg} {z : Str} (h : g z = none) (r : Nat) : stepF g (.nm z, r) = some fun y => if y = z then some r else g y := by
  show (match g z with | some v => if v = r then some g else none | none => some fun y => if y = z then some r else g y) = _
  rw [h]
theorem ext_keeps {g0 : Asg} {z : Str} {v : Nat} (h : g0 z = some v) (ps : List (Term × Nat)) : extF g0 ps z = some v := by
  unfold extF
  rw [h]
theorem fold_fwd : ∀ {ps : List (Term × Nat)} {g0 g : Asg}, ps.foldlM stepF g0 = some g → g = extF g0 ps ∧ ∀ p ∈ ps, valF g p.1 = some p.2
  | [], g0, g, h => by
    cases h
    refine ⟨?_, fun p m => by cases m⟩
    funext z
    unfold extF
    cases g0 z <;> rfl
  | (.wo m, r) :: ps, g0, g, h => by
    rw [List.foldlM_cons, step_wo] at h
    by_cases c : m = r
    · rw [if_pos c] at h
      obtain ⟨e, a⟩ := fold_fwd (ps := ps) (g0 := g0) (g := g) h
      refine ⟨by rw [ext_wo]; exact e, fun p mp => ?_⟩
      rcases List.mem_cons.mp mp with rfl | mp
      · show some m = some r
        rw [c]
      · exact a p mp
    · rw [if_neg c] at h
      cases h
  | (.nm z, r) :: ps, g0, g, h => by
    rw [List.foldlM_cons] at h
    cases eg : g0 z with
    | some v =>
      rw [step_old eg] at h
      by_cases c : v = r
      · rw [if_pos c] at h
        obtain ⟨e, a⟩ := fold_fwd (ps := ps) (g0 := g0) (g := g) h
        refine ⟨by rw [ext_old eg]; exact e, fun p mp => ?_⟩
        rcases List.mem_cons.mp mp with rfl | mp
        · show g z = some r
          rw [e, ext_keeps eg, c]
        · exact a p mp
      · rw [if_neg c] at h
        cases h
    | none =>
      rw [step_new eg] at h
      obtain ⟨e, a⟩ := fold_fwd (ps := ps) (g0 := fun y => if y = z then some r else g0 y) (g := g) h
      refine ⟨by rw [ext_new eg]; exact e, fun p mp => ?_⟩
      rcases List.mem_cons.mp mp with rfl | mp
      · show g z = some r
        rw [e]
        exact ext_keeps (by show (if z = z then some r else g0 z) = some r; rw [if_pos rfl]) _
      · exact a p mp
theorem fold_bwd : ∀ {ps : List (Term × Nat)} {g0 : Asg}, (∀ p ∈ ps, valF (extF g0 ps) p.1 = some p.2) → ps.foldlM stepF g0 = some (extF g0 ps)
  | [], g0, _ => by
    show some g0 = _
    congr 1
    funext z
    unfold extF
    cases g0 z <;> rfl
  | (.wo m, r) :: ps, g0, h => by
    rw [ext_wo] at h ⊢
    have e : some m = some r := h _ List.mem_cons_self
    injection e with e
    rw [List.foldlM_cons, step_wo, if_pos e]
    exact fold_bwd fun p mp => h p (List.mem_cons_of_mem _ mp)
  | (.nm z, r) :: ps, g0, h => by
    rw [List.foldlM_cons]
    cases eg : g0 z with
    | some v =>
      rw [ext_old eg] at h ⊢
      have e : extF g0 ps z = some r := h _ List.mem_cons_self
      rw [ext_keeps eg] at e
      injection e with e
      rw [step_old eg, if_pos e]
      exact fold_bwd fun p mp => h p (List.mem_cons_of_mem _ mp)
    | none =>
      rw [ext_new eg] at h ⊢
      rw [step_new eg]
      exact fold_bwd fun p mp => h p (List.mem_cons_of_mem _ mp)
/-- the worth that a row has where a name stands first -/
def ownN (ts : List Term) (r : List Nat) (z : Str) : Nat := r.getD (ts.idxOf (Term.nm z)) 0
def subM (ts : List Term) (r : List Nat) : Term → Nat
  | .wo m => m
  | .nm z => ownN ts r z
theorem ext_own : ∀ {ts : List Term} {r : List Nat} {z : Str}, ts.length = r.length → Term.nm z ∈ ts → extF (fun _ => none) (ts.zip r) z = some (ownN ts r z)
  | [], _, _, _, m => by cases m
  | _ :: _, [], _, l, _ => by cases l
  | t :: ts, x :: r, z, l, m => by
    unfold extF ownN
    show ((((t, x) :: ts.zip r).find? fun p => decide (p.1 = Term.nm z)).map (·.2)) = _
    by_cases e : t = Term.nm z
    · rw [List.find?_cons_of_pos (by simpa using e), e, List.idxOf_cons_self]
      rfl
    · have mz : Term.nm z ∈ ts := by
        rcases List.mem_cons.mp m with q | q
        · exact absurd q.symm e
        · exact q
      rw [List.find?_cons_of_neg (by simpa using e), List.idxOf_cons, show (t == Term.nm z) = false from beq_eq_false_iff_ne.mpr e]
      have ih := ext_own (ts := ts) (r := r) (z := z) (by simpa using l) mz
      unfold extF ownN at ih
      exact ih
theorem zip_at {ts : List Term} {r : List Nat} {p : Term × Nat} (m : p ∈ ts.zip r) : ∃ i : Nat, ts[i]? = some p.1 ∧ r[i]? = some p.2 := by
  obtain ⟨i, e⟩ := List.mem_iff_getElem?.mp m
  rw [List.getElem?_zip_eq_some] at e
  exact ⟨i, e⟩
theorem val_sub {ts : List Term} {r : List Nat} (l : ts.length = r.length) {t : Term} (m : t ∈ ts) : valF (extF (fun _ => none) (ts.zip r)) t = some (subM ts r t) := by
  cases t with
  | wo n => rfl
  | nm z => exact ext_own l m
theorem own_some {ts : List Term} {r : List Nat} (l : ts.length = r.length) (c : ts.map (subM ts r) = r) : ownF ts r = some (extF (fun _ => none) (ts.zip r)) := by
  refine fold_bwd fun p mp => ?_
  obtain ⟨i, e1, e2⟩ := zip_at mp
  rw [val_sub l (List.mem_of_getElem? e1)]
  rw [← e2]
  rw [← c, List.getElem?_map, e1, c]
  rfl
theorem own_none {ts : List Term} {r : List Nat} (l : ts.length = r.length) (c : ¬ ts.map (subM ts r) = r) : ownF ts r = none := by
  cases e : ownF ts r with
  | none => rfl
  | some g =>
    refine absurd ?_ c
    obtain ⟨eg, a⟩ := fold_fwd (ps := ts.zip r) e
    refine List.ext_getElem? fun i => ?_
    rw [List.getElem?_map]
    by_cases li : i < ts.length
    · have e1 : ts[i]? = some ts[i] := List.getElem?_eq_getElem li
      have e2 : r[i]? = some (r[i]'(by omega)) := List.getElem?_eq_getElem (by omega)
      have v := a (ts[i], r[i]'(by omega)) (List.mem_of_getElem? (i := i) (by rw [List.getElem?_zip_eq_some]; exact ⟨e1, e2⟩))
      rw [eg] at v
      have v2 := val_sub l (List.getElem_mem li)
      have v' : valF (extF (fun _ => none) (ts.zip r)) ts[i] = some (r[i]'(by omega)) := v
      rw [v2] at v'
      rw [e1, e2, ← v']
      rfl
    · rw [List.getElem?_eq_none (by omega), List.getElem?_eq_none (by omega)]
      rfl
theorem wor_own {ts : List Term} {r : List Nat} {zs : List Str} (l : ts.length = r.length) (h : ∀ z ∈ zs, Term.nm z ∈ ts) : wor (extF (fun _ => none) (ts.zip r)) zs = zs.map (ownN ts r) := by
  unfold wor
  refine List.map_congr_left fun z m => ?_
  rw [ext_own l (h z m)]
  rfl
theorem let_next {ts : List Term} {zs : List Str} {rows : List (List Nat)} {i : Nat} {r : List Nat} (e : rows[i]? = some r) (l : ts.length = r.length) (h : ∀ z ∈ zs, Term.nm z ∈ ts) : letM ts zs (rows.take (i + 1)) = letM ts zs (rows.take i) ++ (if ts.map (subM ts r) = r then [zs.map (ownN ts r)] else []) := by
  rw [take_one_more e]
  unfold letM
  rw [List.filterMap_append]
  congr 1
  by_cases c : ts.map (subM ts r) = r
  · rw [if_pos c, List.filterMap_cons, own_some l c, ← wor_own l h]
    rfl
  · rw [if_neg c, List.filterMap_cons, own_none l c]
    rfl
theorem sub_eq {ts : List Term} {zs : List Str} {r r0 : List Nat} (h : ∀ z, Term.nm z ∈ ts → z ∈ zs) (e : zs.map (ownN ts r0) = zs.map (ownN ts r)) : ts.map (subM ts r0) = ts.map (subM ts r) := by
  refine List.map_congr_left fun t m => ?_
  cases t with
  | wo n => rfl
  | nm z => exact List.map_inj_left.mp e z (h z m)
theorem let_fresh {ts : List Term} {zs : List Str} {rows : List (List Nat)} {i : Nat} {r : List Nat} (nd : rows.Nodup) (e : rows[i]? = some r) (ll : ∀ x ∈ rows, ts.length = x.length) (h : ∀ z ∈ zs, Term.nm z ∈ ts) (h' : ∀ z, Term.nm z ∈ ts → z ∈ zs) (c : ts.map (subM ts r) = r) : zs.map (ownN ts r) ∉ letM ts zs (rows.take i) := by
  intro m
  obtain ⟨r0, m0, e0⟩ := List.mem_filterMap.mp m
  have mr0 : r0 ∈ rows := List.mem_of_mem_take m0
  by_cases c0 : ts.map (subM ts r0) = r0
  · rw [own_some (ll r0 mr0) c0] at e0
    have e1 : wor (extF (fun _ => none) (ts.zip r0)) zs = zs.map (ownN ts r) := by injection e0
    rw [wor_own (ll r0 mr0) h] at e1
    have e2 := sub_eq h' e1
    rw [c0, c] at e2
    rw [e2] at m0
    exact not_before nd e m0
  · rw [own_none (ll r0 mr0) c0] at e0
    cases e0
theorem val_merge {F : Str → V} (y : Str) : ∀ (zs : List Str) (acc : List (L2.Key × V)), valV (mergeK acc (zs.map fun z => (Sum.inr z, F z))) (Sum.inr y) = if y ∈ zs then some (F y) else valV acc (Sum.inr y)
  | [], acc => by
    rw [if_neg (by simp)]
    rfl
  | z :: zs, acc => by
    show valV (mergeK (putK acc (Sum.inr z) (F z)) (zs.map fun z => (Sum.inr z, F z))) (Sum.inr y) = _
    rw [val_merge y zs, valV_put]
    by_cases m : y ∈ zs
    · rw [if_pos m, if_pos (List.mem_cons_of_mem _ m)]
    · rw [if_neg m]
      by_cases e : y = z
      · rw [if_pos (by rw [e]), if_pos (by rw [e]; exact List.mem_cons_self), e]
      · rw [if_neg (fun q => e (by injection q)), if_neg (fun q => (List.mem_cons.mp q).elim e m)]
theorem val_mergeI {F : Str → V} (n : Int) : ∀ (zs : List Str) (acc : List (L2.Key × V)), valV (mergeK acc (zs.map fun z => (Sum.inr z, F z))) (Sum.inl n) = valV acc (Sum.inl n)
  | [], acc => rfl
  | z :: zs, acc => by
    show valV (mergeK (putK acc (Sum.inr z) (F z)) (zs.map fun z => (Sum.inr z, F z))) (Sum.inl n) = _
    rw [val_mergeI n zs, valV_put, if_neg (fun q => by cases q)]
theorem paired_at {K : PySem.W.Frag} {H : Hp} {F : Str → V} : ∀ {zs : List Str} {ps : List Addr}, ps.length = zs.length → (∀ (i : Nat) (q : Addr) (z : Str), ps[i]? = some q → zs[i]? = some z → H q = some (.tup [.str z, F z])) → Paired (fun p (kv : L2.Key × V) => SqT K H p [kV kv.1, kv.2]) ps (zs.map fun z => (Sum.inr z, F z))
  | [], [], _, _ => .nil
  | [], _ :: _, l, _ => by cases l
  | _ :: _, [], l, _ => by cases l
  | z :: zs, p :: ps, l, h => .cons (SqT.of (h 0 p z rfl rfl)) (paired_at (by simpa using l) fun i q z' e1 e2 => h (i + 1) q z' e1 e2)
theorem idx_first {ts : List Term} {z : Str} (m : Term.nm z ∈ ts) : ts[ts.idxOf (Term.nm z)]? = some (Term.nm z) ∧ ∀ j t, j < ts.idxOf (Term.nm z) → ts[j]? = some t → t ≠ Term.nm z := by
  have lt := List.idxOf_lt_length_of_mem m
  refine ⟨by rw [List.getElem?_eq_getElem lt, List.getElem_idxOf lt], fun j t lj e q => ?_⟩
  obtain ⟨lj', e'⟩ := List.getElem?_eq_some_iff.mp e
  have no := List.not_of_lt_findIdx (p := (· == Term.nm z)) (xs := ts) (i := j) lj
  rw [e', q] at no
  rw [beq_self_eq_true] at no
  cases no
theorem eqV_term {t : Term} {z : Str} : eqV (termV t) (.str z) = decide (t = Term.nm z) := by
  cases t with
  | wo n => rfl
  | nm y =>
    show (y == z) = _
    by_cases e : y = z
    · rw [e, decide_eq_true rfl]
      exact beq_self_eq_true z
    · rw [decide_eq_false (fun q => e (by injection q))]
      exact beq_eq_false_iff_ne.mpr e
section
variable {P : Program} {w : World} {K : PySem.W.Frag} {mg : Str → Option Value} {base : Heap}
def spLet : Sp := fun vs H Q _ => ∃ (m qa : Addr) (M : Mod) (q : Qn) (i : Nat) (tie : Str × List Term) (rs : List (List Nat)), vs = [.ref m, .ref qa, .int (i : Nat)] ∧ ModAt H m M ∧ ModOk M ∧ QAt H qa q ∧ QOk q ∧ q.ties[i]? = some tie ∧ (tie.1, tie.2.length, rs) ∈ M ∧
  ∀ (p : Addr) (us : List V) (ss : List (List Nat)) (H' : Hp), H p = none → Same H H' → H' p = some (.lst us) → Rows H' us ss → ss.Perm (letM tie.2 (ownZ q i) rs) → Sorted ss → Q (.ref p) H'
theorem has_let (b : Blt mg) (so : mg "sorted" = none) (zp : mg "zip" = none) (di : mg "dict" = none) (hOw : Has P w K mg base CX0 1 "_law_own" sLawOwn ["_law_question", "_law_tie"] spOwnL) (a : AtE K mg "_law_let" sLawLet ["_law_model", "_law_question", "_law_tie"]) : Has P w K mg base CX0 2 "_law_let" sLawLet ["_law_model", "_law_question", "_law_tie"] spLet := by
  obtain ⟨f, fd, a⟩ := a
  obtain ⟨fOw, fdOw, aOw, GOw⟩ := hOw
  refine ⟨f, fd, a, a.fn.ok scLawLet (fun vs H Q E h => ?_) (fun cdv A outer s H vs Q E hr1 h => ?_)⟩
  · obtain ⟨m, qa, M, q, i, tie, rs, rfl, _⟩ := h
    rfl
  · obtain ⟨m, qa, M, q, i, tie, rs, rfl, ⟨kvs, hm, ml⟩, mo, qq, ok, et, mM, k⟩ := h
    have hu65 : (A.deeper (PyProof.Rows.envOfC "_law_let" (defScope sLawLet) s.heap.objs.size f cdv)).units + 65 < cLine := by
      have := hr1.un
      omega
    have hu : (A.deeper (PyProof.Rows.envOfC "_law_let" (defScope sLawLet) s.heap.objs.size f cdv)).units + 64 < cLine := by omega
    have hu1 : (A.deeper (PyProof.Rows.envOfC "_law_let" (defScope sLawLet) s.heap.objs.size f cdv)).units + 1 < cLine := by omega
    refine ⟨_,
    (pss_cons (ps_asg (pe_ix ix_tup (pe_ix ix_tup (pv 1) pe_int fun _ _ => rfl) (pv 2) fun _ _ => rfl) (pg_tup rfl (pgs_cons (pg_name (i := 3) scLawLet.nd rfl (.inl rfl)) (pgs_cons (pg_name (i := 4) scLawLet.nd rfl (.inr rfl)) pgs_nil))))
    (pss_cons (ps_set (i := 5) scLawLet.nd rfl (.inl rfl) (pe_call GOw hr1 rfl aOw.gl aOw.fn.kp aOw.bd .nil pass0 (pa_cons (pv 1) (pa_cons (pv 2) pa_nil))))
    (pss_cons (ps_set (i := 6) scLawLet.nd rfl (.inl rfl) (pe_lst pa_nil))
    (pss_cons (ps_for PassesOwn.never rfl (pi_list (pe_ix ix_tup (pe_dget hu1 (pv 0) (pv 3) fun _ _ => rfl) pe_int fun _ _ => rfl)) (pg_name (i := 7) scLawLet.nd rfl (.inr rfl))
      (pss_cons (ps_set (i := 8) scLawLet.nd rfl (.inl rfl) (pe_callTy call_tuple_of (by rfl) b.tuple (by decide +kernel) (pa_cons (pe_lc (own := [("_law_name", 10)]) (g := (gName 10)) (tt := tYes) (te := (tOp (rIxT K) (tVar 7) (tBMN (rTIndex K) (tVar 4) (tCons (tVar 10) tNil)))) rfl scLawLet.nd (pi_tup (pv 5)) (blkOk_by (N := nLawLet) (sc := defScope sLawLet) (by decide +kernel)) (fun _ _ _ _ _ => (pg_name (i := 10) scLawLet.nd rfl (.inl rfl))) (fun _ _ _ _ _ => pts_nil) (fun _ _ _ _ _ => (pe_ix ix_tup (pv 7) (pe_bmN PySem.F.slot_tuple_index PySem.F.type_tuple_index mt_tindex (pv 4) (pa_cons (pv 10) pa_nil)) fun _ _ => rfl))) pa_nil)))
      (pss_cons (ps_set (i := 9) scLawLet.nd rfl (.inr rfl) (pe_callTy (call_dictP rfl) (by rfl) di (by decide +kernel) (pa_cons (pe_listzip rfl b.list rfl zp (pa_cons (pv 5) (pa_cons (pv 8) pa_nil))) pa_nil)))
      (pss_one (ps_if (PW.pt (pw_and (pt_cmpR (op_eqD hu) (pe_callTy call_tuple_of (by rfl) b.tuple (by decide +kernel) (pa_cons (pe_lc (own := [("_law_term", 11)]) (g := (gName 11)) (tt := tYes) (te := (tDGet2 (tVar 9) (tVar 11) (tVar 11))) rfl scLawLet.nd (pi_tup (pv 4)) (blkOk_by (N := nLawLet) (sc := defScope sLawLet) (by decide +kernel)) (fun _ _ _ _ _ => (pg_name (i := 11) scLawLet.nd rfl (.inl rfl))) (fun _ _ _ _ _ => pts_nil) (fun _ _ _ _ _ => (pe_dget2 hu1 (pv 9) (pv 11) (pv 11) ⟨rfl, rfl, rfl, rfl⟩))) pa_nil)) (pv 7) (nomark _)) (pw_and1 (pt_cmpR (op_notInD hu65) (pv 8) (pv 6) rfl))))
        (pss_one (ps_expr (pe_bm PySem.F.plainAttrs_list PySem.F.slot_list_append PySem.F.type_list_append mt_append (pv 6) (pa_cons (pv 8) pa_nil))))
        pss_nil)))))
    (pss_one (ps_ret (pe_callB (cr_or cr_sortW cr_sort1) (by rfl) so (by decide +kernel) (pa_cons (pv 6) pa_nil)))))))), ?_⟩
    have qq' := qq
    obtain ⟨an, at', al, hqa, hq⟩ := qq'
    obtain ⟨ts, hts, ets⟩ := hq.ti
    obtain ⟨v, ev, a1, c1, rfl, ha1, hc1⟩ := ets.at_ et
    have tok := ok.tt tie (List.mem_of_getElem? et)
    have lt : i < q.ties.length := (List.getElem?_eq_some_iff.mp et).1
    have thi := tok.hi
    refine ⟨_, rfl, qa, _, _, _, rfl, rfl, SqT.of hqa, atI_nat (j := 2) rfl, ?_⟩
    refine ⟨_, rfl, at', _, _, _, rfl, rfl, SqT.of hts, atI_nat ev, ?_⟩
    refine ⟨a1, _, rfl, SqT.of ha1, rfl, _, _, rfl, _, _, rfl, rfl, ?_⟩
    refine ⟨_, rfl, _, rfl, qa, q, i, rfl, qq, ok, lt, fun pn H2 npn s2 hn => ?_⟩
    have own : ∀ z ∈ ownZ q i, Term.nm z ∈ tie.2 := fun z mz => by
      have := (List.mem_filter.mp mz).2
      rw [List.getD_eq_getElem?_getD, et] at this
      exact of_decide_eq_true this
    have own' : ∀ z, Term.nm z ∈ tie.2 → z ∈ ownZ q i := fun z mz => List.mem_filter.mpr ⟨tok.tm _ mz, by rw [List.getD_eq_getElem?_getD, et]; exact decide_eq_true mz⟩
    have l5 : (ownZ q i).length ≤ 5 := Nat.le_trans (List.length_filter_le _ _) ok.n5
    generalize ownZ q i = zs at hn own own' l5 k
    refine ⟨by show 0 ≤ sizeLine; decide, fun F nF => ?_⟩
    have nF0 : H F = none := s2.free nF
    have sF := same_new (o := HO.lst []) nF
    obtain ⟨v, ev', t, l, us0, rfl, ht, hl, ro⟩ := ml.get mo.nd mM
    have s2F := s2.trans sF
    have lrow : ∀ x ∈ rs, tie.2.length = x.length := fun x mx => (mo.row _ mM x mx).1.symm
    have lrs : rs.length ≤ 40 := mo.len _ mM
    have lus : us0.length = rs.length := ro.len
    have ndr : rs.Nodup := mo.one _ mM
    refine ⟨_, rfl, _, rfl, m, _, rfl, .inl ⟨kvs, Sum.inr tie.1, .inl (s2F _ _ hm), rfl, ev'.symm⟩, t, _, 1, _, rfl, rfl, SqT.of (s2F _ _ ht), rfl, l, rfl, ⟨_, SqL.of (s2F _ _ hl)⟩, ?_⟩
    refine for_list (xs := us0) (fun j σ H' => ∃ (v7 v8 v9 : Option V) (us : List V), σ = [some (.ref m), some (.ref qa), some (.int (i : Nat)), some (.str tie.1), some (.ref c1), some (.ref pn), some (.ref F), v7, v8, v9, none, none] ∧ Same H H' ∧ NmN H' pn zs ∧ H' F = some (.lst us) ∧ Rows H' us (letM tie.2 zs (rs.take j)))
      ⟨none, none, none, [], rfl, s2F, hn.same sF, upd_same, .nil⟩ (fun j σ H' _ ⟨_, _, _, _, _, s1, _⟩ => SqL.of (s1 _ _ hl)) ?_ ?_
    · rintro j x σ H3 hx ⟨v7, v8, v9, us, rfl, s3, n3, f3, ro3⟩
      obtain ⟨ar, r, rfl, er, har⟩ := ro.get hx
      have lr := lrow r (List.mem_of_getElem? er)
      have hr3 := s3 _ _ har
      have hc3 := hc1.same s3
      refine ⟨_, rfl, pn, rfl, ⟨_, n3.sq⟩, fun D hD => ?_⟩
      refine lc_tupS (xs := zs.map V.str) (fun m acc _ => acc = (zs.take m).map fun z => numV (ownN tie.2 r z)) hD n3.sq (by rw [List.length_map]; omega) (fun _ _ _ _ _ h => h) rfl ?_ ?_
      · rintro m' x acc H4 hx4 s4 h4 rfl k1 k2 y1 y2
        obtain ⟨z, ez, rfl⟩ := map_get hx4
        obtain ⟨i1, i2⟩ := idx_first (own z (List.mem_of_getElem? ez))
        have li : tie.2.idxOf (Term.nm z) < r.length := by
          rw [← lr]
          exact (List.getElem?_eq_some_iff.mp i1).1
        refine ⟨rfl, yes_turn ?_⟩
        refine ⟨_, rfl, _, rfl, ⟨c1, _, rfl, hc3.same s4⟩, _, rfl, c1, tie.2.map termV, .str z, tie.2.idxOf (Term.nm z), .str z, rfl, rfl, (hc3.same s4).sq, rfl, terms_flat _, by rw [List.getElem?_map, i1]; rfl, beq_self_eq_true z, fun n z' ln e => ?_, ?_⟩
        · obtain ⟨t', et', rfl⟩ := getF e
          rw [eqV_term, decide_eq_false (i2 n t' ln et')]
        refine ⟨ar, _, _, _, rfl, rfl, SqT.of (s4 _ _ hr3), atI_nat (by rw [List.getElem?_map, List.getElem?_eq_getElem li]; rfl), y1 _ _ (Same.refl _) ?_⟩
        rw [take_one_more ez, List.map_append]
        show _ = _ ++ [numV (ownN tie.2 r z)]
        unfold ownN
        rw [List.getD_eq_getElem?_getD, List.getElem?_eq_getElem li]
        rfl
      · rintro acc H4 s4 h4 rfl
        rw [List.length_map, List.take_length] at h4
        rw [show (zs.map fun z => numV (ownN tie.2 r z)) = (zs.map (ownN tie.2 r)).map numV by rw [List.map_map]; rfl] at h4
        refine ⟨D, _, rfl, .inl ⟨SqL.of h4, fun S nS => ?_⟩⟩
        have sS := same_new (o := HO.tup ((zs.map (ownN tie.2 r)).map numV)) nS
        have hS : upd H4 S (.tup ((zs.map (ownN tie.2 r)).map numV)) S = some (.tup ((zs.map (ownN tie.2 r)).map numV)) := upd_same
        have s35 := s4.trans sS
        generalize upd H4 S (.tup ((zs.map (ownN tie.2 r)).map numV)) = H5 at sS hS s35
        have n5 := n3.same s35
        refine ⟨_, rfl, _, rfl, pn, S, _, _, rfl, n5.sq, SqT.of hS, by rw [List.length_map, List.length_map, List.length_map], by rw [List.length_map]; omega, fun p ps H6 np s6 hp lps pairs => ?_⟩
        rw [List.length_map] at lps
        refine ⟨p, ps, zs.map fun z => (Sum.inr z, numV (ownN tie.2 r z)), rfl, SqL.of hp, paired_at lps fun n y z e1 e2 => pairs n y (.str z) (numV (ownN tie.2 r z)) e1 (by rw [List.getElem?_map, e2]; rfl) (by rw [List.getElem?_map, List.getElem?_map, e2]; rfl), fun d nd => ?_⟩
        have sd := same_new (o := HO.dK (mergeK [] (zs.map fun z => (Sum.inr z, numV (ownN tie.2 r z))))) nd
        have hd7 : upd H6 d (.dK (mergeK [] (zs.map fun z => (Sum.inr z, numV (ownN tie.2 r z))))) d = some (.dK (mergeK [] (zs.map fun z => (Sum.inr z, numV (ownN tie.2 r z))))) := upd_same
        have s37 := s35.trans (s6.trans sd)
        have hS7 := sd _ _ (s6 _ _ hS)
        generalize upd H6 d (.dK (mergeK [] (zs.map fun z => (Sum.inr z, numV (ownN tie.2 r z))))) = H7 at hd7 s37 hS7
        refine ⟨_, rfl, c1, rfl, ⟨_, (hc3.same s37).sq⟩, fun D2 hD2 => ?_⟩
        refine lc_tupS (xs := tie.2.map termV) (fun n acc _ => acc = (tie.2.take n).map fun t => numV (subM tie.2 r t)) hD2 (hc3.same s37).sq (by rw [List.length_map]; omega) (fun _ _ _ _ _ h => h) rfl ?_ ?_
        · rintro n x acc H8 hx8 s8 h8 rfl k1 k2 y1 y2
          obtain ⟨t, et', rfl⟩ := getF hx8
          have hd8 := s8 _ _ hd7
          have fin : y1 = y1 := rfl
          refine ⟨rfl, yes_turn ?_⟩
          have nxt : (tie.2.take (n + 1)).map (fun t => numV (subM tie.2 r t)) = (tie.2.take n).map (fun t => numV (subM tie.2 r t)) ++ [numV (subM tie.2 r t)] := by
            rw [take_one_more et', List.map_append]
            rfl
          cases t with
          | wo n' => exact ⟨_, rfl, d, rfl, .inl ⟨_, .inl hd8⟩, _, rfl, _, rfl, none, .inl ⟨_, Sum.inl (n' : Int), .inl hd8, rfl, by rw [val_mergeI]; rfl⟩, y1 _ _ (Same.refl _) nxt.symm⟩
          | nm z => exact ⟨_, rfl, d, rfl, .inl ⟨_, .inl hd8⟩, _, rfl, _, rfl, some (numV (ownN tie.2 r z)), .inl ⟨_, Sum.inr z, .inl hd8, rfl, by rw [val_merge (F := fun z => numV (ownN tie.2 r z)), if_pos (own' z (List.mem_of_getElem? et'))]⟩, y1 _ _ (Same.refl _) nxt.symm⟩
        · rintro acc H8 s8 h8 rfl
          rw [List.length_map, List.take_length, show (tie.2.map fun t => numV (subM tie.2 r t)) = (tie.2.map (subM tie.2 r)).map numV by rw [List.map_map]; rfl] at h8
          refine ⟨D2, _, rfl, .inl ⟨SqL.of h8, fun T nT => ?_⟩⟩
          have sT := same_new (o := HO.tup ((tie.2.map (subM tie.2 r)).map numV)) nT
          have s39 := s37.trans (s8.trans sT)
          have hS9 := sT _ _ (s8 _ _ hS7)
          have f9 := s39 _ _ f3
          have ro9 := ro3.same s39
          have s09 := s3.trans s39
          refine ⟨_, rfl, rowD (tie.2.map (subM tie.2 r)), rowD r, .tup (SqT.of upd_same) (dp_nums _), .tup (SqT.of (s39 _ _ hr3)) (dp_nums _), (lay_row _).shaped (by decide), (lay_row _).shaped (by decide), _, rfl, ?_⟩
          rw [eqv_row]
          have nx := let_next er lr own
          by_cases c : tie.2.map (subM tie.2 r) = r
          · rw [decide_eq_true c]
            refine iteT ⟨_, rfl, _, rfl, rowD (zs.map (ownN tie.2 r)), (letM tie.2 zs (rs.take j)).map rowD, .tup (SqT.of hS9) (dp_nums _), .lst (SqL.of f9) ro9.dp, (lay_row _).shaped (by decide), (lay_rows _).shaped (by decide), _, rfl, ?_⟩
            rw [eqv_rows_any, decide_eq_false (let_fresh ndr er lrow own own' c)]
            have lu : us.length ≤ 40 := by
              rw [ro3.len]
              refine Nat.le_trans (List.length_filterMap_le _ _) ?_
              rw [List.length_take]
              omega
            refine iteT ⟨_, rfl, .inl ⟨rfl, _, SqL.of f9⟩, _, rfl, F, _, _, rfl, rfl, f9, lt_line (by omega), _, _, _, us ++ [.ref S], rfl, same_put s09 nF0, ?_, upd_same, ?_⟩
            · exact (tups_lst f9).2 _ _ (n3.same s39)
            · rw [nx, if_pos c]
              exact (ro9.moved (tups_lst f9).1).snoc ((tups_lst f9).1 _ _ hS9)
          · rw [decide_eq_false c]
            refine iteF ⟨_, _, _, us, rfl, s09, n3.same s39, f9, ?_⟩
            rw [nx, if_neg c, List.append_nil]
            exact ro9
    · rintro σ H3 ⟨v7, v8, v9, us, rfl, s3, n3, f3, ro3⟩
      rw [lus, List.take_length] at ro3
      have back : ∀ p, H3 p = none → H p = none := fun p np => s3.free np
      by_cases c : zs = []
      · have l1 : (letM tie.2 zs rs).length ≤ 1 := let_bare (fun z mz => by
          have mo := own' z mz
          rw [c] at mo
          cases mo) lrow ndr
        refine ⟨_, rfl, .inr ⟨F, us, rfl, SqL.of f3, by rw [ro3.len]; exact l1, fun p np => ?_⟩⟩
        refine k p us _ _ (back p np) (s3.trans (same_new np)) upd_same (ro3.same (same_new np)) (List.Perm.refl _) ?_
        generalize letM tie.2 zs rs = L at l1
        match L, l1 with
        | [], _ => exact List.Pairwise.nil
        | [x], _ => exact List.pairwise_singleton _ _
      · exact ⟨_, rfl, .inl (sort_rowsW (wd := zs.length) f3 ro3 (List.length_pos_iff.mpr c) (let_rows fun r mr => (mo.row _ mM r mr).2) fun p ys ss np ros pm sr => k p ys ss _ (back p np) (s3.trans (same_new np)) upd_same (ros.same (same_new np)) pm sr)⟩
end
end VQ
namespace VQ
open PySem L2 LamX
/-! ### what laws over a world share -/
theorem code_inj : ∀ {r q : List Nat}, r.length = q.length → (∀ n ∈ r, n < 32) → (∀ n ∈ q, n < 32) → TS.code 32 (r.map fun n => ((n : Nat) : Int)) = TS.code 32 (q.map fun n => ((n : Nat) : Int)) → r = q
  | [], [], _, _, _, _ => rfl
  | [], _ :: _, l, _, _, _ => by cases l
  | _ :: _, [], l, _, _, _ => by cases l
  | x :: r, y :: q, l, h1, h2, e => by
    have l' : r.length = q.length := by simpa using l
    have bd : ∀ {s : List Nat}, (∀ n ∈ s, n < 32) → TS.Bd 32 (s.map fun n => ((n : Nat) : Int)) := fun h m mm => by
      obtain ⟨n, mn, rfl⟩ := List.mem_map.mp mm
      have := h n mn
      exact ⟨by omega, by omega⟩
    have b1 := bd fun n m => h1 n (List.mem_cons_of_mem _ m)
    have b2 := bd fun n m => h2 n (List.mem_cons_of_mem _ m)
    have ll : (r.map fun n => ((n : Nat) : Int)).length = (q.map fun n => ((n : Nat) : Int)).length := by rw [List.length_map, List.length_map, l']
    have e' : TS.code 32 ((x : Int) :: r.map fun n => ((n : Nat) : Int)) = TS.code 32 ((y : Int) :: q.map fun n => ((n : Nat) : Int)) := e
    have xy : x = y := by
      rcases Nat.lt_trichotomy x y with c | c | c
      · have := TS.code_lt ll b1 b2 (show (x : Int) < (y : Int) by omega)
        omega
      · exact c
      · have := TS.code_lt ll.symm b2 b1 (show (y : Int) < (x : Int) by omega)
        omega
    subst xy
    have e2 : TS.code 32 (r.map fun n => ((n : Nat) : Int)) = TS.code 32 (q.map fun n => ((n : Nat) : Int)) := by
      have c1 := mt (TS.code_same (B := 32) (d := (x : Int)) ll).mpr (by rw [e']; exact Int.lt_irrefl _)
      have c2 := mt (TS.code_same (B := 32) (d := (x : Int)) ll.symm).mpr (by rw [e']; exact Int.lt_irrefl _)
      omega
    rw [code_inj l' (fun n m => h1 n (List.mem_cons_of_mem _ m)) (fun n m => h2 n (List.mem_cons_of_mem _ m)) e2]
/-- rows sorted are so in one way alone -/
theorem sorted_one {wd : Nat} {ss tt : List (List Nat)} (ok : ∀ r ∈ ss, RowOk wd r) (h1 : Sorted ss) (h2 : Sorted tt) (pm : ss.Perm tt) : ss = tt :=
  List.Perm.eq_of_pairwise (le := fun (x y : List Nat) => TS.code 32 (x.map fun n => ((n : Nat) : Int)) ≤ TS.code 32 (y.map fun n => ((n : Nat) : Int))) (fun x y mx my h h' => by
    have o1 := ok x mx
    have o2 := ok y (pm.mem_iff.mpr my)
    exact code_inj (by rw [o1.1, o2.1]) o1.2 o2.2 (Int.le_antisymm h h')) h1 h2 pm
theorem let_perm {ts : List Term} {zs : List Str} {ss rs : List (List Nat)} (p : ss.Perm rs) : (letM ts zs ss).Perm (letM ts zs rs) := p.filterMap _
theorem mod_one {M : Mod} (nd : (M.map (·.1)).Nodup) {x y : Str × Nat × List (List Nat)} (mx : x ∈ M) (my : y ∈ M) (e : x.1 = y.1) : x = y := by
  induction M with
  | nil => cases mx
  | cons z M ih =>
    rw [List.map_cons, List.nodup_cons] at nd
    rcases List.mem_cons.mp mx with ex | mx'
    · rcases List.mem_cons.mp my with ey | my'
      · rw [ex, ey]
      · have q : z.1 ∈ M.map (·.1) := List.mem_map.mpr ⟨y, my', by rw [← e, ex]⟩
        exact absurd q nd.1
    · rcases List.mem_cons.mp my with ey | my'
      · have q : z.1 ∈ M.map (·.1) := List.mem_map.mpr ⟨x, mx', by rw [e, ey]⟩
        exact absurd q nd.1
      · exact ih nd.2 mx' my'
/-- a table as the book has it -/
theorem told_at {M : Mod} {f : Tbs} (mo : ModOk M) (told : Told M (M.map (·.1)) f) {nm : Str} {wd : Nat} {rs : List (List Nat)} (m : (nm, wd, rs) ∈ M) : ∃ ss, f nm = some (wd, ss) ∧ ss.Perm rs ∧ Sorted ss := by
  obtain ⟨wd', rs', ss, m', e, pm, sr⟩ := (told nm).1 (List.mem_map.mpr ⟨_, m, rfl⟩)
  have q := mod_one mo.nd m m' rfl
  cases q
  exact ⟨ss, e, pm, sr⟩
theorem fits_of {M : Mod} {f : Tbs} {q : Qn} (told : Told M (M.map (·.1)) f) (fm : FitsM M q.ties) (mo : ModOk M := by assumption) : Fits f q := fun tie mt => by
  obtain ⟨rs, m⟩ := fm tie mt
  obtain ⟨ss, e, _, _⟩ := told_at mo told m
  exact ⟨_, e, rfl⟩
theorem alike_nums {n : Nat} {H : Hp} {a c : Addr} {r : List Nat} (ha : H a = some (.tup (r.map numV))) (hc : H c = some (.tup (r.map numV))) (l : r.length ≤ 1000) : Alike H (n + 1) (.ref a) (.ref c) := by
  refine .tup ha hc rfl (by rw [List.length_map]; exact l) fun i x y hx hy => ?_
  rw [hx] at hy
  cases hy
  obtain ⟨m, _, rfl⟩ := num_get hx
  exact .int _ _
theorem alike_rows {n : Nat} {H : Hp} {p q : Addr} {us vs : List V} {ss : List (List Nat)} {wd : Nat} (hp : H p = some (.lst us)) (hq : H q = some (.lst vs)) (ru : Rows H us ss) (rv : Rows H vs ss) (few : ss.length ≤ 1000) (ok : ∀ r ∈ ss, RowOk wd r) (l : wd ≤ 1000) : Alike H (n + 2) (.ref p) (.ref q) := by
  refine .lst hp hq (by rw [ru.len, rv.len]) (by rw [rv.len]; exact few) fun i x y hx hy => ?_
  obtain ⟨a, r, rfl, er, ha⟩ := ru.get hx
  obtain ⟨c, r', rfl, er', hc⟩ := rv.get hy
  rw [er] at er'
  cases er'
  exact alike_nums ha hc (by rw [(ok r (List.mem_of_getElem? er)).1]; exact l)
theorem each_cons {α : Type} {R : V → α → Prop} {acc : List V} {x : α} {xs : List α} (h : Each R acc (x :: xs)) : ∃ v vs, acc = v :: vs ∧ R v x ∧ Each R vs xs := by
  cases h with
  | cons h t => exact ⟨_, _, rfl, h, t⟩
instance (m : Nat) (z : Str) : Decidable (NameS m z) := decidable_of_iff (1 ≤ z.length ∧ z.length ≤ m ∧ z ≠ "find" ∧ z ≠ "some" ∧ ∀ c ∈ z.cps.toList, letB c = true) ⟨fun ⟨a, b, c, d, e⟩ => ⟨a, b, c, d, e⟩, fun h => ⟨h.lo, h.hi, h.nf, h.ns, h.lt⟩⟩
instance (zs : List Str) (t : Term) : Decidable (TermOk zs t) := match t with
  | .wo n => (inferInstance : Decidable (n < 32))
  | .nm z => (inferInstance : Decidable (z ∈ zs))
instance (zs : List Str) (t : Str × List Term) : Decidable (TieOk zs t) := decidable_of_iff (NameS 8 t.1 ∧ 1 ≤ t.2.length ∧ t.2.length ≤ 4 ∧ ∀ x ∈ t.2, TermOk zs x) ⟨fun ⟨a, b, c, d⟩ => ⟨a, b, c, d⟩, fun h => ⟨h.nm, h.lo, h.hi, h.tm⟩⟩
instance (q : Qn) : Decidable (QOk q) := decidable_of_iff (1 ≤ q.names.length ∧ q.names.length ≤ 5 ∧ (∀ z ∈ q.names, NameS 4 z) ∧ q.names.Nodup ∧ 1 ≤ q.many ∧ q.many ≤ q.names.length ∧ 1 ≤ q.ties.length ∧ q.ties.length ≤ 6 ∧ (∀ t ∈ q.ties, TieOk q.names t) ∧ q.less.length ≤ 3 ∧ (∀ p ∈ q.less, p.1 ∈ q.names ∧ p.2 ∈ q.names ∧ p.1 ≠ p.2) ∧ ∀ z ∈ q.names, ∃ t ∈ q.ties, Term.nm z ∈ t.2)
  ⟨fun ⟨a, b, c, d, e, f, g, h, i, j, k, l⟩ => ⟨a, b, c, d, e, f, g, h, i, j, k, l⟩, fun h => ⟨h.n1, h.n5, h.nm, h.nd, h.m1, h.mn, h.t1, h.t6, h.tt, h.l3, h.ll, h.all⟩⟩
instance (wd : Nat) (r : List Nat) : Decidable (RowOk wd r) := (inferInstance : Decidable (r.length = wd ∧ ∀ n ∈ r, n < 32))
instance (M : Mod) : Decidable (ModOk M) := decidable_of_iff ((M.map (·.1)).Nodup ∧ M.length ≤ 8 ∧ (∀ x ∈ M, NameS 8 x.1) ∧ (∀ x ∈ M, 1 ≤ x.2.1 ∧ x.2.1 ≤ 4) ∧ (∀ x ∈ M, ∀ r ∈ x.2.2, RowOk x.2.1 r) ∧ (∀ x ∈ M, x.2.2.length ≤ 40) ∧ ∀ x ∈ M, x.2.2.Nodup)
  ⟨fun ⟨a, b, c, d, e, f, g⟩ => ⟨a, b, c, d, e, f, g⟩, fun h => ⟨h.nd, h.few, h.nm, h.wd, h.row, h.len, h.one⟩⟩
end VQ
namespace VQ
open PySem L2 LamX
/-! ### all of a book, all of a world, put together -/
section
variable {P : Program} {w : World} {K : PySem.W.Frag} {mg : Str → Option Value} {base : Heap} {aB C : Addr}
/-- a method of the book that stands -/
def MStands (K : PySem.W.Frag) (C : Addr) (m q : Str) (st : Stmt) (ps : List Str) : Prop := ∃ f fd, Fun K m q st f fd ∧ Meth K C m f ∧ Binds K fd ps []
structure BookE (w : World) (K : PySem.W.Frag) (mg : Str → Option Value) (C : Addr) : Prop where
  cl : BCls K C
  gb : mg "Book" = some (.ref C)
  ini : ∃ f fd, Fun K "__init__" "Book.__init__" sBookInit f fd ∧ Mk K C f ∧ Binds K fd ["self"] []
  mak : MStands K C "make" "Book.make" sBookMake ["self", "name", "width"]
  fil : MStands K C "fill" "Book.fill" sBookFill ["self", "name", "rows"]
  doo : MStands K C "do" "Book.do" sBookDo ["self", "deed"]
  man : MStands K C "many" "Book.many" sBookMany ["self", "deeds"]
  wid : MStands K C "width" "Book.width" sBookWidth ["self", "name"]
  row : MStands K C "rows" "Book.rows" sBookRows ["self", "name"]
  act : ∃ aAc fM fD fP fT fF fdM fdF, mg "ACTIONS" = some (.ref aAc) ∧ ActTab K w aAc fM fD fP fT fF ∧ At K mg "make_table" sMakeTable ["tables", "name", "width"] fM fdM ∧ At K mg "fill_table" sFillTable ["tables", "name", "rows"] fF fdF
  cnt : ∃ aCo, mg "COUNTS" = some (.ref aCo) ∧ CountTab K w aCo
  ir : AtE K mg "is_row" sIsRow ["thing", "width"]
  ar : AtE K mg "are_rows" sAreRows ["thing", "width"]
  to : AtE K mg "table_of" sTableOf ["tables", "name"]
  wr : AtE K mg "with_rows" sWithRows ["tables", "name", "rows"]
  nd : AtE K mg "need_deed" sNeedDeed ["thing"]
  dn : AtE K mg "done" sDone ["tables", "deed"]
  cp : AtE K mg "_law_copied" sLawCopied ["_law_model"]
/-- a method that keeps a promise -/
def MKeeps (P : Program) (w : World) (K : PySem.W.Frag) (mg : Str → Option Value) (base : Heap) (C : Addr) (k : Nat) (m : Str) (ps : List Str) (sp : Sp) : Prop := ∃ f fd, Meth K C m f ∧ Binds K fd ps [] ∧ FnOk P w K mg base CX0 k f fd ps sp
structure BookOk (P : Program) (w : World) (K : PySem.W.Frag) (mg : Str → Option Value) (base : Heap) (C : Addr) : Prop where
  wid : MKeeps P w K mg base C 2 "width" ["self", "name"] (spBWidth C)
  row : MKeeps P w K mg base C 2 "rows" ["self", "name"] (spBRows C)
  cp : Has P w K mg base CX0 10 "_law_copied" sLawCopied ["_law_model"] (spCopied C)
theorem held_of {x : Str} {st : Stmt} {ps : List Str} {f : Addr} {fd : FuncData} {k : Nat} {sp : Sp} (a : At K mg x st ps f fd) (h : FnOk P w K mg base CX0 k f fd ps sp) : HeldC P w K mg base CX0 k f sp := ⟨fd, ps, h, a.fn.kp, a.bd⟩
theorem book_all {kl kw kt kr : Tok} (b : Blt mg) (so : mg "sorted" = none) (st : mg "set" = none) (Wml : mg "MOST_LETTERS" = some (.int 8 kl)) (Wmw : mg "MOST_WIDTH" = some (.int 4 kw)) (Wta : mg "MOST_TABLES" = some (.int 8 kt)) (Wro : mg "MOST_ROWS" = some (.int 40 kr)) (hNm : Has P w K mg base CX0 1 "is_name" sIsName ["thing", "most"] spIsName) (hNu : Has P w K mg base CX0 1 "is_number" sIsNumber ["thing", "low", "behind"] (spIsNumber K)) (hWo : Has P w K mg base CX0 2 "is_worth" sIsWorth ["thing"] (spIsWorth K)) (D : BookE w K mg C) : BookOk P w K mg base C := by
  have T := D.cl
  obtain ⟨aAc, fM, fD, fP, fT, fF, fdM, fdF, gAc, tAc, aM, aF⟩ := D.act
  obtain ⟨aCo, gCo, tCo⟩ := D.cnt
  have hTo : Has P w K mg base CX0 1 "table_of" sTableOf ["tables", "name"] spTableOf := has_tableof b D.to
  have hAr := has_arerows b st (has_isrow b hWo D.ir) D.ar
  have hWr : Has P w K mg base CX0 1 "with_rows" sWithRows ["tables", "name", "rows"] (spWithRows K) := has_withrows b so D.wr
  obtain ⟨f1, fd1, a1, G1⟩ := has_maketable b Wml Wmw Wta hNm hNu ⟨_, _, aM⟩
  obtain ⟨f2, fd2, a2, G2⟩ := has_filltable b Wro hTo hAr hWr ⟨_, _, aF⟩
  have e1 : fM = f1 := by
    have := aM.gl.symm.trans a1.gl
    injection this with this
    injection this
  have e2 : fF = f2 := by
    have := aF.gl.symm.trans a2.gl
    injection this with this
    injection this
  subst e1 e2
  have hDo := has_done b gAc tAc (has_needdeed b gCo tCo D.nd) (held_of a1 G1) (held_of a2 G2) D.dn
  obtain ⟨fI, fdI, FI, mI, bI⟩ := D.ini
  obtain ⟨fMa, fdMa, FMa, mMa, bMa⟩ := D.man
  obtain ⟨fDo, fdDo, FDo, mDo, bDo⟩ := D.doo
  obtain ⟨fMk, fdMk, FMk, mMk, bMk⟩ := D.mak
  obtain ⟨fFi, fdFi, FFi, mFi, bFi⟩ := D.fil
  obtain ⟨fWi, fdWi, FWi, mWi, bWi⟩ := D.wid
  obtain ⟨fRo, fdRo, FRo, mRo, bRo⟩ := D.row
  have gMa := ok_many (P := P) (w := w) (base := base) FMa b T hDo
  have gDo := ok_do FDo T mMa bMa gMa
  exact ⟨⟨_, _, mWi, bWi, ok_bwidth FWi T hTo⟩, ⟨_, _, mRo, bRo, ok_brows FRo b T hTo⟩, has_copied b so T mI D.gb bI (ok_binit FI T) mMk bMk (ok_bmake FMk T mDo bDo gDo) mFi bFi (ok_bfill FFi T mDo bDo gDo) D.cp⟩
/-- the law's drawing of a world -/
structure WorldE (K : PySem.W.Frag) (mg : Str → Option Value) : Prop where
  pl : AtE K mg "_law_pull" sPull ["_law_bag_here", "_law_size"]
  of_ : AtE K mg "_law_of" sOf ["_law_bag_here", "_law_some"]
  mx : AtE K mg "_law_mixed" sLawMixed ["_law_bag_here", "_law_some"]
  wo : AtE K mg "_law_worth" sWorth ["_law_bag_here"]
  po : AtE K mg "_law_pool" sLawPool ["_law_bag_here", "_law_many", "_law_most"]
  na : AtE K mg "_law_names" sLawNames ["_law_bag_here", "_law_many"]
  pr : AtE K mg "_law_pairs" sLawPairs ["_law_bag_here", "_law_names_here", "_law_most"]
  un : AtE K mg "_law_unlike_names" sLawUnlikeNames ["_law_bag_here", "_law_many"]
  fr : AtE K mg "_law_few_rows" sLawFewRows ["_law_bag_here", "_law_few", "_law_width", "_law_most"]
  tf : AtE K mg "_law_terms_of" sLawTermsOf ["_law_bag_here", "_law_names_here", "_law_few", "_law_width"]
  wd : AtE K mg "_law_world" sLawWorld ["_law_bag_here", "_law_most_names", "_law_most_ties", "_law_most_rows"]
structure WorldOk (P : Program) (w : World) (K : PySem.W.Frag) (mg : Str → Option Value) (base : Heap) (C : Addr) : Prop where
  pl : Has P w K mg base CX0 1 "_law_pull" sPull ["_law_bag_here", "_law_size"] spPull
  of_ : Has P w K mg base CX0 2 "_law_of" sOf ["_law_bag_here", "_law_some"] (spOfA K)
  mx : Has P w K mg base CX0 2 "_law_mixed" sLawMixed ["_law_bag_here", "_law_some"] spMixed
  wo : Has P w K mg base CX0 3 "_law_worth" sWorth ["_law_bag_here"] (spDraw fun i => 0 ≤ i ∧ i < 32)
  wd : Has P w K mg base CX0 11 "_law_world" sLawWorld ["_law_bag_here", "_law_most_names", "_law_most_ties", "_law_most_rows"] (spWorld C)
theorem world_all (b : Blt mg) (any : mg "any" = none) (hCp : Has P w K mg base CX0 10 "_law_copied" sLawCopied ["_law_model"] (spCopied C)) (D : WorldE K mg) : WorldOk P w K mg base C := by
  obtain ⟨fP, fdP, aP⟩ := D.pl
  obtain ⟨fO, fdO, aO⟩ := D.of_
  obtain ⟨fW, fdW, aW⟩ := D.wo
  obtain ⟨fMx, fdMx, aMx⟩ := D.mx
  have hP : Has P w K mg base CX0 1 "_law_pull" sPull ["_law_bag_here", "_law_size"] spPull := ⟨_, _, aP, ok_pull aP.fn b.len⟩
  have hO : Has P w K mg base CX0 2 "_law_of" sOf ["_law_bag_here", "_law_some"] (spOfA K) := has_ofA b hP ⟨_, _, aO⟩
  have hW : Has P w K mg base CX0 3 "_law_worth" sWorth ["_law_bag_here"] (spDraw fun i => 0 ≤ i ∧ i < 32) := ⟨_, _, aW, ok_worth aW.fn b.len aP aO⟩
  have hPo := has_pool b hP D.po
  have hMx : Has P w K mg base CX0 2 "_law_mixed" sLawMixed ["_law_bag_here", "_law_some"] spMixed := ⟨_, _, aMx, ok_mixed aMx.fn b aP⟩
  exact ⟨hP, hO, hMx, hW, has_world ⟨⟨b, hP, hO, hMx, hW, hPo⟩, any, has_pairs b hP D.pr, has_unlike b (has_names b hPo D.na) D.un, has_few b hP hO hW D.fr, has_termsof b hP hO D.tf, hCp⟩ D.wd⟩
/-- what judges a question -/
structure JudgeE (K : PySem.W.Frag) (mg : Str → Option Value) : Prop where
  nu : AtE K mg "is_number" sIsNumber ["thing", "low", "behind"]
  wo : AtE K mg "is_worth" sIsWorth ["thing"]
  tu : AtE K mg "is_tuple" sIsTuple ["thing", "least", "most"]
  nm : AtE K mg "is_name" sIsName ["thing", "most"]
  an : AtE K mg "are_names" sAreNames ["thing"]
  ti : AtE K mg "is_tie" sIsTie ["thing", "names"]
  pa : AtE K mg "is_pair" sIsPair ["thing", "names"]
  al : AtE K mg "all_tied" sAllTied ["names", "ties"]
  qu : AtE K mg "is_question" sIsQuestion ["thing"]
  nq : AtE K mg "need_question" sNeedQuestion ["question"]
structure JudgeOk (P : Program) (w : World) (K : PySem.W.Frag) (mg : Str → Option Value) (base : Heap) : Prop where
  nu : Has P w K mg base CX0 1 "is_number" sIsNumber ["thing", "low", "behind"] (spIsNumber K)
  wo : Has P w K mg base CX0 2 "is_worth" sIsWorth ["thing"] (spIsWorth K)
  nm : Has P w K mg base CX0 1 "is_name" sIsName ["thing", "most"] spIsName
  nq : Has P w K mg base CX0 5 "need_question" sNeedQuestion ["question"] spNeedQn
theorem judge_all (b : Blt mg) (W : Wq K mg aB) (D : JudgeE K mg) : JudgeOk P w K mg base := by
  obtain ⟨two, Wwo⟩ := W.wo
  obtain ⟨fNu, fdNu, aNu⟩ := D.nu
  obtain ⟨fWo, fdWo, aWo⟩ := D.wo
  have hTu : Has P w K mg base CX0 1 "is_tuple" sIsTuple ["thing", "least", "most"] (spIsTuple K) := has_istuple b D.tu
  have hNm : Has P w K mg base CX0 1 "is_name" sIsName ["thing", "most"] spIsName := has_isname b W D.nm
  have hNu : Has P w K mg base CX0 1 "is_number" sIsNumber ["thing", "low", "behind"] (spIsNumber K) := ⟨_, _, aNu, ok_isnumber aNu.fn b⟩
  have hWo : Has P w K mg base CX0 2 "is_worth" sIsWorth ["thing"] (spIsWorth K) := ⟨_, _, aWo, ok_isworth ⟨aWo, _, _, aNu⟩ b Wwo⟩
  exact ⟨hNu, hWo, hNm, has_needqn (has_isqn ⟨b, W, hTu, hNu, has_arenames b W hTu hNm D.an, has_istie b W hTu hNm hWo D.ti, has_ispair b hTu D.pa, has_alltied b D.al⟩ D.qu) D.nq⟩
end
end VQ
namespace VQ
open PySem PySem.Spec PyProof.Rows L2 LamX
/-- a for over zip of two tuples, by what holds between two turns -/
theorem for_zipT {K : PySem.W.Frag} {a b : Addr} {xs ys : List V} {g : TG} {tb : TS} {D : Ends} {σ : L2.St} {H : Hp} (len : xs.length = ys.length) (Pv : Nat → L2.St → Hp → Prop) (h0 : Pv 0 σ H) (both : ∀ i σ H, Pv i σ H → SqT K H a xs ∧ SqT K H b ys)
    (turn : ∀ (i : Nat) (x y : V) (T : Addr) (σ : L2.St) (H : Hp), xs[i]? = some x → ys[i]? = some y → Pv i σ H → H T = none → g (.ref T) σ (upd H T (.tup [x, y])) fun σ2 H2 => tb { D with nx := Pv (i + 1), ct := Pv (i + 1), bk := D.nx } σ2 H2)
    (fin : ∀ σ H, Pv xs.length σ H → D.nx σ H) :
    ∃ W : Nat → Nat → L2.St → Hp → Prop, (∃ m, W 0 m σ H) ∧ ∀ i m σ H, W i m σ H →
      ((RZ.ItzT K a b).stop i H ∧ D.nx σ H) ∨ ((RZ.ItzT K a b).go i H ∧ ∃ N : L2.St → Hp → Prop, (∀ σ' H', N σ' H' → ∃ m', m' < m ∧ W (i + 1) m' σ' H') ∧ ∀ x H', (RZ.ItzT K a b).yld i H x H' → g x σ H' fun σ2 H2 => tb { D with nx := N, ct := N, bk := D.nx } σ2 H2) := by
  refine ⟨fun i m σ H => m + i = xs.length ∧ Pv i σ H, ⟨xs.length, rfl, h0⟩, ?_⟩
  rintro i m σ H ⟨em, p⟩
  obtain ⟨sx, sy⟩ := both i σ H p
  by_cases lt : i < xs.length
  · have lt' : i < ys.length := by omega
    refine .inr ⟨⟨xs, ys, xs[i], ys[i], sx, sy, List.getElem?_eq_getElem lt, List.getElem?_eq_getElem lt'⟩, Pv (i + 1), fun σ' H' p' => ⟨m - 1, by omega, by omega, p'⟩, ?_⟩
    rintro v H' ⟨T, x, y, rfl, nT, rfl, e1, e2⟩
    exact turn i x y T σ H (e1 xs sx) (e2 ys sy) p nT
  · have e : i = xs.length := by omega
    subst e
    exact .inl ⟨⟨xs, ys, sx, sy, .inl (Nat.le_refl _)⟩, fin σ H p⟩
end VQ
namespace VQ
open PySem PySem.Spec PyProof.Rows L2 RZ
/-! ### for over zip of a list and a tuple -/
def ItzM (K : PySem.W.Frag) (a b : Addr) : It :=
  ⟨fun i H => ∃ (xs ys : List V) (x y : V), SqL K H a xs ∧ SqT K H b ys ∧ xs[i]? = some x ∧ ys[i]? = some y,
    fun i H v H' => ∃ T x y, v = .ref T ∧ H T = none ∧ H' = upd H T (.tup [x, y]) ∧ (∀ xs, SqL K H a xs → xs[i]? = some x) ∧ ∀ ys, SqT K H b ys → ys[i]? = some y,
    fun i H => ∃ xs ys : List V, SqL K H a xs ∧ SqT K H b ys ∧ i ≤ xs.length ∧ i ≤ ys.length ∧ (i = xs.length ∨ i = ys.length)⟩
theorem sep_of {z TI TO i1 i2 a b : Addr} (D : ZipApart z TI TO i1 i2 a b) : ZipSep2 z TI TO i1 i2 [i1, a] [i2, b] where
  TIz := D.TIz
  TOz := D.TOz
  TITO := D.TITO
  TIi1 := D.TIi1
  mem1 := by simp
  zf1 := by simp [D.i1z.symm, D.l1z.symm]
  Tf1 := by simp [D.TOi1, D.l1TO.symm]
  TIi2 := D.TIi2
  mem2 := by simp
  zf2 := by simp [D.i2z.symm, D.l2z.symm]
  Tf2 := by simp [D.TOi2, D.l2TO.symm]
  sep1_2 := by simp [D.i12, D.l2i1.symm]
  sep2_1 := by simp [D.i12.symm, D.l1i2.symm]
theorem five {α : Type} {z TI TO i1 i2 : α} {p : α → Prop} (hz : p z) (hI : p TI) (hO : p TO) (h1 : p i1) (h2 : p i2) : ∀ c ∈ [z, TI, TO, i1, i2], p c := by
  intro c m
  simp only [List.mem_cons, List.not_mem_nil, or_false] at m
  rcases m with rfl | rfl | rfl | rfl | rfl <;> assumption
theorem turn_zipM {P : Program} {w : World} {K : PySem.W.Frag} {elts : List Expr} {kk : Nat} {tpos : Pos} {a b z TI TO i1 i2 : Addr} (D : ZipApart z TI TO i1 i2 a b) :
    Turn P w K (.Tuple elts kk tpos) (ItzM K a b) [z, TI, TO, i1, i2] z (fun i h => IsZip h z TI TO .none ∧ IsTupOf2 h TI (.ref i1) (.ref i2) ∧ (∃ x y, IsTupOf2 h TO x y) ∧ h.IsListIter i1 a i ∧ h.IsTupleIter i2 b i) where
  mem := by simp
  obj := fun i h st => by
    obtain ⟨hz, hTI, ⟨x, y, hTO⟩, ⟨o1, e1, _, d1⟩, ⟨o2, e2, _, d2⟩⟩ := st
    exact five ⟨_, hz, fun v q => nomatch q⟩ ⟨_, hTI, fun v q => nomatch q⟩ ⟨_, hTO, fun v q => nomatch q⟩ ⟨o1, e1, fun v q => by rw [d1] at q; cases q⟩ ⟨o2, e2, fun v q => by rw [d2] at q; cases q⟩
  keep := fun i h h' st k => by
    obtain ⟨hz, hTI, ⟨x, y, hTO⟩, h1, h2⟩ := st
    exact ⟨k z (by simp) _ hz, k TI (by simp) _ hTI, ⟨x, y, k TO (by simp) _ hTO⟩, h1.at fun o q => k i1 (by simp) o q, h2.at fun o q => k i2 (by simp) o q⟩
  item := by
    intro X hP hw hK hc i pins s σ H E I hf st hg
    subst hP hw hK
    obtain ⟨hz, hTI, ⟨x0, y0, hTO⟩, h1, h2⟩ := st
    obtain ⟨xs, ys, x, y, sx, sy, ex, ey⟩ := hg
    obtain ⟨its, rv, p, _⟩ := I.list sx
    obtain ⟨its2, rv2, p2, _⟩ := I.tuple sy
    obtain ⟨u, hu, ru⟩ := rv.get ex
    obtain ⟨u2, hu2, ru2⟩ := rv2.get ey
    have n1 : i < its.toArray.size := by
      have := (List.getElem?_eq_some_iff.mp hu).1
      simpa using this
    have n2 : i < its2.toArray.size := by
      have := (List.getElem?_eq_some_iff.mp hu2).1
      simpa using this
    have hzl : z < s.heap.objs.size := Heap.lt_size hz
    have hd : X.A.in1.handled = none := I.ok.hd hc
    refine wpAny_pyNext_zipD2_item (sep_of D) (Draws.list hd i1 a D.l1i1 its.toArray) (Draws.tuple hd i2 b D.l2i2 its2.toArray) hz hTI hTO ⟨h1, p.isList⟩ ⟨h2, p2⟩ n1 n2 fun v1 v2 h' tk y1 y2 z' TO' st1 st2 hT hsz hk => ?_
    have e1 : v1 = u := by
      have y1' : its[i]? = some v1 := by simpa using y1
      rw [hu] at y1'
      exact (Option.some.inj y1').symm
    have e2 : v2 = u2 := by
      have y2' : its2[i]? = some v2 := by simpa using y2
      rw [hu2] at y2'
      exact (Option.some.inj y2').symm
    subst e1 e2
    refine ⟨_, rfl, wpAny_letOwnedTupleGo_zip (s := { s with heap := h', toks := tk }) z' fun h'' z'' sb => ?_⟩
    have hT2 : h''.get? s.heap.objs.size = some { cls := .type "tuple", data := .seq #[v1, v2] } := (sb.2 _ (Nat.ne_of_gt hzl)).trans hT
    have new : ObjOk X.prog X.w (upd H s.heap.objs.size (.tup [x, y])) h'' s.heap.objs.size (.tup [x, y]) :=
      ⟨by show 2 ≤ sizeLine; decide, [v1, v2], .cons ru (.cons ru2 .nil), ⟨_, hT2, rfl, _, rfl⟩⟩
    have old : ∀ c o, c ∉ [z, TI, TO, i1, i2] → s.heap.get? c = some o → h''.get? c = some o := fun c o no q => by
      simp only [List.mem_cons, List.not_mem_nil, or_false, not_or] at no
      exact (sb.2 c no.1).trans (hk c o no.1 no.2.2.1 no.2.2.2.1 no.2.2.2.2 q)
    have I1 : Inv X pins σ (upd H s.heap.objs.size (.tup [x, y])) { s with heap := h'', toks := tk } := I.turnedNew (t' := tk) (ch := [z, TI, TO, i1, i2]) old hf (Nat.le_refl _) new
    refine ⟨.ref s.heap.objs.size, _, I1, rfl, ⟨_, x, y, rfl, I.hok.fresh (Nat.le_refl _), rfl, fun l hl => by rw [I.list_inj hl sx]; exact ex, fun l hl => by rw [I.tuple_inj hl sy]; exact ey⟩, ⟨z'', (sb.2 _ D.TIz).trans (hk _ _ D.TIz D.TITO D.TIi1 D.TIi2 hTI), ⟨v1, v2, (sb.2 _ D.TOz).trans TO'⟩, st1.1.at fun o q => (sb.2 _ D.i1z).trans q, st2.1.at fun o q => (sb.2 _ D.i2z).trans q⟩, ?_⟩
    obtain ⟨_, a1, _⟩ := h1
    obtain ⟨_, a2, _⟩ := h2
    have lt := five (p := fun c => c < s.heap.objs.size) hzl (Heap.lt_size hTI) (Heap.lt_size hTO) (Heap.lt_size a1) (Heap.lt_size a2)
    intro c m
    rw [upd_ne (Nat.ne_of_lt (lt c m))]
    exact (hf c m).1
  done := by
    intro X hP hw hK hc i pins s σ H E I hf st hg
    subst hP hw hK
    obtain ⟨hz, hTI, ⟨x0, y0, hTO⟩, h1, h2⟩ := st
    obtain ⟨xs, ys, sx, sy, l1, l2, en⟩ := hg
    obtain ⟨its, rv, p, _⟩ := I.list sx
    obtain ⟨its2, rv2, p2, _⟩ := I.tuple sy
    have hd : X.A.in1.handled = none := I.ok.hd hc
    have z1 : its.toArray.size = xs.length := by simpa using rv.length.symm
    have z2 : its2.toArray.size = ys.length := by simpa using rv2.length.symm
    exact wpAny_pyNext_zipD2_end (sep_of D) (Draws.list hd i1 a D.l1i1 its.toArray) (Draws.tuple hd i2 b D.l2i2 its2.toArray) hz hTI hTO ⟨h1, p.isList⟩ ⟨h2, p2⟩ (by rw [z1]; exact l1) (by rw [z2]; exact l2) (by rw [z1, z2]; exact en) fun h' tk hk => ⟨rfl, I.turnedL (t' := tk) (ch := [z, TI, TO, i1, i2]) (fun c o no q => by
      simp only [List.mem_cons, List.not_mem_nil, or_false, not_or] at no
      exact hk c o no.1 no.2.2.1 no.2.2.2.1 no.2.2.2.2 q) hf⟩
  self := fun A i s Q E st h => wpAny_pyIter_zip st.1 h
def iZipM (K : PySem.W.Frag) (ta : TA) : L2.TI := fun σ H R => ta σ H fun vs H1 => ∃ a b xs ys, vs = [.ref a, .ref b] ∧ SqL K H1 a xs ∧ SqT K H1 b ys ∧ R (ItzM K a b) H1
theorem pi_zipM {X : Cx} {e e2 : Expr} {ta : TA} {p pos tpos : Pos} {elts : List Expr} {kk : Nat} (hg : Gl X "zip") (hm : X.mg "zip" = none) (ha : PA X [e, e2] ta)
    (hs : starEach [e, e2] X.env = (false, eval e X.env) :: starEach [e2] X.env := by rfl) (hpl : (backTo pos (starEach [e2] X.env)).any (·.1) = false := by rfl) :
    PI X (.Tuple elts kk tpos) (.Call (.Name "zip" p) [e, e2] [] pos) (iZipM X.K ta) := by
  refine ⟨fun pins s σ H R I h => ?_⟩
  refine Call_ (ld_blt I hg hm PyProof.Rows.boot_zip (PyProof.Rows.callWith_type1 (thn (ha.run pos pins s σ H _ I h) fun us s1 ⟨vs, H1, I1, r1, a, b, xs, ys, ex, sx, sy, q⟩ => ?_) hs hpl))
  subst ex
  rcases r1 with _ | ⟨r, _ | ⟨r', _ | _⟩⟩
  cases r
  cases r'
  have fresh : ∀ c, s1.heap.objs.size ≤ c → FpOk X pins H1 c := fun c le => I1.fpOk le (I1.hok.fresh le)
  obtain ⟨its, rv, p1, _⟩ := I1.list sx
  obtain ⟨its2, rv2, p2, _⟩ := I1.tuple sy
  obtain ⟨o2, ho2, _⟩ := id p2
  refine zip_begins2 (begins_list a its.toArray) (begins_tuple b its2.toArray) p1.isList (show s1.heap.IsTuple b its2.toArray from p2) fun h' hz hTI hTO h1 h2 hsz hk => wpAny_pyIter_zip hz ?_
  have I2 : Inv X pins σ H1 { s1 with heap := h' } := I1.kept (t' := s1.toks) hk
  exact ⟨s1.heap.objs.size + 4, [s1.heap.objs.size + 4, s1.heap.objs.size + 2, s1.heap.objs.size + 3, s1.heap.objs.size, s1.heap.objs.size + 1], _, _, H1, rfl, I2, turn_zipM (PySem.W.ktu_apart s1.heap.objs.size a b p1.lt (Heap.lt_size ho2)), ⟨hz, hTI, ⟨_, _, hTO⟩, ⟨_, h1, rfl, rfl⟩, ⟨_, h2, rfl, rfl⟩⟩, five (fresh _ (Nat.le_add_right _ _)) (fresh _ (Nat.le_add_right _ _)) (fresh _ (Nat.le_add_right _ _)) (fresh _ (Nat.le_refl _)) (fresh _ (Nat.le_add_right _ _)), q⟩
/-- a for over zip of a list and a tuple of one length -/
theorem for_zipM {K : PySem.W.Frag} {a b : Addr} {xs ys : List V} {g : TG} {tb : TS} {D : Ends} {σ : L2.St} {H : Hp} (len : xs.length = ys.length) (Pv : Nat → L2.St → Hp → Prop) (h0 : Pv 0 σ H) (both : ∀ i σ H, Pv i σ H → SqL K H a xs ∧ SqT K H b ys)
    (turn : ∀ (i : Nat) (x y : V) (T : Addr) (σ : L2.St) (H : Hp), xs[i]? = some x → ys[i]? = some y → Pv i σ H → H T = none → g (.ref T) σ (upd H T (.tup [x, y])) fun σ2 H2 => tb { D with nx := Pv (i + 1), ct := Pv (i + 1), bk := D.nx } σ2 H2)
    (fin : ∀ σ H, Pv xs.length σ H → D.nx σ H) :
    ∃ W : Nat → Nat → L2.St → Hp → Prop, (∃ m, W 0 m σ H) ∧ ∀ i m σ H, W i m σ H →
      ((ItzM K a b).stop i H ∧ D.nx σ H) ∨ ((ItzM K a b).go i H ∧ ∃ N : L2.St → Hp → Prop, (∀ σ' H', N σ' H' → ∃ m', m' < m ∧ W (i + 1) m' σ' H') ∧ ∀ x H', (ItzM K a b).yld i H x H' → g x σ H' fun σ2 H2 => tb { D with nx := N, ct := N, bk := D.nx } σ2 H2) := by
  refine ⟨fun i m σ H => m + i = xs.length ∧ Pv i σ H, ⟨xs.length, rfl, h0⟩, ?_⟩
  rintro i m σ H ⟨em, p⟩
  obtain ⟨sx, sy⟩ := both i σ H p
  by_cases lt : i < xs.length
  · have lt' : i < ys.length := by omega
    refine .inr ⟨⟨xs, ys, xs[i], ys[i], sx, sy, List.getElem?_eq_getElem lt, List.getElem?_eq_getElem lt'⟩, Pv (i + 1), fun σ' H' p' => ⟨m - 1, by omega, by omega, p'⟩, ?_⟩
    rintro v H' ⟨T, x, y, rfl, nT, rfl, e1, e2⟩
    exact turn i x y T σ H (e1 xs sx) (e2 ys sy) p nT
  · have e : i = xs.length := by omega
    subst e
    exact .inl ⟨⟨xs, ys, sx, sy, by omega, by omega, .inl rfl⟩, fin σ H p⟩
end VQ
namespace VQ
open PySem L2
/-- an iterator by either of two rules -/
theorem pi_or {X : Cx} {tg e : Expr} {i1 i2 : L2.TI} (h1 : PI X tg e i1) (h2 : PI X tg e i2) : PI X tg e (fun σ H R => i1 σ H R ∨ i2 σ H R) :=
  ⟨fun pins s σ H R I h => h.elim (h1.1 pins s σ H R I) (h2.1 pins s σ H R I)⟩
end VQ
namespace VQ
open PySem L2 LamX
/-! ### places, boxes spread over a question's room -/
abbrev sPicked : Stmt := top 56
abbrev nPicked : List Str := ["things", "places", "at"]
theorem scPicked : FnScope nPicked ["things", "places"] (defScope sPicked) := ⟨rfl, rfl, rfl, by decide +kernel, rfl, by decide +kernel, by decide +kernel⟩
abbrev nPairPlaces : List Str := ["question", "names", "first", "second"]
abbrev nSpread : List Str := ["question", "places", "box", "wide", "at", "beginning"]
theorem eqV_str {a z : Str} : eqV (.str a) (.str z) = decide (a = z) := by
  show (a == z) = _
  by_cases e : a = z
  · rw [e, decide_eq_true rfl]
    exact beq_self_eq_true z
  · rw [decide_eq_false e]
    exact beq_eq_false_iff_ne.mpr e
theorem idx_str {zs : List Str} {z : Str} (m : z ∈ zs) : zs[zs.idxOf z]? = some z ∧ ∀ j t, j < zs.idxOf z → zs[j]? = some t → t ≠ z := by
  have lt := List.idxOf_lt_length_of_mem m
  refine ⟨by rw [List.getElem?_eq_getElem lt, List.getElem_idxOf lt], fun j t lj e q => ?_⟩
  obtain ⟨lj', e'⟩ := List.getElem?_eq_some_iff.mp e
  have no := List.not_of_lt_findIdx (p := (· == z)) (xs := zs) (i := j) lj
  rw [e', q] at no
  rw [beq_self_eq_true] at no
  cases no
theorem at_idx {zs : List Str} {z : Str} (m : z ∈ zs) : (zs.map V.str)[zs.idxOf z]? = some (.str z) := by
  rw [List.getElem?_map, (idx_str m).1]
  rfl
theorem no_idx {zs : List Str} {z : Str} (m : z ∈ zs) : ∀ (j : Nat) (t : V), j < zs.idxOf z → (zs.map V.str)[j]? = some t → eqV t (.str z) = false := fun j t lj e => by
  obtain ⟨y, ey, rfl⟩ := getF e
  rw [eqV_str, decide_eq_false ((idx_str m).2 j y lj ey)]
theorem idx_nodup : ∀ {zs : List Str}, zs.Nodup → ∀ {j : Nat} {z : Str}, zs[j]? = some z → zs.idxOf z = j := by
  intro zs nd j z e
  have m : z ∈ zs := List.mem_of_getElem? e
  obtain ⟨e1, f1⟩ := idx_str m
  exact (List.getElem?_inj (List.idxOf_lt_length_of_mem m) nd).mp (e1.trans e.symm)
/-- the places of a tie's own names -/
def plZ (q : Qn) (i : Nat) : List Nat := (ownZ q i).map q.names.idxOf
theorem plZ_lt {q : Qn} {i p : Nat} (m : p ∈ plZ q i) : p < q.names.length := by
  obtain ⟨z, mz, rfl⟩ := List.mem_map.mp m
  exact List.idxOf_lt_length_of_mem (List.mem_filter.mp mz).1
theorem places_plZ {q : Qn} {i : Nat} {tie : Str × List Term} (ok : QOk q) (et : q.ties[i]? = some tie) : placesM q.names tie.2 q.names.length = plZ q i := by
  have e := placesM_names q.names tie.2 q.names.length (Nat.le_refl _)
  rw [List.take_length] at e
  have eo : ownZ q i = q.names.filter fun z => decide (Term.nm z ∈ tie.2) := by
    unfold ownZ
    rw [List.getD_eq_getElem?_getD, et]
    rfl
  unfold plZ
  rw [eo, ← e, List.map_map]
  refine (List.map_id _).symm.trans (List.map_congr_left fun j m => ?_)
  have lt := placesM_lt _ _ _ j m
  exact (idx_nodup ok.nd (getD_get lt)).symm
/-- beginnings at these places, empty ones elsewhere -/
def sprF (n : Nat) (ps : List Nat) (bs : List Str) : List Str := (ps.zip bs).foldl (fun acc p => acc.set p.1 p.2) (List.replicate n ("" : Str))
def sprAt (n : Nat) (ps : List Nat) (bs : List Str) (i : Nat) : List Str := ((ps.zip bs).take i).foldl (fun acc p => acc.set p.1 p.2) (List.replicate n ("" : Str))
theorem sprAt_len (n : Nat) (ps : List Nat) (bs : List Str) (i : Nat) : (sprAt n ps bs i).length = n := by
  have go : ∀ (l : List (Nat × Str)) (acc : List Str), (l.foldl (fun acc p => acc.set p.1 p.2) acc).length = acc.length := by
    intro l
    induction l with
    | nil => intro acc; rfl
    | cons p l ih => intro acc; exact (ih _).trans (List.length_set ..)
  exact (go _ _).trans (List.length_replicate ..)
theorem sprAt_next {n : Nat} {ps : List Nat} {bs : List Str} {i p : Nat} {z : Str} (e1 : ps[i]? = some p) (e2 : bs[i]? = some z) : sprAt n ps bs (i + 1) = (sprAt n ps bs i).set p z := by
  unfold sprAt
  rw [take_one_more (show (ps.zip bs)[i]? = some (p, z) by rw [List.getElem?_zip_eq_some]; exact ⟨e1, e2⟩), List.foldl_append]
  rfl
theorem sprAt_all {n : Nat} {ps : List Nat} {bs : List Str} (l : ps.length = bs.length) : sprAt n ps bs ps.length = sprF n ps bs := by
  unfold sprAt sprF
  rw [List.take_of_length_le (by rw [List.length_zip, ← l]; omega)]
theorem ixN_nat {n j : Nat} (h : j < n) : ixN n (j : Int) = some j := by
  unfold ixN
  rw [if_pos (by omega), if_pos (by omega)]
  rfl
section
variable {P : Program} {w : World} {K : PySem.W.Frag} {mg : Str → Option Value} {base : Heap} {C CW CP : Addr}
/-- either list or tuple -/
def SeqL (H : Hp) (a : Addr) (xs : List V) : Prop := H a = some (.lst xs) ∨ H a = some (.tup xs)
theorem SeqL.same {H H' : Hp} {a : Addr} {xs : List V} (s : Same H H') (h : SeqL H a xs) : SeqL H' a xs := h.elim (fun h => .inl (s _ _ h)) fun h => .inr (s _ _ h)
def spPicked : Sp := fun vs H Q _ => ∃ (t pl : Addr) (ns ps : List Nat), vs = [.ref t, .ref pl] ∧ H t = some (.tup (ns.map numV)) ∧ SeqL H pl (ps.map numV) ∧ (∀ p ∈ ps, p < ns.length) ∧ ps.length ≤ 5 ∧
  ∀ (p : Addr) (H' : Hp), H p = none → Same H H' → H' p = some (.tup ((ps.map fun p => ns.getD p 0).map numV)) → Q (.ref p) H'
theorem has_picked (b : Blt mg) (a : AtE K mg "picked" sPicked ["things", "places"]) : Has P w K mg base CX0 1 "picked" sPicked ["things", "places"] spPicked := by
  obtain ⟨f, fd, a⟩ := a
  refine ⟨f, fd, a, a.fn.ok scPicked (fun vs H Q E h => ?_) (fun cdv A outer s H vs Q E hr1 h => ?_)⟩
  · obtain ⟨t, pl, ns, ps, rfl, _⟩ := h
    rfl
  · obtain ⟨t, pl, ns, ps, rfl, ht, hp, lt, l5, k⟩ := h
    refine ⟨_,
    (pss_one (ps_ret (pe_callTy call_tuple_of (by rfl) b.tuple (by decide +kernel) (pa_cons (pe_lc (own := [("at", 2)]) (g := (gName 2)) (tt := tYes) (te := (tOp (rIxT K) (tVar 0) (tVar 2))) rfl scPicked.nd (pi_or (pi_list (pv 1)) (pi_tup (pv 1))) (blkOk_by (N := nPicked) (sc := defScope sPicked) (by decide +kernel)) (fun _ _ _ _ _ => (pg_name (i := 2) scPicked.nd rfl (.inl rfl))) (fun _ _ _ _ _ => pts_nil) (fun _ _ _ _ _ => (pe_ix ix_tup (pv 0) (pv 2) fun _ _ => rfl))) pa_nil)))), ?_⟩
    have turn : ∀ (D : Addr) (H1 : Hp), Same H H1 → ∀ (i : Nat) (x : V) (acc : List V) (H2 : Hp), (ps.map numV)[i]? = some x → Same H1 H2 → H2 D = some (.lst acc) → acc = (ps.take i).map (fun p => numV (ns.getD p 0)) → ∀ (k1 : VK) (k2 : Hp → Prop), (∀ y H4, Same H2 H4 → (acc ++ [y]) = (ps.take (i + 1)).map (fun p => numV (ns.getD p 0)) → k1 y H4) → (∀ H4, Same H2 H4 → acc = (ps.take (i + 1)).map (fun p => numV (ns.getD p 0)) → k2 H4) → Trn (gName 2) tYes (tOp (rIxT K) (tVar 0) (tVar 2)) [2] [some (.ref t), some (.ref pl), none] x H2 k1 k2 := by
      rintro D H1 s1 i x acc H2 hx s2 h2 rfl k1 k2 y1 y2
      obtain ⟨p, ep, rfl⟩ := num_get hx
      have lp := lt p (List.mem_of_getElem? ep)
      refine ⟨rfl, yes_turn ⟨_, rfl, _, rfl, t, _, _, _, rfl, rfl, SqT.of (s2 _ _ (s1 _ _ ht)), atI_nat (j := p) (v := numV (ns.getD p 0)) (by rw [List.getElem?_map, getD_get (d := 0) lp]; rfl), y1 _ _ (Same.refl _) ?_⟩⟩
      rw [take_one_more ep, List.map_append]
      rfl
    have fin : ∀ (D : Addr) (H1 : Hp), Same H H1 → ∀ (acc : List V) (H2 : Hp), Same H1 H2 → H2 D = some (.lst acc) → acc = (ps.take (ps.map numV).length).map (fun p => numV (ns.getD p 0)) → ∃ (p : Addr) (xs : List V), [V.ref D] = [V.ref p] ∧ ((SqL K H2 p xs ∧ ∀ q, H2 q = none → Q (.ref q) (upd H2 q (.tup xs))) ∨ (SqT K H2 p xs ∧ Q (.ref p) H2)) := by
      rintro D H1 s1 acc H2 s2 h2 rfl
      rw [List.length_map, List.take_length, show (ps.map fun p => numV (ns.getD p 0)) = (ps.map fun p => ns.getD p 0).map numV by rw [List.map_map]; rfl] at h2
      refine ⟨D, _, rfl, .inl ⟨SqL.of h2, fun q nq => ?_⟩⟩
      have s3 := s1.trans s2
      exact k q _ (s3.free nq) (s3.trans (same_new nq)) upd_same
    rcases hp with hp | hp
    · refine .inl ⟨_, rfl, pl, rfl, ⟨_, SqL.of hp⟩, fun D hD => ?_⟩
      exact lc_listS (xs := ps.map numV) (fun i acc _ => acc = (ps.take i).map fun p => numV (ns.getD p 0)) hD (SqL.of hp) (by rw [List.length_map]; omega) (fun _ _ _ _ _ h => h) rfl (turn D H (Same.refl H)) (fin D H (Same.refl H))
    · refine .inr ⟨_, rfl, pl, rfl, ⟨_, SqT.of hp⟩, fun D hD => ?_⟩
      exact lc_tupS (xs := ps.map numV) (fun i acc _ => acc = (ps.take i).map fun p => numV (ns.getD p 0)) hD (SqT.of hp) (by rw [List.length_map]; omega) (fun _ _ _ _ _ h => h) rfl (turn D H (Same.refl H)) (fin D H (Same.refl H))
/-- for each pair its two places -/
def PlAt (zs : List Str) (H : Hp) (v : V) (x : Str × Str) : Prop := ∃ a, v = .ref a ∧ H a = some (.tup [numV (zs.idxOf x.1), numV (zs.idxOf x.2)])
def spPairPl : Sp := fun vs H Q _ => ∃ (qa : Addr) (q : Qn), vs = [.ref qa] ∧ QAt H qa q ∧ QOk q ∧
  ∀ (p : Addr) (us : List V) (H' : Hp), H p = none → Same H H' → H' p = some (.lst us) → Each (PlAt q.names H') us q.less → Q (.ref p) H'
def spSpread : Sp := fun vs H Q _ => ∃ (qa pl bx : Addr) (q : Qn) (ps : List Nat) (bs : List Str), vs = [.ref qa, .ref pl, .ref bx] ∧ QAt H qa q ∧ QOk q ∧ SeqL H pl (ps.map numV) ∧ H bx = some (.tup (bs.map V.str)) ∧ ps.length = bs.length ∧ (∀ p ∈ ps, p < q.names.length) ∧ ps.length ≤ 5 ∧
  ∀ (p : Addr) (H' : Hp), H p = none → Same H H' → H' p = some (.tup ((sprF q.names.length ps bs).map V.str)) → Q (.ref p) H'
end
end VQ
namespace VQ
open PySem L2 LamX
/-! ### the gap of a tie, of a pair -/
abbrev nTieGap : List Str := ["book", "question", "tie", "point", "rows", "places", "own", "beginnings"]
abbrev nPairGap : List Str := ["question", "pair", "point", "places", "first", "second", "mine", "its", "count"]
def ownP (q : Qn) (i : Nat) (ns : List Nat) : List Nat := (plZ q i).map fun p => ns.getD p 0
/-- what is told of a tie: None where it lets the point by, else the box -/
def TieRes (rs : List (List Nat)) (q : Qn) (i : Nat) (ns : List Nat) (H : Hp) (v : V) : Prop :=
  (v = .non ∧ ownP q i ns ∈ rs) ∨ ∃ (p : Addr) (bs : List Str), v = .ref p ∧ ownP q i ns ∉ rs ∧ ((ownP q i ns = [] ∧ bs = []) ∨ ∃ gi gk, GapAt rs (ownP q i ns) gi gk ∧ bs = gapBox (ownP q i ns) gi gk) ∧ H p = some (.tup ((sprF q.names.length (plZ q i) bs).map V.str))
theorem TieRes.same {rs : List (List Nat)} {q : Qn} {i : Nat} {ns : List Nat} {H H' : Hp} {v : V} (s : Same H H') (h : TieRes rs q i ns H v) : TieRes rs q i ns H' v := by
  rcases h with h | ⟨p, bs, a, b, c, d⟩
  · exact .inl h
  · exact .inr ⟨p, bs, a, b, c, s _ _ d⟩
theorem sprF_len (n : Nat) (ps : List Nat) (bs : List Str) : (sprF n ps bs).length = n := by
  have go : ∀ (l : List (Nat × Str)) (acc : List Str), (l.foldl (fun acc p => acc.set p.1 p.2) acc).length = acc.length := by
    intro l
    induction l with
    | nil => intro acc; rfl
    | cons p l ih => intro acc; exact (ih _).trans (List.length_set ..)
  exact (go _ _).trans (List.length_replicate ..)
theorem tie_alike {rs ss : List (List Nat)} {q : Qn} {i : Nat} {ns : List Nat} {H : Hp} {v dv : V} (pm : rs.Perm ss) (n5 : q.names.length ≤ 5) (d : TieRes rs q i ns H dv) (r : TieRes ss q i ns H v) : Alike H 1 v dv := by
  rcases r with ⟨rfl, m⟩ | ⟨p, bs, rfl, no, c, h⟩
  · rcases d with ⟨rfl, m'⟩ | ⟨p', bs', rfl, no', c', h'⟩
    · exact .non _
    · exact absurd (pm.mem_iff.mpr m) no'
  · rcases d with ⟨rfl, m'⟩ | ⟨p', bs', rfl, no', c', h'⟩
    · exact absurd (pm.mem_iff.mp m') no
    · have e : bs = bs' := by
        rcases c with ⟨c1, rfl⟩ | ⟨gi, gk, G, rfl⟩
        · rcases c' with ⟨_, rfl⟩ | ⟨gi', gk', G', rfl⟩
          · rfl
          · have := G'.lt
            rw [c1] at this
            exact absurd this (Nat.not_lt_zero _)
        · rcases c' with ⟨c1, rfl⟩ | ⟨gi', gk', G', rfl⟩
          · have := G.lt
            rw [c1] at this
            exact absurd this (Nat.not_lt_zero _)
          · obtain ⟨rfl, rfl⟩ := (G'.perm pm).one G
            rfl
      subst e
      exact alike_strs h h' (by rw [sprF_len]; omega)
theorem gapBox_length {pt : List Nat} {i k : Nat} (h : i < pt.length) : (gapBox pt i k).length = pt.length := by
  unfold gapBox
  rw [List.length_append, List.length_append, List.length_map, List.length_take, List.length_replicate]
  show min i pt.length + 1 + (pt.length - i - 1) = pt.length
  omega
theorem ownP_len (q : Qn) (i : Nat) (ns : List Nat) : (ownP q i ns).length = (plZ q i).length := List.length_map _
theorem plZ_len (q : Qn) (i : Nat) : (plZ q i).length = (ownZ q i).length := List.length_map _
theorem plZ_five {q : Qn} (ok : QOk q) (i : Nat) : (plZ q i).length ≤ 5 := by
  rw [plZ_len]
  exact Nat.le_trans (List.length_filter_le _ _) ok.n5
theorem ownP_lt {q : Qn} {i : Nat} {ns : List Nat} (l : ns.length = q.names.length) (b : ∀ n ∈ ns, n < 32) : ∀ n ∈ ownP q i ns, n < 32 := fun n m => by
  obtain ⟨p, mp, rfl⟩ := List.mem_map.mp m
  exact b _ (List.mem_of_getElem? (getD_get (by rw [l]; exact plZ_lt mp)))
section
variable {P : Program} {w : World} {K : PySem.W.Frag} {mg : Str → Option Value} {base : Heap} {C CW CP : Addr}
def spTieGap (C : Addr) : Sp := fun vs H Q _ => ∃ (bk pa qa pt : Addr) (k j n : Nat) (f : Tbs) (q : Qn) (i : Nat) (tie : Str × List Term) (t : Nat × List (List Nat)) (ns : List Nat), vs = [.ref bk, .ref qa, .int (i : Nat), .ref pt] ∧ BookAt C H bk pa k j n f ∧ n < 100 ∧ QAt H qa q ∧ QOk q ∧ Fits f q ∧ q.ties[i]? = some tie ∧ f tie.1 = some t ∧ (∀ r ∈ t.2, RowOk t.1 r) ∧ t.2.Nodup ∧ t.2.length ≤ 40 ∧ PtAt H pt ns ∧ ns.length = q.names.length ∧
  ∀ (v : V) (H' : Hp), Same H H' → TieRes (letM tie.2 (ownZ q i) t.2) q i ns H' v → Q v H'
/-- where the law cuts: behind the first sign in which both part -/
def cutP (A B : Str) (j : Nat) : Nat := ([5, 4, 3, 2, 1].take j).foldl (fun c s => if tk A s = tk B s then c else s) 5
def cutL (m n : Nat) : Nat := cutP (fig m) (fig n) 5
def cutB (m n c : Nat) : Bool := !decide (tk (fig m) c = tk (fig n) c) || (!(decide (c = 5) || !decide (tk (fig m) (c + 1) = tk (fig n) (c + 1))) || (decide (tk (fig m) (c + 1) = tk (fig m) (cutL m n)) && decide (tk (fig n) (c + 1) = tk (fig n) (cutL m n))))
theorem cutB_ok : ∀ m, m < 32 → ∀ n, n < 32 → ∀ c, c < 6 → cutB m n c = true := by decide +kernel
theorem cut_is {m n c : Nat} (hm : m < 32) (hn : n < 32) (hc : c < 6) (e : tk (fig m) c = tk (fig n) c) (d : c = 5 ∨ ¬ tk (fig m) (c + 1) = tk (fig n) (c + 1)) : tk (fig m) (c + 1) = tk (fig m) (cutL m n) ∧ tk (fig n) (c + 1) = tk (fig n) (cutL m n) := by
  have h := cutB_ok m hm n hn c hc
  unfold cutB at h
  rw [decide_eq_true e, Bool.not_true, Bool.false_or] at h
  have h2 : (decide (c = 5) || !decide (tk (fig m) (c + 1) = tk (fig n) (c + 1))) = true := by
    rcases d with d | d
    · rw [decide_eq_true d, Bool.true_or]
    · rw [decide_eq_false d, Bool.not_false, Bool.or_true]
  rw [h2, Bool.not_true, Bool.false_or, Bool.and_eq_true] at h
  exact ⟨of_decide_eq_true h.1, of_decide_eq_true h.2⟩
def chF (m c : Nat) : Str := ⟨#[(fig m).cps.toList.getD c 0]⟩
theorem chF_eq (m c : Nat) : chF m c = ⟨#[(fig m).cps.toList.getD c 0]⟩ := rfl
theorem ch_is : ∀ m, m < 32 → ∀ n, n < 32 → ∀ c, c < 5 → tk (fig m) c = tk (fig n) c → (chF m c = chF n c ↔ tk (fig m) (c + 1) = tk (fig n) (c + 1)) := by decide +kernel
theorem tk_zero (a c : Str) : tk a 0 = tk c 0 := by simp [tk]
theorem ch_at (m : Nat) {c : Nat} (h : c < 5) : atI (fig m).cps.toList (c : Int) = some ((fig m).cps.toList.getD c 0) := atI_nat (getD_get (by
  have := fig_len m
  unfold Str.length at this
  rw [Array.length_toList]
  omega))
def PairRes (q : Qn) (pr : Str × Str) (ns : List Nat) (H : Hp) (v : V) : Prop :=
  (ns.getD (q.names.idxOf pr.1) 0 < ns.getD (q.names.idxOf pr.2) 0 ∧ v = .non) ∨ (¬ ns.getD (q.names.idxOf pr.1) 0 < ns.getD (q.names.idxOf pr.2) 0 ∧ ∃ p, v = .ref p ∧
    H p = some (.tup ((sprF q.names.length [q.names.idxOf pr.1, q.names.idxOf pr.2] [tk (fig (ns.getD (q.names.idxOf pr.1) 0)) (cutL (ns.getD (q.names.idxOf pr.1) 0) (ns.getD (q.names.idxOf pr.2) 0)), tk (fig (ns.getD (q.names.idxOf pr.2) 0)) (cutL (ns.getD (q.names.idxOf pr.1) 0) (ns.getD (q.names.idxOf pr.2) 0))]).map V.str)))
def spPairGap : Sp := fun vs H Q _ => ∃ (qa pt : Addr) (q : Qn) (i : Nat) (pr : Str × Str) (ns : List Nat), vs = [.ref qa, .int (i : Nat), .ref pt] ∧ QAt H qa q ∧ QOk q ∧ q.less[i]? = some pr ∧ PtAt H pt ns ∧ ns.length = q.names.length ∧
  ∀ (v : V) (H' : Hp), Same H H' → PairRes q pr ns H' v → Q v H'
end
end VQ
namespace VQ
open PySem L2 LamX
/-! ### the gaps by the law's own way -/
abbrev nLawSpread : List Str := ["_law_question", "_law_tie", "_law_beginnings", "_law_found", "_law_name", "_law_beginning"]
abbrev nLawTieGap : List Str := ["_law_model", "_law_question", "_law_tie", "_law_point_here", "_law_heap", "_law_own_here", "_law_name"]
abbrev nLawPairGap : List Str := ["_law_question", "_law_pair", "_law_point_here", "_law_first", "_law_last", "_law_a", "_law_b", "_law_cut", "_law_size", "_law_found", "_law_name"]
section
variable {P : Program} {w : World} {K : PySem.W.Frag} {mg : Str → Option Value} {base : Heap}
def spSpreadL : Sp := fun vs H Q _ => ∃ (qa bx : Addr) (q : Qn) (i : Nat) (bs : List Str), vs = [.ref qa, .int (i : Nat), .ref bx] ∧ QAt H qa q ∧ QOk q ∧ i < q.ties.length ∧ H bx = some (.tup (bs.map V.str)) ∧ bs.length = (plZ q i).length ∧
  ∀ (p : Addr) (H' : Hp), H p = none → Same H H' → H' p = some (.tup ((sprF q.names.length (plZ q i) bs).map V.str)) → Q (.ref p) H'
def spTieGapL : Sp := fun vs H Q _ => ∃ (m qa pt : Addr) (M : Mod) (q : Qn) (i : Nat) (tie : Str × List Term) (rs : List (List Nat)) (ns : List Nat), vs = [.ref m, .ref qa, .int (i : Nat), .ref pt] ∧ ModAt H m M ∧ ModOk M ∧ QAt H qa q ∧ QOk q ∧ q.ties[i]? = some tie ∧ (tie.1, tie.2.length, rs) ∈ M ∧ PtAt H pt ns ∧ ns.length = q.names.length ∧
  ∀ (v : V) (H' : Hp), Same H H' → TieRes (letM tie.2 (ownZ q i) rs) q i ns H' v → Q v H'
theorem cutP_zero (A B : Str) : cutP A B 0 = 5 := rfl
theorem cutP_next {A B : Str} {j : Nat} (h : j < 5) : cutP A B (j + 1) = if tk A (5 - j) = tk B (5 - j) then cutP A B j else 5 - j := by
  have e : ([5, 4, 3, 2, 1] : List Nat)[j]? = some (5 - j) := by
    match j, h with
    | 0, _ => rfl
    | 1, _ => rfl
    | 2, _ => rfl
    | 3, _ => rfl
    | 4, _ => rfl
  unfold cutP
  rw [take_one_more e, List.foldl_append]
  rfl
end
end VQ
namespace VQ
open PySem L2 LamX
/-! ### a point near what ties let by -/
abbrev nLawSomePoint : List Str := ["_law_bag_here", "_law_model", "_law_question", "_law_names_here", "_law_point_here", "_law_tie", "_law_heap", "_law_row", "_law_name", "_law_worth_here"]
theorem rg_numsN (n : Nat) : rgV 0 (n : Int) = (List.range n).map numV := by
  unfold rgV
  simp [numV]
theorem list_ne {H : Hp} {b l : Addr} {us : List V} {rs : List (List Nat)} (B : Bag H b) (hl : H l = some (.lst us)) (ro : Rows H us rs) : l ≠ b := fun e => by
  obtain ⟨l', ns, i, r, x, n, nl, h1, _⟩ := B
  rw [e, h1] at hl
  cases hl
  cases ro with
  | cons h t => cases t
theorem ModT.keep {H H' : Hp} {b : Addr} {v : V} {wd : Nat} {rs : List (List Nat)} (B : Bag H b) (k : Keep b H H') (h : ModT H v wd rs) : ModT H' v wd rs := by
  obtain ⟨t, l, us, e, ht, hl, ro⟩ := h
  exact ⟨t, l, us, e, k.tup B ht, k.1 _ _ (list_ne B hl ro) hl, Rows.keep B k ro⟩
theorem ModL.keep {H H' : Hp} {b : Addr} (B : Bag H b) (k : Keep b H H') : ∀ {kvs : List (L2.Key × V)} {M : Mod}, ModL H kvs M → ModL H' kvs M
  | _, _, .nil => .nil
  | _, _, .cons h t => .cons (h.keep B k) (ModL.keep B k t)
theorem ModAt.keep {H H' : Hp} {b m : Addr} {M : Mod} (B : Bag H b) (k : Keep b H H') (h : ModAt H m M) : ModAt H' m M := by
  obtain ⟨kvs, h1, h2⟩ := h
  refine ⟨kvs, k.1 _ _ (fun e => ?_) h1, h2.keep B k⟩
  obtain ⟨l', ns, i, r, x, n, nl, g, _⟩ := B
  rw [e, g] at h1
  cases h1
section
variable {P : Program} {w : World} {K : PySem.W.Frag} {mg : Str → Option Value} {base : Heap}
def spSomePt : Sp := fun vs H Q _ => ∃ (bg m qa : Addr) (M : Mod) (q : Qn), vs = [.ref bg, .ref m, .ref qa] ∧ Bag H bg ∧ ModAt H m M ∧ ModOk M ∧ QAt H qa q ∧ QOk q ∧ FitsM M q.ties ∧
  ∀ (p : Addr) (ns : List Nat) (H' : Hp), PtAt H' p ns → ns.length = q.names.length → Bag H' bg → Keep bg H H' → Q (.ref p) H'
end
end VQ
namespace VQ
open PySem PySem.Spec PyProof.Rows L2
/-! ### a dict comprehension whose keys are tuples -/
/-- what one turn asks, from the thing that is walked to -/
def TurnT (g : TG) (tt : TT) (tk tv : TE) (own : List Nat) (D : Addr) (σ : L2.St) (Nx : Hp → Prop) (x : V) (H' : Hp) : Prop :=
  g x (wipe σ own) H' fun σ2 H2 => wipe σ2 own = wipe σ own ∧ tt σ2 H2 fun c H3 =>
    if c = true then tk σ2 H3 fun y H4 => tv σ2 H4 fun z H5 => ∃ (kvs : List (List L2.Key × V)) (k : List L2.Key) (t : Addr), y = .ref t ∧ H5 t = some (.tup (k.map kV)) ∧ H5 D = some (.dT kvs) ∧ kvs.length < sizeLine ∧ Nx (upd H5 D (.dT (putK kvs k z))) else Nx H3
/-- {t: v for x in walk if ..} -/
def tDcT (walk : TI) (g : TG) (tt : TT) (tk tv : TE) (own : List Nat) : TE := fun σ H Q => walk σ H fun J H1 => ∀ D, H1 D = none → ∃ Wt : Nat → Nat → Hp → Prop, (∃ m, Wt 0 m (upd H1 D (.dT []))) ∧
  ∀ i m H2, Wt i m H2 → (J.stop i H2 ∧ Q (.ref D) H2) ∨ (J.go i H2 ∧ ∃ Nx : Hp → Prop, (∀ H', Nx H' → ∃ m', m' < m ∧ Wt (i + 1) m' H') ∧ ∀ x H', J.yld i H2 x H' → TurnT g tt tk tv own D σ Nx x H')
theorem put_dT {X : Cx} {pins : List (Addr × Obj)} {σ : L2.St} {H : Hp} {s : Shared} {E : Value → Shared → Prop} {D t : Addr} {kvs : List (List L2.Key × V)} {k : List L2.Key} {z : V} {u r : Value} {Q : Unit → Shared → Prop} (room : X.A.units < cLine) (inv : Inv X pins σ H s) (hD : H D = some (.dT kvs)) (ht : H t = some (.tup (k.map kV))) (few : kvs.length < sizeLine)
    (ru : RelV (.ref t) u) (rr : RelV z r) (next : ∀ s', Inv X pins σ (upd H D (.dT (putK kvs k z))) s' → Q () s') : wpAny (model X.prog X.w) X.A (dictSet D u r) Q E s := by
  cases ru
  obtain ⟨le, sys, ys, rel, dic⟩ := dt_of inv.hok hD
  refine wpAny_dictSet_heap (hsz := by rw [← Paired.length rel]; exact le) room (key_of inv.hok ht) dic fun h' dic' same => next _ ?_
  have len : (putK kvs k z).length ≤ sizeLine := by
    have := length_putK kvs k z
    omega
  obtain ⟨ob, es, ep, g1, g2, g3, g4, _, g5⟩ := dic'
  refine d_write inv (by rw [hD]; exact True.intro) same ⟨ob, g1⟩ ⟨len, sys, _, (rel.put k ht rr).keeps fun c zs ec => ?_, ob, es, ep, g1, g2, g3, g4, g5⟩
  rw [upd_ne (ne_of ec hD (fun y => nomatch y))]
  exact ec
section
variable {X : Cx}
theorem dcT_core {pins : List (Addr × Obj)} {s : Shared} {σ : L2.St} {H : Hp} {Q : VK} {kx vx tg iter : Expr} {ifs : List Expr} {scope : Scope} {own : List (Str × Nat)} {pos pos' : Pos} {walk : TI} {g : TG} {tt : TT} {tk tv : TE} {use : Option (Value → Sem Unit)} {Qf : Value → Shared → Prop}
    (room : X.A.units < cLine) (calm : X.calm = true) (nd : X.N.Nodup) (inv : Inv X pins σ H s) (hi : PI X tg iter walk) (ok : BlkOk X.N X.env.scope scope own)
    (pgs : ∀ (s : Shared) (H : Hp) (C : Addr) (cl : List (Str × Addr)) (fp : List Addr), PG (X.blk s H scope (compEnvC scope cl C X.env) fp) tg g) (pts : ∀ (s : Shared) (H : Hp) (C : Addr) (cl : List (Str × Addr)) (fp : List Addr), PTs (X.blk s H scope (compEnvC scope cl C X.env) fp) ifs tt)
    (pks : ∀ (s : Shared) (H : Hp) (C : Addr) (cl : List (Str × Addr)) (fp : List Addr), PE (X.blk s H scope (compEnvC scope cl C X.env) fp) kx tk) (pvs : ∀ (s : Shared) (H : Hp) (C : Addr) (cl : List (Str × Addr)) (fp : List Addr), PE (X.blk s H scope (compEnvC scope cl C X.env) fp) vx tv)
    (folded : ∀ x, foldedSetIterable iter X.env x = pure x) (want : tDcT walk g tt tk tv (own.map (·.2)) σ H Q)
    (ends : ∀ D C s' m H', Inv X pins σ H' s' → Q (.ref D) H' → s'.heap.Ns C m → FpOk X pins H' C → compPost (model X.prog X.w) X.A X.xe use Qf (.ref D) C (.ok .next) s') :
    wpAny (model X.prog X.w) X.A (comprehension (.DictComp kx vx [⟨tg, iter, ifs, 0⟩] scope pos) scope X.env pos' newDict false (eval iter X.env) use) Qf X.xe s := by
  have frees : ∀ y ∈ scope.names, y.2 = .free → ∃ c, X.env.cells.lookup y.1 = some c := fun y m e => (ok.free y m e).elim (fun k => inv.ok.has _ (.inl k)) fun k => inv.ok.has _ (.inr k)
  refine wpAny_comprehension_free (use := use) rfl folded (closure_ok frees) ok.kind (fun y m e => by rw [ok.uniq y m, e]) (thn (hi.run pins s σ H _ inv want) fun xv t1 hx => thn hx fun itv t2 h2 => ?_)
  obtain ⟨it, fp, tn, J, H2, rfl, J2, T, st2, f2, q⟩ := h2
  refine wpAny_newObj_type (newEnv_comp ?_)
  generalize eD : t2.heap.objs.size = D
  obtain ⟨Wt, ⟨m0, w0⟩, turn⟩ := q D (J2.hok.fresh (Nat.le_of_eq eD))
  generalize e3 : ({ t2 with heap := t2.heap.push { cls := .type "dict", data := .dict #[] } } : Shared) = t3
  have J3 : Inv X pins σ (upd H2 D (.dT [])) t3 := by
    rw [← e3]
    refine J2.laid (t' := t2.toks) (fun b o z => Heap.get?_push_of_some _ z) (Nat.le_of_eq eD) ?_
    rw [← eD]
    exact dt_empty t2.heap J2.big
  have p3 : t3.heap = t2.heap.push { cls := .type "dict", data := .dict #[] } := by rw [← e3]
  have f3 : ∀ b ∈ fp, FpOk X pins (upd H2 D (.dT [])) b ∧ b < t3.heap.objs.size := fun b m => by
    obtain ⟨o, z, _⟩ := T.obj _ _ st2 b m
    have lt := Heap.lt_size z
    refine ⟨⟨?_, (f2 b m).2⟩, by rw [p3, Heap.size_push]; exact Nat.lt_succ_of_lt lt⟩
    rw [upd_ne (by rw [← eD]; exact Nat.ne_of_lt lt)]
    exact (f2 b m).1
  have st3 : tn 0 t3.heap := T.keep _ _ _ st2 fun b _ o z => by
    rw [p3]
    exact Heap.get?_push_of_some _ z
  have J4 := block_start J3 ok nd f3
  have pg := pgs t3 (upd H2 D (.dT [])) t3.heap.objs.size (cellsFrom (t3.heap.objs.size + 1) scope.names (cloFrom X.env.cells scope.names [])) fp
  have pt := pts t3 (upd H2 D (.dT [])) t3.heap.objs.size (cellsFrom (t3.heap.objs.size + 1) scope.names (cloFrom X.env.cells scope.names [])) fp
  have pk := pks t3 (upd H2 D (.dT [])) t3.heap.objs.size (cellsFrom (t3.heap.objs.size + 1) scope.names (cloFrom X.env.cells scope.names [])) fp
  have pv := pvs t3 (upd H2 D (.dT [])) t3.heap.objs.size (cellsFrom (t3.heap.objs.size + 1) scope.names (cloFrom X.env.cells scope.names [])) fp
  show codeAny _ _ (.compStart (.DictComp kx vx [⟨tg, iter, ifs, 0⟩] scope pos) 0 (.ref it) (.ref D) (compEnvC scope (cellsFrom (t3.heap.objs.size + 1) scope.names (cloFrom X.env.cells scope.names [])) t3.heap.objs.size X.env)) (compPost (model X.prog X.w) X.A X.xe use Qf (.ref D) t3.heap.objs.size) { t3 with heap := pushCells (t3.heap.push { cls := .type "dict", data := .dict #[] }) scope.names }
  have nfp : ∀ b ∈ fp, (upd H2 D (.dT [])) b = none := fun b m => (f3 b m).1.1
  generalize ece : compEnvC scope (cellsFrom (t3.heap.objs.size + 1) scope.names (cloFrom X.env.cells scope.names [])) t3.heap.objs.size X.env = ce at J4 pg pt pk pv ⊢
  have cL : ce.locals = t3.heap.objs.size := by
    subst ece
    rfl
  generalize eH3 : upd H2 D (.dT []) = H3 at J3 J4 pg pt pk pv w0 nfp f3
  generalize e4 : ({ t3 with heap := pushCells (t3.heap.push { cls := .type "dict", data := .dict #[] }) scope.names } : Shared) = t4 at J4 ⊢
  have st4 : tn 0 t4.heap := T.keep _ _ _ st3 fun b _ o z => by
    rw [← e4]
    exact pushCells_keeps _ _ _ _ (Heap.get?_push_of_some _ z)
  have stat : ∀ {σ' : L2.St} {H' : Hp} {s' : Shared}, Inv (X.blk t3 H3 scope ce fp) [] σ' H' s' → (∀ b ∈ fp, H' b = none) → ∀ b ∈ fp, FpOk (X.blk t3 H3 scope ce fp) [] H' b := fun {σ' H' s'} I' none_ b m =>
    ⟨none_ b m, (I'.ok.exf b m).1, I'.ok.exfs b m, .inl m, fun x c z => (I'.ok.exf b m).2 x c z, fun p mp => absurd (show p ∈ ([] : List (Addr × Obj)) ++ [] from mp) (by simp)⟩
  have loop : codeAny (model X.prog X.w) X.A (.compLoop (.DictComp kx vx [⟨tg, iter, ifs, 0⟩] scope pos) 0 (.ref it) (.ref D) ce) (compPost (model X.prog X.w) X.A X.xe use Qf (.ref D) t3.heap.objs.size) t4 := by
    refine compLoop_anyD (fun n s' => ∃ i H', Inv (X.blk t3 H3 scope ce fp) [] (wipe σ (own.map (·.2))) H' s' ∧ tn i s'.heap ∧ (∀ b ∈ fp, H' b = none) ∧ Wt i n H') ?_ m0 ⟨0, H3, J4, st4, nfp, w0⟩
    rintro n t5 ⟨i, H5, J5, st5, n5, w5⟩
    rcases turn i n H5 w5 with ⟨stop, qq⟩ | ⟨go, Nx, less, step⟩
    · refine thnF (T.done (X.blk t3 H3 scope ce fp) rfl rfl rfl calm i [] t5 _ H5 (fun _ _ => False) J5 (stat J5 n5) st5 stop) fun r t6 ⟨er, J6⟩ => ?_
      subst er
      have J7 : Inv X pins σ H5 t6 := J3.call' (ch := fp) J6.os J6.base J6.hok J6.bare fun b m => ⟨(f3 b m).1.2.2.2.1, (f3 b m).1.2.1, (f3 b m).1.2.2.2.2.1, (f3 b m).1.2.2.2.2.2⟩
      have nC : H5 t3.heap.objs.size = none := by
        rw [← cL]
        exact J6.free
      obtain ⟨m, hn, _⟩ := J6.loc
      have hn : t6.heap.Ns ce.locals m := hn
      rw [cL] at hn
      exact ends D t3.heap.objs.size t6 m H5 J7 qq hn (J3.fpOk (Nat.le_refl _) nC)
    · refine thnF (T.item (X.blk t3 H3 scope ce fp) rfl rfl rfl calm i [] t5 _ H5 (fun _ _ => False) J5 (stat J5 n5) st5 go) fun r t6 ⟨u, er, h6⟩ => ?_
      subst er
      refine thnF h6 fun _ t7 ⟨x, H7, J7, r7, y7, st7, n7⟩ => ?_
      have J7' := J7.pinned (stat J7 n7) (T.obj _ _ st7)
      have wish : TurnT g tt tk tv (own.map (·.2)) D σ Nx x H7 := step x H7 y7
      refine thnF (pg.run _ t7 _ H7 x u _ J7' r7 wish) fun _ t8 ⟨σ8, H8, J8, hw8, q8⟩ => ?_
      refine thnF (pt.run _ t8 σ8 H8 _ J8 q8) fun c t9 ⟨H9, J9, q9⟩ => ?_
      have fin : ∀ {s' : Shared} {H' : Hp}, Inv (X.blk t3 H3 scope ce fp) ([] ++ pinsAt fp t7.heap) σ8 H' s' → Nx H' → ∃ m, m < n ∧ ∃ i H', Inv (X.blk t3 H3 scope ce fp) [] (wipe σ (own.map (·.2))) H' s' ∧ tn i s'.heap ∧ (∀ b ∈ fp, H' b = none) ∧ Wt i m H' := fun {s' H'} I' nx => by
        obtain ⟨m', lm, w'⟩ := less H' nx
        have held : ∀ b ∈ fp, ∀ o, t7.heap.get? b = some o → s'.heap.get? b = some o ∧ H' b = none := fun b m o z => by
          have y := I'.pin (b, o) (List.mem_append_right _ (List.mem_append_right _ (mem_pinsAt m z)))
          exact ⟨y.1, y.2.1⟩
        have el : (wipe σ (own.map (·.2))).length = σ8.length := by rw [← hw8, wipe_length]
        refine ⟨m', lm, i + 1, H', (I'.unpinned (pins := [])).weak el (fun j v z => ?_), T.keep _ _ _ st7 fun b m o z => (held b m o z).1, fun b m => ?_, w'⟩
        · rw [← hw8] at z
          exact (wipe_some z).1
        · obtain ⟨o, z, _⟩ := T.obj _ _ st7 b m
          exact (held b m o z).2
      cases c with
      | false =>
        simp only [Bool.false_eq_true, if_false] at q9 ⊢
        exact fin J9 q9
      | true =>
        simp only [if_true] at q9 ⊢
        refine thnF (pk.run _ t9 σ8 H9 _ J9 q9) fun z t10 ⟨yk, H10, J10, r10, q10⟩ => ?_
        refine thnF (pv.run _ t10 σ8 H10 _ J10 q10) fun z2 t11 ⟨yv, H11, J11, r11, kvs, k, t, ek, hk11, hD11, few, nx⟩ => ?_
        subst ek
        exact put_dT (X := X.blk t3 H3 scope ce fp) room J11 hD11 hk11 few r10 r11 fun t12 J12 => fin J12 nx
  exact codeAny_compStart_dict loop (T.self X.A 0 _ _ _ st4 loop)
theorem pe_dcT {kx vx tg iter : Expr} {ifs : List Expr} {scope : Scope} {own : List (Str × Nat)} {pos : Pos} {walk : TI} {g : TG} {tt : TT} {tk tv : TE} (room : X.A.units < cLine) (calm : X.calm = true) (nd : X.N.Nodup) (hi : PI X tg iter walk) (ok : BlkOk X.N X.env.scope scope own)
    (pgs : ∀ (s : Shared) (H : Hp) (C : Addr) (cl : List (Str × Addr)) (fp : List Addr), PG (X.blk s H scope (compEnvC scope cl C X.env) fp) tg g) (pts : ∀ (s : Shared) (H : Hp) (C : Addr) (cl : List (Str × Addr)) (fp : List Addr), PTs (X.blk s H scope (compEnvC scope cl C X.env) fp) ifs tt)
    (pks : ∀ (s : Shared) (H : Hp) (C : Addr) (cl : List (Str × Addr)) (fp : List Addr), PE (X.blk s H scope (compEnvC scope cl C X.env) fp) kx tk) (pvs : ∀ (s : Shared) (H : Hp) (C : Addr) (cl : List (Str × Addr)) (fp : List Addr), PE (X.blk s H scope (compEnvC scope cl C X.env) fp) vx tv)
    (folded : ∀ x, foldedSetIterable iter X.env x = pure x := by intro _; rfl) : PE X (.DictComp kx vx [⟨tg, iter, ifs, 0⟩] scope pos) (tDcT walk g tt tk tv (own.map (·.2))) := by
  refine ⟨fun pins s σ H Q inv want => ?_⟩
  rw [arm_eval_DictComp]
  refine dcT_core room calm nd inv hi ok pgs pts pks pvs folded want fun D C s' m H' I' q hn f => ⟨m, hn, fun h3 sb => ?_⟩
  obtain ⟨f0, f1, f2, f3, f4, f5⟩ := f
  exact ⟨.ref D, H', I'.turned (t' := s'.toks) (fun b o hb e => (sb.2 b hb).trans e) f0 f1 f3 f4 f5, rfl, q⟩
/-- over a list that stays -/
theorem dcT_list {K : PySem.W.Frag} {a : Addr} {xs : List V} {g : TG} {tt : TT} {tk tv : TE} {own : List Nat} {σ : L2.St} {H1 : Hp} {D : Addr} {Qd : Hp → Prop} (A : Nat → Hp → Prop) (h0 : A 0 (upd H1 D (.dT []))) (stays : ∀ i H, i ≤ xs.length → A i H → SqL K H a xs)
    (turn : ∀ i x H, xs[i]? = some x → A i H → TurnT g tt tk tv own D σ (A (i + 1)) x H) (fin : ∀ H, A xs.length H → Qd H) :
    ∃ Wt : Nat → Nat → Hp → Prop, (∃ m, Wt 0 m (upd H1 D (.dT []))) ∧ ∀ i m H2, Wt i m H2 → ((Itl K a).stop i H2 ∧ Qd H2) ∨ ((Itl K a).go i H2 ∧ ∃ Nx : Hp → Prop, (∀ H', Nx H' → ∃ m', m' < m ∧ Wt (i + 1) m' H') ∧ ∀ x H', (Itl K a).yld i H2 x H' → TurnT g tt tk tv own D σ Nx x H') := by
  refine ⟨fun i m H => m = xs.length - i ∧ i ≤ xs.length ∧ A i H, ⟨_, rfl, Nat.zero_le _, h0⟩, ?_⟩
  rintro i m H2 ⟨rfl, le, p⟩
  have sq := stays i H2 le p
  by_cases lt : i < xs.length
  · refine .inr ⟨⟨xs, xs[i], sq, List.getElem?_eq_getElem lt⟩, A (i + 1), fun H' p' => ⟨xs.length - (i + 1), by omega, rfl, lt, p'⟩, fun x H' y => ?_⟩
    obtain ⟨e, y⟩ := y
    subst e
    exact turn i x _ (y xs sq) p
  · have e : i = xs.length := by omega
    subst e
    exact .inl ⟨⟨xs, sq, Nat.le_refl _⟩, fin H2 p⟩
end
end VQ
namespace VQ
open PySem L2 LamX
/-! ### whether a point keeps the pairs, fits -/
abbrev sLawKeeps : Stmt := top 83
abbrev nLawKeeps : List Str := ["_law_question", "_law_point", "_law_worths", "_law_one", "_law_other"]
theorem scLawKeeps : FnScope nLawKeeps ["_law_question", "_law_point"] (defScope sLawKeeps) := ⟨rfl, rfl, rfl, by decide +kernel, rfl, by decide +kernel, by decide +kernel⟩
abbrev nLawRowOf : List Str := ["_law_question", "_law_tie", "_law_point", "_law_found", "_law_term"]
abbrev nLawFits : List Str := ["_law_model", "_law_question", "_law_point", "_law_tie"]
/-- a point's worth at a name -/
def ptW (q : Qn) (ns : List Nat) (z : Str) : Nat := ns.getD (q.names.idxOf z) 0
def keepsB (q : Qn) (ns : List Nat) : Bool := q.less.all fun p => decide (ptW q ns p.1 < ptW q ns p.2)
def termW (q : Qn) (ns : List Nat) : Term → Nat
  | .wo m => m
  | .nm z => ptW q ns z
section
variable {P : Program} {w : World} {K : PySem.W.Frag} {mg : Str → Option Value} {base : Heap}
def spKeeps : Sp := fun vs H Q _ => ∃ (qa pt : Addr) (q : Qn) (ns : List Nat), vs = [.ref qa, .ref pt] ∧ QAt H qa q ∧ QOk q ∧ H pt = some (.tup (ns.map numV)) ∧ ns.length = q.names.length ∧
  ∀ H', Same H H' → Q (.bl (keepsB q ns)) H'
theorem has_keeps (b : Blt mg) (zp : mg "zip" = none) (di : mg "dict" = none) (a : AtE K mg "_law_keeps" sLawKeeps ["_law_question", "_law_point"]) : Has P w K mg base CX0 1 "_law_keeps" sLawKeeps ["_law_question", "_law_point"] spKeeps := by
  obtain ⟨f, fd, a⟩ := a
  refine ⟨f, fd, a, a.fn.ok scLawKeeps (fun vs H Q E h => ?_) (fun cdv A outer s H vs Q E hr0 h => ?_)⟩
  · obtain ⟨qa, pt, q, ns, rfl, _⟩ := h
    rfl
  · obtain ⟨qa, pt, q, ns, rfl, hqa, ok, hpt, ln, k⟩ := h
    have hu1 : (A.deeper (PyProof.Rows.envOfC "_law_keeps" (defScope sLawKeeps) s.heap.objs.size f cdv)).units + 1 < cLine := by
      have := hr0.un
      omega
    refine ⟨_,
    (pss_cons (ps_set (i := 2) scLawKeeps.nd rfl (.inr rfl) (pe_callTy (call_dictP rfl) (by rfl) di (by decide +kernel) (pa_cons (pe_listzip rfl b.list rfl zp (pa_cons (pe_ix ix_tup (pv 0) pe_int fun _ _ => rfl) (pa_cons (pv 1) pa_nil))) pa_nil)))
    (pss_one (ps_ret (pe_callB (cr_all rfl) (by rfl) b.all (by decide +kernel) (pa_cons (pe_lc (own := [("_law_one", 3), ("_law_other", 4)]) (g := (gTup K 2 (gCons (gName 3) (gCons (gName 4) gNil)))) (tt := tYes) (te := (tOp (rI0 fun i j => .bl (decide (i < j))) (tDGet (tVar 2) (tVar 3)) (tDGet (tVar 2) (tVar 4)))) rfl scLawKeeps.nd (pi_tup (pe_ix ix_tup (pv 0) pe_int fun _ _ => rfl)) (blkOk_by (N := nLawKeeps) (sc := defScope sLawKeeps) (by decide +kernel)) (fun _ _ _ _ _ => (pg_tup rfl (pgs_cons (pg_name (i := 3) scLawKeeps.nd rfl (.inl rfl)) (pgs_cons (pg_name (i := 4) scLawKeeps.nd rfl (.inl rfl)) pgs_nil)))) (fun _ _ _ _ _ => pts_nil) (fun _ _ _ _ _ => (pe_cmpR op_lt (pe_dget hu1 (pv 2) (pv 3) fun _ _ => rfl) (pe_dget hu1 (pv 2) (pv 4) fun _ _ => rfl) (nomark _)))) pa_nil))))), ?_⟩
    obtain ⟨n, t, l, hqr, hq⟩ := hqa
    obtain ⟨ls, hl, els⟩ := hq.le
    have n5 := ok.n5
    refine ⟨_, rfl, qa, _, _, _, rfl, rfl, SqT.of hqr, atI_nat (j := 0) rfl, _, rfl, n, pt, _, _, rfl, hq.nm.sq, SqT.of hpt, by rw [List.length_map, List.length_map, ln], by rw [List.length_map]; omega, fun p ps H1 np s1 hp lps pairs => ?_⟩
    rw [List.length_map] at lps
    refine ⟨p, ps, q.names.map fun z => (Sum.inr z, numV (ptW q ns z)), rfl, SqL.of hp, paired_at lps fun i y z e1 e2 => pairs i y (.str z) (numV (ptW q ns z)) e1 (by rw [List.getElem?_map, e2]; rfl) (by
      unfold ptW
      rw [idx_nodup ok.nd e2, List.getElem?_map, getD_get (d := 0) (by rw [ln]; exact (List.getElem?_eq_some_iff.mp e2).1)]
      rfl), fun d nd => ?_⟩
    have sd := same_new (o := HO.dK (mergeK [] (q.names.map fun z => (Sum.inr z, numV (ptW q ns z))))) nd
    have hd := upd_same (H := H1) (a := d) (o := .dK (mergeK [] (q.names.map fun z => (Sum.inr z, numV (ptW q ns z)))))
    have s2 := s1.trans sd
    generalize upd H1 d (.dK (mergeK [] (q.names.map fun z => (Sum.inr z, numV (ptW q ns z))))) = H2 at sd hd s2 ⊢
    refine ⟨_, rfl, qa, _, _, _, rfl, rfl, SqT.of (s2 _ _ hqr), atI_nat (j := 3) rfl, l, rfl, ⟨_, SqT.of (s2 _ _ hl)⟩, fun D hD => ?_⟩
    refine lc_tupS (xs := ls) (fun i acc _ => acc = ((q.less.take i).map fun p => decide (ptW q ns p.1 < ptW q ns p.2)).map V.bl) hD (SqT.of (s2 _ _ hl)) (by rw [els.len]; have := ok.l3; omega) (fun _ _ _ _ _ h => h) rfl ?_ ?_
    · rintro i x acc H3 hx s3 h3 rfl k1 k2 y1 y2
      obtain ⟨pr, epr, ap, rfl, hap⟩ := els.get hx
      have mp := ok.ll pr (List.mem_of_getElem? epr)
      have hd3 := s3 _ _ hd
      refine ⟨ap, _, rfl, SqT.of (s3 _ _ (s2 _ _ hap)), rfl, _, _, rfl, _, _, rfl, rfl, rfl, yes_turn ?_⟩
      refine ⟨_, rfl, _, rfl, d, _, rfl, .inl ⟨_, Sum.inr pr.1, .inl hd3, rfl, by rw [val_merge (F := fun z => numV (ptW q ns z)), if_pos mp.1]⟩, ?_⟩
      refine ⟨_, rfl, _, rfl, d, _, rfl, .inl ⟨_, Sum.inr pr.2, .inl hd3, rfl, by rw [val_merge (F := fun z => numV (ptW q ns z)), if_pos mp.2.1]⟩, ?_⟩
      refine ⟨_, _, rfl, rfl, y1 _ _ (Same.refl _) ?_⟩
      rw [take_one_more epr, List.map_append, List.map_append]
      show _ = _ ++ [V.bl (decide (ptW q ns pr.1 < ptW q ns pr.2))]
      refine congrArg (fun z : Bool => _ ++ [V.bl z]) (decide_eq_decide.mpr ?_)
      omega
    · rintro acc H3 s3 h3 rfl
      rw [els.len, List.take_length] at h3
      refine ⟨D, _, rfl, SqL.of h3, ?_⟩
      have e : ((q.less.map fun p => decide (ptW q ns p.1 < ptW q ns p.2)).all id) = keepsB q ns := by
        rw [List.all_map]
        rfl
      rw [e]
      exact k _ (s2.trans s3)
/-- the row that a tie asks of a point -/
def spRowOf : Sp := fun vs H Q _ => ∃ (qa pt : Addr) (q : Qn) (i : Nat) (tie : Str × List Term) (ns : List Nat), vs = [.ref qa, .int (i : Nat), .ref pt] ∧ QAt H qa q ∧ QOk q ∧ q.ties[i]? = some tie ∧ H pt = some (.tup (ns.map numV)) ∧ ns.length = q.names.length ∧
  ∀ (p : Addr) (H' : Hp), H p = none → Same H H' → H' p = some (.tup ((tie.2.map (termW q ns)).map numV)) → Q (.ref p) H'
/-- whether each tie's row is in its table, and the pairs are kept -/
def FitsP (M : Mod) (q : Qn) (ns : List Nat) : Prop := (∀ tie ∈ q.ties, ∀ rs, (tie.1, tie.2.length, rs) ∈ M → tie.2.map (termW q ns) ∈ rs) ∧ keepsB q ns = true
def spLawFits : Sp := fun vs H Q _ => ∃ (m qa pt : Addr) (M : Mod) (q : Qn) (ns : List Nat), vs = [.ref m, .ref qa, .ref pt] ∧ ModAt H m M ∧ ModOk M ∧ QAt H qa q ∧ QOk q ∧ FitsM M q.ties ∧ H pt = some (.tup (ns.map numV)) ∧ ns.length = q.names.length ∧
  ∀ (c : Bool) (H' : Hp), Same H H' → (c = true ↔ FitsP M q ns) → Q (.bl c) H'
end
end VQ
namespace VQ
open PySem L2 LamX
/-! ### points that fit, found name by name -/
def tmsOf (q : Qn) (i : Nat) : List Term := (q.ties.getD i ("", [])).2
/-- the names of a tie that stand among the first j -/
def knZ (q : Qn) (i j : Nat) : List Str := (q.names.take j).filter fun z => decide (Term.nm z ∈ tmsOf q i)
/-- what a row of own worths has at a name -/
def rowW (q : Qn) (i : Nat) (r : List Nat) (z : Str) : Nat := r.getD ((ownZ q i).idxOf z) 0
theorem knZ_all (q : Qn) (i : Nat) : knZ q i q.names.length = ownZ q i := by
  unfold knZ
  rw [List.take_length]
  rfl
theorem filter_take {zs : List Str} (nd : zs.Nodup) (j : Nat) : (zs.filter fun z => decide (z ∈ zs.take j)) = zs.take j := by
  have hp : ∀ z, (fun z => decide (z ∈ zs.take j)) z = true ↔ z ∈ zs.take j := fun z => ⟨of_decide_eq_true, decide_eq_true⟩
  generalize (fun z => decide (z ∈ zs.take j)) = p at hp
  have e := List.take_append_drop j zs
  have nd' : (zs.take j ++ zs.drop j).Nodup := by rw [e]; exact nd
  have h : zs.filter p = (zs.take j ++ zs.drop j).filter p := by rw [e]
  rw [h, List.filter_append, List.filter_eq_self.mpr (fun z m => (hp z).mpr m), List.filter_eq_nil_iff.mpr (fun z m c => (List.nodup_append.mp nd').2.2 z ((hp z).mp c) z m rfl), List.append_nil]
theorem known_is {q : Qn} (nd : q.names.Nodup) (i k : Nat) : ((ownZ q i).filter fun z => decide (z ∈ q.names.take k)) = knZ q i k := by
  unfold ownZ knZ tmsOf
  rw [List.filter_filter, show (fun z => decide (z ∈ q.names.take k) && decide (Term.nm z ∈ (q.ties.getD i ("", [])).2)) = (fun z => decide (Term.nm z ∈ (q.ties.getD i ("", [])).2) && decide (z ∈ q.names.take k)) from funext fun z => Bool.and_comm _ _, ← List.filter_filter, filter_take nd]
theorem knZ_succ {q : Qn} {j : Nat} {z : Str} (hz : q.names[j]? = some z) (i : Nat) : knZ q i (j + 1) = knZ q i j ++ (if Term.nm z ∈ tmsOf q i then [z] else []) := by
  unfold knZ
  rw [take_one_more hz, List.filter_append]
  congr 1
  by_cases c : Term.nm z ∈ tmsOf q i
  · rw [if_pos c, List.filter_cons_of_pos (p := fun z => decide (Term.nm z ∈ tmsOf q i)) (decide_eq_true c)]
    rfl
  · rw [if_neg c, List.filter_cons_of_neg (p := fun z => decide (Term.nm z ∈ tmsOf q i)) (by rw [decide_eq_false c]; exact Bool.false_ne_true)]
    rfl
theorem own_iff {q : Qn} {i : Nat} {z : Str} (m : z ∈ q.names) : z ∈ ownZ q i ↔ Term.nm z ∈ tmsOf q i := by
  unfold ownZ tmsOf
  rw [List.mem_filter]
  exact ⟨fun h => of_decide_eq_true h.2, fun h => ⟨m, decide_eq_true h⟩⟩
theorem own_nodup {q : Qn} (nd : q.names.Nodup) (i : Nat) : (ownZ q i).Nodup := nd.filter _
theorem kn_own {q : Qn} {i j : Nat} {z : Str} (m : z ∈ knZ q i j) : z ∈ ownZ q i := by
  obtain ⟨m1, m2⟩ := List.mem_filter.mp m
  exact List.mem_filter.mpr ⟨List.mem_of_mem_take m1, m2⟩
theorem own_at {q : Qn} {i j : Nat} {z : Str} (nd : q.names.Nodup) (hz : q.names[j]? = some z) (m : z ∈ ownZ q i) : (ownZ q i).idxOf z = (knZ q i j).length := by
  refine idx_nodup (own_nodup nd i) ?_
  have p := (own_iff (List.mem_of_getElem? hz)).mp m
  obtain ⟨lj, ej⟩ := List.getElem?_eq_some_iff.mp hz
  have e : ownZ q i = knZ q i j ++ (q.names.drop j).filter fun z => decide (Term.nm z ∈ tmsOf q i) := by
    unfold knZ
    rw [← List.filter_append, List.take_append_drop]
    rfl
  rw [e, List.getElem?_append_right (Nat.le_refl _), Nat.sub_self, List.drop_eq_getElem_cons lj, ej, List.filter_cons_of_pos (p := fun z => decide (Term.nm z ∈ tmsOf q i)) (decide_eq_true p)]
  rfl
theorem idx_take {q : Qn} {j : Nat} {z : Str} (nd : q.names.Nodup) (m : z ∈ q.names.take j) : q.names.idxOf z < j := by
  obtain ⟨k, hk⟩ := List.mem_iff_getElem?.mp m
  by_cases c : k < j
  · rw [List.getElem?_take_of_lt c] at hk
    rw [idx_nodup nd hk]
    exact c
  · rw [List.getElem?_eq_none (by rw [List.length_take]; omega)] at hk
    cases hk
theorem ptW_app {q : Qn} {pt : List Nat} {x : Nat} {z : Str} (l : q.names.idxOf z < pt.length) : ptW q (pt ++ [x]) z = ptW q pt z := by
  unfold ptW
  rw [List.getD_eq_getElem?_getD, List.getD_eq_getElem?_getD, List.getElem?_append_left l]
theorem ptW_new {q : Qn} {pt : List Nat} {x : Nat} {z : Str} (nd : q.names.Nodup) (hz : q.names[pt.length]? = some z) : ptW q (pt ++ [x]) z = x := by
  unfold ptW
  rw [idx_nodup nd hz, List.getD_eq_getElem?_getD, List.getElem?_append_right (Nat.le_refl _), Nat.sub_self]
  rfl
def AgrP (q : Qn) (i k : Nat) (r pt : List Nat) : Prop := ∀ z ∈ knZ q i k, rowW q i r z = ptW q pt z
instance {q : Qn} {i k : Nat} {r pt : List Nat} : Decidable (AgrP q i k r pt) := by unfold AgrP; infer_instance
theorem agr_app {q : Qn} {i j : Nat} {r pt : List Nat} {x : Nat} (nd : q.names.Nodup) (l : pt.length = j) : AgrP q i j r (pt ++ [x]) ↔ AgrP q i j r pt := by
  have e : ∀ z ∈ knZ q i j, ptW q (pt ++ [x]) z = ptW q pt z := fun z m => ptW_app (by rw [l]; exact idx_take nd (List.mem_filter.mp m).1)
  exact ⟨fun h z m => (h z m).trans (e z m), fun h z m => (h z m).trans (e z m).symm⟩
theorem agr_next {q : Qn} {i : Nat} {r pt : List Nat} {x : Nat} {z : Str} (nd : q.names.Nodup) (hz : q.names[pt.length]? = some z) (m : z ∈ ownZ q i) : AgrP q i (pt.length + 1) r (pt ++ [x]) ↔ AgrP q i pt.length r pt ∧ r.getD (knZ q i pt.length).length 0 = x := by
  have p := (own_iff (List.mem_of_getElem? hz)).mp m
  have e := knZ_succ hz i
  rw [if_pos p] at e
  have w := ptW_new (x := x) nd hz
  have hr : rowW q i r z = r.getD (knZ q i pt.length).length 0 := by
    unfold rowW
    rw [own_at nd hz m]
  constructor
  · intro h
    refine ⟨(agr_app nd rfl).mp fun y my => h y (by rw [e]; exact List.mem_append_left _ my), ?_⟩
    have := h z (by rw [e]; exact List.mem_append_right _ List.mem_cons_self)
    rw [hr, w] at this
    exact this
  · rintro ⟨h1, h2⟩ y my
    rw [e] at my
    rcases List.mem_append.mp my with my | my
    · exact (agr_app (x := x) nd rfl).mpr h1 y my
    · rw [List.mem_singleton.mp my, hr, w]
      exact h2
/-- the worths that the first n ties let stand behind a beginning of a point -/
def NextU (q : Qn) (Ls : Nat → List (List Nat)) (pt : List Nat) (z : Str) (n x : Nat) : Prop := ∀ i, i < n → (ownZ q i = [] ∨ z ∈ ownZ q i) → ∃ r ∈ Ls i, AgrP q i (pt.length + 1) r (pt ++ [x])
/-- a beginning of a point that no tie bars yet -/
def PfxP (q : Qn) (Ls : Nat → List (List Nat)) (pt : List Nat) : Prop := ∀ i, i < q.ties.length → (knZ q i pt.length ≠ [] ∨ (ownZ q i = [] ∧ 0 < pt.length)) → ∃ r ∈ Ls i, AgrP q i pt.length r pt
theorem pfx_nil (q : Qn) (Ls : Nat → List (List Nat)) : PfxP q Ls [] := fun i _ h => by
  rcases h with h | ⟨_, h⟩
  · exact absurd rfl h
  · exact absurd h (Nat.lt_irrefl 0)
theorem pfx_next {q : Qn} {Ls : Nat → List (List Nat)} {pt : List Nat} {x : Nat} {z : Str} (nd : q.names.Nodup) (hz : q.names[pt.length]? = some z) : PfxP q Ls (pt ++ [x]) ↔ PfxP q Ls pt ∧ NextU q Ls pt z q.ties.length x := by
  have lx : (pt ++ [x]).length = pt.length + 1 := by rw [List.length_append]; rfl
  have mz : z ∈ q.names := List.mem_of_getElem? hz
  constructor
  · intro h
    refine ⟨fun i hi c => ?_, fun i hi c => ?_⟩
    · obtain ⟨r, mr, ar⟩ := h i hi (by
        rw [lx]
        rcases c with c | ⟨c, _⟩
        · refine .inl fun e => c ?_
          rw [knZ_succ hz] at e
          exact (List.append_eq_nil_iff.mp e).1
        · exact .inr ⟨c, Nat.succ_pos _⟩)
      rw [lx] at ar
      refine ⟨r, mr, (agr_app nd rfl).mp fun y my => ar y ?_⟩
      rw [knZ_succ hz]
      exact List.mem_append_left _ my
    · obtain ⟨r, mr, ar⟩ := h i hi (by
        rw [lx]
        rcases c with c | c
        · exact .inr ⟨c, Nat.succ_pos _⟩
        · refine .inl fun e => ?_
          rw [knZ_succ hz, if_pos ((own_iff mz).mp c)] at e
          cases (List.append_eq_nil_iff.mp e).2)
      rw [lx] at ar
      exact ⟨r, mr, ar⟩
  · rintro ⟨h1, h2⟩ i hi c
    rw [lx] at c ⊢
    by_cases o : ownZ q i = [] ∨ z ∈ ownZ q i
    · exact h2 i hi o
    · have o1 : ownZ q i ≠ [] := fun e => o (.inl e)
      have o2 : ¬ Term.nm z ∈ tmsOf q i := fun e => o (.inr ((own_iff mz).mpr e))
      have e := knZ_succ hz i
      rw [if_neg o2, List.append_nil] at e
      rw [e] at c
      obtain ⟨r, mr, ar⟩ := h1 i hi (.inl (c.elim id fun c => absurd c.1 o1))
      refine ⟨r, mr, fun y my => ?_⟩
      rw [e] at my
      exact (agr_app (x := x) nd rfl).mpr ar y my
theorem row_map {r : List Nat} {zs : List Str} (nd : zs.Nodup) (l : r.length = zs.length) : zs.map (fun z => r.getD (zs.idxOf z) 0) = r := by
  refine List.ext_getElem? fun k => ?_
  rw [List.getElem?_map]
  by_cases c : k < zs.length
  · have e : zs[k]? = some zs[k] := List.getElem?_eq_getElem c
    rw [e, Option.map_some, idx_nodup nd e, getD_get (d := 0) (by omega)]
  · rw [List.getElem?_eq_none (by omega), List.getElem?_eq_none (by omega)]
    rfl
theorem ownP_eq (q : Qn) (i : Nat) (ns : List Nat) : ownP q i ns = (ownZ q i).map (ptW q ns) := by
  unfold ownP plZ
  rw [List.map_map]
  rfl
theorem rowW_own {q : Qn} {i : Nat} {ns : List Nat} {z : Str} (m : z ∈ ownZ q i) : rowW q i (ownP q i ns) z = ptW q ns z := by
  unfold rowW
  rw [ownP_eq, List.getD_eq_getElem?_getD, List.getElem?_map, (idx_str m).1]
  rfl
/-- all names told: each tie has the point's own row -/
theorem pfx_all {q : Qn} {Ls : Nat → List (List Nat)} {ns : List Nat} (ok : QOk q) (rows : ∀ i, i < q.ties.length → ∀ r ∈ Ls i, r.length = (ownZ q i).length) (l : ns.length = q.names.length) : PfxP q Ls ns ↔ ∀ i, i < q.ties.length → ownP q i ns ∈ Ls i := by
  have n1 := ok.n1
  constructor
  · intro h i hi
    obtain ⟨r, mr, ar⟩ := h i hi (by
      rw [l, knZ_all]
      by_cases c : ownZ q i = []
      · exact .inr ⟨c, n1⟩
      · exact .inl c)
    rw [l] at ar
    have e : r = ownP q i ns := by
      rw [ownP_eq, ← row_map (own_nodup ok.nd i) (rows i hi r mr)]
      refine List.map_congr_left fun z mz => ?_
      exact ar z (by rw [knZ_all]; exact mz)
    rw [← e]
    exact mr
  · intro h i hi _
    exact ⟨_, h i hi, fun z mz => rowW_own (kn_own mz)⟩
/-- a tie's own row is let by where the row that it asks for stands in the table -/
theorem own_fit {q : Qn} {i : Nat} {tie : Str × List Term} {rs : List (List Nat)} {ns : List Nat} (ok : QOk q) (et : q.ties[i]? = some tie) (len : ∀ r ∈ rs, tie.2.length = r.length) : ownP q i ns ∈ letM tie.2 (ownZ q i) rs ↔ tie.2.map (termW q ns) ∈ rs := by
  have tok := ok.tt tie (List.mem_of_getElem? et)
  have tm : tmsOf q i = tie.2 := by
    unfold tmsOf
    rw [List.getD_eq_getElem?_getD, et]
    rfl
  have own : ∀ z ∈ ownZ q i, Term.nm z ∈ tie.2 := fun z mz => by
    have := (own_iff (List.mem_filter.mp mz).1).mp mz
    rwa [tm] at this
  have own' : ∀ z, Term.nm z ∈ tie.2 → z ∈ ownZ q i := fun z mz => (own_iff (tok.tm _ mz)).mpr (by rw [tm]; exact mz)
  have sub : ∀ r : List Nat, (∀ z ∈ ownZ q i, ownN tie.2 r z = ptW q ns z) → tie.2.map (subM tie.2 r) = tie.2.map (termW q ns) := fun r h => List.map_congr_left fun t m => by
    cases t with
    | wo n => rfl
    | nm z => exact h z (own' z m)
  rw [ownP_eq]
  constructor
  · intro m
    obtain ⟨r, mr, er⟩ := List.mem_filterMap.mp m
    by_cases c : tie.2.map (subM tie.2 r) = r
    · rw [own_some (len r mr) c] at er
      have e1 : wor (extF (fun _ => none) (tie.2.zip r)) (ownZ q i) = (ownZ q i).map (ptW q ns) := by injection er
      rw [wor_own (len r mr) own] at e1
      rw [← sub r (List.map_inj_left.mp e1), c]
      exact mr
    · rw [own_none (len r mr) c] at er
      cases er
  · intro m
    refine List.mem_filterMap.mpr ⟨_, m, ?_⟩
    have e : ∀ z ∈ ownZ q i, ownN tie.2 (tie.2.map (termW q ns)) z = ptW q ns z := fun z mz => by
      unfold ownN
      rw [List.getD_eq_getElem?_getD, List.getElem?_map, (idx_first (own z mz)).1]
      rfl
    rw [own_some (len _ m) (sub _ e), Option.map_some, wor_own (len _ m) own]
    exact congrArg some (List.map_congr_left e)
/-- each tie's table as the ties of a question name them -/
def letAt (M : Mod) (q : Qn) (Ls : Nat → List (List Nat)) : Prop := ∀ i tie rs, q.ties[i]? = some tie → (tie.1, tie.2.length, rs) ∈ M → Ls i = letM tie.2 (ownZ q i) rs
theorem fits_own {M : Mod} {q : Qn} {Ls : Nat → List (List Nat)} {ns : List Nat} (ok : QOk q) (mo : ModOk M) (fm : FitsM M q.ties) (hL : letAt M q Ls) : FitsP M q ns ↔ (∀ i, i < q.ties.length → ownP q i ns ∈ Ls i) ∧ keepsB q ns = true := by
  refine and_congr ⟨fun h i hi => ?_, fun h tie mt rs mM => ?_⟩ Iff.rfl
  · have et : q.ties[i]? = some q.ties[i] := List.getElem?_eq_getElem hi
    have mt : q.ties[i] ∈ q.ties := List.getElem_mem hi
    obtain ⟨rs, mM⟩ := fm _ mt
    rw [hL i _ rs et mM]
    exact (own_fit ok et fun r mr => (mo.row _ mM r mr).1.symm).mpr (h _ mt rs mM)
  · obtain ⟨i, et⟩ := List.mem_iff_getElem?.mp mt
    have := h i (List.getElem?_eq_some_iff.mp et).1
    rw [hL i _ rs et mM] at this
    exact (own_fit ok et fun r mr => (mo.row _ mM r mr).1.symm).mp this
end VQ
namespace VQ
open PySem L2 LamX
/-! ### the worths that may stand next -/
abbrev sLawNext : Stmt := top 85
abbrev nLawNext : List Str := ["_law_model", "_law_question", "_law_done", "_law_point", "_law_found", "_law_tie", "_law_own_here", "_law_known", "_law_worths", "_law_row", "_law_name", "_law_one"]
theorem scLawNext : FnScope nLawNext ["_law_model", "_law_question", "_law_done", "_law_point"] (defScope sLawNext) := ⟨rfl, rfl, rfl, by decide +kernel, rfl, by decide +kernel, by decide +kernel⟩
theorem cut_last (xs : List V) : cutV xs none (some (-1)) = xs.dropLast := by
  have e : HT.sIx xs.length xs.length (some (-1)) = xs.length - 1 := by
    show (if (-1 : Int) < 0 then ((-1 : Int) + (xs.length : Int)).toNat else min (-1 : Int).toNat xs.length) = _
    rw [if_pos (by decide)]
    omega
  unfold cutV
  rw [HT.sIx_none, e, List.drop_zero, Nat.sub_zero, List.dropLast_eq_take]
theorem at_last {xs : List V} {x : V} : atI (xs ++ [x]) (-1) = some x := by
  unfold atI ixN
  rw [List.length_append]
  show ((if _ then _ else _ : Option Nat).bind _) = _
  rw [if_neg (by decide), if_pos (by show (-((xs.length + 1 : Nat) : Int)) ≤ -1; omega)]
  show (xs ++ [x])[((-1 : Int) + ((xs.length + 1 : Nat) : Int)).toNat]? = _
  rw [show ((-1 : Int) + ((xs.length + 1 : Nat) : Int)).toNat = xs.length by omega, List.getElem?_append_right (Nat.le_refl _), Nat.sub_self]
  rfl
theorem inV_numM {t : Nat} {us : List Nat} : inV (numV t) (us.map numV) = decide (t ∈ us) := by
  unfold inV
  rw [List.any_map]
  by_cases h : t ∈ us
  · rw [decide_eq_true h, List.any_eq_true]
    exact ⟨t, h, beq_self_eq_true ((t : Nat) : Int)⟩
  · rw [decide_eq_false h, List.any_eq_false]
    intro y m e
    have e' : (((y : Nat) : Int) == ((t : Nat) : Int)) = true := e
    exact h (by rw [← Int.ofNat.inj (beq_iff_eq.mp e')]; exact m)
theorem flat_numsM (us : List Nat) : (us.map numV).all flatV = true := by
  rw [List.all_map]
  exact List.all_eq_true.mpr fun _ _ => rfl
theorem lay_strsT {zs : List Str} (h : ∀ z ∈ zs, NameS 4 z) : Lay 1 (.tuple (zs.map PyData.str)) := .tuple fun d m => by
  obtain ⟨z, mz, rfl⟩ := List.mem_map.mp m
  refine .str _ fun c mc => ?_
  have q : ∀ c ∈ letters.cps.toList, c < 1114112 := by decide +kernel
  exact q c (of_decide_eq_true ((h z mz).lt c mc))
section
variable {P : Program} {w : World} {K : PySem.W.Frag} {mg : Str → Option Value} {base : Heap}
/-- what is found so far: None, or the worths that the ties seen let stand -/
def FoundV (q : Qn) (Ls : Nat → List (List Nat)) (B : Nat) (pt : List Nat) (z : Str) (n : Nat) (H : Hp) (v : V) : Prop :=
  (v = .non ∧ (∀ i, i < n → z ∉ ownZ q i) ∧ ∀ x, NextU q Ls pt z n x) ∨ ∃ (p : Addr) (xs : List Nat), v = .ref p ∧ H p = some (.lst (xs.map numV)) ∧ xs.length ≤ B ∧ ∀ x, x ∈ xs ↔ NextU q Ls pt z n x
theorem FoundV.same {q : Qn} {Ls : Nat → List (List Nat)} {B : Nat} {pt : List Nat} {z : Str} {n : Nat} {H H' : Hp} {v : V} (s : Same H H') (h : FoundV q Ls B pt z n H v) : FoundV q Ls B pt z n H' v := by
  rcases h with h | ⟨p, xs, e, h, l, m⟩
  · exact .inl h
  · exact .inr ⟨p, xs, e, s _ _ h, l, m⟩
theorem nextU_succ {q : Qn} {Ls : Nat → List (List Nat)} {pt : List Nat} {z : Str} {n x : Nat} : NextU q Ls pt z (n + 1) x ↔ NextU q Ls pt z n x ∧ ((ownZ q n = [] ∨ z ∈ ownZ q n) → ∃ r ∈ Ls n, AgrP q n (pt.length + 1) r (pt ++ [x])) := by
  constructor
  · intro h
    exact ⟨fun i hi => h i (by omega), h n (by omega)⟩
  · rintro ⟨h1, h2⟩ i hi
    by_cases e : i = n
    · rw [e]
      exact h2
    · exact h1 i (by omega)
theorem FoundV.skip {q : Qn} {Ls : Nat → List (List Nat)} {B : Nat} {pt : List Nat} {z : Str} {n : Nat} {H : Hp} {v : V} (h : FoundV q Ls B pt z n H v) (no : z ∉ ownZ q n) (u : ∀ x, (ownZ q n = [] ∨ z ∈ ownZ q n) → ∃ r ∈ Ls n, AgrP q n (pt.length + 1) r (pt ++ [x])) : FoundV q Ls B pt z (n + 1) H v := by
  rcases h with ⟨e, a, m⟩ | ⟨p, xs, e, h, l, m⟩
  · refine .inl ⟨e, fun i hi => ?_, fun x => nextU_succ.mpr ⟨m x, u x⟩⟩
    by_cases c : i = n
    · rw [c]
      exact no
    · exact a i (by omega)
  · refine .inr ⟨p, xs, e, h, l, fun x => ?_⟩
    rw [nextU_succ]
    exact (m x).trans ⟨fun y => ⟨y, u x⟩, fun y => y.1⟩
def spNext : Sp := fun vs H Q _ => ∃ (m qa dn pa : Addr) (M : Mod) (q : Qn) (Ls : Nat → List (List Nat)) (B : Nat) (pt : List Nat) (z : Str), vs = [.ref m, .ref qa, .ref dn, .ref pa] ∧ ModAt H m M ∧ ModOk M ∧ QAt H qa q ∧ QOk q ∧ FitsM M q.ties ∧ letAt M q Ls ∧ (∀ x ∈ M, x.2.2.length ≤ B) ∧ B ≤ 40 ∧
  H dn = some (.lst ((q.names.take (pt.length + 1)).map V.str)) ∧ q.names[pt.length]? = some z ∧ H pa = some (.tup (pt.map numV)) ∧
  ∀ (p : Addr) (xs : List Nat) (H' : Hp), H p = none → Same H H' → H' p = some (.lst (xs.map numV)) → xs.Pairwise (· < ·) → (∀ x, x ∈ xs ↔ NextU q Ls pt z q.ties.length x) → xs.length ≤ B → Q (.ref p) H'
theorem has_next (b : Blt mg) (so : mg "sorted" = none) (st : mg "set" = none) (hOw : Has P w K mg base CX0 1 "_law_own" sLawOwn ["_law_question", "_law_tie"] spOwnL) (hLt : Has P w K mg base CX0 2 "_law_let" sLawLet ["_law_model", "_law_question", "_law_tie"] spLet) (a : AtE K mg "_law_next" sLawNext ["_law_model", "_law_question", "_law_done", "_law_point"]) : Has P w K mg base CX0 3 "_law_next" sLawNext ["_law_model", "_law_question", "_law_done", "_law_point"] spNext := by
  obtain ⟨f, fd, a⟩ := a
  obtain ⟨fOw, fdOw, aOw, GOw⟩ := hOw
  obtain ⟨fLt, fdLt, aLt, GLt⟩ := hLt
  refine ⟨f, fd, a, a.fn.ok scLawNext (fun vs H Q E h => ?_) (fun cdv A outer s H vs Q E hr2 h => ?_)⟩
  · obtain ⟨m, qa, dn, pa, M, q, Ls, B, pt, z, rfl, _⟩ := h
    rfl
  · obtain ⟨m, qa, dn, pa, M, q, Ls, B, pt, z, rfl, ma, mo, hqa, ok, fm, hL, lB, B40, hdn, hz, hpa, k⟩ := h
    have hr1 : Room 1 _ := hr2.mono (by decide)
    have hu : (A.deeper (PyProof.Rows.envOfC "_law_next" (defScope sLawNext) s.heap.objs.size f cdv)).units + 64 < cLine := hr2.units
    refine ⟨_,
    (pss_cons (ps_set (i := 4) scLawNext.nd rfl (.inl rfl) pe_non)
    (pss_cons (ps_for PassesOwn.never rfl (pi_range1 rfl b.range (pa_cons (pe_callB call_len_seq (by rfl) b.len PySem.boot_len (pa_cons (pe_ix ix_tup (pv 1) pe_int fun _ _ => rfl) pa_nil)) pa_nil)) (pg_name (i := 5) scLawNext.nd rfl (.inl rfl))
      (pss_cons (ps_set (i := 6) scLawNext.nd rfl (.inr rfl) (pe_call GOw hr1 rfl aOw.gl aOw.fn.kp aOw.bd .nil pass0 (pa_cons (pv 1) (pa_cons (pv 5) pa_nil))))
      (pss_one (ps_if (PW.pt (pw_or (pt_cmpR op_in_seq (pe_ix ix_list (pv 2) (pe_un un_neg pe_int) fun _ _ => rfl) (pv 6) rfl) (pw_or1 (pt_cmpR (op_eqD hu) (pv 6) (pe_tup pa_nil) (nomark _)))))
        (pss_cons (ps_setLc (i := 7) (own := [("_law_name", 10)]) (g := (gName 10)) (tt := (tTest (tOp (rIn K false) (tVar 10) (tVar 2)))) (te := (tVar 10)) rfl scLawNext.nd rfl rfl (sw_true rfl rfl rfl (by decide +kernel)) (pi_tup (pv 6)) (blkOk_by (N := nLawNext) (sc := defScope sLawNext) (by decide +kernel)) (fun _ _ _ _ _ => (pg_name (i := 10) scLawNext.nd rfl (.inl rfl))) (fun _ _ _ _ _ => pts_one (pt_cmpR op_in_seq (pv 10) (pv 2) rfl)) (fun _ _ _ _ _ => (pv 10)))
        (pss_cons (ps_set (i := 8) scLawNext.nd rfl (.inr rfl) (pe_lst pa_nil))
        (pss_cons (ps_for PassesOwn.never rfl (pi_list (pe_call GLt hr2 rfl aLt.gl aLt.fn.kp aLt.bd .nil pass0 (pa_cons (pv 0) (pa_cons (pv 1) (pa_cons (pv 5) pa_nil))))) (pg_name (i := 9) scLawNext.nd rfl (.inr rfl))
          (pss_one (ps_if (pt_val (pe_callB (cr_all rfl) (by rfl) b.all (by decide +kernel) (pa_cons (pe_lc (own := [("_law_name", 10)]) (g := (gName 10)) (tt := tYes) (te := (tOp rEq (tOp (rIxT K) (tVar 9) (tBMN (rTIndex K) (tVar 6) (tCons (tVar 10) tNil))) (tOp (rIxT K) (tVar 3) (tBMN (rTIndex K) (tOp (rIxT K) (tVar 1) (tC (.int 0))) (tCons (tVar 10) tNil))))) rfl scLawNext.nd (pi_list (pe_slice sl_list (pv 7) po_none (po_some (pe_un un_neg pe_int)))) (blkOk_by (N := nLawNext) (sc := defScope sLawNext) (by decide +kernel)) (fun _ _ _ _ _ => (pg_name (i := 10) scLawNext.nd rfl (.inl rfl))) (fun _ _ _ _ _ => pts_nil) (fun _ _ _ _ _ => (pe_cmpR op_eq (pe_ix ix_tup (pv 9) (pe_bmN PySem.F.slot_tuple_index PySem.F.type_tuple_index mt_tindex (pv 6) (pa_cons (pv 10) pa_nil)) fun _ _ => rfl) (pe_ix ix_tup (pv 3) (pe_bmN PySem.F.slot_tuple_index PySem.F.type_tuple_index mt_tindex (pe_ix ix_tup (pv 1) pe_int fun _ _ => rfl) (pa_cons (pv 10) pa_nil)) fun _ _ => rfl) (nomark _)))) pa_nil)))
            (pss_one (ps_expr (pe_bm PySem.F.plainAttrs_list PySem.F.slot_list_append PySem.F.type_list_append mt_append (pv 8) (pa_cons (pe_ifExp (pt_cmpR (op_neD hu) (pv 7) (pe_lst pa_nil) (nomark _)) (pe_ix ix_tup (pv 9) (pe_op op_sub (pe_callB call_len_seq (by rfl) b.len PySem.boot_len (pa_cons (pv 7) pa_nil)) pe_int) fun _ _ => rfl) (pe_un un_neg pe_int)) pa_nil))))
            pss_nil)))
        (pss_one (ps_if (pt_cmpR (op_eqD hu) (pv 6) (pe_tup pa_nil) (nomark _))
          (pss_one (ps_set (i := 4) scLawNext.nd rfl (.inl rfl) (pe_ifExp (pt_cmpR (op_eqD hu) (pv 8) (pe_lst pa_nil) (nomark _)) (pe_lst pa_nil) (pv 4))))
          (pss_one (ps_set (i := 4) scLawNext.nd rfl (.inl rfl) (pe_ifExp (pt_cmpR op_isN (pv 4) pe_non (nomark _)) (pv 8) (pe_lc (own := [("_law_one", 11)]) (g := (gName 11)) (tt := (tTest (tOp (rIn K false) (tVar 11) (tVar 8)))) (te := (tVar 11)) rfl scLawNext.nd (pi_list (pv 4)) (blkOk_by (N := nLawNext) (sc := defScope sLawNext) (by decide +kernel)) (fun _ _ _ _ _ => (pg_name (i := 11) scLawNext.nd rfl (.inl rfl))) (fun _ _ _ _ _ => pts_one (pt_cmpR op_in_seq (pv 11) (pv 8) rfl)) (fun _ _ _ _ _ => (pv 11)))))))))))
        pss_nil))))
    (pss_one (ps_ret (pe_callB (cr_sortedSet rfl) (by rfl) so (by decide +kernel) (pa_cons (pe_callTy (cr_setI rfl) (by rfl) st (by decide +kernel) (pa_cons (pv 4) pa_nil)) pa_nil)))))), ?_⟩
    obtain ⟨n, t, l, hqr, hq⟩ := id hqa
    obtain ⟨ts, hts, ets⟩ := hq.ti
    have t6 := ok.t6
    have elt := ets.len
    have mz : z ∈ q.names := List.mem_of_getElem? hz
    have dn1 := take_one_more hz
    refine ⟨_, rfl, qa, _, _, _, rfl, rfl, SqT.of hqr, atI_nat (j := 2) rfl, t, _, rfl, .inr (SqT.of hts), _, rfl, by omega, by omega, ?_⟩
    rw [show ((ts.length : Nat) : Int).toNat = q.ties.length by rw [elt]; rfl]
    refine for_range (lo := 0) (n := q.ties.length) (fun i σ H' => Same H H' ∧ ∃ (v4 : V) (v5 v6 v7 v8 v9 : Option V), σ = [some (.ref m), some (.ref qa), some (.ref dn), some (.ref pa), some v4, v5, v6, v7, v8, v9, none, none] ∧ FoundV q Ls B pt z i H' v4) ⟨Same.refl _, .non, none, none, none, none, none, rfl, .inl ⟨rfl, fun i hi => absurd hi (Nat.not_lt_zero _), fun x i hi => absurd hi (Nat.not_lt_zero _)⟩⟩ ?_ ?_
    · rintro i σ H2 hi ⟨s2, v4, v5, v6, v7, v8, v9, rfl, fo⟩
      have et : q.ties[i]? = some q.ties[i] := List.getElem?_eq_getElem hi
      generalize q.ties[i] = tie at et
      have mt := List.mem_of_getElem? et
      obtain ⟨rs, mM⟩ := fm tie mt
      have eL := hL i tie rs et mM
      rw [Int.zero_add]
      refine ⟨_, rfl, _, rfl, qa, q, i, rfl, hqa.moved (same_tups s2), ok, hi, fun po H3 npo s3 hpo => ?_⟩
      have s03 := s2.trans s3
      have hdn3 := s03 _ _ hdn
      rw [dn1, List.map_append] at hdn3
      refine ⟨_, rfl, _, rfl, dn, _, _, _, rfl, rfl, SqL.of hdn3, at_last, ?_⟩
      refine ⟨_, rfl, po, _, rfl, .inr hpo.sq, rfl, strs_flat _, _, rfl, ?_⟩
      rw [show (if (false : Bool) = true then !inV (V.str z) ((ownZ q i).map V.str) else inV (V.str z) ((ownZ q i).map V.str)) = decide (z ∈ ownZ q i) from inV_str]
      have nmo : ∀ y ∈ ownZ q i, NameS 4 y := fun y my => ok.nm y (List.mem_filter.mp my).1
      have kin : (z ∈ ownZ q i ∨ ownZ q i = []) ∨ (z ∉ ownZ q i ∧ ownZ q i ≠ []) := by
        by_cases c1 : z ∈ ownZ q i
        · exact .inl (.inl c1)
        · by_cases c2 : ownZ q i = []
          · exact .inl (.inr c2)
          · exact .inr ⟨c1, c2⟩
      have evo : PyData.eqv (.tuple ((ownZ q i).map PyData.str)) (.tuple []) = decide (ownZ q i = []) := by
        cases ownZ q i <;> rfl
      rcases kin with kin | ⟨c1, c2⟩
      rotate_left
      · rw [decide_eq_false c1]
        refine iteF ⟨_, rfl, by show 0 ≤ sizeLine; decide, fun e ne => ?_⟩
        have se := same_new (o := HO.tup []) ne
        refine ⟨_, _, .tup (hpo.same se).sq (dp_strs _), .tup (SqT.of upd_same) .nil, (lay_strsT nmo).shaped (by decide), by decide +kernel, _, rfl, ?_⟩
        rw [evo, decide_eq_false c2]
        refine iteF ⟨s03.trans se, v4, _, _, _, _, _, rfl, (fo.same (s3.trans se)).skip c1 fun x h => ?_⟩
        exact absurd h (fun h => h.elim c2 c1)
      by_cases c1 : z ∈ ownZ q i
      case' pos =>
        rw [decide_eq_true c1]
        refine iteT ?_
        obtain ⟨H4, eH⟩ : ∃ H4, H4 = H3 := ⟨_, rfl⟩
        have s34 : Same H3 H4 := by
          rw [eH]
          exact Same.refl _
        rw [← eH]
      case' neg =>
        rw [decide_eq_false c1]
        refine iteF ⟨_, rfl, by show 0 ≤ sizeLine; decide, fun e ne => ?_⟩
        have s34 := same_new (o := HO.tup []) ne
        refine ⟨_, _, .tup (hpo.same s34).sq (dp_strs _), .tup (SqT.of upd_same) .nil, (lay_strsT nmo).shaped (by decide), by decide +kernel, _, rfl, ?_⟩
        rw [evo, decide_eq_true (kin.resolve_left c1)]
        refine iteT ?_
        generalize upd H3 e (HO.tup []) = H4 at s34 ⊢
      all_goals
        have s04 := s03.trans s34
        have hpo4 := hpo.same s34
        have fo4 := fo.same (s3.trans s34)
        have l5 : (ownZ q i).length ≤ 5 := Nat.le_trans (List.length_filter_le _ _) ok.n5
        refine ⟨_, rfl, po, rfl, ⟨_, hpo4.sq⟩, fun D hD => ?_⟩
        refine lc_tupS (xs := (ownZ q i).map V.str) (fun n acc _ => acc = (((ownZ q i).take n).filter fun y => decide (y ∈ q.names.take (pt.length + 1))).map V.str) hD hpo4.sq (by rw [List.length_map]; omega) (fun _ _ _ _ _ h => h) rfl ?_ ?_
        · rintro i' x acc H5 hx s5 h5 rfl k1 k2 y1 y2
          obtain ⟨y, ey, rfl⟩ := map_get hx
          refine ⟨rfl, _, rfl, _, rfl, dn, _, rfl, .inl (SqL.of (s5 _ _ (s04 _ _ hdn))), rfl, strs_flat _, _, rfl, ?_⟩
          rw [show (if (false : Bool) = true then !inV (V.str y) ((q.names.take (pt.length + 1)).map V.str) else inV (V.str y) ((q.names.take (pt.length + 1)).map V.str)) = decide (y ∈ q.names.take (pt.length + 1)) from inV_str]
          by_cases cy : y ∈ q.names.take (pt.length + 1)
          · rw [decide_eq_true cy]
            refine iteT ⟨_, rfl, y1 _ _ (Same.refl _) ?_⟩
            rw [take_one_more ey, List.filter_append, List.map_append, List.filter_cons_of_pos (p := fun y => decide (y ∈ q.names.take (pt.length + 1))) (decide_eq_true cy)]
            rfl
          · rw [decide_eq_false cy]
            refine iteF (y2 _ (Same.refl _) ?_)
            rw [take_one_more ey, List.filter_append, List.filter_cons_of_neg (p := fun y => decide (y ∈ q.names.take (pt.length + 1))) (by rw [decide_eq_false cy]; exact Bool.false_ne_true)]
            exact (congrArg (List.map V.str) (List.append_nil _)).symm
        · rintro acc H5 s5 h5 rfl
          rw [List.length_map, List.take_length, known_is ok.nd] at h5
          refine ⟨by show 0 ≤ sizeLine; decide, fun W nW => ?_⟩
          have s6 := s5.trans (same_new (o := HO.lst []) nW)
          have hD6 := same_new (o := HO.lst []) nW _ _ h5
          have hW := upd_same (H := H5) (a := W) (o := .lst [])
          have sW := same_new (o := HO.lst []) nW
          generalize upd H5 W (.lst []) = H6 at s6 hD6 hW sW ⊢
          have s06 := s04.trans s6
          refine ⟨_, rfl, _, rfl, _, rfl, m, qa, M, q, i, tie, rs, rfl, ma.same s06, mo, hqa.moved (same_tups s06), ok, et, mM, fun pl us ss H7 npl s7 hpl ro pm sr => ?_⟩
          have s07 := s06.trans s7
          refine ⟨pl, rfl, ⟨_, SqL.of hpl⟩, ?_⟩
          have lss : ss.length ≤ 40 := by
            rw [pm.length_eq]
            exact Nat.le_trans (List.length_filterMap_le _ _) (mo.len _ mM)
          have okss : ∀ r ∈ ss, r.length = (ownZ q i).length := fun r mr => (let_rows (fun r mr => (mo.row _ mM r mr).2) r (pm.mem_iff.mp mr)).1
          have Wpl : W ≠ pl := fun e => by
            rw [← e, hW] at npl
            cases npl
          have knd : (knZ q i (pt.length + 1)).dropLast = knZ q i pt.length := by
            rcases kin with kz | ke
            · rw [knZ_succ hz, if_pos ((own_iff mz).mp kz), List.dropLast_concat]
            · have e0 : ∀ j, knZ q i j = [] := fun j => List.eq_nil_iff_forall_not_mem.mpr fun y my => by
                have := kn_own my
                rw [ke] at this
                cases this
              rw [e0, e0]
              rfl
          refine for_list (xs := us) (fun j σ H' => Same H5 H' ∧ H' pl = some (.lst us) ∧ Rows H' us ss ∧ H' W = some (.lst (((ss.take j).filter fun r => decide (AgrP q i pt.length r pt)).map fun r => if ownZ q i = [] then V.int (-1) else numV (r.getD (knZ q i pt.length).length 0))) ∧ ∃ v9 : Option V, σ = [some (.ref m), some (.ref qa), some (.ref dn), some (.ref pa), some v4, some (.int (i : Nat)), some (.ref po), some (.ref D), some (.ref W), v9, none, none]) ⟨sW.trans s7, hpl, ro, s7 _ _ hW, v9, rfl⟩ (fun j σ H' _ q => SqL.of q.2.1) ?_ ?_
          · rintro j x σ H8 hx ⟨s58, hpl8, ro8, hW8, v9, rfl⟩
            have s48 := s5.trans s58
            have s8 := s04.trans s48
            have po8 := hpo4.same s48
            have hD8 := s58 _ _ h5
            obtain ⟨ar, r, rfl, er, har⟩ := ro8.get hx
            have lr := okss r (List.mem_of_getElem? er)
            refine ⟨_, rfl, _, rfl, _, rfl, D, _, rfl, SqL.of hD8, fun T nT => ?_⟩
            rw [cut_last, ← List.map_dropLast, knd]
            have sT := same_new (o := HO.lst ((knZ q i pt.length).map V.str)) nT
            have hT := upd_same (H := H8) (a := T) (o := .lst ((knZ q i pt.length).map V.str))
            generalize upd H8 T (.lst ((knZ q i pt.length).map V.str)) = H9 at sT hT ⊢
            refine ⟨T, rfl, ⟨_, SqL.of hT⟩, fun G nG => ?_⟩
            have lk : (knZ q i pt.length).length ≤ 5 := Nat.le_trans (List.length_filter_le _ _) (by rw [List.length_take]; have := ok.n5; omega)
            refine lc_listS (xs := (knZ q i pt.length).map V.str) (fun n acc _ => acc = ((knZ q i pt.length).take n).map fun y => V.bl (decide (rowW q i r y = ptW q pt y))) nG (SqL.of hT) (by rw [List.length_map]; omega) (fun _ _ _ _ _ h => h) rfl ?_ ?_
            · rintro i' x acc H10 hx' s10 h10 rfl k1 k2 y1 y2
              obtain ⟨y, ey, rfl⟩ := map_get hx'
              have my := List.mem_of_getElem? ey
              have mo' := kn_own my
              have mn : y ∈ q.names := List.mem_of_mem_take (List.mem_filter.mp my).1
              have lo : (ownZ q i).idxOf y < r.length := by
                rw [lr]
                exact List.idxOf_lt_length_of_mem mo'
              have lp : q.names.idxOf y < pt.length := idx_take ok.nd (List.mem_filter.mp my).1
              have s810 := sT.trans s10
              have po10 := po8.same s810
              have nm10 := hq.nm.same (s8.trans s810)
              refine ⟨rfl, yes_turn ?_⟩
              refine ⟨_, rfl, _, rfl, ⟨po, _, rfl, po10⟩, _, rfl, po, (ownZ q i).map V.str, .str y, (ownZ q i).idxOf y, .str y, rfl, rfl, po10.sq, rfl, strs_flat _, at_idx mo', beq_self_eq_true y, no_idx mo', ?_⟩
              refine ⟨ar, _, _, _, rfl, rfl, SqT.of (s810 _ _ har), atI_nat (j := (ownZ q i).idxOf y) (v := numV (rowW q i r y)) (by
                unfold rowW
                rw [List.getElem?_map, getD_get (d := 0) lo]
                rfl), ?_⟩
              refine ⟨_, rfl, _, rfl, qa, _, _, _, rfl, rfl, SqT.of ((s8.trans s810) _ _ hqr), atI_nat (j := 0) rfl, ⟨n, _, rfl, nm10⟩, _, rfl, n, q.names.map V.str, .str y, q.names.idxOf y, .str y, rfl, rfl, nm10.sq, rfl, strs_flat _, at_idx mn, beq_self_eq_true y, no_idx mn, ?_⟩
              refine ⟨pa, _, _, _, rfl, rfl, SqT.of ((s8.trans s810) _ _ hpa), atI_nat (j := q.names.idxOf y) (v := numV (ptW q pt y)) (by
                unfold ptW
                rw [List.getElem?_map, getD_get (d := 0) lp]
                rfl), ?_⟩
              refine ⟨rfl, y1 _ _ (Same.refl _) ?_⟩
              rw [take_one_more ey, List.map_append]
              show _ = _ ++ [V.bl (decide (rowW q i r y = ptW q pt y))]
              refine congrArg (fun c : Bool => _ ++ [V.bl c]) (decide_eq_decide.mpr ?_)
              exact ⟨fun e => by
                injection e with e
                exact Int.ofNat.inj e, fun e => by rw [e]⟩
            · rintro acc H10 s10 h10 rfl
              rw [List.length_map, List.take_length, show ((knZ q i pt.length).map fun y => V.bl (decide (rowW q i r y = ptW q pt y))) = ((knZ q i pt.length).map fun y => decide (rowW q i r y = ptW q pt y)).map V.bl by rw [List.map_map]; rfl] at h10
              refine ⟨G, _, rfl, SqL.of h10, _, rfl, ?_⟩
              have ea : (((knZ q i pt.length).map fun y => decide (rowW q i r y = ptW q pt y)).all id) = decide (AgrP q i pt.length r pt) := by
                rw [List.all_map, Bool.eq_iff_iff, List.all_eq_true, decide_eq_true_iff]
                exact ⟨fun h y my => of_decide_eq_true (h y my), fun h y my => decide_eq_true (h y my)⟩
              rw [ea]
              have s810 := sT.trans s10
              have nx := take_one_more er
              by_cases ca : AgrP q i pt.length r pt
              · rw [decide_eq_true ca]
                refine iteT ?_
                have hW10 := s810 _ _ hW8
                refine ⟨_, rfl, .inl ⟨rfl, _, SqL.of hW10⟩, _, rfl, by show 0 ≤ sizeLine; decide, fun e ne => ?_⟩
                have se := same_new (o := HO.lst []) ne
                have s8e := s810.trans se
                have he := upd_same (H := H10) (a := e) (o := .lst [])
                generalize upd H10 e (.lst []) = H11 at s8e he ⊢
                refine ⟨_, .list [], .lst (SqL.of (s8e _ _ hD8)) (dp_strs _), .lst (SqL.of he) .nil, (lay_strs fun y my => nmo y (kn_own my)).shaped (by decide), by decide +kernel, _, rfl, ?_⟩
                have evk : PyData.eqv (.list ((knZ q i (pt.length + 1)).map PyData.str)) (.list []) = decide (ownZ q i = []) := by
                  rcases kin with kz | ke
                  · rw [decide_eq_false (fun e => by rw [e] at kz; cases kz), knZ_succ hz, if_pos ((own_iff mz).mp kz)]
                    cases knZ q i pt.length <;> rfl
                  · rw [decide_eq_true ke, show knZ q i (pt.length + 1) = [] from List.eq_nil_iff_forall_not_mem.mpr fun y my => by
                      have := kn_own my
                      rw [ke] at this
                      cases this]
                    rfl
                rw [evk]
                have hW11 := s8e _ _ hW8
                have few : ((((ss.take j).filter fun r => decide (AgrP q i pt.length r pt)).map fun r => if ownZ q i = [] then V.int (-1) else numV (r.getD (knZ q i pt.length).length 0))).length < 1000 := by
                  rw [List.length_map]
                  have := List.length_filter_le (fun r => decide (AgrP q i pt.length r pt)) (ss.take j)
                  rw [List.length_take] at this
                  omega
                have fin : ∀ y : V, y = (if ownZ q i = [] then V.int (-1) else numV (r.getD (knZ q i pt.length).length 0)) → ∀ o, o = HO.lst (((((ss.take j).filter fun r => decide (AgrP q i pt.length r pt)).map fun r => if ownZ q i = [] then V.int (-1) else numV (r.getD (knZ q i pt.length).length 0))) ++ [y]) → Same H5 (upd H11 W o) ∧ upd H11 W o pl = some (.lst us) ∧ Rows (upd H11 W o) us ss ∧ upd H11 W o W = some (.lst (((ss.take (j + 1)).filter fun r => decide (AgrP q i pt.length r pt)).map fun r => if ownZ q i = [] then V.int (-1) else numV (r.getD (knZ q i pt.length).length 0))) := by
                  rintro y ey o rfl
                  refine ⟨same_put (s58.trans s8e) nW, ?_, (ro8.same s8e).moved (tups_lst hW11).1, ?_⟩
                  · rw [upd_ne (Ne.symm Wpl)]
                    exact s8e _ _ hpl8
                  · rw [upd_same, nx, List.filter_append, List.filter_cons_of_pos (p := fun r => decide (AgrP q i pt.length r pt)) (decide_eq_true ca), List.map_append, ey]
                    rfl
                by_cases c0 : ownZ q i = []
                · rw [decide_eq_true c0]
                  obtain ⟨f1, f2, f3, f4⟩ := fin (.int (-1)) (by rw [if_pos c0]) _ rfl
                  exact iteF ⟨_, rfl, W, _, _, rfl, rfl, hW11, lt_line few, f1, f2, f3, f4, _, rfl⟩
                · rw [decide_eq_false c0]
                  have kz := kin.resolve_right c0
                  have lk1 : (knZ q i (pt.length + 1)).length = (knZ q i pt.length).length + 1 := by
                    rw [knZ_succ hz, if_pos ((own_iff mz).mp kz), List.length_append]
                    rfl
                  have lr1 : (knZ q i pt.length).length < r.length := by
                    rw [lr, ← own_at ok.nd hz kz]
                    exact List.idxOf_lt_length_of_mem kz
                  obtain ⟨f1, f2, f3, f4⟩ := fin (numV (r.getD (knZ q i pt.length).length 0)) (by rw [if_neg c0]) _ rfl
                  refine iteT ⟨_, rfl, _, rfl, D, _, rfl, .inl (SqL.of (s8e _ _ hD8)), _, _, rfl, rfl, ar, _, _, _, rfl, rfl, SqT.of (s8e _ _ har), (by
                    rw [List.length_map, lk1, show ((((knZ q i pt.length).length + 1 : Nat) : Int) - 1) = (((knZ q i pt.length).length : Nat) : Int) by omega]
                    exact atI_nat (by rw [List.getElem?_map, getD_get (d := 0) lr1]; rfl)), W, _, _, rfl, rfl, hW11, lt_line few, f1, f2, f3, f4, _, rfl⟩
              · rw [decide_eq_false ca]
                refine iteF ⟨s58.trans s810, s810 _ _ hpl8, ro8.same s810, ?_, _, rfl⟩
                rw [nx, List.filter_append, List.filter_cons_of_neg (p := fun r => decide (AgrP q i pt.length r pt)) (by rw [decide_eq_false ca]; exact Bool.false_ne_true)]
                rw [show ((ss.take j).filter (fun r => decide (AgrP q i pt.length r pt)) ++ [].filter (fun r => decide (AgrP q i pt.length r pt))) = (ss.take j).filter (fun r => decide (AgrP q i pt.length r pt)) from List.append_nil _]
                exact s810 _ _ hW8
          · rintro σ H8 ⟨s58, hpl8, ro8, hW8, v9, rfl⟩
            rw [ro.len, List.take_length] at hW8
            have s48 := s5.trans s58
            have s8 := s04.trans s48
            have po8 := hpo4.same s48
            have fo8 := fo4.same s48
            refine ⟨_, rfl, by show 0 ≤ sizeLine; decide, fun e ne => ?_⟩
            have se := same_new (o := HO.tup []) ne
            have he := upd_same (H := H8) (a := e) (o := .tup [])
            generalize upd H8 e (.tup []) = H9 at se he ⊢
            refine ⟨_, _, .tup (po8.same se).sq (dp_strs _), .tup (SqT.of he) .nil, (lay_strsT nmo).shaped (by decide), by decide +kernel, _, rfl, ?_⟩
            rw [evo]
            have hW9 := se _ _ hW8
            have memL : ∀ r, r ∈ ss ↔ r ∈ Ls i := fun r => by
              rw [eL]
              exact pm.mem_iff
            have lB' : ss.length ≤ B := by
              rw [pm.length_eq]
              exact Nat.le_trans (List.length_filterMap_le _ _) (lB _ mM)
            by_cases c0 : ownZ q i = []
            · rw [decide_eq_true c0]
              refine iteT ?_
              have no0 : ∀ k, knZ q i k = [] := fun k => List.eq_nil_iff_forall_not_mem.mpr fun y my => by
                have := kn_own my
                rw [c0] at this
                cases this
              have nz : z ∉ ownZ q i := by
                rw [c0]
                exact List.not_mem_nil
              have agr : ∀ (k : Nat) (r pt' : List Nat), AgrP q i k r pt' := fun k r pt' y my => by
                rw [no0] at my
                cases my
              have eW : (((ss.filter fun r => decide (AgrP q i pt.length r pt)).map fun r => if ownZ q i = [] then V.int (-1) else numV (r.getD (knZ q i pt.length).length 0))) = (ss.map fun _ => (-1 : Int)).map V.int := by
                rw [List.filter_eq_self.mpr fun r _ => decide_eq_true (agr _ r pt), List.map_map]
                exact List.map_congr_left fun r _ => if_pos c0
              rw [eW] at hW9
              refine ⟨_, rfl, by show 0 ≤ sizeLine; decide, fun e2 ne2 => ?_⟩
              have se2 := same_new (o := HO.lst []) ne2
              have he2 := upd_same (H := H9) (a := e2) (o := .lst [])
              generalize upd H9 e2 (.lst []) = H10 at se2 he2 ⊢
              refine ⟨_, .list [], .lst (SqL.of (se2 _ _ hW9)) (dp_ints _), .lst (SqL.of he2) .nil, (lay_ints _).shaped (by decide), by decide +kernel, _, rfl, ?_⟩
              have evw : PyData.eqv (.list ((ss.map fun _ => (-1 : Int)).map PyData.int)) (.list []) = decide (ss = []) := by
                cases ss <;> rfl
              rw [evw]
              have s9 := s8.trans (se.trans se2)
              by_cases cs : ss = []
              · rw [decide_eq_true cs]
                refine iteT ⟨by show 0 ≤ sizeLine; decide, fun e3 ne3 => ?_⟩
                refine ⟨s9.trans (same_new ne3), _, _, _, _, _, _, rfl, .inr ⟨e3, [], rfl, upd_same, Nat.zero_le _, fun x => ⟨fun m => (by cases m), fun h => ?_⟩⟩⟩
                obtain ⟨r, mr, _⟩ := (nextU_succ.mp h).2 (.inl c0)
                rw [← memL, cs] at mr
                cases mr
              · rw [decide_eq_false cs]
                obtain ⟨r, mr⟩ := List.exists_mem_of_ne_nil _ cs
                exact iteF ⟨_, rfl, s9, _, _, _, _, _, _, rfl, (fo8.same (se.trans se2)).skip nz fun x _ => ⟨r, (memL r).mp mr, agr _ r _⟩⟩
            · rw [decide_eq_false c0]
              have kz := kin.resolve_right c0
              refine iteF ?_
              have eW : (((ss.filter fun r => decide (AgrP q i pt.length r pt)).map fun r => if ownZ q i = [] then V.int (-1) else numV (r.getD (knZ q i pt.length).length 0))) = ((ss.filter fun r => decide (AgrP q i pt.length r pt)).map fun r => r.getD (knZ q i pt.length).length 0).map numV := by
                rw [List.map_map]
                exact List.map_congr_left fun r _ => if_neg c0
              rw [eW] at hW9
              have memY : ∀ x, x ∈ ((ss.filter fun r => decide (AgrP q i pt.length r pt)).map fun r => r.getD (knZ q i pt.length).length 0) ↔ ∃ r ∈ Ls i, AgrP q i (pt.length + 1) r (pt ++ [x]) := fun x => by
                rw [List.mem_map]
                constructor
                · rintro ⟨r, mr, ex⟩
                  obtain ⟨m1, m2⟩ := List.mem_filter.mp mr
                  exact ⟨r, (memL r).mp m1, (agr_next ok.nd hz kz).mpr ⟨of_decide_eq_true m2, ex⟩⟩
                · rintro ⟨r, mr, ar⟩
                  obtain ⟨a1, a2⟩ := (agr_next ok.nd hz kz).mp ar
                  exact ⟨r, List.mem_filter.mpr ⟨(memL r).mpr mr, decide_eq_true a1⟩, a2⟩
              have lY : ((ss.filter fun r => decide (AgrP q i pt.length r pt)).map fun r => r.getD (knZ q i pt.length).length 0).length ≤ B := by
                rw [List.length_map]
                exact Nat.le_trans (List.length_filter_le _ _) lB'
              generalize ((ss.filter fun r => decide (AgrP q i pt.length r pt)).map fun r => r.getD (knZ q i pt.length).length 0) = ys at hW9 memY lY
              have s9 := s8.trans se
              have fo9 := fo8.same se
              refine ⟨_, rfl, rfl, _, rfl, ?_⟩
              rcases fo9 with ⟨rfl, a1, a2⟩ | ⟨p, xs, rfl, hp, lx, mx⟩
              · rw [decide_eq_true rfl]
                refine iteT ⟨_, rfl, s9, _, _, _, _, _, _, rfl, .inr ⟨W, ys, rfl, hW9, lY, fun x => ?_⟩⟩
                rw [nextU_succ, memY]
                exact ⟨fun h => ⟨a2 x, fun _ => h⟩, fun h => h.2 (.inr kz)⟩
              · rw [decide_eq_false (fun e => by cases e)]
                refine iteF ⟨_, rfl, p, rfl, ⟨_, SqL.of hp⟩, fun D2 hD2 => ?_⟩
                refine lc_listS (xs := xs.map numV) (fun n acc _ => acc = ((xs.take n).filter fun y => decide (y ∈ ys)).map numV) hD2 (SqL.of hp) (by rw [List.length_map]; omega) (fun _ _ _ _ _ h => h) rfl ?_ ?_
                · rintro i' x acc H10 hx s10 h10 rfl k1 k2 y1 y2
                  obtain ⟨y, ey, rfl⟩ := num_get hx
                  refine ⟨rfl, _, rfl, _, rfl, W, _, rfl, .inl (SqL.of (s10 _ _ hW9)), rfl, flat_numsM _, _, rfl, ?_⟩
                  rw [show (if (false : Bool) = true then !inV (numV y) (ys.map numV) else inV (numV y) (ys.map numV)) = decide (y ∈ ys) from inV_numM]
                  by_cases cy : y ∈ ys
                  · rw [decide_eq_true cy]
                    refine iteT ⟨_, rfl, y1 _ _ (Same.refl _) ?_⟩
                    rw [take_one_more ey, List.filter_append, List.map_append, List.filter_cons_of_pos (p := fun y => decide (y ∈ ys)) (decide_eq_true cy)]
                    rfl
                  · rw [decide_eq_false cy]
                    refine iteF (y2 _ (Same.refl _) ?_)
                    rw [take_one_more ey, List.filter_append, List.filter_cons_of_neg (p := fun y => decide (y ∈ ys)) (by rw [decide_eq_false cy]; exact Bool.false_ne_true)]
                    exact (congrArg (List.map numV) (List.append_nil _)).symm
                · rintro acc H10 s10 h10 rfl
                  rw [List.length_map, List.take_length] at h10
                  refine ⟨s9.trans s10, _, _, _, _, _, _, rfl, .inr ⟨D2, _, rfl, h10, Nat.le_trans (List.length_filter_le _ _) lx, fun x => ?_⟩⟩
                  rw [List.mem_filter, decide_eq_true_iff, nextU_succ, mx, memY]
                  exact ⟨fun h => ⟨h.1, fun _ => h.2⟩, fun h => ⟨h.1, h.2 (.inr kz)⟩⟩
    · rintro σ H2 ⟨s2, v4, v5, v6, v7, v8, v9, rfl, fo⟩
      rcases fo with ⟨rfl, a1, _⟩ | ⟨p, xs, rfl, hp, lx, mx⟩
      · obtain ⟨tie, mt, ht⟩ := ok.all z mz
        obtain ⟨i, et⟩ := List.mem_iff_getElem?.mp mt
        refine absurd ((own_iff mz).mpr ?_) (a1 i (List.getElem?_eq_some_iff.mp et).1)
        unfold tmsOf
        rw [List.getD_eq_getElem?_getD, et]
        exact ht
      · refine ⟨_, rfl, p, xs.map Int.ofNat, rfl, SqL.of (by rw [hp, nat_ints]), by rw [List.length_map]; omega, fun a n na ln' => ?_⟩
        rw [List.length_map] at ln'
        have s5 := same_new (o := SetO w a (fun j => decide (j ∈ xs.map Int.ofNat)) n) na
        refine ⟨a, _, n, rfl, upd_same, by omega, fun ns q' pw mem len nq => ?_⟩
        have s6 := same_new (o := HO.lst (ns.map V.int)) nq
        obtain ⟨ms, rfl⟩ := nats_of (ns := ns) fun k mk => by
          have := of_decide_eq_true ((mem k).mp mk)
          obtain ⟨m, _, rfl⟩ := List.mem_map.mp this
          exact Int.natCast_nonneg _
        refine k q' ms _ (s2.free (s5.free nq)) (s2.trans (s5.trans s6)) (by rw [upd_same, ← nat_ints]) ?_ (fun x => ?_) (by rw [List.length_map] at len; omega)
        · rw [List.pairwise_map] at pw
          exact pw.imp fun h => Int.ofNat_lt.mp h
        · rw [← mx x]
          have e := mem (Int.ofNat x)
          constructor
          · intro mm
            have := of_decide_eq_true (e.mp (List.mem_map.mpr ⟨x, mm, rfl⟩))
            obtain ⟨m', mm', ee⟩ := List.mem_map.mp this
            rw [← Int.ofNat.inj ee]
            exact mm'
          · intro mm
            have := e.mpr (decide_eq_true (List.mem_map.mpr ⟨x, mm, rfl⟩))
            obtain ⟨m', mm', ee⟩ := List.mem_map.mp this
            rw [← Int.ofNat.inj ee]
            exact mm'
end
end VQ
namespace VQ
open PySem L2 LamX
/-! ### all points that fit, in rising order -/
abbrev sLawPoints : Stmt := top 84
abbrev nLawPoints : List Str := ["_law_model", "_law_question", "_law_found", "_law_done", "_law_name", "_law_later", "_law_point", "_law_worth_here"]
theorem scLawPoints : FnScope nLawPoints ["_law_model", "_law_question"] (defScope sLawPoints) := ⟨rfl, rfl, rfl, by decide +kernel, rfl, by decide +kernel, by decide +kernel⟩
/-- a row's rank among the rows of as many worths -/
def codeN (r : List Nat) : Nat := r.foldl (fun c x => c * 32 + x) 0
theorem codeN_snoc (r : List Nat) (x : Nat) : codeN (r ++ [x]) = codeN r * 32 + x := by
  unfold codeN
  rw [List.foldl_append]
  rfl
def Rising (rs : List (List Nat)) : Prop := rs.Pairwise fun x y => codeN x < codeN y
def PtsP (q : Qn) (Ls : Nat → List (List Nat)) (B j : Nat) (pts : List (List Nat)) : Prop := (∀ ns, ns ∈ pts ↔ ns.length = j ∧ PfxP q Ls ns) ∧ Rising pts ∧ (∀ ns ∈ pts, ∀ x ∈ ns, x < 32) ∧ pts.length ≤ B ^ j
def LatP (q : Qn) (Ls : Nat → List (List Nat)) (B : Nat) (z : Str) (ps ls : List (List Nat)) : Prop := (∀ ns, ns ∈ ls ↔ ∃ pt ∈ ps, ∃ x, ns = pt ++ [x] ∧ NextU q Ls pt z q.ties.length x) ∧ Rising ls ∧ (∀ ns ∈ ls, ∀ x ∈ ns, x < 32) ∧ ls.length ≤ ps.length * B
theorem pts_nil0 (q : Qn) (Ls : Nat → List (List Nat)) (B : Nat) : PtsP q Ls B 0 [[]] := by
  refine ⟨fun ns => ⟨fun m => ?_, fun h => ?_⟩, List.pairwise_singleton _ _, fun ns m x mx => ?_, Nat.le_refl _⟩
  · rw [List.mem_singleton.mp m]
    exact ⟨rfl, pfx_nil q Ls⟩
  · rw [List.length_eq_zero_iff.mp h.1]
    exact List.mem_cons_self
  · rw [List.mem_singleton.mp m] at mx
    cases mx
theorem lat_nil (q : Qn) (Ls : Nat → List (List Nat)) (B : Nat) (z : Str) : LatP q Ls B z [] [] := by
  refine ⟨fun ns => ⟨(fun m => by cases m), fun h => ?_⟩, List.Pairwise.nil, (fun ns m => by cases m), Nat.zero_le _⟩
  obtain ⟨pt, m, _⟩ := h
  cases m
theorem lat_step {q : Qn} {Ls : Nat → List (List Nat)} {B : Nat} {z : Str} {ps ls : List (List Nat)} {pt xs : List Nat} (h : LatP q Ls B z ps ls) (up : ∀ p ∈ ps, codeN p < codeN pt) (b : ∀ x ∈ pt, x < 32) (pw : xs.Pairwise (· < ·)) (mem : ∀ x, x ∈ xs ↔ NextU q Ls pt z q.ties.length x) (lx : xs.length ≤ B) (bx : ∀ x ∈ xs, x < 32) : LatP q Ls B z (ps ++ [pt]) (ls ++ xs.map fun x => pt ++ [x]) := by
  obtain ⟨h1, h2, h3, h4⟩ := h
  refine ⟨fun ns => ?_, ?_, fun ns m x mx => ?_, ?_⟩
  · rw [List.mem_append, h1]
    constructor
    · rintro (⟨p, mp, x, e, n⟩ | m)
      · exact ⟨p, List.mem_append_left _ mp, x, e, n⟩
      · obtain ⟨x, mx, e⟩ := List.mem_map.mp m
        exact ⟨pt, List.mem_append_right _ List.mem_cons_self, x, e.symm, (mem x).mp mx⟩
    · rintro ⟨p, mp, x, e, n⟩
      rcases List.mem_append.mp mp with mp | mp
      · exact .inl ⟨p, mp, x, e, n⟩
      · rw [List.mem_singleton.mp mp] at e n
        exact .inr (List.mem_map.mpr ⟨x, (mem x).mpr n, e.symm⟩)
  · refine List.pairwise_append.mpr ⟨h2, List.pairwise_map.mpr (pw.imp fun {x y} lt => ?_), fun a ma c mc => ?_⟩
    · rw [codeN_snoc, codeN_snoc]
      omega
    · obtain ⟨p, mp, x, rfl, _⟩ := (h1 a).mp ma
      obtain ⟨y, my, rfl⟩ := List.mem_map.mp mc
      have := up p mp
      have := h3 _ ma x (List.mem_append_right _ List.mem_cons_self)
      rw [codeN_snoc, codeN_snoc]
      omega
  · rcases List.mem_append.mp m with m | m
    · exact h3 ns m x mx
    · obtain ⟨y, my, rfl⟩ := List.mem_map.mp m
      rcases List.mem_append.mp mx with mx | mx
      · exact b x mx
      · rw [List.mem_singleton.mp mx]
        exact bx y my
  · rw [List.length_append, List.length_map, List.length_append, Nat.add_mul]
    show ls.length + xs.length ≤ ps.length * B + 1 * B
    omega
theorem lat_all {q : Qn} {Ls : Nat → List (List Nat)} {B j : Nat} {z : Str} {pts ls : List (List Nat)} (nd : q.names.Nodup) (hz : q.names[j]? = some z) (h : PtsP q Ls B j pts) (g : LatP q Ls B z pts ls) : PtsP q Ls B (j + 1) ls := by
  obtain ⟨h1, h2, h3, h4⟩ := h
  obtain ⟨g1, g2, g3, g4⟩ := g
  refine ⟨fun ns => ?_, g2, g3, Nat.le_trans g4 (by rw [Nat.pow_succ]; exact Nat.mul_le_mul_right B h4)⟩
  rw [g1]
  constructor
  · rintro ⟨pt, mp, x, rfl, n⟩
    obtain ⟨l, p⟩ := (h1 pt).mp mp
    subst l
    exact ⟨by rw [List.length_append]; rfl, (pfx_next nd hz).mpr ⟨p, n⟩⟩
  · rintro ⟨l, p⟩
    have ne : ns ≠ [] := fun e => by
      rw [e] at l
      cases l
    have e := List.dropLast_concat_getLast ne
    have lp : ns.dropLast.length = j := by
      rw [List.length_dropLast]
      omega
    rw [← e] at p
    subst lp
    obtain ⟨p1, p2⟩ := (pfx_next nd hz).mp p
    exact ⟨_, (h1 _).mpr ⟨rfl, p1⟩, _, e.symm, p2⟩
theorem next_lt {q : Qn} {Ls : Nat → List (List Nat)} {pt : List Nat} {z : Str} {x : Nat} (ok : QOk q) (hz : q.names[pt.length]? = some z) (rows : ∀ i, i < q.ties.length → ∀ r ∈ Ls i, ∀ n ∈ r, n < 32) (h : NextU q Ls pt z q.ties.length x) : x < 32 := by
  have mz := List.mem_of_getElem? hz
  obtain ⟨tie, mt, ht⟩ := ok.all z mz
  obtain ⟨i, et⟩ := List.mem_iff_getElem?.mp mt
  have li := (List.getElem?_eq_some_iff.mp et).1
  have kz : z ∈ ownZ q i := (own_iff mz).mpr (by
    unfold tmsOf
    rw [List.getD_eq_getElem?_getD, et]
    exact ht)
  obtain ⟨r, mr, ar⟩ := h i li (.inr kz)
  rw [← ((agr_next ok.nd hz kz).mp ar).2, List.getD_eq_getElem?_getD]
  cases e : r[(knZ q i pt.length).length]? with
  | none => exact (by decide : (0 : Nat) < 32)
  | some n => exact rows i li r mr n (List.mem_of_getElem? e)
theorem let_okR {M : Mod} {q : Qn} {Ls : Nat → List (List Nat)} (mo : ModOk M) (fm : FitsM M q.ties) (hL : letAt M q Ls) : ∀ i, i < q.ties.length → ∀ r ∈ Ls i, RowOk (ownZ q i).length r := fun i li r mr => by
  have et : q.ties[i]? = some q.ties[i] := List.getElem?_eq_getElem li
  obtain ⟨rs, mM⟩ := fm _ (List.getElem_mem li)
  rw [hL i _ rs et mM] at mr
  exact let_rows (fun r mr => (mo.row _ mM r mr).2) r mr
theorem Rows.app {H : Hp} : ∀ {us vs : List V} {rs ss : List (List Nat)}, Rows H us rs → Rows H vs ss → Rows H (us ++ vs) (rs ++ ss)
  | _, _, _, _, .nil, h => h
  | _, _, _, _, .cons a t, h => .cons a (Rows.app t h)
theorem rising_at {pts : List (List Nat)} {i : Nat} {pt : List Nat} (h : Rising pts) (e : pts[i]? = some pt) : ∀ p ∈ pts.take i, codeN p < codeN pt := fun p m => by
  have t := List.take_append_drop i pts
  have h' : Rising (pts.take i ++ pts.drop i) := by rw [t]; exact h
  obtain ⟨li, ei⟩ := List.getElem?_eq_some_iff.mp e
  refine (List.pairwise_append.mp h').2.2 p m pt ?_
  rw [List.drop_eq_getElem_cons li, ei]
  exact List.mem_cons_self
section
variable {P : Program} {w : World} {K : PySem.W.Frag} {mg : Str → Option Value} {base : Heap}
def spPoints : Sp := fun vs H Q _ => ∃ (m qa : Addr) (M : Mod) (q : Qn) (Ls : Nat → List (List Nat)) (B : Nat), vs = [.ref m, .ref qa] ∧ ModAt H m M ∧ ModOk M ∧ QAt H qa q ∧ QOk q ∧ FitsM M q.ties ∧ letAt M q Ls ∧ (∀ x ∈ M, x.2.2.length ≤ B) ∧ 1 ≤ B ∧ B ≤ 40 ∧ B ^ q.names.length ≤ 900 ∧
  ∀ (p : Addr) (us : List V) (pts : List (List Nat)) (H' : Hp), H p = none → Same H H' → H' p = some (.lst us) → Rows H' us pts → (∀ ns, ns ∈ pts ↔ (ns.length = q.names.length ∧ PfxP q Ls ns) ∧ keepsB q ns = true) → Rising pts → (∀ ns ∈ pts, ∀ x ∈ ns, x < 32) → pts.length ≤ 900 → Q (.ref p) H'
theorem has_points (b : Blt mg) (hNx : Has P w K mg base CX0 3 "_law_next" sLawNext ["_law_model", "_law_question", "_law_done", "_law_point"] spNext) (hKe : Has P w K mg base CX0 1 "_law_keeps" sLawKeeps ["_law_question", "_law_point"] spKeeps) (a : AtE K mg "_law_points" sLawPoints ["_law_model", "_law_question"]) : Has P w K mg base CX0 4 "_law_points" sLawPoints ["_law_model", "_law_question"] spPoints := by
  obtain ⟨f, fd, a⟩ := a
  obtain ⟨fNx, fdNx, aNx, GNx⟩ := hNx
  obtain ⟨fKe, fdKe, aKe, GKe⟩ := hKe
  refine ⟨f, fd, a, a.fn.ok scLawPoints (fun vs H Q E h => ?_) (fun cdv A outer s H vs Q E hr3 h => ?_)⟩
  · obtain ⟨m, qa, M, q, Ls, B, rfl, _⟩ := h
    rfl
  · obtain ⟨m, qa, M, q, Ls, B, rfl, ma, mo, hqa, ok, fm, hL, lB, B1, B40, Bn, k⟩ := h
    have hr1 : Room 1 _ := hr3.mono (by decide)
    refine ⟨_,
    (pss_cons (ps_set (i := 2) scLawPoints.nd rfl (.inl rfl) (pe_lst (pa_cons (pe_tup pa_nil) pa_nil)))
    (pss_cons (ps_set (i := 3) scLawPoints.nd rfl (.inl rfl) (pe_lst pa_nil))
    (pss_cons (ps_for PassesOwn.never rfl (pi_tup (pe_ix ix_tup (pv 1) pe_int fun _ _ => rfl)) (pg_name (i := 4) scLawPoints.nd rfl (.inl rfl))
      (pss_cons (ps_expr (pe_bm PySem.F.plainAttrs_list PySem.F.slot_list_append PySem.F.type_list_append mt_append (pv 3) (pa_cons (pv 4) pa_nil)))
      (pss_cons (ps_set (i := 5) scLawPoints.nd rfl (.inl rfl) (pe_lst pa_nil))
      (pss_cons (ps_for PassesOwn.never rfl (pi_list (pv 2)) (pg_name (i := 6) scLawPoints.nd rfl (.inr rfl))
        (pss_one (ps_set (i := 5) scLawPoints.nd rfl (.inl rfl) (pe_op op_cat (pv 5) (pe_lc (own := [("_law_worth_here", 7)]) (g := (gName 7)) (tt := tYes) (te := (tOp (rCatA K) (tVar 6) (tTup (tCons (tVar 7) tNil)))) rfl scLawPoints.nd (pi_list (pe_call GNx hr3 rfl aNx.gl aNx.fn.kp aNx.bd .nil pass0 (pa_cons (pv 0) (pa_cons (pv 1) (pa_cons (pv 3) (pa_cons (pv 6) pa_nil)))))) (blkOk_by (N := nLawPoints) (sc := defScope sLawPoints) (by decide +kernel)) (fun _ _ _ _ _ => (pg_name (i := 7) scLawPoints.nd rfl (.inl rfl))) (fun _ _ _ _ _ => pts_nil) (fun _ _ _ _ _ => (pe_op op_catA (pv 6) (pe_tup (pa_cons (pv 7) pa_nil)))))))))
      (pss_one (ps_set (i := 2) scLawPoints.nd rfl (.inl rfl) (pv 5)))))))
    (pss_one (ps_ret (pe_lc (own := [("_law_point", 6)]) (g := (gName 6)) (tt := (tTest (tCall spKeeps [] E0 (tCons (tVar 1) (tCons (tVar 6) tNil))))) (te := (tVar 6)) rfl scLawPoints.nd (pi_list (pv 2)) (blkOk_by (N := nLawPoints) (sc := defScope sLawPoints) (by decide +kernel)) (fun _ _ _ _ _ => (pg_name (i := 6) scLawPoints.nd rfl (.inl rfl))) (fun _ _ _ _ _ => pts_one (pt_val (pe_call GKe hr1 rfl aKe.gl aKe.fn.kp aKe.bd .nil pass0 (pa_cons (pv 1) (pa_cons (pv 6) pa_nil))))) (fun _ _ _ _ _ => (pv 6)))))))), ?_⟩
    obtain ⟨n, t, l, hqr, hq⟩ := id hqa
    have n5 := ok.n5
    have okL := let_okR mo fm hL
    have Bj : ∀ j, j ≤ q.names.length → B ^ j ≤ 900 := fun j hj => Nat.le_trans (Nat.pow_le_pow_right B1 hj) Bn
    refine ⟨by show 0 ≤ sizeLine; decide, fun e0 ne0 => ⟨by show 1 ≤ sizeLine; decide, fun p0 np0 => ?_⟩⟩
    have s1 := (same_new (o := HO.tup []) ne0).trans (same_new (o := HO.lst [.ref e0]) np0)
    have he0 := same_new (o := HO.lst [.ref e0]) np0 _ _ (upd_same (H := H) (a := e0) (o := .tup []))
    have hp0 := upd_same (H := upd H e0 (.tup [])) (a := p0) (o := .lst [.ref e0])
    generalize upd (upd H e0 (.tup [])) p0 (.lst [.ref e0]) = H1 at s1 he0 hp0 ⊢
    refine ⟨by show 0 ≤ sizeLine; decide, fun dn ndn => ?_⟩
    have sd := same_new (o := HO.lst []) ndn
    have hdn := upd_same (H := H1) (a := dn) (o := .lst [])
    have p0d : p0 ≠ dn := fun e => by
      rw [← e, hp0] at ndn
      cases ndn
    have ndn0 : H dn = none := s1.free ndn
    generalize upd H1 dn (.lst []) = H2 at sd hdn ⊢
    refine ⟨_, rfl, qa, _, _, _, rfl, rfl, SqT.of ((s1.trans sd) _ _ hqr), atI_nat (j := 0) rfl, n, rfl, ⟨_, (hq.nm.same (s1.trans sd)).sq⟩, ?_⟩
    refine for_tup (xs := q.names.map V.str) (fun j σ H' => Same H H' ∧ H' dn = some (.lst ((q.names.take j).map V.str)) ∧ ∃ (fp : Addr) (us : List V) (pts : List (List Nat)) (v4 v5 v6 : Option V), σ = [some (.ref m), some (.ref qa), some (.ref fp), some (.ref dn), v4, v5, v6, none] ∧ fp ≠ dn ∧ H' fp = some (.lst us) ∧ Rows H' us pts ∧ PtsP q Ls B j pts) ⟨s1.trans sd, hdn, p0, _, [[]], none, none, none, rfl, p0d, sd _ _ hp0, .cons (sd _ _ he0) .nil, pts_nil0 q Ls B⟩ (fun j σ H' _ z => (hq.nm.same z.1).sq) ?_ ?_
    · rintro j x σ H3 hx ⟨s3, hd3, fp, us, pts, v4, v5, v6, rfl, fpd, hf3, ro3, pp⟩
      obtain ⟨z, ez, rfl⟩ := map_get hx
      have lj : j < q.names.length := (List.getElem?_eq_some_iff.mp ez).1
      refine ⟨_, rfl, .inl ⟨rfl, _, SqL.of hd3⟩, _, rfl, dn, _, _, rfl, rfl, hd3, lt_line (by rw [List.length_map, List.length_take]; omega), ?_⟩
      have hd4 := upd_same (H := H3) (a := dn) (o := .lst ((q.names.take j).map V.str ++ [V.str z]))
      have s4 : Same H (upd H3 dn (.lst ((q.names.take j).map V.str ++ [V.str z]))) := same_put s3 ndn0
      have ro4 := ro3.moved (tups_lst (ys := (q.names.take j).map V.str ++ [V.str z]) hd3).1
      have hf4 := (upd_ne (H := H3) (o := .lst ((q.names.take j).map V.str ++ [V.str z])) fpd).trans hf3
      rw [show (q.names.take j).map V.str ++ [V.str z] = (q.names.take (j + 1)).map V.str by rw [take_one_more ez, List.map_append]; rfl] at hd4 s4 ro4 hf4 ⊢
      generalize upd H3 dn (.lst ((q.names.take (j + 1)).map V.str)) = H4 at hd4 s4 ro4 hf4 ⊢
      refine ⟨by show 0 ≤ sizeLine; decide, fun lp nlp => ?_⟩
      have s5 := same_new (o := HO.lst []) nlp
      have hl5 := upd_same (H := H4) (a := lp) (o := .lst [])
      have ldn : lp ≠ dn := fun e => by
        rw [e, hd4] at nlp
        cases nlp
      generalize upd H4 lp (.lst []) = H5 at s5 hl5 ⊢
      have Bp := Bj j (by omega)
      have Bp1 := Bj (j + 1) (by omega)
      obtain ⟨pp1, pp2, pp3, pp4⟩ := id pp
      refine ⟨_, rfl, fp, rfl, ⟨_, SqL.of (s5 _ _ hf4)⟩, ?_⟩
      refine for_list (xs := us) (fun i σ H' => Same H4 H' ∧ ∃ (lp : Addr) (ls : List (List Nat)) (vs : List V) (v6 : Option V), σ = [some (.ref m), some (.ref qa), some (.ref fp), some (.ref dn), some (.str z), some (.ref lp), v6, none] ∧ lp ≠ dn ∧ H' lp = some (.lst vs) ∧ Rows H' vs ls ∧ LatP q Ls B z (pts.take i) ls) ⟨s5, lp, [], [], v6, rfl, ldn, hl5, .nil, lat_nil q Ls B z⟩ (fun i σ H' _ z => SqL.of (z.1 _ _ hf4)) ?_ ?_
      · rintro i x σ H6 hx ⟨s6, lp, ls, vs, v6, rfl, ldn, hl6, rol, la⟩
        obtain ⟨ap, pt, rfl, ep, hap⟩ := (ro4.same s6).get hx
        have s06 := s4.trans s6
        obtain ⟨lpt, pfx⟩ := (pp1 pt).mp (List.mem_of_getElem? ep)
        subst lpt
        refine ⟨_, rfl, _, rfl, _, rfl, _, rfl, _, rfl, m, qa, dn, ap, M, q, Ls, B, pt, z, rfl, ma.same s06, mo, hqa.moved (same_tups s06), ok, fm, hL, lB, B40, s6 _ _ hd4, ez, hap, fun p xs H7 np s7 hp pw mem lx => ?_⟩
        have bx : ∀ x ∈ xs, x < 32 := fun x mx => next_lt ok ez (fun i li r mr => (okL i li r mr).2) ((mem x).mp mx)
        refine ⟨p, rfl, ⟨_, SqL.of hp⟩, fun D hD => ?_⟩
        refine lc_listS (xs := xs.map numV) (fun i acc H' => Rows H' acc ((xs.take i).map fun x => pt ++ [x]) ∧ V.ref D ∉ acc) hD (SqL.of hp) (by rw [List.length_map]; omega) (fun _ _ _ _ o h => ⟨h.1.off o h.2, h.2⟩) ⟨.nil, fun m => by cases m⟩ ?_ ?_
        · rintro i' x acc H8 hx' s8 h8 ⟨ro8, no8⟩ k1 k2 y1 y2
          obtain ⟨x, ex, rfl⟩ := num_get hx'
          have nx := take_one_more ex
          refine ⟨rfl, yes_turn ⟨_, rfl, _, rfl, by show 1 ≤ sizeLine; decide, fun e ne => ?_⟩⟩
          have se := same_new (o := HO.tup [numV x]) ne
          have he := upd_same (H := H8) (a := e) (o := .tup [numV x])
          generalize upd H8 e (.tup [numV x]) = H9 at se he ⊢
          have hap9 := se _ _ (s8 _ _ (s7 _ _ hap))
          have fin : ∀ (a : Addr) (H10 : Hp), Same H8 H10 → H8 a = none → H10 a = some (.tup ((pt ++ [x]).map numV)) → Rows H10 (acc ++ [.ref a]) ((xs.take (i' + 1)).map fun x => pt ++ [x]) ∧ V.ref D ∉ acc ++ [.ref a] := fun a H10 s10 na ha => by
            rw [nx, List.map_append]
            refine ⟨(ro8.same s10).snoc ha, fun md => ?_⟩
            rcases List.mem_append.mp md with md | md
            · exact no8 md
            · have e := List.mem_singleton.mp md
              injection e with e
              rw [← e, h8] at na
              cases na
          refine ⟨ap, e, _, _, rfl, rfl, SqT.of hap9, SqT.of he, by rw [List.length_map]; exact Nat.le_trans (show _ ≤ 6 by show pt.length + 1 ≤ 6; omega) (by decide), fun z0 => ?_, fun _ z0 => (by cases z0), fun _ _ a na => ?_⟩
          · have e0 : pt = [] := List.map_eq_nil_iff.mp z0
            refine y1 _ _ se (fin e H9 se ne ?_)
            rw [he, e0]
            rfl
          · have sa := se.trans (same_new (o := HO.tup (pt.map numV ++ [numV x])) na)
            refine y1 _ _ sa (fin a _ sa (se.free na) ?_)
            rw [upd_same, List.map_append]
            rfl
        · rintro acc H8 s8 h8 ⟨ro8, no8⟩
          rw [List.length_map, List.take_length] at ro8
          have s68 := s7.trans s8
          refine ⟨lp, D, vs, acc, rfl, rfl, s68 _ _ hl6, h8, ?_, fun r nr => ?_⟩
          · rw [rol.len, ro8.len, List.length_map]
            have g4 := la.2.2.2
            have g5 : (pts.take i).length * B ≤ 900 * 40 := Nat.mul_le_mul (by rw [List.length_take]; omega) B40
            exact Nat.le_trans (show _ ≤ 40000 by omega) (by decide)
          · have sr := same_new (o := HO.lst (vs ++ acc)) nr
            have ld := lat_step la (rising_at pp2 ep) (pp3 pt (List.mem_of_getElem? ep)) pw mem lx bx
            rw [← take_one_more ep] at ld
            refine ⟨s6.trans (s68.trans sr), r, _, _, _, rfl, fun e => ?_, upd_same, (rol.same (s68.trans sr)).app (ro8.same sr), ld⟩
            rw [e, s68 _ _ (s6 _ _ hd4)] at nr
            cases nr
      · rintro σ H6 ⟨s6, lp, ls, vs, v6, rfl, ldn, hl6, rol, la⟩
        rw [ro4.len, List.take_length] at la
        exact ⟨_, rfl, s4.trans s6, s6 _ _ hd4, lp, _, _, _, _, _, rfl, ldn, hl6, rol, lat_all ok.nd ez pp la⟩
    · rintro σ H3 ⟨s3, hd3, fp, us, pts, v4, v5, v6, rfl, fpd, hf3, ro3, pp⟩
      rw [List.length_map] at pp
      obtain ⟨pp1, pp2, pp3, pp4⟩ := id pp
      refine ⟨_, rfl, fp, rfl, ⟨_, SqL.of hf3⟩, fun D hD => ?_⟩
      refine lc_listS (xs := us) (fun i acc H' => Rows H' acc ((pts.take i).filter fun ns => keepsB q ns) ∧ V.ref D ∉ acc) hD (SqL.of hf3) (by rw [ro3.len]; omega) (fun _ _ _ _ o h => ⟨h.1.off o h.2, h.2⟩) ⟨.nil, fun m => by cases m⟩ ?_ ?_
      · rintro i x acc H4 hx s4 h4 ⟨ro4, no4⟩ k1 k2 y1 y2
        obtain ⟨ap, pt, rfl, ep, hap⟩ := (ro3.same s4).get hx
        have s04 := s3.trans s4
        refine ⟨rfl, _, rfl, _, rfl, qa, ap, q, pt, rfl, hqa.moved (same_tups s04), ok, hap, ((pp1 pt).mp (List.mem_of_getElem? ep)).1, fun H5 s5 => ⟨_, rfl, ?_⟩⟩
        cases ck : keepsB q pt with
        | true =>
          refine iteT ⟨_, rfl, y1 _ _ s5 ?_⟩
          rw [take_one_more ep, List.filter_append, List.filter_cons_of_pos (p := fun ns => keepsB q ns) ck]
          refine ⟨(ro4.same s5).snoc (s5 _ _ hap), fun md => ?_⟩
          rcases List.mem_append.mp md with md | md
          · exact no4 md
          · have e := List.mem_singleton.mp md
            injection e with e
            rw [← e, h4] at hap
            cases hap
        | false =>
          refine iteF (y2 _ s5 ?_)
          rw [take_one_more ep, List.filter_append, List.filter_cons_of_neg (p := fun ns => keepsB q ns) (by rw [ck]; exact Bool.false_ne_true)]
          rw [show ((pts.take i).filter (fun ns => keepsB q ns) ++ [].filter (fun ns => keepsB q ns)) = (pts.take i).filter (fun ns => keepsB q ns) from List.append_nil _]
          exact ⟨ro4.same s5, no4⟩
      · rintro acc H4 s4 h4 ⟨ro4, no4⟩
        rw [ro3.len, List.take_length] at ro4
        refine k D acc _ H4 (s3.free hD) (s3.trans s4) h4 ro4 (fun ns => ?_) (pp2.filter _) (fun ns m => pp3 ns (List.mem_filter.mp m).1) (Nat.le_trans (List.length_filter_le _ _) (Nat.le_trans pp4 (Bj _ (Nat.le_refl _))))
        rw [List.mem_filter, pp1]
end
end VQ
namespace VQ
open PySem L2 LamX
/-! ### what each tie of a question lets by, out of the model -/
def rsOf (M : Mod) (tie : Str × List Term) : List (List Nat) := ((M.find? fun x => decide (x.1 = tie.1 ∧ x.2.1 = tie.2.length)).map fun x => x.2.2).getD []
def LsM (M : Mod) (q : Qn) (i : Nat) : List (List Nat) := letM (tmsOf q i) (ownZ q i) (rsOf M (q.ties.getD i ("", [])))
theorem let_at {M : Mod} (mo : ModOk M) (q : Qn) : letAt M q (LsM M q) := fun i tie rs et mM => by
  have eg : q.ties.getD i ("", []) = tie := by
    rw [List.getD_eq_getElem?_getD, et]
    rfl
  unfold LsM tmsOf
  rw [eg]
  have er : rsOf M tie = rs := by
    unfold rsOf
    cases e : M.find? fun x => decide (x.1 = tie.1 ∧ x.2.1 = tie.2.length) with
    | none => exact absurd (decide_eq_true (⟨rfl, rfl⟩ : tie.1 = tie.1 ∧ tie.2.length = tie.2.length)) (List.find?_eq_none.mp e _ mM)
    | some x =>
      have m := List.mem_of_find?_eq_some e
      have h : x.1 = tie.1 ∧ x.2.1 = tie.2.length := of_decide_eq_true (List.find?_some (p := fun x : Str × Nat × List (List Nat) => decide (x.1 = tie.1 ∧ x.2.1 = tie.2.length)) e)
      have q1 := mod_one mo.nd m mM h.1
      rw [q1]
      rfl
  rw [er]
/-- rows in their order -/
def sortM (L : List (List Nat)) : List (List Nat) := L.mergeSort fun x y => decide (TS.code 32 (x.map fun n => ((n : Nat) : Int)) ≤ TS.code 32 (y.map fun n => ((n : Nat) : Int)))
theorem sortM_perm (L : List (List Nat)) : (sortM L).Perm L := List.mergeSort_perm L _
theorem sortM_sorted (L : List (List Nat)) : Sorted (sortM L) := by
  have h := List.pairwise_mergeSort (le := fun x y : List Nat => decide (TS.code 32 (x.map fun n => ((n : Nat) : Int)) ≤ TS.code 32 (y.map fun n => ((n : Nat) : Int)))) (fun a c d h1 h2 => decide_eq_true (Int.le_trans (of_decide_eq_true h1) (of_decide_eq_true h2))) (fun a c => by
    rw [Bool.or_eq_true, decide_eq_true_iff, decide_eq_true_iff]
    exact Int.le_total _ _) L
  exact h.imp fun h => of_decide_eq_true h
end VQ
namespace VQ
open PySem L2 LamX
/-! ### ties lessened: rows without a mate are taken out until each has one -/
/-- two rows of own worths agree on the names that both ties have -/
def agrB (q : Qn) (i j : Nat) (r m : List Nat) : Bool := (ownZ q i).all fun z => !decide (z ∈ ownZ q j) || decide (rowW q i r z = rowW q j m z)
theorem agrB_iff {q : Qn} {i j : Nat} {r m : List Nat} : agrB q i j r m = true ↔ ∀ z ∈ ownZ q i, z ∈ ownZ q j → rowW q i r z = rowW q j m z := by
  unfold agrB
  rw [List.all_eq_true]
  refine forall_congr' fun z => forall_congr' fun _ => ?_
  rw [Bool.or_eq_true, decide_eq_true_iff, Bool.not_eq_true', decide_eq_false_iff_not]
  exact ⟨fun h m => h.elim (fun n => absurd m n) id, fun h => by
    by_cases c : z ∈ ownZ q j
    · exact .inr (h c)
    · exact .inl c⟩
def redF (q : Qn) (i j : Nat) (R O : List (List Nat)) : List (List Nat) := R.filter fun r => O.any fun m => agrB q i j r m
/-- a family each row of which has a mate in every tie -/
def Stab (q : Qn) (n : Nat) (S : Nat → List (List Nat)) : Prop := ∀ i j, i < n → j < n → ∀ r ∈ S i, ∃ m ∈ S j, agrB q i j r m = true
/-- the row stands in some such family -/
def Gr (q : Qn) (n : Nat) (L0 : Nat → List (List Nat)) (i : Nat) (r : List Nat) : Prop := ∃ S : Nat → List (List Nat), (∀ a, a < n → ∀ x ∈ S a, x ∈ L0 a) ∧ Stab q n S ∧ r ∈ S i
noncomputable def grB (q : Qn) (n : Nat) (L0 : Nat → List (List Nat)) (i : Nat) (r : List Nat) : Bool := @decide (Gr q n L0 i r) (Classical.propDecidable _)
theorem grB_iff {q : Qn} {n : Nat} {L0 : Nat → List (List Nat)} {i : Nat} {r : List Nat} : grB q n L0 i r = true ↔ Gr q n L0 i r := @decide_eq_true_iff _ (Classical.propDecidable _)
noncomputable def lessM (q : Qn) (n : Nat) (L0 : Nat → List (List Nat)) (i : Nat) : List (List Nat) := (L0 i).filter fun r => grB q n L0 i r
def atL (Ls : List (List (List Nat))) (i : Nat) : List (List Nat) := Ls.getD i []
theorem atL_set {Ls : List (List (List Nat))} {i j : Nat} {R : List (List Nat)} (h : i < Ls.length) : atL (Ls.set i R) j = if j = i then R else atL Ls j := by
  unfold atL
  rw [List.getD_eq_getElem?_getD, List.getD_eq_getElem?_getD]
  by_cases c : j = i
  · rw [if_pos c, c, List.getElem?_set_self h]
    rfl
  · rw [if_neg c, List.getElem?_set_ne (fun e => c e.symm)]
/-- what is left so far: of the first rows, and no row is lost that stands in a stable family -/
def LessI (q : Qn) (n : Nat) (L0 : Nat → List (List Nat)) (Ls : List (List (List Nat))) : Prop := Ls.length = n ∧ ∀ i, i < n → ∃ p : List Nat → Bool, atL Ls i = (L0 i).filter p ∧ ∀ r ∈ L0 i, Gr q n L0 i r → p r = true
theorem less_init {q : Qn} {n : Nat} {L0 : Nat → List (List Nat)} {Ls : List (List (List Nat))} (l : Ls.length = n) (h : ∀ i, i < n → atL Ls i = L0 i) : LessI q n L0 Ls := ⟨l, fun i hi => ⟨fun _ => true, by rw [h i hi]; exact (List.filter_eq_self.mpr fun _ _ => rfl).symm, fun _ _ _ => rfl⟩⟩
theorem less_step {q : Qn} {n : Nat} {L0 : Nat → List (List Nat)} {Ls : List (List (List Nat))} {i j : Nat} (h : LessI q n L0 Ls) (hi : i < n) (hj : j < n) : LessI q n L0 (Ls.set i (redF q i j (atL Ls i) (atL Ls j))) := by
  obtain ⟨l, h⟩ := h
  refine ⟨by rw [List.length_set]; exact l, fun a ha => ?_⟩
  rw [atL_set (by omega)]
  by_cases c : a = i
  · subst c
    rw [if_pos rfl]
    obtain ⟨p, e, g⟩ := h a ha
    obtain ⟨p', e', g'⟩ := h j hj
    refine ⟨fun r => p r && ((atL Ls j).any fun m => agrB q a j r m), ?_, fun r mr gr => ?_⟩
    · unfold redF
      rw [e, List.filter_filter]
      refine List.filter_congr fun r _ => ?_
      rw [Bool.and_comm]
    · rw [Bool.and_eq_true]
      refine ⟨g r mr gr, List.any_eq_true.mpr ?_⟩
      obtain ⟨S, s1, s2, s3⟩ := gr
      obtain ⟨m, mm, am⟩ := s2 a j ha hj r s3
      refine ⟨m, ?_, am⟩
      rw [e']
      exact List.mem_filter.mpr ⟨s1 j hj m mm, g' m (s1 j hj m mm) ⟨S, s1, s2, mm⟩⟩
  · rw [if_neg c]
    exact h a ha
theorem less_end {q : Qn} {n : Nat} {L0 : Nat → List (List Nat)} {Ls : List (List (List Nat))} (h : LessI q n L0 Ls) (st : Stab q n (atL Ls)) {i : Nat} (hi : i < n) : atL Ls i = lessM q n L0 i := by
  obtain ⟨p, e, g⟩ := h.2 i hi
  have inL : ∀ a, a < n → ∀ x ∈ atL Ls a, x ∈ L0 a := fun a ha x mx => by
    obtain ⟨p, e, _⟩ := h.2 a ha
    rw [e] at mx
    exact (List.mem_filter.mp mx).1
  have e0 := e
  rw [e]
  unfold lessM
  refine List.filter_congr fun r mr => ?_
  rw [Bool.eq_iff_iff, grB_iff]
  refine ⟨fun pr => ⟨atL Ls, inL, st, ?_⟩, g r mr⟩
  rw [e0]
  exact List.mem_filter.mpr ⟨mr, pr⟩
def totL (Ls : List (List (List Nat))) : Nat := (Ls.map List.length).sum
theorem tot_set : ∀ {Ls : List (List (List Nat))} {i : Nat} {R : List (List Nat)}, i < Ls.length → totL (Ls.set i R) + (atL Ls i).length = totL Ls + R.length
  | [], _, _, h => absurd h (Nat.not_lt_zero _)
  | L :: Ls, 0, R, _ => by
    show (R.length + totL Ls) + L.length = (L.length + totL Ls) + R.length
    omega
  | L :: Ls, i + 1, R, h => by
    have ih := tot_set (Ls := Ls) (i := i) (R := R) (by simpa using h)
    show (L.length + totL (Ls.set i R)) + (atL Ls i).length = (L.length + totL Ls) + R.length
    omega
/-- in the midst of a walk over pairs of ties: as before, with mates for the pairs gone through, or less than before -/
def PassI (q : Qn) (Bs : List (List (List Nat))) (Pr : Nat → Nat → Prop) (Ls : List (List (List Nat))) : Prop := (Ls = Bs ∧ ∀ i j, Pr i j → ∀ r ∈ atL Bs i, ∃ m ∈ atL Bs j, agrB q i j r m = true) ∨ totL Ls < totL Bs
theorem PassI.mono {q : Qn} {Bs Ls : List (List (List Nat))} {Pr Pr' : Nat → Nat → Prop} (h : PassI q Bs Pr Ls) (k : ∀ i j, Pr' i j → Pr i j) : PassI q Bs Pr' Ls := h.imp (fun h => ⟨h.1, fun i j p => h.2 i j (k i j p)⟩) id
theorem red_len (q : Qn) (i j : Nat) (R O : List (List Nat)) : (redF q i j R O).length ≤ R.length := List.length_filter_le _ _
theorem PassI.step {q : Qn} {Bs Ls : List (List (List Nat))} {Pr : Nat → Nat → Prop} {i j : Nat} (h : PassI q Bs Pr Ls) (hi : i < Ls.length) : PassI q Bs (fun a c => Pr a c ∨ (a = i ∧ c = j)) (Ls.set i (redF q i j (atL Ls i) (atL Ls j))) := by
  have t := tot_set (R := redF q i j (atL Ls i) (atL Ls j)) hi
  have le := red_len q i j (atL Ls i) (atL Ls j)
  rcases h with ⟨rfl, h⟩ | h
  · by_cases c : (redF q i j (atL Ls i) (atL Ls j)).length < (atL Ls i).length
    · exact .inr (by omega)
    · have e : redF q i j (atL Ls i) (atL Ls j) = atL Ls i := (List.filter_sublist (l := atL Ls i)).eq_of_length_le (by unfold redF at c; omega)
      have es : Ls.set i (atL Ls i) = Ls := by
        refine List.ext_getElem? fun k => ?_
        by_cases ck : k = i
        · rw [ck, List.getElem?_set_self hi]
          unfold atL
          rw [List.getD_eq_getElem?_getD, List.getElem?_eq_getElem hi]
          rfl
        · rw [List.getElem?_set_ne (fun e => ck e.symm)]
      rw [e, es]
      refine .inl ⟨rfl, fun a c' p r mr => ?_⟩
      rcases p with p | ⟨rfl, rfl⟩
      · exact h a c' p r mr
      · rw [← e] at mr
        exact List.any_eq_true.mp (List.mem_filter.mp mr).2
  · exact .inr (by omega)
theorem red_full {q : Qn} {i j : Nat} {Ls : List (List (List Nat))} (hi : i < Ls.length) : ((redF q i j (atL Ls i) (atL Ls j)).length < (atL Ls i).length ∧ totL (Ls.set i (redF q i j (atL Ls i) (atL Ls j))) < totL Ls) ∨ (¬ (redF q i j (atL Ls i) (atL Ls j)).length < (atL Ls i).length ∧ Ls.set i (redF q i j (atL Ls i) (atL Ls j)) = Ls) := by
  have t := tot_set (R := redF q i j (atL Ls i) (atL Ls j)) hi
  by_cases c : (redF q i j (atL Ls i) (atL Ls j)).length < (atL Ls i).length
  · exact .inl ⟨c, by omega⟩
  · refine .inr ⟨c, ?_⟩
    have e : redF q i j (atL Ls i) (atL Ls j) = atL Ls i := (List.filter_sublist (l := atL Ls i)).eq_of_length_le (by unfold redF at c; omega)
    rw [e]
    refine List.ext_getElem? fun k => ?_
    by_cases ck : k = i
    · rw [ck, List.getElem?_set_self hi]
      unfold atL
      rw [List.getD_eq_getElem?_getD, List.getElem?_eq_getElem hi]
      rfl
    · rw [List.getElem?_set_ne (fun e => ck e.symm)]
/-! ### what two ties have in common, by places -/
theorem idx_nd {α : Type} [BEq α] [LawfulBEq α] {xs : List α} (nd : xs.Nodup) {k : Nat} {x : α} (e : xs[k]? = some x) : xs.idxOf x = k := by
  have m := List.mem_of_getElem? e
  have lt := List.idxOf_lt_length_of_mem m
  have e1 : xs[xs.idxOf x]? = some x := by rw [List.getElem?_eq_getElem lt, List.getElem_idxOf lt]
  exact (List.getElem?_inj lt nd).mp (e1.trans e.symm)
theorem plZ_nodupL {q : Qn} (nd : q.names.Nodup) (i : Nat) : (plZ q i).Nodup := by
  unfold plZ
  refine List.pairwise_map.mpr (List.Pairwise.imp_of_mem (fun {x y} mx my ne e => ne ?_) (own_nodup nd i))
  have h1 := (idx_str (List.mem_filter.mp mx).1).1
  have h2 := (idx_str (List.mem_filter.mp my).1).1
  rw [e, h2] at h1
  exact (Option.some.inj h1).symm
theorem plZ_idx {q : Qn} (nd : q.names.Nodup) {i : Nat} {z : Str} (m : z ∈ ownZ q i) : (plZ q i).idxOf (q.names.idxOf z) = (ownZ q i).idxOf z := by
  refine idx_nd (plZ_nodupL nd i) ?_
  unfold plZ
  rw [List.getElem?_map, (idx_str m).1]
  rfl
theorem plZ_mem {q : Qn} {j : Nat} {z : Str} (mz : z ∈ q.names) : q.names.idxOf z ∈ plZ q j ↔ z ∈ ownZ q j := by
  unfold plZ
  rw [List.mem_map]
  constructor
  · rintro ⟨y, my, e⟩
    have h1 := (idx_str (List.mem_filter.mp my).1).1
    rw [e, (idx_str mz).1] at h1
    rw [Option.some.inj h1]
    exact my
  · exact fun m => ⟨z, m, rfl⟩
/-- the places that two ties have in common, in the order of the first -/
def comP (q : Qn) (i j : Nat) : List Nat := (plZ q i).filter fun p => decide (p ∈ plZ q j)
def pickP (ps : List Nat) (r : List Nat) : List Nat := ps.map fun p => r.getD p 0
theorem comP_eq {q : Qn} (i j : Nat) : comP q i j = ((ownZ q i).filter fun z => decide (z ∈ ownZ q j)).map q.names.idxOf := by
  unfold comP plZ
  rw [List.filter_map]
  congr 1
  refine List.filter_congr fun z mz => ?_
  exact decide_eq_decide.mpr (plZ_mem (List.mem_filter.mp mz).1)
theorem pick_one {q : Qn} (nd : q.names.Nodup) (i j : Nat) (r : List Nat) : pickP ((comP q i j).map (plZ q i).idxOf) r = ((ownZ q i).filter fun z => decide (z ∈ ownZ q j)).map (rowW q i r) := by
  unfold pickP
  rw [comP_eq, List.map_map, List.map_map]
  refine List.map_congr_left fun z mz => ?_
  show r.getD ((plZ q i).idxOf (q.names.idxOf z)) 0 = _
  rw [plZ_idx nd (List.mem_filter.mp mz).1]
  rfl
theorem pick_two {q : Qn} (nd : q.names.Nodup) (i j : Nat) (r : List Nat) : pickP ((comP q i j).map (plZ q j).idxOf) r = ((ownZ q i).filter fun z => decide (z ∈ ownZ q j)).map (rowW q j r) := by
  unfold pickP
  rw [comP_eq, List.map_map, List.map_map]
  refine List.map_congr_left fun z mz => ?_
  show r.getD ((plZ q j).idxOf (q.names.idxOf z)) 0 = _
  rw [plZ_idx nd (of_decide_eq_true (List.mem_filter.mp mz).2)]
  rfl
theorem pick_agr {q : Qn} (nd : q.names.Nodup) (i j : Nat) (r m : List Nat) : pickP ((comP q i j).map (plZ q i).idxOf) r = pickP ((comP q i j).map (plZ q j).idxOf) m ↔ agrB q i j r m = true := by
  rw [pick_one nd, pick_two nd, agrB_iff, List.map_inj_left]
  refine ⟨fun h z mz mj => h z (List.mem_filter.mpr ⟨mz, decide_eq_true mj⟩), fun h z mz => ?_⟩
  obtain ⟨m1, m2⟩ := List.mem_filter.mp mz
  exact h z m1 (of_decide_eq_true m2)
theorem com_lt {q : Qn} {i j p : Nat} (m : p ∈ comP q i j) : (plZ q i).idxOf p < (plZ q i).length ∧ (plZ q j).idxOf p < (plZ q j).length := by
  obtain ⟨m1, m2⟩ := List.mem_filter.mp m
  exact ⟨List.idxOf_lt_length_of_mem m1, List.idxOf_lt_length_of_mem (of_decide_eq_true m2)⟩
theorem com_five {q : Qn} (ok : QOk q) (i j : Nat) : (comP q i j).length ≤ 5 := Nat.le_trans (List.length_filter_le _ _) (plZ_five ok i)
end VQ
namespace VQ
open PySem L2 LamX
/-! ### the rows that agree with another tie's -/
abbrev sAgreeing : Stmt := top 65
abbrev nAgreeing : List Str := ["rows", "places", "others", "other_places", "common", "mine", "its", "there", "at", "row"]
theorem scAgreeing : FnScope nAgreeing ["rows", "places", "others", "other_places"] (defScope sAgreeing) := ⟨rfl, rfl, rfl, by decide +kernel, rfl, by decide +kernel, by decide +kernel⟩
theorem num_idx {ps : List Nat} {p : Nat} (m : p ∈ ps) : (ps.map numV)[ps.idxOf p]? = some (numV p) ∧ ∀ (k : Nat) (v : V), k < ps.idxOf p → (ps.map numV)[k]? = some v → eqV v (numV p) = false := by
  have lt := List.idxOf_lt_length_of_mem m
  refine ⟨by rw [List.getElem?_map, List.getElem?_eq_getElem lt, List.getElem_idxOf lt]; rfl, fun k v lk e => ?_⟩
  obtain ⟨x, ex, rfl⟩ := getF e
  obtain ⟨lk', e'⟩ := List.getElem?_eq_some_iff.mp ex
  have no := List.not_of_lt_findIdx (p := (· == p)) (xs := ps) (i := k) lk
  rw [e'] at no
  show (((x : Nat) : Int) == ((p : Nat) : Int)) = false
  refine beq_eq_false_iff_ne.mpr fun q => ?_
  rw [Int.ofNat.inj q, beq_self_eq_true] at no
  cases no
theorem inV_numN {t : Nat} {us : List Nat} : inV (numV t) (us.map numV) = decide (t ∈ us) := by
  unfold inV
  rw [List.any_map]
  by_cases h : t ∈ us
  · rw [decide_eq_true h, List.any_eq_true]
    exact ⟨t, h, beq_self_eq_true ((t : Nat) : Int)⟩
  · rw [decide_eq_false h, List.any_eq_false]
    intro y m e
    have e' : (((y : Nat) : Int) == ((t : Nat) : Int)) = true := e
    exact h (by rw [← Int.ofNat.inj (beq_iff_eq.mp e')]; exact m)
theorem flat_numsN (us : List Nat) : (us.map numV).all flatV = true := by
  rw [List.all_map]
  exact List.all_eq_true.mpr fun _ _ => rfl
/-- a tuple of numbers, as a key -/
def keyN (ns : List Nat) : List L2.Key := ns.map fun n => Sum.inl ((n : Nat) : Int)
theorem keyN_V (ns : List Nat) : (keyN ns).map kV = ns.map numV := by
  unfold keyN
  rw [List.map_map]
  rfl
theorem keyN_inj {a c : List Nat} (h : keyN a = keyN c) : a = c := nums_inj (by rw [← keyN_V, ← keyN_V, h])
section
variable {P : Program} {w : World} {K : PySem.W.Frag} {mg : Str → Option Value} {base : Heap}
def spAgree : Sp := fun vs H Q _ => ∃ (ra pa oa pb : Addr) (us ws : List V) (R O : List (List Nat)) (q : Qn) (i j : Nat), vs = [.ref ra, .ref pa, .ref oa, .ref pb] ∧ H ra = some (.lst us) ∧ Rows H us R ∧ H pa = some (.lst ((plZ q i).map numV)) ∧ H oa = some (.lst ws) ∧ Rows H ws O ∧ H pb = some (.lst ((plZ q j).map numV)) ∧
  QOk q ∧ (∀ r ∈ R, r.length = (plZ q i).length) ∧ (∀ r ∈ O, r.length = (plZ q j).length) ∧ R.length ≤ 40 ∧ O.length ≤ 40 ∧ ∀ (p : Addr) (us' : List V) (H' : Hp), H p = none → Same H H' → H' p = some (.lst us') → Rows H' us' (redF q i j R O) → Q (.ref p) H'
theorem has_agree (b : Blt mg) (hPi : Has P w K mg base CX0 1 "picked" sPicked ["things", "places"] spPicked) (a : AtE K mg "agreeing" sAgreeing ["rows", "places", "others", "other_places"]) : Has P w K mg base CX0 2 "agreeing" sAgreeing ["rows", "places", "others", "other_places"] spAgree := by
  obtain ⟨f, fd, a⟩ := a
  obtain ⟨fPi, fdPi, aPi, GPi⟩ := hPi
  refine ⟨f, fd, a, a.fn.ok scAgreeing (fun vs H Q E h => ?_) (fun cdv A outer s H vs Q E hr1 h => ?_)⟩
  · obtain ⟨ra, pa, oa, pb, us, ws, R, O, q, i, j, rfl, _⟩ := h
    rfl
  · obtain ⟨ra, pa, oa, pb, us, ws, R, O, q, i, j, rfl, hra, ro, hpa, hoa, wo, hpb, ok, lr, lo, lR, lO, k⟩ := h
    have hu1 : (A.deeper (PyProof.Rows.envOfC "agreeing" (defScope sAgreeing) s.heap.objs.size f cdv)).units + 1 < cLine := by
      have := hr1.un
      omega
    have hu0 : (A.deeper (PyProof.Rows.envOfC "agreeing" (defScope sAgreeing) s.heap.objs.size f cdv)).units < cLine := by omega
    refine ⟨_,
    (pss_cons (ps_setLc (i := 4) (own := [("at", 8)]) (g := (gName 8)) (tt := (tTest (tOp (rIn K false) (tVar 8) (tVar 3)))) (te := (tVar 8)) rfl scAgreeing.nd rfl rfl (sw_true rfl rfl rfl (by decide +kernel)) (pi_list (pv 1)) (blkOk_by (N := nAgreeing) (sc := defScope sAgreeing) (by decide +kernel)) (fun _ _ _ _ _ => (pg_name (i := 8) scAgreeing.nd rfl (.inl rfl))) (fun _ _ _ _ _ => pts_one (pt_cmpR op_in_seq (pv 8) (pv 3) rfl)) (fun _ _ _ _ _ => (pv 8)))
    (pss_cons (ps_set (i := 5) scAgreeing.nd rfl (.inr rfl) (pe_lc (own := [("at", 8)]) (g := (gName 8)) (tt := tYes) (te := (tBM K "list" (rIndex K) (tVar 1) (tCons (tVar 8) tNil))) rfl scAgreeing.nd (pi_list (pv 4)) (blkOk_by (N := nAgreeing) (sc := defScope sAgreeing) (by decide +kernel)) (fun _ _ _ _ _ => (pg_name (i := 8) scAgreeing.nd rfl (.inl rfl))) (fun _ _ _ _ _ => pts_nil) (fun _ _ _ _ _ => (pe_bm PySem.F.plainAttrs_list PySem.F.slot_list_index PySem.F.type_list_index mt_index (pv 1) (pa_cons (pv 8) pa_nil)))))
    (pss_cons (ps_set (i := 6) scAgreeing.nd rfl (.inr rfl) (pe_lc (own := [("at", 8)]) (g := (gName 8)) (tt := tYes) (te := (tBM K "list" (rIndex K) (tVar 3) (tCons (tVar 8) tNil))) rfl scAgreeing.nd (pi_list (pv 4)) (blkOk_by (N := nAgreeing) (sc := defScope sAgreeing) (by decide +kernel)) (fun _ _ _ _ _ => (pg_name (i := 8) scAgreeing.nd rfl (.inl rfl))) (fun _ _ _ _ _ => pts_nil) (fun _ _ _ _ _ => (pe_bm PySem.F.plainAttrs_list PySem.F.slot_list_index PySem.F.type_list_index mt_index (pv 3) (pa_cons (pv 8) pa_nil)))))
    (pss_cons (ps_set (i := 7) scAgreeing.nd rfl (.inr rfl) (pe_dcT (own := [("row", 9)]) (g := (gName 9)) (tt := tYes) (tv := (tC (.bl true))) (tk := (tCall spPicked [] E0 (tCons (tVar 9) (tCons (tVar 6) tNil)))) hu0 rfl scAgreeing.nd (pi_list (pv 2)) (blkOk_by (N := nAgreeing) (sc := defScope sAgreeing) (by decide +kernel)) (fun _ _ _ _ _ => (pg_name (i := 9) scAgreeing.nd rfl (.inl rfl))) (fun _ _ _ _ _ => pts_nil) (fun _ _ _ _ _ => (pe_call GPi hr1 rfl aPi.gl aPi.fn.kp aPi.bd .nil pass0 (pa_cons (pv 9) (pa_cons (pv 6) pa_nil)))) (fun _ _ _ _ _ => pe_bl)))
    (pss_one (ps_ret (pe_lc (own := [("row", 9)]) (g := (gName 9)) (tt := (tTest (tDIn (tCall spPicked [] E0 (tCons (tVar 9) (tCons (tVar 5) tNil))) (tVar 7)))) (te := (tVar 9)) rfl scAgreeing.nd (pi_list (pv 0)) (blkOk_by (N := nAgreeing) (sc := defScope sAgreeing) (by decide +kernel)) (fun _ _ _ _ _ => (pg_name (i := 9) scAgreeing.nd rfl (.inl rfl))) (fun _ _ _ _ _ => pts_one (pt_cmp (pc_din hu1 (pe_call GPi hr1 rfl aPi.gl aPi.fn.kp aPi.bd .nil pass0 (pa_cons (pv 9) (pa_cons (pv 5) pa_nil))) (pv 7)))) (fun _ _ _ _ _ => (pv 9))))))))), ?_⟩
    have p5 := plZ_five ok i
    have c5 := com_five ok i j
    refine ⟨_, rfl, pa, rfl, ⟨_, SqL.of hpa⟩, fun D hD => ?_⟩
    refine lc_listS (xs := (plZ q i).map numV) (fun n acc _ => acc = (((plZ q i).take n).filter fun p => decide (p ∈ plZ q j)).map numV) hD (SqL.of hpa) (by rw [List.length_map]; omega) (fun _ _ _ _ _ h => h) rfl ?_ ?_
    · rintro i' x acc H2 hx s2 h2 rfl k1 k2 y1 y2
      obtain ⟨p, ep, rfl⟩ := num_get hx
      refine ⟨rfl, _, rfl, _, rfl, pb, _, rfl, .inl (SqL.of (s2 _ _ hpb)), rfl, flat_numsN _, _, rfl, ?_⟩
      rw [show (if (false : Bool) = true then !inV (numV p) ((plZ q j).map numV) else inV (numV p) ((plZ q j).map numV)) = decide (p ∈ plZ q j) from inV_numN]
      by_cases c : p ∈ plZ q j
      · rw [decide_eq_true c]
        refine iteT ⟨_, rfl, y1 _ _ (Same.refl _) ?_⟩
        rw [take_one_more ep, List.filter_append, List.map_append, List.filter_cons_of_pos (p := fun p => decide (p ∈ plZ q j)) (decide_eq_true c)]
        rfl
      · rw [decide_eq_false c]
        refine iteF (y2 _ (Same.refl _) ?_)
        rw [take_one_more ep, List.filter_append, List.filter_cons_of_neg (p := fun p => decide (p ∈ plZ q j)) (by rw [decide_eq_false c]; exact Bool.false_ne_true)]
        exact (congrArg (List.map numV) (List.append_nil _)).symm
    rintro acc H2 s2 h2 rfl
    rw [List.length_map, List.take_length] at h2
    have h2 : H2 D = some (.lst ((comP q i j).map numV)) := h2
    refine ⟨_, rfl, D, rfl, ⟨_, SqL.of h2⟩, fun D1 hD1 => ?_⟩
    have mi : ∀ p ∈ comP q i j, p ∈ plZ q i := fun p m => (List.mem_filter.mp m).1
    have mj : ∀ p ∈ comP q i j, p ∈ plZ q j := fun p m => of_decide_eq_true (List.mem_filter.mp m).2
    have hpa2 := s2 _ _ hpa
    have hpb2 := s2 _ _ hpb
    refine lc_listS (xs := (comP q i j).map numV) (fun n acc _ => acc = ((comP q i j).take n).map fun p => numV ((plZ q i).idxOf p)) hD1 (SqL.of h2) (by rw [List.length_map]; omega) (fun _ _ _ _ _ h => h) rfl ?_ ?_
    · rintro i' x acc H3 hx s3 h3 rfl k1 k2 y1 y2
      obtain ⟨p, ep, rfl⟩ := num_get hx
      obtain ⟨n1, n2⟩ := num_idx (mi p (List.mem_of_getElem? ep))
      refine ⟨rfl, yes_turn ⟨_, rfl, .inl ⟨rfl, _, SqL.of (s3 _ _ hpa2)⟩, _, rfl, pa, _, numV p, (plZ q i).idxOf p, numV p, rfl, rfl, SqL.of (s3 _ _ hpa2), rfl, flat_numsN _, n1, beq_self_eq_true ((p : Nat) : Int), n2, y1 _ _ (Same.refl _) ?_⟩⟩
      rw [take_one_more ep, List.map_append]
      rfl
    rintro acc H3 s3 h3 rfl
    rw [List.length_map, List.take_length, show ((comP q i j).map fun p => numV ((plZ q i).idxOf p)) = ((comP q i j).map (plZ q i).idxOf).map numV by rw [List.map_map]; rfl] at h3
    refine ⟨_, rfl, D, rfl, ⟨_, SqL.of (s3 _ _ h2)⟩, fun D2 hD2 => ?_⟩
    have h2' := s3 _ _ h2
    have hpb3 := s3 _ _ hpb2
    refine lc_listS (xs := (comP q i j).map numV) (fun n acc _ => acc = ((comP q i j).take n).map fun p => numV ((plZ q j).idxOf p)) hD2 (SqL.of h2') (by rw [List.length_map]; omega) (fun _ _ _ _ _ h => h) rfl ?_ ?_
    · rintro i' x acc H4 hx s4 h4 rfl k1 k2 y1 y2
      obtain ⟨p, ep, rfl⟩ := num_get hx
      obtain ⟨n1, n2⟩ := num_idx (mj p (List.mem_of_getElem? ep))
      refine ⟨rfl, yes_turn ⟨_, rfl, .inl ⟨rfl, _, SqL.of (s4 _ _ hpb3)⟩, _, rfl, pb, _, numV p, (plZ q j).idxOf p, numV p, rfl, rfl, SqL.of (s4 _ _ hpb3), rfl, flat_numsN _, n1, beq_self_eq_true ((p : Nat) : Int), n2, y1 _ _ (Same.refl _) ?_⟩⟩
      rw [take_one_more ep, List.map_append]
      rfl
    rintro acc H4 s4 h4 rfl
    rw [List.length_map, List.take_length, show ((comP q i j).map fun p => numV ((plZ q j).idxOf p)) = ((comP q i j).map (plZ q j).idxOf).map numV by rw [List.map_map]; rfl] at h4
    have s04 := s2.trans (s3.trans s4)
    have h3' := s4 _ _ h3
    have wo4 := wo.same s04
    have hoa4 := s04 _ _ hoa
    refine ⟨_, rfl, oa, rfl, ⟨_, SqL.of hoa4⟩, fun D3 hD3 => ?_⟩
    refine dcT_list (xs := ws) (fun n H' => Same H4 H' ∧ ∃ kvs : List (List L2.Key × V), H' D3 = some (.dT kvs) ∧ kvs.length ≤ n ∧ ∀ ns, (valV kvs (keyN ns)).isSome = true ↔ ∃ m ∈ O.take n, pickP ((comP q i j).map (plZ q j).idxOf) m = ns) ⟨same_new hD3, [], upd_same, Nat.le_refl _, fun ns => ⟨fun h => (by cases h), fun h => (by
      obtain ⟨m, mm, _⟩ := h
      cases mm)⟩⟩ (fun n H' _ z => SqL.of (z.1 _ _ hoa4)) ?_ ?_
    · rintro n x H5 hx ⟨s5, kvs, hk, lk, mem⟩
      obtain ⟨am, m, rfl, em, ham⟩ := (wo4.same s5).get hx
      have mm := List.mem_of_getElem? em
      have ln : n < O.length := (List.getElem?_eq_some_iff.mp em).1
      refine ⟨rfl, yes_turn ⟨_, rfl, _, rfl, am, D2, m, (comP q i j).map (plZ q j).idxOf, rfl, ham, .inl (s5 _ _ h4), fun x mx => ?_, by rw [List.length_map]; exact c5, fun p H6 np s6 hp => ?_⟩⟩
      · obtain ⟨y, my, rfl⟩ := List.mem_map.mp mx
        rw [lo m mm]
        exact (com_lt my).2
      · have hp : H6 p = some (.tup ((pickP ((comP q i j).map (plZ q j).idxOf) m).map numV)) := hp
        have hk6 := s6 _ _ hk
        refine ⟨kvs, keyN (pickP ((comP q i j).map (plZ q j).idxOf) m), p, rfl, by rw [keyN_V]; exact hp, hk6, Nat.lt_of_lt_of_le (show kvs.length < 41 by omega) (by decide), same_put (s5.trans s6) hD3, _, upd_same, ?_, fun ns => ?_⟩
        · have := length_putK kvs (keyN (pickP ((comP q i j).map (plZ q j).idxOf) m)) (V.bl true)
          omega
        · rw [valV_put, take_one_more em]
          by_cases c : keyN ns = keyN (pickP ((comP q i j).map (plZ q j).idxOf) m)
          · rw [if_pos c]
            exact ⟨fun _ => ⟨m, List.mem_append_right _ List.mem_cons_self, (keyN_inj c).symm⟩, fun _ => rfl⟩
          · rw [if_neg c, mem]
            refine ⟨fun ⟨m', m1, m2⟩ => ⟨m', List.mem_append_left _ m1, m2⟩, fun ⟨m', m1, m2⟩ => ?_⟩
            rcases List.mem_append.mp m1 with m1 | m1
            · exact ⟨m', m1, m2⟩
            · rw [List.mem_singleton.mp m1] at m2
              exact absurd (by rw [m2]) c
    · rintro H5 ⟨s5, kvs, hk, lk, mem⟩
      rw [wo.len, List.take_length] at mem
      have s05 := s04.trans s5
      have ro5 := ro.same s05
      have hra5 := s05 _ _ hra
      refine ⟨_, rfl, ra, rfl, ⟨_, SqL.of hra5⟩, fun D4 hD4 => ?_⟩
      refine lc_listS (xs := us) (fun n acc H' => Rows H' acc ((R.take n).filter fun r => O.any fun m => agrB q i j r m) ∧ V.ref D4 ∉ acc) hD4 (SqL.of hra5) (by rw [ro.len]; omega) (fun _ _ _ _ o h => ⟨h.1.off o h.2, h.2⟩) ⟨.nil, fun m => by cases m⟩ ?_ ?_
      · rintro n x acc H6 hx s6 h6 ⟨roa, no⟩ k1 k2 y1 y2
        obtain ⟨ar, r, rfl, er, har⟩ := (ro5.same s6).get hx
        have mr := List.mem_of_getElem? er
        refine ⟨rfl, ?_⟩
        refine ⟨_, rfl, _, rfl, ar, D1, r, (comP q i j).map (plZ q i).idxOf, rfl, har, .inl (s6 _ _ (s5 _ _ h3')), fun x mx => ?_, by rw [List.length_map]; exact c5, fun p H7 np s7 hp => ?_⟩
        · obtain ⟨y, my, rfl⟩ := List.mem_map.mp mx
          rw [lr r mr]
          exact (com_lt my).1
        · have hp : H7 p = some (.tup ((pickP ((comP q i j).map (plZ q i).idxOf) r).map numV)) := hp
          refine ⟨_, rfl, D3, _, rfl, DGet.t (s7 _ _ (s6 _ _ hk)) (by rw [keyN_V]; exact hp), _, rfl, ?_⟩
          have ev : (valV kvs (keyN (pickP ((comP q i j).map (plZ q i).idxOf) r))).isSome = (O.any fun m => agrB q i j r m) := by
            rw [Bool.eq_iff_iff, mem, List.any_eq_true]
            exact ⟨fun ⟨m, m1, m2⟩ => ⟨m, m1, (pick_agr ok.nd i j r m).mp m2.symm⟩, fun ⟨m, m1, m2⟩ => ⟨m, m1, ((pick_agr ok.nd i j r m).mpr m2).symm⟩⟩
          rw [ev]
          cases c : (O.any fun m => agrB q i j r m) with
          | true =>
            refine iteT ⟨_, rfl, y1 _ _ s7 ?_⟩
            rw [take_one_more er, List.filter_append, List.filter_cons_of_pos (p := fun r => O.any fun m => agrB q i j r m) c]
            refine ⟨(roa.same s7).snoc (s7 _ _ har), fun md => ?_⟩
            rcases List.mem_append.mp md with md | md
            · exact no md
            · have e := List.mem_singleton.mp md
              injection e with e
              rw [← e, h6] at har
              cases har
          | false =>
            refine iteF (y2 _ s7 ?_)
            rw [take_one_more er, List.filter_append, List.filter_cons_of_neg (p := fun r => O.any fun m => agrB q i j r m) (by rw [c]; exact Bool.false_ne_true)]
            rw [show ((R.take n).filter (fun r => O.any fun m => agrB q i j r m) ++ [].filter (fun r => O.any fun m => agrB q i j r m)) = (R.take n).filter (fun r => O.any fun m => agrB q i j r m) from List.append_nil _]
            exact ⟨roa.same s7, no⟩
      · rintro acc H6 s6 h6 ⟨roa, no⟩
        rw [ro.len, List.take_length] at roa
        exact k D4 acc H6 (s05.free hD4) (s05.trans s6) h6 roa
end
end VQ
namespace VQ
open PySem L2 LamX
/-! ### ties lessened, by the program -/
abbrev sLessened : Stmt := top 66
abbrev nLessened : List Str := ["book", "question", "ties", "places", "left", "before", "tie", "other"]
theorem scLessened : FnScope nLessened ["book", "question"] (defScope sLessened) := ⟨rfl, rfl, rfl, by decide +kernel, rfl, by decide +kernel, by decide +kernel⟩
/-- a new list of rows -/
def Inn (H0 H : Hp) (v : V) (L : List (List Nat)) : Prop := ∃ (a : Addr) (us : List V), v = .ref a ∧ H0 a = none ∧ H a = some (.lst us) ∧ Rows H us L
theorem Inn.same {H0 H H' : Hp} {v : V} {L : List (List Nat)} (s : Same H H') (h : Inn H0 H v L) : Inn H0 H' v L := by
  obtain ⟨a, us, e, n, ha, ro⟩ := h
  exact ⟨a, us, e, n, s _ _ ha, ro.same s⟩
theorem Inn.off {H0 H H' : Hp} {v : V} {L : List (List Nat)} {D : Addr} {xs : List V} (hD : H D = some (.lst xs)) (o : Off D H H') (ne : v ≠ .ref D) (h : Inn H0 H v L) : Inn H0 H' v L := by
  obtain ⟨a, us, rfl, n, ha, ro⟩ := h
  refine ⟨a, us, rfl, n, o a _ (fun e => ne (by rw [e])) ha, ro.moved fun c zs hc => o c _ (fun e => ?_) hc⟩
  rw [e, hD] at hc
  cases hc
theorem Each.set {α : Type} {R : V → α → Prop} {v : V} {x : α} (h : R v x) : ∀ {vs : List V} {xs : List α} (i : Nat), Each R vs xs → Each R (vs.set i v) (xs.set i x)
  | _, _, _, .nil => .nil
  | _, _, 0, .cons _ t => .cons h t
  | _, _, i + 1, .cons g t => .cons g (Each.set h i t)
/-- new lists of rows, none of them D -/
def IE (H0 H : Hp) (D : Addr) (vs : List V) (Ls : List (List (List Nat))) : Prop := Each (fun v L => v ≠ .ref D ∧ Inn H0 H v L) vs Ls
theorem IE.same {H0 H H' : Hp} {D : Addr} {vs : List V} {Ls : List (List (List Nat))} (s : Same H H') (h : IE H0 H D vs Ls) : IE H0 H' D vs Ls := h.mono fun _ _ z => ⟨z.1, z.2.same s⟩
theorem IE.off {H0 H H' : Hp} {D : Addr} {xs : List V} {vs : List V} {Ls : List (List (List Nat))} (hD : H D = some (.lst xs)) (o : Off D H H') (h : IE H0 H D vs Ls) : IE H0 H' D vs Ls := h.mono fun _ _ z => ⟨z.1, z.2.off hD o z.1⟩
theorem IE.at_ {H0 H : Hp} {D : Addr} {vs : List V} {Ls : List (List (List Nat))} (h : IE H0 H D vs Ls) {i : Nat} (hi : i < Ls.length) : ∃ a us, vs[i]? = some (.ref a) ∧ H a = some (.lst us) ∧ Rows H us (atL Ls i) := by
  obtain ⟨v, ev, _, a, us, rfl, _, ha, ro⟩ := Each.at_ h (List.getElem?_eq_getElem hi)
  refine ⟨a, us, ev, ha, ?_⟩
  unfold atL
  rw [List.getD_eq_getElem?_getD, List.getElem?_eq_getElem hi]
  exact ro
theorem rows_no {H : Hp} {D : Addr} {xs : List V} (hD : H D = some (.lst xs)) {us : List V} {L : List (List Nat)} (ro : Rows H us L) : V.ref D ∉ us := fun m => by
  obtain ⟨a, r, e, _, ha⟩ := ro.mem m
  injection e with e
  rw [← e, hD] at ha
  cases ha
def rowsD (L : List (List Nat)) : PyData := .list (L.map rowD)
theorem eqv_all {α : Type} [DecidableEq α] {f : α → PyData} (h : ∀ x y, PyData.eqv (f x) (f y) = decide (x = y)) : ∀ xs ys : List α, PyData.eqvAll (xs.map f) (ys.map f) = decide (xs = ys)
  | [], [] => rfl
  | [], _ :: _ => rfl
  | _ :: _, [] => rfl
  | x :: xs, y :: ys => by
    show (PyData.eqv (f x) (f y) && PyData.eqvAll (xs.map f) (ys.map f)) = _
    rw [h, eqv_all h xs ys]
    by_cases e : x = y
    · subst e
      by_cases g : xs = ys
      · subst g
        simp
      · rw [decide_eq_true rfl, Bool.true_and, decide_eq_false g, decide_eq_false (fun z => g (List.cons.inj z).2)]
    · rw [decide_eq_false e, Bool.false_and, decide_eq_false (fun z => e (List.cons.inj z).1)]
theorem eqv_rowsD (L M : List (List Nat)) : PyData.eqv (rowsD L) (rowsD M) = decide (L = M) := eqv_all eqv_row L M
theorem eqv_rowss (Ls Ms : List (List (List Nat))) : PyData.eqv (.list (Ls.map rowsD)) (.list (Ms.map rowsD)) = decide (Ls = Ms) := eqv_all eqv_rowsD Ls Ms
theorem lay_rowss (Ls : List (List (List Nat))) : Lay 3 (.list (Ls.map rowsD)) := .list fun d m => by
  obtain ⟨L, _, rfl⟩ := List.mem_map.mp m
  exact lay_rows L
theorem inn_dp {K : PySem.W.Frag} {H0 H : Hp} : ∀ {vs : List V} {Ls : List (List (List Nat))}, Each (Inn H0 H) vs Ls → DpAll K H vs (Ls.map rowsD)
  | _, _, .nil => .nil
  | _, _, .cons h t => by
    obtain ⟨a, us, rfl, _, ha, ro⟩ := h
    exact .cons (.lst (SqL.of ha) ro.dp) (inn_dp t)
theorem rg_numsM (n : Nat) : rgV 0 (n : Int) = (List.range n).map numV := by
  unfold rgV
  simp [numV]
section
variable {P : Program} {w : World} {K : PySem.W.Frag} {mg : Str → Option Value} {base : Heap} {C : Addr}
/-- what each tie lets by, sorted -/
def LetsF (f : Tbs) (q : Qn) (L0 : Nat → List (List Nat)) : Prop := ∀ i tie, q.ties[i]? = some tie → ∃ t, f tie.1 = some t ∧ t.1 = tie.2.length ∧ (∀ r ∈ t.2, RowOk t.1 r) ∧ t.2.Nodup ∧ t.2.length ≤ 40 ∧ (L0 i).Perm (letM tie.2 (ownZ q i) t.2) ∧ Sorted (L0 i)
def spLess (C : Addr) : Sp := fun vs H Q _ => ∃ (bk pa qa : Addr) (k j n : Nat) (f : Tbs) (q : Qn) (L0 : Nat → List (List Nat)), vs = [.ref bk, .ref qa] ∧ BookAt C H bk pa k j n f ∧ n < 100 ∧ QAt H qa q ∧ QOk q ∧ Fits f q ∧ LetsF f q L0 ∧
  ∀ (p : Addr) (us : List V) (Ls : List (List (List Nat))) (H' : Hp), H p = none → Same H H' → H' p = some (.lst us) → V.ref p ∉ us → Each (Inn H H') us Ls → Ls.length = q.ties.length → (∀ i, i < q.ties.length → atL Ls i = lessM q q.ties.length L0 i) → Q (.ref p) H'
theorem has_less (b : Blt mg) (hNf : Has P w K mg base CX0 6 "need_fit" sNeedFit ["book", "question"] (spNeedFit C)) (hLb : Has P w K mg base CX0 7 "lets_by" sLetsBy ["book", "question", "tie"] (spLetsBy C)) (hOp : Has P w K mg base CX0 1 "own_places" sOwnPlaces ["question", "tie"] spOwnP) (hAg : Has P w K mg base CX0 2 "agreeing" sAgreeing ["rows", "places", "others", "other_places"] spAgree)
    (a : AtE K mg "lessened" sLessened ["book", "question"]) : Has P w K mg base CX0 8 "lessened" sLessened ["book", "question"] (spLess C) := by
  obtain ⟨f, fd, a⟩ := a
  obtain ⟨fNf, fdNf, aNf, GNf⟩ := hNf
  obtain ⟨fLb, fdLb, aLb, GLb⟩ := hLb
  obtain ⟨fOp, fdOp, aOp, GOp⟩ := hOp
  obtain ⟨fAg, fdAg, aAg, GAg⟩ := hAg
  refine ⟨f, fd, a, a.fn.ok scLessened (fun vs H Q E h => ?_) (fun cdv A outer s H vs Q E hr7 h => ?_)⟩
  · obtain ⟨bk, pa, qa, k, j, n, f, q, L0, rfl, _⟩ := h
    rfl
  · obtain ⟨bk, pa, qa, bk1, bj, bn, fT, q, L0, rfl, hbk, n100, hqa, ok, fit, lf, k⟩ := h
    have hr6 : Room 6 _ := hr7.mono (by decide)
    have hr2 : Room 2 _ := hr7.mono (by decide)
    have hr1 : Room 1 _ := hr7.mono (by decide)
    have hu : (A.deeper (PyProof.Rows.envOfC "lessened" (defScope sLessened) s.heap.objs.size f cdv)).units + 64 < cLine := hr7.units
    refine ⟨_,
    (pss_cons (ps_expr (pe_call GNf hr6 rfl aNf.gl aNf.fn.kp aNf.bd .nil pass0 (pa_cons (pv 0) (pa_cons (pv 1) pa_nil))))
    (pss_cons (ps_set (i := 2) scLessened.nd rfl (.inl rfl) (pe_listRg rfl (by rfl) b.list (prg_1 (by rfl) b.range (pe_callB call_len_seq (by rfl) b.len PySem.boot_len (pa_cons (pe_ix ix_tup (pv 1) pe_int fun _ _ => rfl) pa_nil)))))
    (pss_cons (ps_setLc (i := 3) (own := [("tie", 6)]) (g := (gName 6)) (tt := tYes) (te := (tCall spOwnP [] E0 (tCons (tVar 1) (tCons (tVar 6) tNil)))) rfl scLessened.nd rfl rfl (sw_true rfl rfl rfl (by decide +kernel)) (pi_list (pv 2)) (blkOk_by (N := nLessened) (sc := defScope sLessened) (by decide +kernel)) (fun _ _ _ _ _ => (pg_name (i := 6) scLessened.nd rfl (.inl rfl))) (fun _ _ _ _ _ => pts_nil) (fun _ _ _ _ _ => (pe_call GOp hr1 rfl aOp.gl aOp.fn.kp aOp.bd .nil pass0 (pa_cons (pv 1) (pa_cons (pv 6) pa_nil)))))
    (pss_cons (ps_setLc (i := 4) (own := [("tie", 6)]) (g := (gName 6)) (tt := tYes) (te := (tCall (spLetsBy C) [] E0 (tCons (tVar 0) (tCons (tVar 1) (tCons (tVar 6) tNil))))) rfl scLessened.nd rfl rfl (sw_true rfl rfl rfl (by decide +kernel)) (pi_list (pv 2)) (blkOk_by (N := nLessened) (sc := defScope sLessened) (by decide +kernel)) (fun _ _ _ _ _ => (pg_name (i := 6) scLessened.nd rfl (.inl rfl))) (fun _ _ _ _ _ => pts_nil) (fun _ _ _ _ _ => (pe_call GLb hr7 rfl aLb.gl aLb.fn.kp aLb.bd .nil pass0 (pa_cons (pv 0) (pa_cons (pv 1) (pa_cons (pv 6) pa_nil))))))
    (pss_cons (ps_set (i := 5) scLessened.nd rfl (.inl rfl) pe_non)
    (pss_cons (ps_while PassesOwn.never (pt_cmpR (op_neD hu) (pv 4) (pv 5) (nomark _))
      (pss_cons (ps_set (i := 5) scLessened.nd rfl (.inl rfl) (pe_callTy call_list_of (by rfl) b.list (by decide +kernel) (pa_cons (pv 4) pa_nil)))
      (pss_one (ps_for PassesOwn.never rfl (pi_list (pv 2)) (pg_name (i := 6) scLessened.nd rfl (.inl rfl))
        (pss_one (ps_for PassesOwn.never rfl (pi_list (pv 2)) (pg_name (i := 7) scLessened.nd rfl (.inl rfl))
          (pss_one (ps_asg (pe_call GAg hr2 rfl aAg.gl aAg.fn.kp aAg.bd .nil pass0 (pa_cons (pe_ix ix_list (pv 4) (pv 6) fun _ _ => rfl) (pa_cons (pe_ix ix_list (pv 3) (pv 6) fun _ _ => rfl) (pa_cons (pe_ix ix_list (pv 4) (pv 7) fun _ _ => rfl) (pa_cons (pe_ix ix_list (pv 3) (pv 7) fun _ _ => rfl) pa_nil))))) (pg_sub (pv 4) (pv 6) set_list)))))))))
    (pss_one (ps_ret (pv 4))))))))), ?_⟩
    have t6 := ok.t6
    have t1 := ok.t1
    refine ⟨_, rfl, _, rfl, bk, pa, qa, bk1, bj, bn, fT, q, rfl, hbk, n100, hqa, ok, fit, fun H1 s1 => ?_⟩
    have hqa1 := hqa.moved (same_tups s1)
    obtain ⟨an, at', al, hqr, hq⟩ := id hqa1
    obtain ⟨ts, hts, ets⟩ := hq.ti
    have elt := ets.len
    refine ⟨_, rfl, qa, _, _, _, rfl, rfl, SqT.of hqr, atI_nat (j := 2) rfl, at', _, rfl, .inr (SqT.of hts), _, rfl, RgOk.of_le (by omega) (by omega) (by omega) (by omega), fun Z nZ => ?_⟩
    rw [rg_numsM, elt]
    have sZ := same_new (o := HO.lst ((List.range q.ties.length).map numV)) nZ
    have hZ := upd_same (H := H1) (a := Z) (o := .lst ((List.range q.ties.length).map numV))
    generalize upd H1 Z (.lst ((List.range q.ties.length).map numV)) = H2 at sZ hZ ⊢
    have s02 := s1.trans sZ
    refine ⟨_, rfl, Z, rfl, ⟨_, SqL.of hZ⟩, fun D hD => ?_⟩
    refine lc_listS (xs := (List.range q.ties.length).map numV) (fun i acc H' => Each (fun v i => v ≠ .ref D ∧ ∃ a, v = .ref a ∧ H' a = some (.lst ((plZ q i).map numV))) acc (List.range i)) hD (SqL.of hZ) (by rw [List.length_map, List.length_range]; omega) (fun i acc Ha Hb off e => e.mono fun v x ⟨ne, a, e1, e2⟩ => ⟨ne, a, e1, off _ _ (fun z => ne (by rw [e1, z])) e2⟩) .nil ?_ ?_
    · rintro i x acc H3 hx s3 h3 ea k1 k2 y1 y2
      obtain ⟨i', ei, rfl⟩ := num_get hx
      obtain ⟨li, ei'⟩ := List.getElem?_eq_some_iff.mp ei
      rw [List.length_range] at li
      rw [List.getElem_range] at ei'
      subst ei'
      have et : q.ties[i]? = some q.ties[i] := List.getElem?_eq_getElem li
      refine ⟨rfl, yes_turn ⟨_, rfl, _, rfl, qa, q, i, _, rfl, hqa1.moved (same_tups (sZ.trans s3)), ok, et, fun p H4 np s4 hp => y1 _ _ s4 ?_⟩⟩
      rw [places_plZ ok et] at hp
      rw [List.range_succ]
      exact (ea.mono fun v x ⟨ne, a, e1, e2⟩ => ⟨ne, a, e1, s4 _ _ e2⟩).snoc ⟨fun e => (by
        injection e with e
        rw [e, h3] at np
        cases np), p, rfl, hp⟩
    rintro acc H3 s3 h3 ea
    rw [List.length_map, List.length_range] at ea
    have s13 := sZ.trans s3
    have s03 := s1.trans s13
    have hZ3 := s3 _ _ hZ
    refine ⟨_, rfl, Z, rfl, ⟨_, SqL.of hZ3⟩, fun D2 hD2 => ?_⟩
    have sD := same_new (o := HO.lst []) hD2
    refine lc_listS (xs := (List.range q.ties.length).map numV) (fun i acc H' => Each (fun v L => v ≠ .ref D2 ∧ ∃ a us, v = .ref a ∧ H a = none ∧ H' a = some (.lst us) ∧ Rows H' us L ∧ V.ref D2 ∉ us) acc ((List.range i).map L0)) hD2 (SqL.of hZ3) (by rw [List.length_map, List.length_range]; omega) (fun i acc Ha Hb off e => e.mono fun v L ⟨ne, a, us, e1, e0, e2, e3, e4⟩ => ⟨ne, a, us, e1, e0, off _ _ (fun z => ne (by rw [e1, z])) e2, e3.off off e4, e4⟩) .nil ?_ ?_
    · rintro i x acc2 H4 hx s4 h4 ie k1 k2 y1 y2
      obtain ⟨i', ei, rfl⟩ := num_get hx
      obtain ⟨li, ei'⟩ := List.getElem?_eq_some_iff.mp ei
      rw [List.length_range] at li
      rw [List.getElem_range] at ei'
      subst ei'
      have et : q.ties[i]? = some q.ties[i] := List.getElem?_eq_getElem li
      generalize q.ties[i] = tie at et
      obtain ⟨t, ft, tw, rok, rnd, r40, pm0, sr0⟩ := lf i tie et
      have s04 := s03.trans s4
      refine ⟨rfl, yes_turn ⟨_, rfl, _, rfl, _, rfl, bk, pa, qa, bk1, bj, bn, fT, q, i, tie, t, rfl, hbk.same s04, n100, hqa.moved (same_tups s04), ok, fit, et, ft, rok, rnd, r40, fun p us ss H5 np s5 hp ro pm sr => y1 _ _ s5 ?_⟩⟩
      have es : ss = L0 i := sorted_one (wd := (ownZ q i).length) (fun r mr => let_rows (fun r mr => (rok r mr).2) r (pm.mem_iff.mp mr)) sr sr0 (pm.trans pm0.symm)
      subst es
      rw [List.range_succ, List.map_append]
      exact (ie.mono fun v L ⟨ne, a, us, e1, e0, e2, e3, e4⟩ => ⟨ne, a, us, e1, e0, s5 _ _ e2, e3.same s5, e4⟩).snoc ⟨fun e => (by
        injection e with e
        rw [e, h4] at np
        cases np), p, us, rfl, (s04.free np), hp, ro, rows_no (s5 _ _ h4) ro⟩
    rintro vs0 H4 s4 h4 ie
    rw [List.length_map, List.length_range] at ie
    have hD2H : H D2 = none := s03.free hD2
    have ie4 : IE H H4 D2 vs0 ((List.range q.ties.length).map L0) := ie.mono fun v L ⟨ne, a, us, e1, e0, e2, e3, _⟩ => ⟨ne, a, us, e1, e0, e2, e3⟩
    have l0 : ((List.range q.ties.length).map L0).length = q.ties.length := by rw [List.length_map, List.length_range]
    have at0 : ∀ i, i < q.ties.length → atL ((List.range q.ties.length).map L0) i = L0 i := fun i hi => by
      unfold atL
      rw [List.getD_eq_getElem?_getD, List.getElem?_map, List.getElem?_range hi]
      rfl
    have li0 : LessI q q.ties.length L0 ((List.range q.ties.length).map L0) := less_init l0 at0
    have len0 : ∀ i, i < q.ties.length → (∀ r ∈ L0 i, r.length = (plZ q i).length) ∧ (L0 i).length ≤ 40 := fun i hi => by
      have et : q.ties[i]? = some q.ties[i] := List.getElem?_eq_getElem hi
      obtain ⟨t, ft, tw, rok, rnd, r40, pm0, sr0⟩ := lf i _ et
      refine ⟨fun r mr => ?_, ?_⟩
      · rw [plZ_len]
        exact (let_rows (fun r mr => (rok r mr).2) r (pm0.mem_iff.mp mr)).1
      · rw [pm0.length_eq]
        exact Nat.le_trans (List.length_filterMap_le _ _) r40
    have lenI : ∀ {Ls : List (List (List Nat))}, LessI q q.ties.length L0 Ls → ∀ i, i < q.ties.length → (∀ r ∈ atL Ls i, r.length = (plZ q i).length) ∧ (atL Ls i).length ≤ 40 := fun {Ls} h i hi => by
      obtain ⟨p, e, _⟩ := h.2 i hi
      rw [e]
      exact ⟨fun r mr => (len0 i hi).1 r (List.mem_filter.mp mr).1, Nat.le_trans (List.length_filter_le _ _) (len0 i hi).2⟩
    obtain ⟨Wt, eW⟩ : ∃ Wt : Nat → L2.St → Hp → Prop, Wt = fun m σ H' => ∃ (vs : List V) (Ls : List (List (List Nat))) (v5 : V) (v6 v7 : Option V), σ = [some (.ref bk), some (.ref qa), some (.ref Z), some (.ref D), some (.ref D2), some v5, v6, v7] ∧ Same H3 H' ∧ H' D2 = some (.lst vs) ∧ IE H H' D2 vs Ls ∧ LessI q q.ties.length L0 Ls ∧
      ((v5 = .non ∧ m = totL Ls + 2) ∨ ∃ (bf : Addr) (ws : List V) (Bs : List (List (List Nat))), v5 = .ref bf ∧ bf ≠ D2 ∧ H' bf = some (.lst ws) ∧ IE H H' D2 ws Bs ∧ PassI q Bs (fun i j => i < q.ties.length ∧ j < q.ties.length) Ls ∧ m = if Ls = Bs then 0 else totL Ls + 1) := ⟨_, rfl⟩
    refine ⟨Wt, ⟨_, by rw [eW]; exact ⟨vs0, _, .non, _, _, rfl, s4, h4, ie4, li0, .inl ⟨rfl, rfl⟩⟩⟩, fun m σ H5 hw => ?_⟩
    rw [eW] at hw
    obtain ⟨vs, Ls, v5, v6, v7, rfl, s5, h5, ie5, li5, cond⟩ := hw
    have dA := inn_dp (K := K) (ie5.mono fun _ _ z => z.2)
    by_cases cx : ∃ (bf : Addr) (ws : List V), v5 = .ref bf ∧ IE H H5 D2 ws Ls ∧ H5 bf = some (.lst ws) ∧ PassI q Ls (fun i j => i < q.ties.length ∧ j < q.ties.length) Ls
    · obtain ⟨bf, ws, rfl, ieB, hbf, pas⟩ := cx
      refine ⟨_, rfl, _, rfl, _, _, .lst (SqL.of h5) dA, .lst (SqL.of hbf) (inn_dp (ieB.mono fun _ _ z => z.2)), (lay_rowss Ls).shaped (by decide), (lay_rowss Ls).shaped (by decide), _, rfl, ?_⟩
      rw [eqv_rowss, decide_eq_true rfl]
      have st : Stab q q.ties.length (atL Ls) := by
        rcases pas with ⟨_, h⟩ | h
        · exact fun i j hi hj => h i j ⟨hi, hj⟩
        · exact absurd h (Nat.lt_irrefl _)
      refine iteF ⟨_, rfl, ?_⟩
      refine k D2 vs Ls H5 hD2H (s03.trans s5) h5 (fun md => ?_) (ie5.mono fun _ _ z => z.2) li5.1 fun i hi => less_end li5 st hi
      obtain ⟨x, hx⟩ := List.mem_iff_getElem?.mp md
      obtain ⟨_, _, ne, _⟩ := ie5.get hx
      exact ne rfl
    have cond' : ∃ d5, Dp K H5 v5 d5 ∧ SeqAt.shaped d5 = true ∧ PyData.eqv (.list (Ls.map rowsD)) d5 = false ∧ totL Ls + 1 ≤ m := by
      rcases cond with ⟨rfl, em⟩ | ⟨bf, ws, Bs, rfl, bfd, hbf, ieB, pas, em⟩
      · exact ⟨.none, .non, by decide +kernel, rfl, by omega⟩
      · have ne : Ls ≠ Bs := fun e => cx ⟨bf, ws, rfl, by rw [e]; exact ieB, hbf, by rw [e] at pas ⊢; exact pas⟩
        refine ⟨_, .lst (SqL.of hbf) (inn_dp (ieB.mono fun _ _ z => z.2)), (lay_rowss Bs).shaped (by decide), ?_, ?_⟩
        · rw [eqv_rowss, decide_eq_false ne]
        · rw [if_neg ne] at em
          omega
    obtain ⟨d5, dp5, sh5, ev5, hm⟩ := cond'
    refine ⟨_, rfl, _, rfl, _, d5, .lst (SqL.of h5) dA, dp5, (lay_rowss Ls).shaped (by decide), sh5, _, rfl, ?_⟩
    rw [ev5]
    refine iteT ⟨fun σ' H' => ∃ m', m' < m ∧ Wt m' σ' H', fun _ _ h => h, ?_⟩
    refine ⟨_, rfl, D2, _, rfl, .inl (SqL.of h5), fun bf nbf => ?_⟩
    have sb := same_new (o := HO.lst vs) nbf
    have hbf := upd_same (H := H5) (a := bf) (o := .lst vs)
    have bfd : bf ≠ D2 := fun e => by
      rw [e, h5] at nbf
      cases nbf
    generalize upd H5 bf (.lst vs) = H6 at sb hbf ⊢
    have s6 := s5.trans sb
    have h6 := sb _ _ h5
    have ie6 := ie5.same sb
    refine ⟨_, rfl, Z, rfl, ⟨_, SqL.of (s6 _ _ hZ3)⟩, ?_⟩
    refine for_list (xs := (List.range q.ties.length).map numV) (fun i σ H' => ∃ (us : List V) (Ks : List (List (List Nat))) (v6 v7 : Option V), σ = [some (.ref bk), some (.ref qa), some (.ref Z), some (.ref D), some (.ref D2), some (.ref bf), v6, v7] ∧ Same H3 H' ∧ H' D2 = some (.lst us) ∧ IE H H' D2 us Ks ∧ LessI q q.ties.length L0 Ks ∧ H' bf = some (.lst vs) ∧ IE H H' D2 vs Ls ∧ PassI q Ls (fun a c => c < q.ties.length ∧ a < i) Ks)
      ⟨vs, Ls, _, _, rfl, s6, h6, ie6, li5, hbf, ie6, .inl ⟨rfl, fun a c h => absurd h.2 (Nat.not_lt_zero _)⟩⟩ (fun i σ H' _ ⟨_, _, _, _, _, z, _⟩ => SqL.of (z _ _ hZ3)) ?_ ?_
    · rintro i x σ H7 hx ⟨us, Ks, v6, v7, rfl, s7, h7, ie7, li7, hbf7, ieB, pas⟩
      obtain ⟨i', ei, rfl⟩ := num_get hx
      obtain ⟨li, ei'⟩ := List.getElem?_eq_some_iff.mp ei
      rw [List.length_range] at li
      rw [List.getElem_range] at ei'
      subst ei'
      refine ⟨_, rfl, Z, rfl, ⟨_, SqL.of (s7 _ _ hZ3)⟩, ?_⟩
      refine for_list (xs := (List.range q.ties.length).map numV) (fun j σ H' => ∃ (us : List V) (Ks : List (List (List Nat))) (v7 : Option V), σ = [some (.ref bk), some (.ref qa), some (.ref Z), some (.ref D), some (.ref D2), some (.ref bf), some (numV i), v7] ∧ Same H3 H' ∧ H' D2 = some (.lst us) ∧ IE H H' D2 us Ks ∧ LessI q q.ties.length L0 Ks ∧ H' bf = some (.lst vs) ∧ IE H H' D2 vs Ls ∧ PassI q Ls (fun a c => c < q.ties.length ∧ (a < i ∨ (a = i ∧ c < j))) Ks)
        ⟨us, Ks, _, rfl, s7, h7, ie7, li7, hbf7, ieB, pas.mono fun a c h => ⟨h.1, h.2.elim id fun z => absurd z.2 (Nat.not_lt_zero _)⟩⟩ (fun j σ H' _ ⟨_, _, _, _, z, _⟩ => SqL.of (z _ _ hZ3)) ?_ ?_
      · rintro j x σ H8 hx ⟨us, Ks, v7, rfl, s8, h8, ie8, li8, hbf8, ieB, pas⟩
        obtain ⟨j', ej, rfl⟩ := num_get hx
        obtain ⟨lj, ej'⟩ := List.getElem?_eq_some_iff.mp ej
        rw [List.length_range] at lj
        rw [List.getElem_range] at ej'
        subst ej'
        have lK := li8.1
        obtain ⟨ra, ur, er, hra, ror⟩ := ie8.at_ (i := i) (by omega)
        obtain ⟨oa, uo, eo, hoa, roo⟩ := ie8.at_ (i := j) (by omega)
        obtain ⟨vpa, epa, _, pa', rfl, hpa0⟩ := ea.at_ (List.getElem?_range li)
        obtain ⟨vpb, epb, _, pb', rfl, hpb0⟩ := ea.at_ (List.getElem?_range lj)
        have hpa := s8 _ _ hpa0
        have hpb := s8 _ _ hpb0
        have hD8 := s8 _ _ h3
        obtain ⟨lr, cr⟩ := lenI li8 i li
        obtain ⟨lo, co⟩ := lenI li8 j lj
        refine ⟨_, rfl, _, rfl, D2, _, _, _, rfl, rfl, SqL.of h8, atI_nat er, _, rfl, _, rfl, D, _, _, _, rfl, rfl, SqL.of hD8, atI_nat epa, _, rfl, _, rfl, D2, _, _, _, rfl, rfl, SqL.of h8, atI_nat eo, _, rfl, _, rfl, D, _, _, _, rfl, rfl, SqL.of hD8, atI_nat epb, ?_⟩
        refine ⟨ra, pa', oa, pb', ur, uo, atL Ks i, atL Ks j, q, i, j, rfl, hra, ror, hpa, hoa, roo, hpb, ok, lr, lo, cr, co, fun p us' H9 np s9 hp rop => ?_⟩
        have h9 := s9 _ _ h8
        have s39 := s8.trans s9
        have ie9 := ie8.same s9
        have ieB9 := ieB.same s9
        have pd : p ≠ D2 := fun e => by
          rw [e, h8] at np
          cases np
        have npH : H p = none := s03.free (s8.free np)
        have inn : Inn H H9 (.ref p) (redF q i j (atL Ks i) (atL Ks j)) := ⟨p, us', rfl, npH, hp, rop⟩
        refine ⟨_, rfl, _, rfl, D2, _, _, i, rfl, rfl, h9, ixN_nat (by rw [ie8.len, lK]; exact li), us.set i (.ref p), Ks.set i (redF q i j (atL Ks i) (atL Ks j)), _, rfl, same_put s39 hD2, upd_same, ?_, less_step li8 li lj, ?_, ieB9.off h9 Off.upd, (pas.step (i := i) (j := j) (by omega)).mono fun a c h => ?_⟩
        · exact IE.off h9 Off.upd (Each.set (R := fun v L => v ≠ .ref D2 ∧ Inn H H9 v L) ⟨fun e => pd (by injection e), inn⟩ i ie9)
        · exact (upd_ne bfd).trans (s9 _ _ hbf8)
        · rcases h.2 with z | ⟨z1, z2⟩
          · exact .inl ⟨h.1, .inl z⟩
          · by_cases cj : c = j
            · exact .inr ⟨z1, cj⟩
            · exact .inl ⟨h.1, .inr ⟨z1, by omega⟩⟩
      · rintro σ H8 ⟨us, Ks, v7, rfl, s8, h8, ie8, li8, hbf8, ieB, pas⟩
        rw [List.length_map, List.length_range] at pas
        refine ⟨us, Ks, _, _, rfl, s8, h8, ie8, li8, hbf8, ieB, pas.mono fun a c h => ⟨h.1, ?_⟩⟩
        by_cases ca : a = i
        · exact .inr ⟨ca, h.1⟩
        · exact .inl (by omega)
    · rintro σ H7 ⟨us, Ks, v6, v7, rfl, s7, h7, ie7, li7, hbf7, ieB, pas⟩
      rw [List.length_map, List.length_range] at pas
      have pas' : PassI q Ls (fun i j => i < q.ties.length ∧ j < q.ties.length) Ks := pas.mono fun a c h => ⟨h.2, h.1⟩
      refine ⟨if Ks = Ls then 0 else totL Ks + 1, ?_, ?_⟩
      · by_cases e : Ks = Ls
        · rw [if_pos e]
          omega
        · rw [if_neg e]
          rcases pas with ⟨e', _⟩ | lt
          · exact absurd e' e
          · omega
      · rw [eW]
        exact ⟨us, Ks, _, _, _, rfl, s7, h7, ie7, li7, .inr ⟨bf, vs, Ls, rfl, bfd, hbf7, ieB, pas', rfl⟩⟩
end
end VQ
namespace VQ
open PySem L2 LamX
/-! ### ties taken off, one by one -/
def othersM (left : List Nat) (t : Nat) : List Nat := left.filter fun o => o != t
def hasM (N : List (List Str)) (o : Nat) (z : Str) : Bool := decide (z ∈ N.getD o [])
def commonM (N : List (List Str)) (left : List Nat) (t : Nat) : List Str := (N.getD t []).filter fun z => (othersM left t).any fun o => hasM N o z
def offM (N : List (List Str)) (left : List Nat) (t : Nat) : List (Option Nat) := if (commonM N left t).isEmpty then [none] else ((othersM left t).filter fun o => (commonM N left t).all fun z => hasM N o z).map some
def earM (N : List (List Str)) (left : List Nat) : Option (Nat × Option Nat) := match left.filter fun t => !(offM N left t).isEmpty with
  | [] => none
  | t :: _ => some (t, (offM N left t).headD none)
def goM (N : List (List Str)) : Nat → List Nat → List (Nat × Option Nat) → List Nat × List (Nat × Option Nat)
  | 0, left, acc => (left, acc)
  | n + 1, left, acc => match earM N left with
    | none => (left, acc)
    | some (t, o) => goM N n (othersM left t) (acc ++ [(t, o)])
def optV : Option Nat → V
  | none => .non
  | some o => numV o
theorem ear_first {N : List (List Str)} {left : List Nat} {i t : Nat} (ht : left[i]? = some t) (no : ∀ j u, j < i → left[j]? = some u → offM N left u = []) (yes : offM N left t ≠ []) : earM N left = some (t, (offM N left t).headD none) := by
  have key : ∀ (l : List Nat) (i : Nat), l[i]? = some t → (∀ j u, j < i → l[j]? = some u → offM N left u = []) → ∃ r, l.filter (fun t => !(offM N left t).isEmpty) = t :: r := by
    intro l
    induction l with
    | nil => intro i h; simp at h
    | cons x l ih =>
      intro i h nn
      cases i with
      | zero =>
        cases h
        refine ⟨_, List.filter_cons_of_pos ?_⟩
        cases e : offM N left t with
        | nil => exact absurd e yes
        | cons a b => rfl
      | succ i =>
        have e := nn 0 x (Nat.succ_pos i) rfl
        obtain ⟨r, er⟩ := ih i h fun j u lj hj => nn (j + 1) u (Nat.succ_lt_succ lj) hj
        exact ⟨r, by rw [List.filter_cons_of_neg (by rw [e]; exact Bool.false_ne_true), er]⟩
  obtain ⟨r, er⟩ := key left i ht no
  unfold earM
  rw [er]
theorem ear_none {N : List (List Str)} {left : List Nat} (no : ∀ u ∈ left, offM N left u = []) : earM N left = none := by
  have e : left.filter (fun t => !(offM N left t).isEmpty) = [] := List.filter_eq_nil_iff.mpr fun u m => by
    rw [no u m]
    exact Bool.false_ne_true
  unfold earM
  rw [e]
theorem ear_mem {N : List (List Str)} {left : List Nat} {t : Nat} {o : Option Nat} (h : earM N left = some (t, o)) : t ∈ left ∧ offM N left t ≠ [] ∧ o = (offM N left t).headD none := by
  unfold earM at h
  cases e : left.filter (fun t => !(offM N left t).isEmpty) with
  | nil =>
    rw [e] at h
    cases h
  | cons u r =>
    rw [e] at h
    cases h
    have m : t ∈ left.filter (fun t => !(offM N left t).isEmpty) := by rw [e]; exact List.mem_cons_self
    obtain ⟨m1, m2⟩ := List.mem_filter.mp m
    refine ⟨m1, fun z => ?_, rfl⟩
    rw [z] at m2
    cases m2
theorem others_at {left : List Nat} {t : Nat} : ∀ {j : Nat}, left.Nodup → left[j]? = some t → left.eraseIdx j = othersM left t := by
  induction left with
  | nil => intro j _ h; simp at h
  | cons x l ih =>
    intro j nd h
    obtain ⟨nx, nl⟩ := List.nodup_cons.mp nd
    cases j with
    | zero =>
      cases h
      show l = List.filter _ _
      rw [List.filter_cons_of_neg (by simp)]
      exact (List.filter_eq_self.mpr fun y m => bne_iff_ne.mpr fun e => nx (by rw [← e]; exact m)).symm
    | succ j =>
      have h' : l[j]? = some t := h
      have ne : x ≠ t := fun e => nx (by rw [e]; exact List.mem_of_getElem? h')
      show x :: l.eraseIdx j = List.filter _ _
      rw [List.filter_cons_of_pos (by simpa using ne), ih nl h']
      rfl
theorem others_len {left : List Nat} {t : Nat} (nd : left.Nodup) (m : t ∈ left) : (othersM left t).length + 1 = left.length := by
  obtain ⟨j, hj, e⟩ := List.getElem_of_mem m
  have h : left[j]? = some t := by rw [List.getElem?_eq_getElem hj, e]
  rw [← others_at nd h, List.length_eraseIdx]
  rw [if_pos hj]
  omega
theorem others_nd {left : List Nat} {t : Nat} (nd : left.Nodup) : (othersM left t).Nodup := nd.filter _
theorem others_sub {left : List Nat} {t u : Nat} (m : u ∈ othersM left t) : u ∈ left ∧ u ≠ t := by
  obtain ⟨m1, m2⟩ := List.mem_filter.mp m
  exact ⟨m1, bne_iff_ne.mp m2⟩
theorem num_inj {m n : Nat} (h : numV m = numV n) : m = n := by
  injection h with h
  exact Int.ofNat.inj h
theorem others_V (left : List Nat) (t : Nat) : ((left.map numV).filterMap fun v => if v = numV t then none else some v) = (othersM left t).map numV := by
  induction left with
  | nil => rfl
  | cons x l ih =>
    by_cases e : x = t
    · subst e
      show List.filterMap _ (numV x :: l.map numV) = List.map numV (List.filter _ _)
      rw [List.filterMap_cons, if_pos rfl, List.filter_cons_of_neg (by simp)]
      exact ih
    · show List.filterMap _ (numV x :: l.map numV) = List.map numV (List.filter _ _)
      rw [List.filterMap_cons, if_neg (fun z => e (num_inj z)), List.filter_cons_of_pos (by simpa using e)]
      show _ :: _ = _ :: _
      rw [ih]
      rfl
/-- lists of names stand in a list -/
def NsAt (H : Hp) (a : Addr) (N : List (List Str)) : Prop := ∃ vs, H a = some (.lst vs) ∧ Each (fun v zs => ∃ p, v = .ref p ∧ NmAt H p zs) vs N
theorem NsAt.same {H H' : Hp} (s : Same H H') {a : Addr} {N : List (List Str)} (h : NsAt H a N) : NsAt H' a N := by
  obtain ⟨vs, h1, h2⟩ := h
  exact ⟨vs, s _ _ h1, h2.mono fun v zs ⟨p, e, q⟩ => ⟨p, e, s _ _ q⟩⟩
theorem NsAt.at_ {H : Hp} {a : Addr} {N : List (List Str)} (h : NsAt H a N) {t : Nat} (lt : t < N.length) : ∃ vs p, H a = some (.lst vs) ∧ vs[t]? = some (.ref p) ∧ NmAt H p (N.getD t []) := by
  obtain ⟨vs, h1, h2⟩ := h
  obtain ⟨v, e, p, rfl, q⟩ := h2.at_ (List.getElem?_eq_getElem lt)
  refine ⟨vs, p, h1, e, ?_⟩
  rw [List.getD_eq_getElem?_getD, List.getElem?_eq_getElem lt]
  exact q
/-- what the three defs are handed -/
structure EarIn (H : Hp) (a l : Addr) (N : List (List Str)) (left : List Nat) : Prop where
  ns : NsAt H a N
  lf : H l = some (.lst (left.map numV))
  lt : ∀ o ∈ left, o < N.length
  l6 : left.length ≤ 6
  n5 : ∀ t, (N.getD t []).length ≤ 5
theorem EarIn.same {H H' : Hp} (s : Same H H') {a l : Addr} {N : List (List Str)} {left : List Nat} (h : EarIn H a l N left) : EarIn H' a l N left := ⟨h.ns.same s, s _ _ h.lf, h.lt, h.l6, h.n5⟩
theorem common_len {H : Hp} {a l : Addr} {N : List (List Str)} {left : List Nat} (h : EarIn H a l N left) (t : Nat) : (commonM N left t).length ≤ 5 := Nat.le_trans (List.length_filter_le _ _) (h.n5 t)
abbrev sCommonNames : Stmt := top 62
abbrev nCommonNames : List Str := ["names", "left", "tie", "others", "other", "name"]
theorem scCommonNames : FnScope nCommonNames ["names", "left", "tie"] (defScope sCommonNames) := ⟨rfl, rfl, rfl, by decide +kernel, rfl, by decide +kernel, by decide +kernel⟩
abbrev sNextEar : Stmt := top 63
abbrev nNextEar : List Str := ["names", "left", "tie", "common", "other", "name"]
theorem scNextEar : FnScope nNextEar ["names", "left"] (defScope sNextEar) := ⟨rfl, rfl, rfl, by decide +kernel, rfl, by decide +kernel, by decide +kernel⟩
abbrev sEars : Stmt := top 64
abbrev nEars : List Str := ["question", "left", "names", "taken", "ear", "tie"]
theorem scEars : FnScope nEars ["question"] (defScope sEars) := ⟨rfl, rfl, rfl, by decide +kernel, rfl, by decide +kernel, by decide +kernel⟩
section
variable {P : Program} {w : World} {K : PySem.W.Frag} {mg : Str → Option Value} {base : Heap} {aB : Addr}
def spCommon (K : PySem.W.Frag) : Sp := fun vs H Q _ => ∃ (a l : Addr) (N : List (List Str)) (left : List Nat) (t : Nat), vs = [.ref a, .ref l, .int (t : Nat)] ∧ EarIn H a l N left ∧ t < N.length ∧
  ∀ (p : Addr) (H' : Hp), H p = none → Same H H' → H' p = some (.lst ((commonM N left t).map V.str)) → Q (.ref p) H'
theorem has_common (any : mg "any" = none) (a : AtE K mg "common_names" sCommonNames ["names", "left", "tie"]) : Has P w K mg base CX0 1 "common_names" sCommonNames ["names", "left", "tie"] (spCommon K) := by
  obtain ⟨f, fd, a⟩ := a
  refine ⟨f, fd, a, a.fn.ok scCommonNames (fun vs H Q E h => ?_) (fun cdv A outer s H vs Q E hr h => ?_)⟩
  · obtain ⟨a, l, N, left, t, rfl, _⟩ := h
    rfl
  · obtain ⟨a, l, N, left, t, rfl, hi, lt, k⟩ := h
    refine ⟨_,
    (pss_cons (ps_set (i := 3) scCommonNames.nd rfl (.inr rfl) (pe_lc (own := [("other", 4)]) (g := (gName 4)) (tt := (tTest (tOp rNe (tVar 4) (tVar 2)))) (te := (tVar 4)) rfl scCommonNames.nd (pi_list (pv 1)) (blkOk_by (N := nCommonNames) (sc := defScope sCommonNames) (by decide +kernel)) (fun _ _ _ _ _ => (pg_name (i := 4) scCommonNames.nd rfl (.inl rfl))) (fun _ _ _ _ _ => pts_one (pt_cmpR op_ne (pv 4) (pv 2) (nomark _))) (fun _ _ _ _ _ => (pv 4))))
    (pss_one (ps_ret (pe_lc (own := [("name", 5)]) (g := (gName 5)) (tt := (tTest (tCB (rAny K) (tCons (tLc (iList K (tVar 3)) (gName 4) tYes (tOp (rIn K false) (tVar 5) (tOp (rIxL K) (tVar 0) (tVar 4))) [4]) tNil)))) (te := (tVar 5)) rfl scCommonNames.nd (pi_tup (pe_ix ix_list (pv 0) (pv 2) fun _ _ => rfl)) (blkOk_by (N := nCommonNames) (sc := defScope sCommonNames) (by decide +kernel)) (fun _ _ _ _ _ => (pg_name (i := 5) scCommonNames.nd rfl (.inr rfl))) (fun _ _ _ _ _ => pts_one (pt_val (pe_callB (cr_any rfl) (by rfl) any (by decide +kernel) (pa_cons (pe_lc (own := [("other", 4)]) (g := (gName 4)) (tt := tYes) (te := (tOp (rIn K false) (tVar 5) (tOp (rIxL K) (tVar 0) (tVar 4)))) rfl scCommonNames.nd (pi_list (pv 3)) (blkOk_by (N := nCommonNames) (sc := ({ kind := .function, names := [(".0", .local), ("name", .cell), ("any", .globalImplicit), ("names", .cell), ("others", .cell)], isGenerator := false, isCoroutine := false } : Scope)) (by decide +kernel)) (fun _ _ _ _ _ => (pg_name (i := 4) scCommonNames.nd rfl (.inl rfl))) (fun _ _ _ _ _ => pts_nil) (fun _ _ _ _ _ => (pe_cmpR op_in_seq (pv 5) (pe_ix ix_list (pv 0) (pv 4) fun _ _ => rfl) rfl))) pa_nil)))) (fun _ _ _ _ _ => (pv 5)))))), ?_⟩
    have l6 := hi.l6
    refine ⟨_, rfl, l, rfl, ⟨_, SqL.of hi.lf⟩, fun D hD => ?_⟩
    refine lc_listF (xs := left.map numV) (fun v => if v = numV t then none else some v) hD (SqL.of hi.lf) (by rw [List.length_map]; omega) ?_ ?_
    · rintro i x H2 hx s2 k1 k2 y1 y2
      obtain ⟨u, _, rfl⟩ := num_get hx
      refine ⟨rfl, _, rfl, _, rfl, rfl, _, rfl, ?_⟩
      generalize numV u = x at y1 y2 ⊢
      by_cases e : x = numV t
      · rw [decide_eq_true (show x = V.int (t : Nat) from e)]
        exact iteF (y2 _ (if_pos e) (Same.refl _))
      · rw [decide_eq_false (show ¬ x = V.int (t : Nat) from e)]
        exact iteT ⟨_, rfl, y1 _ _ (if_neg e) (Same.refl _)⟩
    · intro H2 s2 h2
      rw [others_V] at h2
      have hi2 := hi.same s2
      obtain ⟨vs, p, hv, ev, hp⟩ := hi2.ns.at_ lt
      have lo : (othersM left t).length ≤ 6 := Nat.le_trans (List.length_filter_le _ _) l6
      refine ⟨_, rfl, _, rfl, a, _, _, _, rfl, rfl, SqL.of hv, atI_nat ev, p, rfl, ⟨_, SqT.of hp⟩, fun D2 hD2 => ?_⟩
      refine lc_tupF (xs := (N.getD t []).map V.str) (fun v => match v with | .str z => if (othersM left t).any (fun o => hasM N o z) = true then some (.str z) else none | _ => none) hD2 (SqT.of hp) (by rw [List.length_map]; have := hi.n5 t; omega) ?_ ?_
      · rintro i x H3 hx s3 k1 k2 y1 y2
        obtain ⟨z, ez, rfl⟩ := map_get hx
        refine ⟨rfl, _, rfl, D, rfl, ⟨_, SqL.of (s3 _ _ h2)⟩, fun D3 hD3 => ?_⟩
        have hi3 := hi2.same s3
        refine lc_listV (xs := (othersM left t).map numV) (fun v => match v with | .int i => .bl (hasM N i.toNat z) | _ => .non) hD3 (SqL.of (s3 _ _ h2)) (by rw [List.length_map]; omega) ?_ ?_
        · rintro i x H4 hx s4 k3 k4 y3
          obtain ⟨o, eo, rfl⟩ := num_get hx
          have lo' : o < N.length := hi.lt o (others_sub (List.mem_of_getElem? eo)).1
          obtain ⟨vs', p', hv', ev', hp'⟩ := (hi3.same s4).ns.at_ lo'
          refine ⟨rfl, yes_turn ?_⟩
          refine ⟨_, rfl, _, rfl, _, rfl, a, _, _, _, rfl, rfl, SqL.of hv', atI_nat ev', p', _, rfl, .inr (SqT.of hp'), rfl, strs_flat _, ?_⟩
          rw [inV_str]
          exact y3 _ (Same.refl _)
        · intro H4 s4 h4
          refine ⟨D3, (othersM left t).map fun o => hasM N o z, rfl, SqL.of (by rw [h4, List.map_map, List.map_map]; rfl), _, rfl, ?_⟩
          have e : ((othersM left t).map fun o => hasM N o z).any id = (othersM left t).any fun o => hasM N o z := by
            rw [List.any_map]
            rfl
          rw [e]
          by_cases c : (othersM left t).any (fun o => hasM N o z) = true
          · rw [c]
            exact iteT ⟨_, rfl, y1 _ _ (if_pos c) s4⟩
          · rw [Bool.eq_false_iff.mpr c]
            exact iteF (y2 _ (if_neg c) s4)
      · intro H3 s3 h3
        refine k D2 H3 (s2.free hD2) (s2.trans s3) ?_
        rw [h3]
        have e : ∀ zs : List Str, (zs.map V.str).filterMap (fun v => match v with | .str z => if (othersM left t).any (fun o => hasM N o z) = true then some (V.str z) else none | _ => none) = (zs.filter fun z => (othersM left t).any fun o => hasM N o z).map V.str := by
          intro zs
          induction zs with
          | nil => rfl
          | cons z zs ih =>
            by_cases c : (othersM left t).any (fun o => hasM N o z) = true
            · rw [List.filter_cons_of_pos (p := fun z => (othersM left t).any fun o => hasM N o z) c, List.map_cons, List.map_cons, List.filterMap_cons]
              simp only [c, if_true]
              rw [ih]
            · rw [List.filter_cons_of_neg (p := fun z => (othersM left t).any fun o => hasM N o z) c, List.map_cons, List.filterMap_cons]
              simp only [c, if_false]
              exact ih
        rw [e]
        rfl
def EarV (H : Hp) (o : Option (Nat × Option Nat)) (v : V) : Prop := match o with
  | none => v = .non
  | some (t, u) => ∃ p, v = .ref p ∧ H p = some (.tup [numV t, optV u])
def spNextEar (K : PySem.W.Frag) : Sp := fun vs H Q _ => ∃ (a l : Addr) (N : List (List Str)) (left : List Nat), vs = [.ref a, .ref l] ∧ EarIn H a l N left ∧ ∀ (v : V) (H' : Hp), Same H H' → EarV H' (earM N left) v → Q v H'
theorem has_nextear (b : Blt mg) (hc : Has P w K mg base CX0 1 "common_names" sCommonNames ["names", "left", "tie"] (spCommon K)) (a : AtE K mg "next_ear" sNextEar ["names", "left"]) : Has P w K mg base CX0 2 "next_ear" sNextEar ["names", "left"] (spNextEar K) := by
  obtain ⟨f, fd, a⟩ := a
  obtain ⟨fCn, fdCn, aCn, GCn⟩ := hc
  refine ⟨f, fd, a, a.fn.ok scNextEar (fun vs H Q E h => ?_) (fun cdv A outer s H vs Q E hr1 h => ?_)⟩
  · obtain ⟨a, l, N, left, rfl, _⟩ := h
    rfl
  · obtain ⟨a, l, N, left, rfl, hi, k⟩ := h
    refine ⟨_,
    (pss_cons (ps_for PassesOwn.never rfl (pi_list (pv 1)) (pg_name (i := 2) scNextEar.nd rfl (.inl rfl))
      (pss_cons (ps_set (i := 3) scNextEar.nd rfl (.inl rfl) (pe_call GCn hr1 rfl aCn.gl aCn.fn.kp aCn.bd .nil pass0 (pa_cons (pv 0) (pa_cons (pv 1) (pa_cons (pv 2) pa_nil)))))
      (pss_cons (ps_if (pt_not (pt_truth (pv 3) (by intro _; rfl)))
        (pss_one (ps_ret (pe_tup (pa_cons (pv 2) (pa_cons pe_non pa_nil)))))
        pss_nil)
      (pss_one (ps_for PassesOwn.never rfl (pi_list (pv 1)) (pg_name (i := 4) scNextEar.nd rfl (.inr rfl))
        (pss_one (ps_if (PW.pt (pw_and (pt_cmpR op_ne (pv 4) (pv 2) (nomark _)) (pw_and1 (pt_val (pe_callB (cr_all rfl) (by rfl) b.all (by decide +kernel) (pa_cons (pe_lc (own := [("name", 5)]) (g := (gName 5)) (tt := tYes) (te := (tOp (rIn K false) (tVar 5) (tOp (rIxL K) (tVar 0) (tVar 4)))) rfl scNextEar.nd (pi_list (pv 3)) (blkOk_by (N := nNextEar) (sc := defScope sNextEar) (by decide +kernel)) (fun _ _ _ _ _ => (pg_name (i := 5) scNextEar.nd rfl (.inl rfl))) (fun _ _ _ _ _ => pts_nil) (fun _ _ _ _ _ => (pe_cmpR op_in_seq (pv 5) (pe_ix ix_list (pv 0) (pv 4) fun _ _ => rfl) rfl))) pa_nil))))))
          (pss_one (ps_ret (pe_tup (pa_cons (pv 2) (pa_cons (pv 4) pa_nil)))))
          pss_nil)))))))
    (pss_one (ps_ret pe_non))), ?_⟩
    refine ⟨_, rfl, l, rfl, ⟨_, SqL.of hi.lf⟩, ?_⟩
    refine for_list (xs := left.map numV) (fun i σ H' => ∃ x y z : Option V, σ = [some (.ref a), some (.ref l), x, y, z, none] ∧ Same H H' ∧ ∀ j u, j < i → left[j]? = some u → offM N left u = []) ⟨none, none, none, rfl, Same.refl H, fun j u lj => by omega⟩
      (fun i σ H' _ ⟨_, _, _, _, s', _⟩ => SqL.of (s' _ _ hi.lf)) ?_ ?_
    · rintro i v σ H1 hv ⟨x, y, z, rfl, s1, no⟩
      obtain ⟨t, et, rfl⟩ := num_get hv
      have lt := hi.lt t (List.mem_of_getElem? et)
      have hi1 := hi.same s1
      refine ⟨_, rfl, _, rfl, _, rfl, a, l, N, left, t, rfl, hi1, lt, fun c H2 nc s2 hc => ?_⟩
      have s12 := s1.trans s2
      have hi2 := hi1.same s2
      have c5 := common_len hi t
      refine ⟨_, rfl, _, .inl ⟨_, SqL.of hc, rfl⟩, ?_⟩
      cases ec : commonM N left t with
      | nil =>
        have eo : offM N left t = [none] := by
          unfold offM
          rw [ec]
          rfl
        refine iteT ⟨_, rfl, by show 2 ≤ sizeLine; decide, fun p np => ?_⟩
        refine k _ _ (s12.trans (same_new np)) ?_
        rw [ear_first et no (by rw [eo]; exact List.cons_ne_nil _ _), eo]
        exact ⟨p, rfl, upd_same⟩
      | cons z0 zs =>
        have eo : offM N left t = ((othersM left t).filter fun o => (commonM N left t).all fun z => hasM N o z).map some := by
          unfold offM
          rw [ec]
          rfl
        refine iteF ?_
        refine ⟨_, rfl, l, rfl, ⟨_, SqL.of hi2.lf⟩, ?_⟩
        refine for_list (xs := left.map numV) (fun i σ H' => ∃ z : Option V, σ = [some (.ref a), some (.ref l), some (numV t), some (.ref c), z, none] ∧ Same H2 H' ∧ ∀ j u, j < i → left[j]? = some u → u = t ∨ (commonM N left t).all (fun z => hasM N u z) = false) ⟨z, rfl, Same.refl H2, fun j u lj => by omega⟩
          (fun i σ H' _ ⟨_, _, s', _⟩ => SqL.of (s' _ _ hi2.lf)) ?_ ?_
        · rintro i' v σ H3 hv ⟨z, rfl, s3, no'⟩
          obtain ⟨o, eo', rfl⟩ := num_get hv
          have lo := hi.lt o (List.mem_of_getElem? eo')
          have hi3 := hi2.same s3
          have hc3 := s3 _ _ hc
          refine ⟨_, rfl, _, rfl, rfl, _, rfl, ?_⟩
          by_cases e : o = t
          · subst e
            rw [decide_eq_true rfl]
            refine iteF ⟨_, rfl, s3, fun j u lj hu => ?_⟩
            by_cases q : j < i'
            · exact no' j u q hu
            · obtain rfl : j = i' := by omega
              rw [hu] at eo'
              cases eo'
              exact .inl rfl
          · rw [decide_eq_false (fun q => e (num_inj q))]
            refine iteT ?_
            refine ⟨_, rfl, c, rfl, ⟨_, SqL.of hc3⟩, fun D hD => ?_⟩
            refine lc_listV (xs := (commonM N left t).map V.str) (fun v => match v with | .str z => .bl (hasM N o z) | _ => .non) hD (SqL.of hc3) (by rw [List.length_map]; omega) ?_ ?_
            · rintro i2 x H4 hx s4 k3 k4 y3
              obtain ⟨z2, ez, rfl⟩ := map_get hx
              obtain ⟨vs', p', hv', ev', hp'⟩ := (hi3.same s4).ns.at_ lo
              refine ⟨rfl, yes_turn ?_⟩
              refine ⟨_, rfl, _, rfl, _, rfl, a, _, _, _, rfl, rfl, SqL.of hv', atI_nat ev', p', _, rfl, .inr (SqT.of hp'), rfl, strs_flat _, ?_⟩
              rw [inV_str]
              exact y3 _ (Same.refl _)
            · intro H4 s4 h4
              refine ⟨D, (commonM N left t).map fun z => hasM N o z, rfl, SqL.of (by rw [h4, List.map_map, List.map_map]; rfl), _, rfl, ?_⟩
              have e2 : ((commonM N left t).map fun z => hasM N o z).all id = (commonM N left t).all fun z => hasM N o z := by
                rw [List.all_map]
                rfl
              rw [e2]
              by_cases q : (commonM N left t).all (fun z => hasM N o z) = true
              · rw [q]
                refine iteT ⟨_, rfl, _, rfl, by show 2 ≤ sizeLine; decide, fun p np => ?_⟩
                refine k _ _ ((s12.trans (s3.trans s4)).trans (same_new np)) ?_
                have ef : ∀ (L : List Nat) (n : Nat), L[n]? = some o → (∀ j u, j < n → L[j]? = some u → u = t ∨ (commonM N left t).all (fun z => hasM N u z) = false) → ∃ r, (othersM L t).filter (fun o => (commonM N left t).all fun z => hasM N o z) = o :: r := by
                  intro L
                  induction L with
                  | nil => intro n h; simp at h
                  | cons x L ih =>
                    intro n h nn
                    cases n with
                    | zero =>
                      cases h
                      refine ⟨(othersM L t).filter (fun o => (commonM N left t).all fun z => hasM N o z), ?_⟩
                      show List.filter _ (List.filter _ _) = _
                      rw [List.filter_cons_of_pos (by simpa using e), List.filter_cons_of_pos (p := fun o => (commonM N left t).all fun z => hasM N o z) q]
                      rfl
                    | succ n =>
                      obtain ⟨r, er⟩ := ih n h fun j u lj hj => nn (j + 1) u (Nat.succ_lt_succ lj) hj
                      refine ⟨r, ?_⟩
                      show List.filter _ (List.filter _ _) = _
                      rcases nn 0 x (Nat.succ_pos n) rfl with z | z
                      · rw [List.filter_cons_of_neg (by simp [z])]
                        exact er
                      · by_cases xt : x = t
                        · rw [List.filter_cons_of_neg (by simp [xt])]
                          exact er
                        · rw [List.filter_cons_of_pos (by simpa using xt), List.filter_cons_of_neg (by rw [z]; exact Bool.false_ne_true)]
                          exact er
                obtain ⟨r, er⟩ := ef left i' eo' no'
                rw [er] at eo
                rw [ear_first et no (by rw [eo]; exact List.cons_ne_nil _ _), eo]
                exact ⟨p, rfl, upd_same⟩
              · rw [Bool.eq_false_iff.mpr q]
                refine iteF ⟨_, rfl, s3.trans s4, fun j u lj hu => ?_⟩
                by_cases q' : j < i'
                · exact no' j u q' hu
                · obtain rfl : j = i' := by omega
                  rw [hu] at eo'
                  cases eo'
                  exact .inr (Bool.eq_false_iff.mpr q)
        · rintro σ H3 ⟨z, rfl, s3, no'⟩
          refine ⟨_, _, _, rfl, s12.trans s3, fun j u lj hu => ?_⟩
          by_cases q' : j < i
          · exact no j u q' hu
          · obtain rfl : j = i := by omega
            rw [hu] at et
            cases et
            rw [eo]
            have e0 : (othersM left t).filter (fun o => (commonM N left t).all fun z => hasM N o z) = [] := List.filter_eq_nil_iff.mpr fun o mo => by
              obtain ⟨m1, m2⟩ := others_sub mo
              obtain ⟨j', hj', ej'⟩ := List.getElem_of_mem m1
              rcases no' j' o (by rw [List.length_map]; exact hj') (by rw [List.getElem?_eq_getElem hj', ej']) with z | z
              · exact absurd z m2
              · rw [z]
                exact Bool.false_ne_true
            rw [e0]
            rfl
    · rintro σ H1 ⟨x, y, z, rfl, s1, no⟩
      refine k _ _ s1 ?_
      rw [ear_none fun u mu => ?_]
      · rfl
      · obtain ⟨j, hj, ej⟩ := List.getElem_of_mem mu
        exact no j u (by rw [List.length_map]; exact hj) (by rw [List.getElem?_eq_getElem hj, ej])
end
end VQ
namespace VQ
open PySem L2 LamX
theorem NsAt.moved {H H' : Hp} {a : Addr} {N : List (List Str)} (h : NsAt H a N) (t : Tups H H') (k : ∀ vs, H a = some (.lst vs) → H' a = some (.lst vs)) : NsAt H' a N := by
  obtain ⟨vs, h1, h2⟩ := h
  exact ⟨vs, k vs h1, h2.mono fun v zs ⟨p, e, q⟩ => ⟨p, e, t.1 _ _ q⟩⟩
def PrAt (H : Hp) (v : V) (p : Nat × Option Nat) : Prop := ∃ a, v = .ref a ∧ H a = some (.tup [numV p.1, optV p.2])
theorem PrAt.moved {H H' : Hp} (s : Tups H H') {v : V} {t : Nat × Option Nat} (h : PrAt H v t) : PrAt H' v t := by
  obtain ⟨a, e, h1⟩ := h
  exact ⟨a, e, s.1 _ _ h1⟩
/-- the names of each tie -/
def nmsQ (q : Qn) : List (List Str) := (List.range q.ties.length).map (ownZ q)
def earsM (N : List (List Str)) : List Nat × List (Nat × Option Nat) := goM N N.length (List.range N.length) []
def EarsAt (H : Hp) (p l : Addr) (r : List Nat × List (Nat × Option Nat)) : Prop := (r.1 = [] ∧ H p = some (.tup [.str "tree", .ref l]) ∧ ∃ vs, H l = some (.lst vs) ∧ Each (PrAt H) vs r.2) ∨ (r.1 ≠ [] ∧ H p = some (.tup [.str "knot", .ref l]) ∧ H l = some (.lst (r.1.map numV)))
theorem rg_nums (n : Nat) : rgV 0 (n : Int) = (List.range n).map numV := by
  unfold rgV
  rw [Int.sub_zero, Int.toNat_natCast]
  exact List.map_congr_left fun i _ => by
    show V.int (0 + _) = V.int _
    rw [Int.zero_add]
theorem own_len {q : Qn} (ok : QOk q) (t : Nat) : (ownZ q t).length ≤ 5 := Nat.le_trans (List.length_filter_le _ _) ok.n5
theorem nms_len (q : Qn) : (nmsQ q).length = q.ties.length := by
  unfold nmsQ
  rw [List.length_map, List.length_range]
theorem nms_get {q : Qn} {t : Nat} (h : t < q.ties.length) : (nmsQ q).getD t [] = ownZ q t := by
  unfold nmsQ
  rw [List.getD_eq_getElem?_getD, List.getElem?_map, List.getElem?_range h]
  rfl
theorem nms_5 {q : Qn} (ok : QOk q) (t : Nat) : ((nmsQ q).getD t []).length ≤ 5 := by
  by_cases h : t < q.ties.length
  · rw [nms_get h]
    exact own_len ok t
  · rw [List.getD_eq_getElem?_getD, List.getElem?_eq_none (by rw [nms_len]; omega)]
    exact Nat.zero_le _
theorem nums_ints (xs : List Nat) : xs.map numV = (xs.map fun n => ((n : Nat) : Int)).map V.int := by
  rw [List.map_map]
  rfl
theorem erase_map {α β : Type} (g : α → β) : ∀ (xs : List α) (j : Nat), (xs.map g).eraseIdx j = (xs.eraseIdx j).map g
  | [], _ => rfl
  | _ :: _, 0 => rfl
  | x :: xs, j + 1 => by
    show g x :: (xs.map g).eraseIdx j = g x :: (xs.eraseIdx j).map g
    rw [erase_map g xs j]
section
variable {P : Program} {w : World} {K : PySem.W.Frag} {mg : Str → Option Value} {base : Heap} {aB : Addr}
def spEars : Sp := fun vs H Q _ => ∃ (a : Addr) (q : Qn), vs = [.ref a] ∧ QAt H a q ∧ QOk q ∧ ∀ (p l : Addr) (H' : Hp), H p = none → H l = none → Same H H' → EarsAt H' p l (earsM (nmsQ q)) → Q (.ref p) H'
theorem has_ears (b : Blt mg) (hq : Has P w K mg base CX0 5 "need_question" sNeedQuestion ["question"] spNeedQn) (hn : Has P w K mg base CX0 6 "own_names" sOwnNames ["question", "tie"] spOwnN) (he : Has P w K mg base CX0 2 "next_ear" sNextEar ["names", "left"] (spNextEar K))
    (a : AtE K mg "ears" sEars ["question"]) : Has P w K mg base CX0 7 "ears" sEars ["question"] spEars := by
  obtain ⟨f, fd, a⟩ := a
  obtain ⟨fNq, fdNq, aNq, GNq⟩ := hq
  obtain ⟨fOn, fdOn, aOn, GOn⟩ := hn
  obtain ⟨fNe, fdNe, aNe, GNe⟩ := he
  refine ⟨f, fd, a, a.fn.ok scEars (fun vs H Q E h => ?_) (fun cdv A outer s H vs Q E hr6 h => ?_)⟩
  · obtain ⟨a, q, rfl, _⟩ := h
    rfl
  · obtain ⟨a, q, rfl, qa, ok, k⟩ := h
    have hr2 : Room 2 _ := hr6.mono (by decide)
    have hr5 : Room 5 _ := hr6.mono (by decide)
    have t6 := ok.t6
    refine ⟨_,
    (pss_cons (ps_expr (pe_call GNq hr5 rfl aNq.gl aNq.fn.kp aNq.bd .nil pass0 (pa_cons (pv 0) pa_nil)))
    (pss_cons (ps_set (i := 1) scEars.nd rfl (.inl rfl) (pe_listRg rfl (by rfl) b.list (prg_1 (by rfl) b.range (pe_callB call_len_seq (by rfl) b.len PySem.boot_len (pa_cons (pe_ix ix_tup (pv 0) pe_int fun _ _ => rfl) pa_nil)))))
    (pss_cons (ps_setLc (i := 2) (own := [("tie", 5)]) (g := (gName 5)) (tt := tYes) (te := (tCall spOwnN [] E0 (tCons (tVar 0) (tCons (tVar 5) tNil)))) rfl scEars.nd rfl rfl (sw_true rfl rfl rfl (by decide +kernel)) (pi_list (pv 1)) (blkOk_by (N := nEars) (sc := defScope sEars) (by decide +kernel)) (fun _ _ _ _ _ => (pg_name (i := 5) scEars.nd rfl (.inl rfl))) (fun _ _ _ _ _ => pts_nil) (fun _ _ _ _ _ => (pe_call GOn hr6 rfl aOn.gl aOn.fn.kp aOn.bd .nil pass0 (pa_cons (pv 0) (pa_cons (pv 5) pa_nil)))))
    (pss_cons (ps_set (i := 3) scEars.nd rfl (.inl rfl) (pe_lst pa_nil))
    (pss_cons (ps_while PassesOwn.never (pt_truth (pv 1) (by intro _; rfl))
      (pss_cons (ps_set (i := 4) scEars.nd rfl (.inl rfl) (pe_call GNe hr2 rfl aNe.gl aNe.fn.kp aNe.bd .nil pass0 (pa_cons (pv 2) (pa_cons (pv 1) pa_nil))))
      (pss_cons (ps_if (pt_cmpR op_isN (pv 4) pe_non (nomark _))
        (pss_one (ps_ret (pe_tup (pa_cons pe_str (pa_cons (pv 1) pa_nil)))))
        pss_nil)
      (pss_cons (ps_expr (pe_bm PySem.F.plainAttrs_list PySem.F.slot_list_append PySem.F.type_list_append mt_append (pv 3) (pa_cons (pv 4) pa_nil)))
      (pss_one (ps_expr (pe_bm PySem.F.plainAttrs_list PySem.F.slot_list_remove PySem.F.type_list_remove mt_remove (pv 1) (pa_cons (pe_ix ix_tup (pv 4) pe_int fun _ _ => rfl) pa_nil))))))))
    (pss_one (ps_ret (pe_tup (pa_cons pe_str (pa_cons (pv 3) pa_nil)))))))))), ?_⟩
    refine ⟨_, rfl, a, q, rfl, qa, ok, fun H1 s1 => ?_⟩
    have qa1 := qa.moved (same_tups s1)
    obtain ⟨n0, t0, l0, ha, qp⟩ := id qa1
    obtain ⟨_, ⟨ts, ht, et⟩, _⟩ := qp
    have elt := et.len
    refine ⟨_, rfl, a, _, _, _, rfl, rfl, SqT.of ha, atI_nat (j := 2) rfl, t0, _, rfl, .inr (SqT.of ht), _, rfl, RgOk.of_le (by omega) (by omega) (by omega) (by omega), fun l nl => ?_⟩
    rw [rg_nums, elt]
    have s2 := s1.trans (same_new (o := HO.lst ((List.range q.ties.length).map numV)) nl)
    have qa2 := qa1.moved (same_tups (same_new (o := HO.lst ((List.range q.ties.length).map numV)) nl))
    refine ⟨_, rfl, l, rfl, ⟨_, SqL.of upd_same⟩, fun D hD => ?_⟩
    refine lc_listS (xs := (List.range q.ties.length).map numV) (fun i acc H' => Each (fun v zs => ∃ p, v = .ref p ∧ p ≠ D ∧ NmAt H' p zs) acc ((List.range i).map (ownZ q))) hD (SqL.of upd_same) (by rw [List.length_map, List.length_range]; omega)
      (fun i acc H3 H4 off e => e.mono fun v zs ⟨p, e1, e2, e3⟩ => ⟨p, e1, e2, off _ _ e2 e3⟩) .nil ?_ ?_
    · rintro i x acc H3 hx s3 h3 ea k1 k2 y1 y2
      obtain ⟨t, e1, rfl⟩ := num_get hx
      have lt : i < q.ties.length := by
        have := (List.getElem?_eq_some_iff.mp e1).1
        rwa [List.length_range] at this
      rw [List.getElem?_range lt] at e1
      cases e1
      refine ⟨rfl, yes_turn ?_⟩
      refine ⟨_, rfl, _, rfl, a, q, i, rfl, qa2.moved (same_tups s3), ok, lt, fun p H4 np s4 hp => y1 _ _ s4 ?_⟩
      rw [List.range_succ, List.map_append]
      refine (ea.mono fun v zs ⟨p, e1, e2, e3⟩ => ⟨p, e1, e2, s4 _ _ e3⟩).snoc ⟨p, rfl, fun e => ?_, hp⟩
      rw [e, h3] at np
      cases np
    · rintro acc H3 s3 h3 ea
      rw [List.length_map, List.length_range] at ea
      have ns3 : NsAt H3 D (nmsQ q) := ⟨acc, h3, ea.mono fun v zs ⟨p, e1, e2, e3⟩ => ⟨p, e1, e3⟩⟩
      have l3 := s3 _ _ (upd_same (H := H1) (a := l) (o := .lst ((List.range q.ties.length).map numV)))
      have s13 := s2.trans s3
      have Dl : D ≠ l := fun e => by
        rw [e, upd_same] at hD
        cases hD
      have nl0 : H l = none := s1.free nl
      have nD0 : H D = none := s2.free hD
      refine ⟨by show 0 ≤ sizeLine; decide, fun tk ntk => ?_⟩
      have tl : l ≠ tk := ne_of_none l3 ntk
      have tD : D ≠ tk := ne_of_none h3 ntk
      have nt0 : H tk = none := s13.free ntk
      have sk := same_new (o := HO.lst []) ntk
      dsimp only [gName, tSeq]
      refine while_by (fun σ H' => ∃ (x : Option V) (left : List Nat) (acc : List (Nat × Option Nat)) (vs : List V), σ = [some (.ref a), some (.ref l), some (.ref D), some (.ref tk), x, none] ∧ Same H H' ∧ H' l = some (.lst (left.map numV)) ∧ H' tk = some (.lst vs) ∧ Each (PrAt H') vs acc ∧ NsAt H' D (nmsQ q) ∧
          left.Nodup ∧ (∀ o ∈ left, o < (nmsQ q).length) ∧ acc.length + left.length ≤ 6 ∧ goM (nmsQ q) left.length left acc = earsM (nmsQ q))
        (fun _ H' => match H' l with | some (.lst xs) => xs.length | _ => 0)
        ⟨none, List.range q.ties.length, [], [], rfl, s13.trans sk, sk _ _ l3, upd_same, .nil, ns3.same sk, List.nodup_range, fun o m => by rw [nms_len]; exact List.mem_range.mp m, by rw [List.length_range]; show 0 + _ ≤ 6; omega, ?_⟩ ?_ ?_
      · unfold earsM
        rw [nms_len, List.length_range]
      · rintro σ H4 ⟨x, left, acc, vs, rfl, s4, hl, htk, ev, ns, nd, lt, l6, ego⟩
        refine ⟨_, rfl, _, .inl ⟨_, SqL.of hl, rfl⟩, ?_⟩
        cases left with
        | nil =>
          refine iteF ⟨_, rfl, by show 2 ≤ sizeLine; decide, fun p np => ?_⟩
          have sp := same_new (o := HO.tup [.str "tree", .ref tk]) np
          refine k p tk _ (s4.free np) nt0 (s4.trans sp) (.inl ?_)
          rw [← ego]
          exact ⟨rfl, upd_same, vs, sp _ _ htk, ev.mono fun v p z => z.moved (same_tups sp)⟩
        | cons t0 left0 =>
          refine iteT ?_
          generalize eleft : t0 :: left0 = left at *
          refine ⟨_, rfl, _, rfl, D, l, nmsQ q, left, rfl, ⟨ns, hl, lt, by omega, nms_5 ok⟩, fun v H5 s5 hv => ?_⟩
          have s45 := s4.trans s5
          have hl5 := s5 _ _ hl
          have htk5 := s5 _ _ htk
          refine ⟨_, rfl, rfl, _, rfl, ?_⟩
          have el : left.length = left0.length + 1 := by rw [← eleft]; rfl
          cases ee : earM (nmsQ q) left with
          | none =>
            rw [ee] at hv
            have hv' : v = .non := hv
            subst hv'
            refine iteT ⟨_, rfl, by show 2 ≤ sizeLine; decide, fun p np => ?_⟩
            have sp := same_new (o := HO.tup [.str "knot", .ref l]) np
            refine k p l _ (s45.free np) nl0 (s45.trans sp) (.inr ?_)
            have er : earsM (nmsQ q) = (left, acc) := by
              rw [← ego, el]
              unfold goM
              rw [ee]
            rw [er]
            exact ⟨by rw [← eleft]; exact List.cons_ne_nil _ _, upd_same, sp _ _ hl5⟩
          | some to =>
            obtain ⟨t, o⟩ := to
            rw [ee] at hv
            obtain ⟨pe, rfl, hpe⟩ : ∃ p, v = .ref p ∧ H5 p = some (.tup [numV t, optV o]) := hv
            obtain ⟨mt, _, _⟩ := ear_mem ee
            obtain ⟨j, hj, ej⟩ := List.getElem_of_mem mt
            have gj : left[j]? = some t := by rw [List.getElem?_eq_getElem hj, ej]
            have lv : vs.length = acc.length := ev.len
            refine iteF ?_
            refine ⟨_, rfl, .inl ⟨rfl, _, SqL.of htk5⟩, _, rfl, tk, _, _, rfl, rfl, htk5, lt_line (by omega), ?_⟩
            have lk : (upd H5 tk (.lst (vs ++ [.ref pe]))) l = some (.lst (left.map numV)) := (upd_ne tl).trans hl5
            have tk5 : Tups H5 (upd H5 tk (.lst (vs ++ [.ref pe]))) := tups_lst htk5
            refine ⟨_, rfl, .inl ⟨rfl, _, SqL.of lk⟩, _, rfl, pe, _, _, _, rfl, rfl, SqT.of (tk5.1 _ _ hpe), atI_nat (j := 0) rfl, l, left.map fun n => ((n : Nat) : Int), ((t : Nat) : Int), j, rfl, rfl, ?_, ?_, ?_, ?_⟩
            · rw [lk, nums_ints]
            · rw [List.getElem?_map, gj]
              rfl
            · intro m lm e
              rw [List.getElem?_map] at e
              cases em : left[m]? with
              | none => rw [em] at e; cases e
              | some u =>
                rw [em] at e
                have e' : u = t := by
                  injection e with e
                  exact Int.ofNat.inj e
                subst e'
                have z := nd_ix nd em gj
                omega
            · have e6 : ((left.map fun n => ((n : Nat) : Int)).eraseIdx j).map V.int = (othersM left t).map numV := by
                rw [erase_map, others_at nd gj, ← nums_ints]
              rw [e6]
              have tl6 : Tups (upd H5 tk (.lst (vs ++ [.ref pe]))) (upd (upd H5 tk (.lst (vs ++ [.ref pe]))) l (.lst ((othersM left t).map numV))) := tups_lst lk
              have t56 := tk5.trans tl6
              have lo := others_len nd mt
              refine ⟨⟨_, othersM left t, acc ++ [(t, o)], vs ++ [.ref pe], rfl, same_put (same_put s45 nt0) nl0, upd_same, (upd_ne tl.symm).trans upd_same, ?_, ?_, others_nd nd, fun u m => lt u (others_sub m).1, ?_, ?_⟩, ?_⟩
              · exact ((ev.mono fun v p z => z.moved ((same_tups s5).trans t56)).snoc ⟨pe, rfl, t56.1 _ _ hpe⟩)
              · refine (ns.same s5).moved t56 fun vs h => ?_
                rw [upd_ne Dl, upd_ne tD]
                exact h
              · rw [List.length_append]
                show acc.length + 1 + _ ≤ 6
                omega
              · rw [← ego, ← lo]
                show goM (nmsQ q) _ _ _ = goM (nmsQ q) ((othersM left t).length + 1) left acc
                conv => rhs; unfold goM
                rw [ee]
              · show (match (upd (upd H5 tk (.lst (vs ++ [.ref pe]))) l (.lst ((othersM left t).map numV))) l with | some (.lst xs) => xs.length | _ => 0) < (match H4 l with | some (.lst xs) => xs.length | _ => 0)
                rw [upd_same, hl]
                show (List.map _ _).length < (List.map _ _).length
                rw [List.length_map, List.length_map]
                omega
      · intro σ H Q Q' im h
        obtain ⟨v, e, kk, tr, qq⟩ := h
        exact ⟨v, e, kk, tr, im _ _ qq⟩
end
end VQ
namespace VQ
open PySem L2 LamX
/-! ### where the ties hang like a tree each row left is of a point that fits -/
theorem common_mem {N : List (List Str)} {left : List Nat} {t : Nat} {z : Str} : z ∈ commonM N left t ↔ z ∈ N.getD t [] ∧ ∃ o ∈ othersM left t, z ∈ N.getD o [] := by
  unfold commonM hasM
  rw [List.mem_filter, List.any_eq_true]
  exact and_congr Iff.rfl ⟨fun ⟨o, m, h⟩ => ⟨o, m, of_decide_eq_true h⟩, fun ⟨o, m, h⟩ => ⟨o, m, decide_eq_true h⟩⟩
theorem off_some {N : List (List Str)} {left : List Nat} {t : Nat} (h : offM N left t ≠ []) : commonM N left t = [] ∨ ∃ w ∈ othersM left t, ∀ z ∈ commonM N left t, z ∈ N.getD w [] := by
  unfold offM at h
  by_cases c : (commonM N left t).isEmpty = true
  · exact .inl (List.isEmpty_iff.mp c)
  · rw [if_neg c] at h
    obtain ⟨x, mx⟩ := List.exists_mem_of_ne_nil _ h
    obtain ⟨w, mw, _⟩ := List.mem_map.mp mx
    obtain ⟨m1, m2⟩ := List.mem_filter.mp mw
    exact .inr ⟨w, m1, fun z mz => of_decide_eq_true (List.all_eq_true.mp m2 z mz)⟩
theorem rowW_map {q : Qn} {i : Nat} {a : Str → Nat} {z : Str} (m : z ∈ ownZ q i) : rowW q i ((ownZ q i).map a) z = a z := by
  unfold rowW
  rw [List.getD_eq_getElem?_getD, List.getElem?_map, (idx_str m).1]
  rfl
theorem row_as {q : Qn} {i : Nat} {r : List Nat} (nd : q.names.Nodup) (l : r.length = (ownZ q i).length) : (ownZ q i).map (rowW q i r) = r := row_map (own_nodup nd i) l
theorem ext_one {q : Qn} {S : Nat → List (List Nat)} {left : List Nat} {t : Nat} {m : List Nat} {a : Str → Nat} (nd : q.names.Nodup) (l : m.length = (ownZ q t).length) (mt : m ∈ S t) (h : ∀ o ∈ othersM left t, (ownZ q o).map a ∈ S o) (ag : ∀ z ∈ ownZ q t, (∃ o ∈ othersM left t, z ∈ ownZ q o) → a z = rowW q t m z) :
    ∃ a' : Str → Nat, (ownZ q t).map a' = m ∧ (∀ o ∈ othersM left t, (ownZ q o).map a' = (ownZ q o).map a) ∧ ∀ o ∈ left, (ownZ q o).map a' ∈ S o := by
  have e1 : (ownZ q t).map (fun z => if z ∈ ownZ q t then rowW q t m z else a z) = m := by
    refine Eq.trans (List.map_congr_left fun z mz => if_pos mz) (row_as nd l)
  have e2 : ∀ o ∈ othersM left t, (ownZ q o).map (fun z => if z ∈ ownZ q t then rowW q t m z else a z) = (ownZ q o).map a := fun o mo => List.map_congr_left fun z mz => by
    by_cases c : z ∈ ownZ q t
    · rw [if_pos c]
      exact (ag z c ⟨o, mo, mz⟩).symm
    · rw [if_neg c]
  refine ⟨_, e1, e2, fun o mo => ?_⟩
  by_cases c : o = t
  · rw [c, e1]
    exact mt
  · have mo' : o ∈ othersM left t := List.mem_filter.mpr ⟨mo, bne_iff_ne.mpr c⟩
    rw [e2 o mo']
    exact h o mo'
theorem tree_ext {q : Qn} {S : Nat → List (List Nat)} (nd : q.names.Nodup) (st : Stab q q.ties.length S) (rows : ∀ i, i < q.ties.length → ∀ r ∈ S i, r.length = (ownZ q i).length) : ∀ (k : Nat) (left : List Nat) (acc : List (Nat × Option Nat)), (goM (nmsQ q) k left acc).1 = [] → (∀ t ∈ left, t < q.ties.length) →
    ∀ i ∈ left, ∀ r ∈ S i, ∃ a : Str → Nat, (ownZ q i).map a = r ∧ ∀ t ∈ left, (ownZ q t).map a ∈ S t
  | 0, left, acc, h, _, i, mi, _, _ => by
    have h' : left = [] := h
    rw [h'] at mi
    cases mi
  | k + 1, left, acc, h, lt, i, mi, r, mr => by
    unfold goM at h
    cases e : earM (nmsQ q) left with
    | none =>
      rw [e] at h
      have h' : left = [] := h
      rw [h'] at mi
      cases mi
    | some p =>
      obtain ⟨t, o⟩ := p
      rw [e] at h
      have h : (goM (nmsQ q) k (othersM left t) (acc ++ [(t, o)])).1 = [] := h
      obtain ⟨mt, off, _⟩ := ear_mem e
      have lt' : ∀ x ∈ othersM left t, x < q.ties.length := fun x mx => lt x (List.mem_filter.mp mx).1
      have tl := lt t mt
      have ih := tree_ext nd st rows k (othersM left t) (acc ++ [(t, o)]) h lt'
      have com : ∀ z, z ∈ ownZ q t → (∃ o ∈ othersM left t, z ∈ ownZ q o) → z ∈ commonM (nmsQ q) left t := fun z mz ⟨o, mo, m⟩ => common_mem.mpr ⟨by rw [nms_get tl]; exact mz, o, mo, by rw [nms_get (lt' o mo)]; exact m⟩
      by_cases c : i = t
      · subst c
        rcases off_some off with none_ | ⟨w, mw, all⟩
        · by_cases le : othersM left i = []
          · obtain ⟨a', e1, _, e3⟩ := ext_one (a := fun _ => 0) (left := left) nd (rows i tl r mr) mr (fun o mo => by rw [le] at mo; cases mo) fun z mz h => by
              obtain ⟨o, mo, _⟩ := h
              rw [le] at mo
              cases mo
            exact ⟨a', e1, e3⟩
          · obtain ⟨w, mw⟩ := List.exists_mem_of_ne_nil _ le
            obtain ⟨m', mm', _⟩ := st i w tl (lt' w mw) r mr
            obtain ⟨a, _, ha⟩ := ih w mw m' mm'
            obtain ⟨a', e1, _, e3⟩ := ext_one (a := a) (left := left) nd (rows i tl r mr) mr ha fun z mz h => by
              have := com z mz h
              rw [none_] at this
              cases this
            exact ⟨a', e1, e3⟩
        · obtain ⟨m', mm', ag⟩ := st i w tl (lt' w mw) r mr
          obtain ⟨a, ea, ha⟩ := ih w mw m' mm'
          obtain ⟨a', e1, _, e3⟩ := ext_one (a := a) (left := left) nd (rows i tl r mr) mr ha fun z mz h => by
            have mz' := all z (com z mz h)
            rw [nms_get (lt' w mw)] at mz'
            rw [← rowW_map (a := a) mz', ea]
            exact (agrB_iff.mp ag z mz mz').symm
          exact ⟨a', e1, e3⟩
      · have mi' : i ∈ othersM left t := List.mem_filter.mpr ⟨mi, bne_iff_ne.mpr c⟩
        obtain ⟨a, ea, ha⟩ := ih i mi' r mr
        rcases off_some off with none_ | ⟨w, mw, all⟩
        · obtain ⟨m, mm, _⟩ := st i t (lt i mi) tl r mr
          obtain ⟨a', _, e2, e3⟩ := ext_one (a := a) (left := left) nd (rows t tl m mm) mm ha fun z mz h => by
            have := com z mz h
            rw [none_] at this
            cases this
          exact ⟨a', (e2 i mi').trans ea, e3⟩
        · obtain ⟨m, mm, ag⟩ := st w t (lt' w mw) tl _ (ha w mw)
          obtain ⟨a', _, e2, e3⟩ := ext_one (a := a) (left := left) nd (rows t tl m mm) mm ha fun z mz h => by
            have mz' := all z (com z mz h)
            rw [nms_get (lt' w mw)] at mz'
            rw [← rowW_map (a := a) mz']
            exact agrB_iff.mp ag z mz' mz
          exact ⟨a', (e2 i mi').trans ea, e3⟩
/-- all ties gone: each row left is of a point whose rows all stand -/
theorem tree_fits {q : Qn} {L0 : Nat → List (List Nat)} (ok : QOk q) (rows : ∀ i, i < q.ties.length → ∀ r ∈ L0 i, RowOk (ownZ q i).length r) (tr : (earsM (nmsQ q)).1 = []) {i : Nat} (hi : i < q.ties.length) {r : List Nat} (mr : r ∈ lessM q q.ties.length L0 i) :
    ∃ ns : List Nat, ns.length = q.names.length ∧ ownP q i ns = r ∧ ∀ t, t < q.ties.length → ownP q t ns ∈ L0 t := by
  obtain ⟨m0, g⟩ := List.mem_filter.mp mr
  obtain ⟨S, s1, s2, s3⟩ := grB_iff.mp g
  unfold earsM at tr
  rw [nms_len] at tr
  obtain ⟨a, ea, ha⟩ := tree_ext ok.nd s2 (fun i hi r mr => (rows i hi r (s1 i hi r mr)).1) _ _ _ tr (fun t m => List.mem_range.mp m) i (List.mem_range.mpr hi) r s3
  have pw : ∀ t, ownP q t (q.names.map a) = (ownZ q t).map a := fun t => by
    rw [ownP_eq]
    refine List.map_congr_left fun z mz => ?_
    unfold ptW
    rw [List.getD_eq_getElem?_getD, List.getElem?_map, (idx_str (List.mem_filter.mp mz).1).1]
    rfl
  exact ⟨q.names.map a, List.length_map _, (pw i).trans ea, fun t ht => by
    rw [pw t]
    exact s1 t ht _ (ha t (List.mem_range.mpr ht))⟩
/-- a point whose rows all stand: its own rows are left -/
theorem fits_less {q : Qn} {L0 : Nat → List (List Nat)} {ns : List Nat} (h : ∀ t, t < q.ties.length → ownP q t ns ∈ L0 t) {i : Nat} (hi : i < q.ties.length) : ownP q i ns ∈ lessM q q.ties.length L0 i := by
  refine List.mem_filter.mpr ⟨h i hi, grB_iff.mpr ⟨fun t => [ownP q t ns], fun t ht x mx => ?_, fun t u ht hu x mx => ⟨_, List.mem_cons_self, ?_⟩, List.mem_cons_self⟩⟩
  · rw [List.mem_singleton.mp mx]
    exact h t ht
  · rw [List.mem_singleton.mp mx, agrB_iff]
    intro z m1 m2
    rw [rowW_own m1, rowW_own m2]
end VQ
namespace VQ
open PySem L2 LamX
/-! ### k44: lessened ties lose nothing -/
abbrev sLaw : Stmt := top 86
abbrev nLaw : List Str := ["_law_script", "_law_bag_here", "_law_turn", "_law_book", "_law_model", "_law_question", "_law_fitting", "_law_left", "_law_hangs", "_law_tie", "_law_names_here", "_law_met", "_law_point", "_law_name", "_law_row"]
theorem scLaw : FnScope nLaw ["_law_script"] (defScope sLaw) := ⟨rfl, rfl, rfl, by decide +kernel, rfl, by decide +kernel, by decide +kernel⟩
def spLawN (K : PySem.W.Frag) : Sp := fun vs H Q _ => ∃ (a : Addr) (ns : List Int), vs = [.ref a] ∧ SqL K H a (ns.map V.int) ∧ ns.length ≤ 63 ∧ ∀ H', Q (.bl true) H'
def pairD (p : Str × Str) : PyData := .tuple [.str p.1, .str p.2]
theorem pairs_dp {K : PySem.W.Frag} {H : Hp} : ∀ {vs : List V} {ps : List (Str × Str)}, Each (PairAt H) vs ps → DpAll K H vs (ps.map pairD)
  | _, _, .nil => .nil
  | _, _, .cons h t => by
    obtain ⟨a, rfl, ha⟩ := h
    exact .cons (.tup (SqT.of ha) (.cons (.str _) (.cons (.str _) .nil))) (pairs_dp t)
theorem lay_pairs {zs : List Str} (hz : ∀ z ∈ zs, NameS 4 z) {ps : List (Str × Str)} (h : ∀ p ∈ ps, p.1 ∈ zs ∧ p.2 ∈ zs) : Lay 2 (.tuple (ps.map pairD)) := .tuple fun d m => by
  obtain ⟨p, mp, rfl⟩ := List.mem_map.mp m
  have q : ∀ c ∈ letters.cps.toList, c < 1114112 := by decide +kernel
  refine .tuple fun d m => ?_
  rcases List.mem_cons.mp m with rfl | m
  · exact .str _ fun c mc => q c (of_decide_eq_true ((hz _ (h p mp).1).lt c mc))
  · rw [List.mem_singleton.mp m]
    exact .str _ fun c mc => q c (of_decide_eq_true ((hz _ (h p mp).2).lt c mc))
theorem ok_bare {q : Qn} (ok : QOk q) : QOk { q with less := [] } := ⟨ok.n1, ok.n5, ok.nm, ok.nd, ok.m1, ok.mn, ok.t1, ok.t6, ok.tt, Nat.zero_le _, (fun p m => by cases m), ok.all⟩
section
variable {P : Program} {w : World} {K : PySem.W.Frag} {mg : Str → Option Value} {base : Heap} {aB C : Addr}
theorem ok_law {f : Addr} {fd : FuncData} (F : Fun K "law" "law" sLaw f fd) (b : Blt mg) (hB : Has P w K mg base CX0 1 "_law_bag" sBag ["_law_script"] (spBag K)) (hWd : Has P w K mg base CX0 11 "_law_world" sLawWorld ["_law_bag_here", "_law_most_names", "_law_most_ties", "_law_most_rows"] (spWorld C))
    (hP : Has P w K mg base CX0 1 "_law_pull" sPull ["_law_bag_here", "_law_size"] spPull) (hPs : Has P w K mg base CX0 4 "_law_points" sLawPoints ["_law_model", "_law_question"] spPoints) (hLe : Has P w K mg base CX0 8 "lessened" sLessened ["book", "question"] (spLess C)) (hEa : Has P w K mg base CX0 7 "ears" sEars ["question"] spEars)
    (hOn : Has P w K mg base CX0 6 "own_names" sOwnNames ["question", "tie"] spOwnN) (hLb : Has P w K mg base CX0 7 "lets_by" sLetsBy ["book", "question", "tie"] (spLetsBy C)) : FnOk P w K mg base CX0 12 f fd ["_law_script"] (spLawN K) := by
  obtain ⟨fB, fdB, aB, GB⟩ := hB
  obtain ⟨fWd, fdWd, aWd, GWd⟩ := hWd
  obtain ⟨fP, fdP, aP, GP⟩ := hP
  obtain ⟨fPs, fdPs, aPs, GPs⟩ := hPs
  obtain ⟨fLe, fdLe, aLe, GLe⟩ := hLe
  obtain ⟨fEa, fdEa, aEa, GEa⟩ := hEa
  obtain ⟨fOn, fdOn, aOn, GOn⟩ := hOn
  obtain ⟨fLb, fdLb, aLb, GLb⟩ := hLb
  refine F.ok scLaw (fun vs H Q E h => ?_) (fun cdv A outer s H vs Q E hr11 h => ?_)
  · obtain ⟨a, ns, rfl, _⟩ := h
    rfl
  · obtain ⟨a, ns, rfl, hS, hlen, k⟩ := h
    have hr1 : Room 1 _ := hr11.mono (by decide)
    have hr4 : Room 4 _ := hr11.mono (by decide)
    have hr6 : Room 6 _ := hr11.mono (by decide)
    have hr7 : Room 7 _ := hr11.mono (by decide)
    have hr8 : Room 8 _ := hr11.mono (by decide)
    have hu65 : (A.deeper (PyProof.Rows.envOfC "law" (defScope sLaw) s.heap.objs.size f cdv)).units + 65 < cLine := by
      have := hr11.un
      omega
    have hu : (A.deeper (PyProof.Rows.envOfC "law" (defScope sLaw) s.heap.objs.size f cdv)).units + 64 < cLine := hr11.units
    refine ⟨_,
    (pss_cons (ps_set (i := 1) scLaw.nd rfl (.inl rfl) (pe_call GB hr1 rfl aB.gl aB.fn.kp aB.bd .nil pass0 (pa_cons (pv 0) pa_nil)))
    (pss_cons (ps_for PassesOwn.never rfl (pi_range1 rfl b.range (pa_cons pe_int pa_nil)) (pg_name (i := 2) scLaw.nd rfl (.inl rfl))
      (pss_cons (ps_asg (pe_call GWd hr11 rfl aWd.gl aWd.fn.kp aWd.bd .nil pass0 (pa_cons (pv 1) (pa_cons pe_int (pa_cons pe_int (pa_cons pe_int pa_nil))))) (pg_tup rfl (pgs_cons (pg_name (i := 3) scLaw.nd rfl (.inr rfl)) (pgs_cons (pg_name (i := 4) scLaw.nd rfl (.inl rfl)) (pgs_cons (pg_name (i := 5) scLaw.nd rfl (.inr rfl)) pgs_nil)))))
      (C8.pss_cut (ps_if (pt_cmpR op_eq (pe_call GP hr1 rfl aP.gl aP.fn.kp aP.bd .nil pass0 (pa_cons (pv 1) (pa_cons pe_int pa_nil))) pe_int (nomark _))
        (pss_one (ps_set (i := 5) scLaw.nd rfl (.inr rfl) (pe_op op_catA (pe_slice sl_tupA (pv 5) po_none (po_some pe_int)) (pe_tup (pa_cons (pe_tup pa_nil) pa_nil)))))
        pss_nil)
      (pss_cons (ps_set (i := 6) scLaw.nd rfl (.inl rfl) (pe_call GPs hr4 rfl aPs.gl aPs.fn.kp aPs.bd .nil pass0 (pa_cons (pv 4) (pa_cons (pv 5) pa_nil))))
      (pss_cons (ps_set (i := 7) scLaw.nd rfl (.inr rfl) (pe_call GLe hr8 rfl aLe.gl aLe.fn.kp aLe.bd .nil pass0 (pa_cons (pv 3) (pa_cons (pv 5) pa_nil))))
      (C8.pss_cut (ps_set (i := 8) scLaw.nd rfl (.inl rfl) (pe_and (pe_cmpR op_eq (pe_ix ix_tup (pe_call GEa hr7 rfl aEa.gl aEa.fn.kp aEa.bd .nil pass0 (pa_cons (pv 5) pa_nil)) pe_int fun _ _ => rfl) pe_str (nomark _)) (pe_one (pe_cmpR (op_eqD hu) (pe_ix ix_tup (pv 5) pe_int fun _ _ => rfl) (pe_tup pa_nil) (nomark _)))))
      (pss_one (ps_for PassesOwn.never rfl (pi_range1 rfl b.range (pa_cons (pe_callB call_len_seq (by rfl) b.len PySem.boot_len (pa_cons (pe_ix ix_tup (pv 5) pe_int fun _ _ => rfl) pa_nil)) pa_nil)) (pg_name (i := 9) scLaw.nd rfl (.inr rfl))
        (pss_cons (ps_set (i := 10) scLaw.nd rfl (.inl rfl) (pe_call GOn hr6 rfl aOn.gl aOn.fn.kp aOn.bd .nil pass0 (pa_cons (pv 5) (pa_cons (pv 9) pa_nil))))
        (pss_cons (ps_set (i := 11) scLaw.nd rfl (.inr rfl) (pe_lst pa_nil))
        (pss_cons (ps_for PassesOwn.never rfl (pi_list (pv 6)) (pg_name (i := 12) scLaw.nd rfl (.inr rfl))
          (pss_one (ps_expr (pe_bm PySem.F.plainAttrs_list PySem.F.slot_list_append PySem.F.type_list_append mt_append (pv 11) (pa_cons (pe_callTy call_tuple_of (by rfl) b.tuple (by decide +kernel) (pa_cons (pe_lc (own := [("_law_name", 13)]) (g := (gName 13)) (tt := tYes) (te := (tOp (rIxT K) (tVar 12) (tBMN (rTIndex K) (tOp (rIxT K) (tVar 5) (tC (.int 0))) (tCons (tVar 13) tNil)))) rfl scLaw.nd (pi_tup (pv 10)) (blkOk_by (N := nLaw) (sc := defScope sLaw) (by decide +kernel)) (fun _ _ _ _ _ => (pg_name (i := 13) scLaw.nd rfl (.inl rfl))) (fun _ _ _ _ _ => pts_nil) (fun _ _ _ _ _ => (pe_ix ix_tup (pv 12) (pe_bmN PySem.F.slot_tuple_index PySem.F.type_tuple_index mt_tindex (pe_ix ix_tup (pv 5) pe_int fun _ _ => rfl) (pa_cons (pv 13) pa_nil)) fun _ _ => rfl))) pa_nil)) pa_nil)))))
        (pss_cons (ps_if (pt_not (pt_val (pe_callB (cr_all rfl) (by rfl) b.all (by decide +kernel) (pa_cons (pe_lc (own := [("_law_row", 14)]) (g := (gName 14)) (tt := tYes) (te := (tOp (rInD K) (tVar 14) (tOp (rIxL K) (tVar 7) (tVar 9)))) rfl scLaw.nd (pi_list (pv 11)) (blkOk_by (N := nLaw) (sc := defScope sLaw) (by decide +kernel)) (fun _ _ _ _ _ => (pg_name (i := 14) scLaw.nd rfl (.inl rfl))) (fun _ _ _ _ _ => pts_nil) (fun _ _ _ _ _ => (pe_cmpR (op_inD hu65) (pv 14) (pe_ix ix_list (pv 7) (pv 9) fun _ _ => rfl) rfl))) pa_nil))))
          (pss_one (ps_ret pe_bl))
          pss_nil)
        (C8.pss_cut (ps_if (PW.pt (pw_and (pt_val (pv 8)) (pw_and1 (pt_not (pt_val (pe_callB (cr_all rfl) (by rfl) b.all (by decide +kernel) (pa_cons (pe_lc (own := [("_law_row", 14)]) (g := (gName 14)) (tt := tYes) (te := (tOp (rInD K) (tVar 14) (tVar 11))) rfl scLaw.nd (pi_list (pe_ix ix_list (pv 7) (pv 9) fun _ _ => rfl)) (blkOk_by (N := nLaw) (sc := defScope sLaw) (by decide +kernel)) (fun _ _ _ _ _ => (pg_name (i := 14) scLaw.nd rfl (.inl rfl))) (fun _ _ _ _ _ => pts_nil) (fun _ _ _ _ _ => (pe_cmpR (op_inD hu65) (pv 14) (pv 11) rfl))) pa_nil)))))))
          (pss_one (ps_ret pe_bl))
          pss_nil)
        (pss_one (ps_if (pt_not (pt_val (pe_callB (cr_all rfl) (by rfl) b.all (by decide +kernel) (pa_cons (pe_lc (own := [("_law_row", 14)]) (g := (gName 14)) (tt := tYes) (te := (tOp (rInD K) (tVar 14) (tCall (spLetsBy C) [] E0 (tCons (tVar 3) (tCons (tVar 5) (tCons (tVar 9) tNil)))))) rfl scLaw.nd (pi_list (pe_ix ix_list (pv 7) (pv 9) fun _ _ => rfl)) (blkOk_by (N := nLaw) (sc := defScope sLaw) (by decide +kernel)) (fun _ _ _ _ _ => (pg_name (i := 14) scLaw.nd rfl (.inl rfl))) (fun _ _ _ _ _ => pts_nil) (fun _ _ _ _ _ => (pe_cmpR (op_inD hu65) (pv 14) (pe_call GLb hr7 rfl aLb.gl aLb.fn.kp aLb.bd .nil pass0 (pa_cons (pv 3) (pa_cons (pv 5) (pa_cons (pv 9) pa_nil)))) rfl))) pa_nil))))
          (pss_one (ps_ret pe_bl))
          pss_nil)))))))))))))))
    (pss_one (ps_ret pe_bl)))), ?_⟩
    refine ⟨_, rfl, a, ns, rfl, hS, hlen, fun bg H1 nbg B1 s1 => ?_⟩
    refine ⟨_, rfl, by omega, by omega, ?_⟩
    refine for_range (lo := 0) (n := 2) (fun i σ H' => (∃ v2 v3 v4 v5 v6 v7 v8 v9 v10 v11 v12 : Option V, σ = [some (.ref a), some (.ref bg), v2, v3, v4, v5, v6, v7, v8, v9, v10, v11, v12, none, none]) ∧ Bag H' bg) ⟨⟨_, _, _, _, _, _, _, _, _, _, _, rfl⟩, B1⟩ ?_ ?_
    · rintro i0 σ H2 hi ⟨⟨v2, v3, v4, v5, v6, v7, v8, v9, v10, v11, v12, rfl⟩, B2⟩
      refine ⟨_, rfl, bg, 3, 3, 5, rfl, B2, by decide, by decide, by decide, by decide, fun p bk pa m qa0 M f q0 H3 hp bka npa mat mo told qq0 ok0 fm0 nm30 _ few5 B3 k3 => ?_⟩
      refine ⟨p, _, rfl, SqT.of hp, rfl, _, _, rfl, _, _, rfl, _, _, rfl, rfl, ?_⟩
      have fewM := mo.few
      refine ⟨fun σ' H' => ∃ (qa : Addr) (q : Qn), σ' = [some (.ref a), some (.ref bg), some (.int (0 + (i0 : Nat))), some (.ref bk), some (.ref m), some (.ref qa), v6, v7, v8, v9, v10, v11, v12, none, none] ∧ QAt H' qa q ∧ QOk q ∧ FitsM M q.ties ∧ q.names.length ≤ 3 ∧ Bag H' bg ∧ Keep bg H3 H', ?_, ?_⟩
      · refine ⟨_, rfl, bg, 2, rfl, B3, by decide, by decide, fun d H4 d0 d5 B4 k4 => ⟨rfl, _, rfl, ?_⟩⟩
        have qq4 := qq0.moved (keep_tups k4 B3)
        refine ite2 (fun _ => ?_) (fun _ => ⟨qa0, q0, rfl, qq4, ok0, fm0, nm30, B4, k4⟩)
        obtain ⟨an, at', al, hqa, hq⟩ := id qq4
        refine ⟨_, rfl, _, rfl, rd_cut hqa fun q1 H5 t5 g1 => ?_⟩
        have g1 : H5 q1 = some (.tup [.ref an, .int q0.many, .ref at']) := g1
        refine ⟨by show 0 ≤ sizeLine; decide, fun e ne => ?_⟩
        have se := same_new (o := HO.tup []) ne
        have he := upd_same (H := H5) (a := e) (o := .tup [])
        generalize upd H5 e (.tup []) = H6 at se he ⊢
        refine ⟨by show 1 ≤ sizeLine; decide, fun e1 ne1 => ?_⟩
        have se1 := same_new (o := HO.tup [.ref e]) ne1
        have he1 := upd_same (H := H6) (a := e1) (o := .tup [.ref e])
        generalize upd H6 e1 (.tup [.ref e]) = H7 at se1 he1 ⊢
        refine ⟨q1, e1, _, _, rfl, rfl, SqT.of (se1 _ _ (se _ _ g1)), SqT.of he1, by show 4 ≤ sizeLine; decide, fun z => (by cases z), fun _ z => (by cases z), fun _ _ q2 nq2 => ?_⟩
        have s2 := same_new (o := HO.tup ([V.ref an, .int q0.many, .ref at'] ++ [V.ref e])) nq2
        have hq2 := upd_same (H := H7) (a := q2) (o := .tup ([V.ref an, .int q0.many, .ref at'] ++ [V.ref e]))
        generalize upd H7 q2 (.tup ([V.ref an, .int q0.many, .ref at'] ++ [V.ref e])) = H8 at s2 hq2 ⊢
        have s48 := t5.trans (se.trans (se1.trans s2))
        obtain ⟨ts, hts, ets⟩ := hq.ti
        have qq8 := qq4.moved (same_tups s48)
        obtain ⟨ts8, hts8, ets8⟩ : ∃ ts, H8 at' = some (.tup ts) ∧ Each (TieAt H8) ts q0.ties := ⟨ts, s48 _ _ hts, ets.mono fun v x ⟨a, c, e1, e2, e3⟩ => ⟨a, c, e1, s48 _ _ e2, e3.same s48⟩⟩
        exact ⟨q2, { q0 with less := [] }, rfl, ⟨an, at', e, hq2, hq.nm.same s48, ⟨ts8, hts8, ets8⟩, ⟨[], (se1.trans s2) _ _ he, .nil⟩⟩, ok_bare ok0, fm0, nm30, B4.same s48, k4.trans (Same.keep s48)⟩
      · rintro σ' H4 ⟨qa, q, rfl, qq4, ok, fm, nm3, B4, k34⟩
        have t1 := ok.t1
        have t6 := ok.t6
        have mat4 := mat.keep B3 k34
        have bka4 := bka.keep B3 npa k34
        have fit := fits_of told fm
        have ex : ∃ (Ls L0 : Nat → List (List Nat)), letAt M q Ls ∧ (∀ i tie rs, q.ties[i]? = some tie → (tie.1, tie.2.length, rs) ∈ M → (L0 i).Perm (letM tie.2 (ownZ q i) rs)) ∧ (∀ i, Sorted (L0 i)) ∧ (∀ i r, r ∈ L0 i ↔ r ∈ Ls i) := ⟨LsM M q, fun i => sortM (LsM M q i), let_at mo q, fun i tie rs et mM => by
          rw [← let_at mo q i tie rs et mM]
          exact sortM_perm _, fun i => sortM_sorted _, fun i r => (sortM_perm _).mem_iff⟩
        obtain ⟨Ls, L0, hL, lf1, srt, memL⟩ := ex
        have okL := let_okR mo fm hL
        have okL0 : ∀ i, i < q.ties.length → ∀ r ∈ L0 i, RowOk (ownZ q i).length r := fun i hi r mr => okL i hi r ((memL i r).mp mr)
        have lf2 : LetsF f q L0 := fun i tie et => by
          obtain ⟨rs, mM⟩ := fm tie (List.mem_of_getElem? et)
          obtain ⟨ss, hft, pms, _⟩ := told_at mo told mM
          exact ⟨(tie.2.length, ss), hft, rfl, fun r mr => mo.row _ mM r (pms.mem_iff.mp mr), pms.nodup_iff.mpr (mo.one _ mM), by show ss.length ≤ 40; rw [pms.length_eq]; exact mo.len _ mM, (lf1 i tie rs et mM).trans (let_perm pms.symm), srt i⟩
        have Bn : 5 ^ q.names.length ≤ 900 := Nat.le_trans (Nat.pow_le_pow_right (by decide) nm3) (by decide)
        refine ⟨_, rfl, _, rfl, m, qa, M, q, Ls, 5, rfl, mat4, mo, qq4, ok, fm, hL, few5, by decide, by decide, Bn, fun fp us pts H5 nfp s5 hfp ro mem ris b32 l900 => ?_⟩
        refine ⟨_, rfl, _, rfl, bk, pa, qa, 2 * M.length, 0, M.length, f, q, L0, rfl, bka4.same s5, by omega, qq4.moved (same_tups s5), ok, fit, lf2, fun pl ul Lf H6 npl s6 hpl nol el lLf atLf => ?_⟩
        have s46 := s5.trans s6
        have qq6 := qq4.moved (same_tups s46)
        obtain ⟨an, at', al, hqa, hq⟩ := id qq6
        obtain ⟨ts, hts, ets⟩ := hq.ti
        obtain ⟨ls, hls, els⟩ := hq.le
        have elt := ets.len
        have hfp6 := s6 _ _ hfp
        have ro6 := ro.same s6
        refine ⟨fun σ' H' => ∃ hb : Bool, σ' = [some (.ref a), some (.ref bg), some (.int (0 + (i0 : Nat))), some (.ref bk), some (.ref m), some (.ref qa), some (.ref fp), some (.ref pl), some (.bl hb), v9, v10, v11, v12, none, none] ∧ Same H6 H' ∧ (hb = true → (earsM (nmsQ q)).1 = [] ∧ q.less = []), ?_, ?_⟩
        · refine ⟨_, rfl, qa, q, rfl, qq6, ok, fun pe le H7 npe nle s7 ea => ?_⟩
          rcases ea with ⟨tr, hpe, _⟩ | ⟨_, hpe, _⟩
          · refine ⟨pe, _, _, _, rfl, rfl, SqT.of hpe, atI_nat (j := 0) rfl, rfl, _, rfl, ?_⟩
            rw [decide_eq_true rfl]
            refine iteT ⟨_, rfl, qa, _, _, _, rfl, rfl, SqT.of (s7 _ _ hqa), atI_nat (j := 3) rfl, by show 0 ≤ sizeLine; decide, fun e ne => ?_⟩
            have se := same_new (o := HO.tup []) ne
            have dp : DpAll K (upd H7 e (.tup [])) ls (q.less.map pairD) := pairs_dp (els.mono fun v x ⟨a, e1, e2⟩ => ⟨a, e1, (s7.trans se) _ _ e2⟩)
            refine ⟨.tuple (q.less.map pairD), .tuple [], .tup (SqT.of ((s7.trans se) _ _ hls)) dp, .tup (SqT.of upd_same) .nil, (lay_pairs ok.nm fun p mp => ⟨(ok.ll p mp).1, (ok.ll p mp).2.1⟩).shaped (by decide), by decide +kernel, _, rfl, s7.trans se, fun h => ⟨tr, ?_⟩⟩
            rw [show PyData.eqv (.tuple (q.less.map pairD)) (.tuple []) = decide (q.less = []) by cases q.less <;> rfl] at h
            exact of_decide_eq_true h
          · refine ⟨pe, _, _, _, rfl, rfl, SqT.of hpe, atI_nat (j := 0) rfl, rfl, _, rfl, ?_⟩
            rw [decide_eq_false (by decide +kernel)]
            exact iteF ⟨false, rfl, s7, fun h => by cases h⟩
        · rintro σ' H7 ⟨hb, rfl, s7, hbt⟩
          have s47 := s46.trans s7
          refine ⟨_, rfl, qa, _, _, _, rfl, rfl, SqT.of (s7 _ _ hqa), atI_nat (j := 2) rfl, at', _, rfl, .inr (SqT.of (s7 _ _ hts)), _, rfl, by omega, by omega, ?_⟩
          rw [show ((ts.length : Nat) : Int).toNat = q.ties.length by rw [elt]; rfl]
          refine for_range (lo := 0) (n := q.ties.length) (fun i σ H' => (∃ v9 v10 v11 v12 : Option V, σ = [some (.ref a), some (.ref bg), some (.int (0 + (i0 : Nat))), some (.ref bk), some (.ref m), some (.ref qa), some (.ref fp), some (.ref pl), some (.bl hb), v9, v10, v11, v12, none, none]) ∧ Same H7 H') ⟨⟨_, _, _, _, rfl⟩, Same.refl _⟩ ?_ ?_
          · rintro t σ H8 ht ⟨⟨v9, v10, v11, v12, rfl⟩, s8⟩
            rw [Int.zero_add]
            have s68 := s7.trans s8
            have s48 := s46.trans s68
            have et : q.ties[t]? = some q.ties[t] := List.getElem?_eq_getElem ht
            have mt : q.ties[t] ∈ q.ties := List.getElem_mem ht
            generalize q.ties[t] = tie at et mt
            obtain ⟨rs, mM⟩ := fm tie mt
            obtain ⟨ss, hft, pms, _⟩ := told_at mo told mM
            have lets : ∀ r, r ∈ lessM q q.ties.length L0 t → r ∈ letM tie.2 (ownZ q t) ss := fun r mr => (let_perm pms.symm).mem_iff.mp ((lf1 t tie rs et mM).mem_iff.mp (List.mem_filter.mp mr).1)
            have rowok : ∀ r ∈ ss, RowOk tie.2.length r := fun r mr => mo.row _ mM r (pms.mem_iff.mp mr)
            have ndS : ss.Nodup := pms.nodup_iff.mpr (mo.one _ mM)
            have lS : ss.length ≤ 40 := by rw [pms.length_eq]; exact mo.len _ mM
            have fitp : ∀ ns ∈ pts, ∀ i, i < q.ties.length → ownP q i ns ∈ L0 i := fun ns mn i hi => by
              have h := (mem ns).mp mn
              exact (memL i _).mpr ((pfx_all ok (fun i li r mr => (okL i li r mr).1) h.1.1).mp h.1.2 i hi)
            obtain ⟨vl, evl, la, lu, rfl, _, hla, rol⟩ := el.at_ (List.getElem?_eq_getElem (by omega : t < Lf.length))
            have eLt : Lf[t]'(by omega) = lessM q q.ties.length L0 t := by
              rw [← atLf t ht]
              unfold atL
              rw [List.getD_eq_getElem?_getD, List.getElem?_eq_getElem (by omega : t < Lf.length)]
              rfl
            rw [eLt] at rol
            have c40 : (lessM q q.ties.length L0 t).length ≤ 40 := by
              refine Nat.le_trans (List.length_filter_le _ _) ?_
              rw [(lf1 t tie rs et mM).length_eq]
              exact Nat.le_trans (List.length_filterMap_le _ _) (mo.len _ mM)
            refine ⟨_, rfl, _, rfl, qa, q, t, rfl, qq6.moved (same_tups s68), ok, ht, fun pn H9 npn s9 hn => ?_⟩
            refine ⟨by show 0 ≤ sizeLine; decide, fun W nW => ?_⟩
            have sW := same_new (o := HO.lst []) nW
            have hW := upd_same (H := H9) (a := W) (o := .lst [])
            generalize upd H9 W (.lst []) = H10 at sW hW ⊢
            have s69 := s68.trans s9
            have hfp9 := s69 _ _ hfp6
            have ro9 := ro6.same s69
            have l5 : (ownZ q t).length ≤ 5 := Nat.le_trans (List.length_filter_le _ _) ok.n5
            have Wfp : W ≠ fp := fun e => by
              rw [e, hfp9] at nW
              cases nW
            refine ⟨_, rfl, fp, rfl, ⟨_, SqL.of (sW _ _ hfp9)⟩, ?_⟩
            refine for_list (xs := us) (fun j σ H' => ∃ (ks : List V) (v12 : Option V), σ = [some (.ref a), some (.ref bg), some (.int (0 + (i0 : Nat))), some (.ref bk), some (.ref m), some (.ref qa), some (.ref fp), some (.ref pl), some (.bl hb), some (.int (t : Nat)), some (.ref pn), some (.ref W), v12, none, none] ∧ Same H9 H' ∧ H' W = some (.lst ks) ∧ Rows H' ks ((pts.take j).map (ownP q t)))
              ⟨[], _, rfl, sW, hW, .nil⟩ (fun j σ H' _ ⟨_, _, _, z, _⟩ => SqL.of (z _ _ hfp9)) ?_ ?_
            · rintro j x σ H11 hx ⟨ks, v12, rfl, s11, hW11, rok⟩
              obtain ⟨ap, pt, rfl, ep, hap⟩ := (ro9.same s11).get hx
              have mp := List.mem_of_getElem? ep
              have lpt : pt.length = q.names.length := ((mem pt).mp mp).1.1
              have lj : j < pts.length := (List.getElem?_eq_some_iff.mp ep).1
              have s611 := s69.trans s11
              refine ⟨_, rfl, .inl ⟨rfl, _, SqL.of hW11⟩, _, rfl, pn, rfl, ⟨_, SqT.of (s11 _ _ hn)⟩, fun D hD => ?_⟩
              refine lc_tupS (xs := (ownZ q t).map V.str) (fun n acc _ => acc = ((ownZ q t).take n).map fun z => numV (ptW q pt z)) hD (SqT.of (s11 _ _ hn)) (by rw [List.length_map]; omega) (fun _ _ _ _ _ h => h) rfl ?_ ?_
              · rintro n x acc H12 hx' s12 h12 rfl k1 k2 y1 y2
                obtain ⟨z, ez, rfl⟩ := map_get hx'
                have mn : z ∈ q.names := (List.mem_filter.mp (List.mem_of_getElem? ez)).1
                have lz := List.idxOf_lt_length_of_mem mn
                have s612 := s611.trans s12
                have nm12 := hq.nm.same s612
                refine ⟨rfl, yes_turn ⟨_, rfl, _, rfl, qa, _, _, _, rfl, rfl, SqT.of (s612 _ _ hqa), atI_nat (j := 0) rfl, ⟨an, _, rfl, nm12⟩, _, rfl, an, q.names.map V.str, .str z, q.names.idxOf z, .str z, rfl, rfl, nm12.sq, rfl, strs_flat _, at_idx mn, beq_self_eq_true z, no_idx mn, ?_⟩⟩
                refine ⟨ap, _, _, _, rfl, rfl, SqT.of (s12 _ _ hap), atI_nat (j := q.names.idxOf z) (v := numV (ptW q pt z)) (by
                  unfold ptW
                  rw [List.getElem?_map, getD_get (d := 0) (by omega)]
                  rfl), y1 _ _ (Same.refl _) ?_⟩
                rw [take_one_more ez, List.map_append]
                rfl
              · rintro acc H12 s12 h12 rfl
                rw [List.length_map, List.take_length, show ((ownZ q t).map fun z => numV (ptW q pt z)) = (ownP q t pt).map numV by rw [ownP_eq, List.map_map]; rfl] at h12
                refine ⟨D, _, rfl, .inl ⟨SqL.of h12, fun T nT => ?_⟩⟩
                have sT := same_new (o := HO.tup ((ownP q t pt).map numV)) nT
                have hT := upd_same (H := H12) (a := T) (o := .tup ((ownP q t pt).map numV))
                generalize upd H12 T (.tup ((ownP q t pt).map numV)) = H13 at sT hT ⊢
                have s1113 := s12.trans sT
                have hW13 := s1113 _ _ hW11
                refine ⟨W, _, _, rfl, rfl, hW13, lt_line ?_, ks ++ [.ref T], _, rfl, same_put (s11.trans s1113) nW, upd_same, ?_⟩
                · rw [rok.len, List.length_map, List.length_take]
                  omega
                · rw [take_one_more ep, List.map_append]
                  exact ((rok.same s1113).moved (tups_lst hW13).1).snoc ((tups_lst hW13).1 _ _ hT)
            · rintro σ H11 ⟨ks, v12, rfl, s11, hW11, rok⟩
              rw [ro9.len, List.take_length] at rok
              have s611 := s69.trans s11
              have hpl11 := s611 _ _ hpl
              have hla11 := s611 _ _ hla
              have rol11 := rol.same s611
              have trues : ∀ (n : Nat), ((List.replicate n true).all id) = true := fun n => by
                rw [List.all_eq_true]
                intro x mx
                rw [(List.mem_replicate.mp mx).2]
                rfl
              refine ⟨_, rfl, W, rfl, ⟨_, SqL.of hW11⟩, fun D hD => ?_⟩
              refine lc_listS (xs := ks) (fun n acc _ => acc = (List.replicate n true).map V.bl) hD (SqL.of hW11) (by rw [rok.len, List.length_map]; omega) (fun _ _ _ _ _ h => h) rfl ?_ ?_
              · rintro n x acc H12 hx s12 h12 rfl k1 k2 y1 y2
                obtain ⟨ar, r, rfl, er, har⟩ := (rok.same s12).get hx
                obtain ⟨ns, mn, rfl⟩ := List.mem_map.mp (List.mem_of_getElem? er)
                refine ⟨rfl, yes_turn ⟨_, rfl, _, rfl, _, rfl, pl, _, _, _, rfl, rfl, SqL.of (s12 _ _ hpl11), atI_nat evl, rowD (ownP q t ns), (lessM q q.ties.length L0 t).map rowD, .tup (SqT.of har) (dp_nums _), .lst (SqL.of (s12 _ _ hla11)) (rol11.same s12).dp, (lay_row _).shaped (by decide), (lay_rows _).shaped (by decide), y1 _ _ (Same.refl _) ?_⟩⟩
                rw [eqv_rows_any, decide_eq_true (fits_less (fitp ns mn) ht), List.replicate_succ', List.map_append]
                rfl
              · rintro acc H12 s12 h12 rfl
                refine ⟨D, List.replicate ks.length true, rfl, SqL.of h12, _, rfl, ?_⟩
                rw [trues]
                refine iteF ?_
                have s612 := s611.trans s12
                have hW12 := s12 _ _ hW11
                have rok12 := rok.same s12
                have s712 := s8.trans (s9.trans (s11.trans s12))
                refine ⟨fun σ' H' => σ' = [some (.ref a), some (.ref bg), some (.int (0 + (i0 : Nat))), some (.ref bk), some (.ref m), some (.ref qa), some (.ref fp), some (.ref pl), some (.bl hb), some (.int (t : Nat)), some (.ref pn), some (.ref W), v12, none, none] ∧ Same H12 H', ?_, ?_⟩
                · refine ⟨_, rfl, _, rfl, ?_⟩
                  cases hb with
                  | false => exact iteF ⟨rfl, Same.refl _⟩
                  | true =>
                    obtain ⟨tr, le0⟩ := hbt rfl
                    have inm : ∀ r, r ∈ lessM q q.ties.length L0 t → r ∈ pts.map (ownP q t) := fun r mr => by
                      obtain ⟨ns, ln, e, al⟩ := tree_fits ok okL0 tr ht mr
                      refine List.mem_map.mpr ⟨ns, (mem ns).mpr ⟨⟨ln, (pfx_all ok (fun i li r mr => (okL i li r mr).1) ln).mpr fun i hi => (memL i _).mp (al i hi)⟩, ?_⟩, e⟩
                      unfold keepsB
                      rw [le0]
                      rfl
                    refine iteT ⟨_, rfl, _, rfl, pl, _, _, _, rfl, rfl, SqL.of (s612 _ _ hpl), atI_nat evl, la, rfl, ⟨_, SqL.of (s612 _ _ hla)⟩, fun D2 hD2 => ?_⟩
                    refine lc_listS (xs := lu) (fun n acc _ => acc = (List.replicate n true).map V.bl) hD2 (SqL.of (s612 _ _ hla)) (by rw [rol.len]; omega) (fun _ _ _ _ _ h => h) rfl ?_ ?_
                    · rintro n x acc H13 hx s13 h13 rfl k1 k2 y1 y2
                      obtain ⟨ar, r, rfl, er, har⟩ := ((rol.same s612).same s13).get hx
                      refine ⟨rfl, yes_turn ⟨_, rfl, _, rfl, rowD r, (pts.map (ownP q t)).map rowD, .tup (SqT.of har) (dp_nums _), .lst (SqL.of (s13 _ _ hW12)) (rok12.same s13).dp, (lay_row _).shaped (by decide), (lay_rows _).shaped (by decide), y1 _ _ (Same.refl _) ?_⟩⟩
                      rw [eqv_rows_any, decide_eq_true (inm r (List.mem_of_getElem? er)), List.replicate_succ', List.map_append]
                      rfl
                    · rintro acc H13 s13 h13 rfl
                      refine ⟨D2, List.replicate lu.length true, rfl, SqL.of h13, _, rfl, ?_⟩
                      rw [trues]
                      exact iteF ⟨rfl, s13⟩
                · rintro σ' H13 ⟨rfl, s13⟩
                  have s613 := s612.trans s13
                  have s413 := s46.trans s613
                  refine ⟨_, rfl, _, rfl, pl, _, _, _, rfl, rfl, SqL.of (s613 _ _ hpl), atI_nat evl, la, rfl, ⟨_, SqL.of (s613 _ _ hla)⟩, fun D3 hD3 => ?_⟩
                  refine lc_listS (xs := lu) (fun n acc _ => acc = (List.replicate n true).map V.bl) hD3 (SqL.of (s613 _ _ hla)) (by rw [rol.len]; omega) (fun _ _ _ _ _ h => h) rfl ?_ ?_
                  · rintro n x acc H14 hx s14 h14 rfl k1 k2 y1 y2
                    obtain ⟨ar, r, rfl, er, har⟩ := ((rol.same s613).same s14).get hx
                    have s414 := s413.trans s14
                    refine ⟨rfl, yes_turn ⟨_, rfl, _, rfl, _, rfl, _, rfl, bk, pa, qa, 2 * M.length, 0, M.length, f, q, t, tie, (tie.2.length, ss), rfl, bka4.same s414, by omega, qq4.moved (same_tups s414), ok, fit, et, hft, rowok, ndS, lS, fun pz uz sz H15 npz s15 hpz roz pmz _ => ?_⟩⟩
                    refine ⟨rowD r, sz.map rowD, .tup (SqT.of (s15 _ _ har)) (dp_nums _), .lst (SqL.of hpz) roz.dp, (lay_row _).shaped (by decide), (lay_rows _).shaped (by decide), y1 _ _ s15 ?_⟩
                    rw [eqv_rows_any, decide_eq_true (pmz.mem_iff.mpr (lets r (List.mem_of_getElem? er))), List.replicate_succ', List.map_append]
                    rfl
                  · rintro acc H14 s14 h14 rfl
                    refine ⟨D3, List.replicate lu.length true, rfl, SqL.of h14, _, rfl, ?_⟩
                    rw [trues]
                    exact iteF ⟨⟨_, _, _, _, rfl⟩, s712.trans (s13.trans s14)⟩
          · rintro σ H8 ⟨⟨v9, v10, v11, v12, rfl⟩, s8⟩
            exact ⟨⟨_, _, _, _, _, _, _, _, _, _, _, rfl⟩, (B4.same s47).same s8⟩
    · rintro σ H2 ⟨⟨v2, v3, v4, v5, v6, v7, v8, v9, v10, v11, v12, rfl⟩, B2⟩
      exact k _
theorem law_whole {f fB : Addr} {fd fdB : FuncData} {kt kr : Tok} (F : Fun K "law" "law" sLaw f fd) (b : Blt mg) (W : Wq K mg aB) (any : mg "any" = none) (en : mg "enumerate" = none) (so : mg "sorted" = none) (zp : mg "zip" = none) (di : mg "dict" = none) (Wta : mg "MOST_TABLES" = some (.int 8 kt)) (Wro : mg "MOST_ROWS" = some (.int 40 kr))
    (aBg : At K mg "_law_bag" sBag ["_law_script"] fB fdB) (BE : BookE w K mg C) (WE : WorldE K mg) (JE : JudgeE K mg)
    (own : AtE K mg "_law_own" sLawOwn ["_law_question", "_law_tie"]) (lt : AtE K mg "_law_let" sLawLet ["_law_model", "_law_question", "_law_tie"]) (op : AtE K mg "own_places" sOwnPlaces ["question", "tie"]) (on : AtE K mg "own_names" sOwnNames ["question", "tie"]) (oo : AtE K mg "own_worths" sOwnWorths ["terms", "row"])
    (nf : AtE K mg "need_fit" sNeedFit ["book", "question"]) (lb : AtE K mg "lets_by" sLetsBy ["book", "question", "tie"]) (pi : AtE K mg "picked" sPicked ["things", "places"]) (ag : AtE K mg "agreeing" sAgreeing ["rows", "places", "others", "other_places"]) (le : AtE K mg "lessened" sLessened ["book", "question"])
    (cn : AtE K mg "common_names" sCommonNames ["names", "left", "tie"]) (ne : AtE K mg "next_ear" sNextEar ["names", "left"]) (ea : AtE K mg "ears" sEars ["question"]) (ke : AtE K mg "_law_keeps" sLawKeeps ["_law_question", "_law_point"]) (nx : AtE K mg "_law_next" sLawNext ["_law_model", "_law_question", "_law_done", "_law_point"])
    (ps : AtE K mg "_law_points" sLawPoints ["_law_model", "_law_question"]) :
    FnOk P w K mg base CX0 12 f fd ["_law_script"] (spLawN K) := by
  obtain ⟨kl, Wml⟩ := W.ml
  obtain ⟨kw, Wmw⟩ := W.mw
  have J : JudgeOk P w K mg base := judge_all b W JE
  have B : BookOk P w K mg base C := book_all b so W.set Wml Wmw Wta Wro J.nm J.nu J.wo BE
  have D : WorldOk P w K mg base C := world_all b any B.cp WE
  obtain ⟨fWi, fdWi, mWi, bWi, GWi⟩ := B.wid
  obtain ⟨fRo, fdRo, mRo, bRo, GRo⟩ := B.row
  have hOp := has_ownp (P := P) (w := w) (base := base) en op
  have hOn := has_ownn b J.nq hOp on
  have hNf := has_needfit b en BE.cl J.nq mWi bWi GWi nf
  have hLb := has_letsby b so BE.cl hNf hOn (has_ownw b zp oo) mRo bRo GRo lb
  have hOw := has_ownL (P := P) (w := w) (base := base) b own
  have hLt := has_let b so zp di hOw lt
  have hPi := has_picked (P := P) (w := w) (base := base) b pi
  have hLe := has_less b hNf hLb hOp (has_agree b hPi ag) le
  have hKe := has_keeps (P := P) (w := w) (base := base) b zp di ke
  have hPs := has_points b (has_next b so W.set hOw hLt nx) hKe ps
  have hCn := has_common (P := P) (w := w) (base := base) any cn
  have hEa := has_ears b J.nq hOn (has_nextear b hCn ne) ea
  exact ok_law F b ⟨_, _, aBg, ok_bag aBg.fn b.list⟩ D.wd D.pl hPs hLe hEa hOn hLb
end
end VQ
namespace VQ
open PySem L2 LamX
/-! ### what the top has left -/
def oexB (K : PySem.W.Frag) (C : Addr) : Bool := match K.lookup C with
  | some ⟨cl, _, .cls cd, sl⟩ => decide (cl = .type "type") && (match cd.mro with
    | top :: bm => decide (top = .ref C) && PySem.HandSPX.refsVE bm
    | [] => false) && decide (sl.size = 6) && decide (sl[4]? = some (some (.builtin "ValueError.__new__"))) && cd.hasDict && !cd.hasDel
  | _ => false
theorem six {sl : Array (Option Value)} {v : Option Value} (h : sl.size = 6) (e : sl[4]? = some v) : ∃ k0 k1 k2 k3 k5, sl = #[k0, k1, k2, k3, v, k5] := by
  obtain ⟨l⟩ := sl
  match l, h, e with
  | [k0, k1, k2, k3, k4, k5], _, e =>
    cases e
    exact ⟨k0, k1, k2, k3, k5, rfl⟩
theorem oexB_ok {K : PySem.W.Frag} {C : Addr} (q : oexB K C = true) : ∃ nm q N bs bm sn sub ab col dd k0 k1 k2 k3 k5, K.lookup C = some (excClassObj nm q C N bs bm true sn sub ab col dd k0 k1 k2 k3 k5 "ValueError.__new__") ∧ PySem.HandSPX.refsVE bm = true := by
  unfold oexB at q
  cases here : K.lookup C with
  | none => rw [here] at q; cases q
  | some o =>
    obtain ⟨cl, dc, dt, sl⟩ := o
    rw [here] at q
    cases dt with
    | cls cd =>
      obtain ⟨nm, bs, mro, ns, qn, hasD, sn, sub, ab, col, del⟩ := cd
      cases mro with
      | nil => simp at q
      | cons first bm =>
        simp only [Bool.and_eq_true, decide_eq_true_eq, Bool.not_eq_true'] at q
        obtain ⟨⟨⟨⟨⟨q1, q2, q3⟩, q4⟩, q5⟩, q6⟩, q7⟩ := q
        obtain ⟨k0, k1, k2, k3, k5, rfl⟩ := six q4 q5
        subst q1 q2 q6 q7
        exact ⟨nm, qn, ns, bs, bm, sn, sub, ab, col, dc, k0, k1, k2, k3, k5, rfl, q3⟩
    | _ => cases q
/-- an error class of the program: made by its own __init__, its field called -/
def errB (K : PySem.W.Frag) (x : Str) : Bool := oexB K (He.ga K x) && (decide (PySem.W.findIn K (.ref (He.ga K x)) "__setattr__" = some (some (.builtin "object.__setattr__"))) &&
  (decide (PySem.W.subIn K (.ref (He.ga K x)) (.type "BaseException") = some true) && (decide (PySem.W.typeIn K (.ref (He.ga K x)) = some (.type "type")) && (PySem.W.keepIn K (.ref (He.ga K x)) &&
  (decide (PySem.W.findIn K (.ref (He.ga K x)) "__init__" = some (some (.ref (He.ma K (He.ga K x) "__init__")))) && (decide (PySem.W.typeIn K (.ref (He.ma K (He.ga K x) "__init__")) = some (.type "function")) &&
  decide (PySem.W.findIn K (.ref (He.ga K x)) "called" = some none)))))))
theorem errB_ok {K : PySem.W.Frag} {mg : Str → Option Value} {x qual : Str} {st : Stmt} {fd : FuncData} (h : errB K x = true) (gl : mg x = some (.ref (He.ga K x))) (fn : Fun K "__init__" qual st (He.ma K (He.ga K x) "__init__") fd) (bd : Binds K fd ["self"] []) :
    ErrC K mg x (He.ga K x) (He.ma K (He.ga K x) "__init__") fd qual st := by
  obtain ⟨h1, h⟩ := He.ba h
  obtain ⟨h2, h⟩ := He.ba h
  obtain ⟨h3, h⟩ := He.ba h
  obtain ⟨h4, h⟩ := He.ba h
  obtain ⟨h5, h⟩ := He.ba h
  obtain ⟨h6, h⟩ := He.ba h
  obtain ⟨h7, h8⟩ := He.ba h
  exact ⟨gl, ⟨oexB_ok h1, of_decide_eq_true h2, of_decide_eq_true h3, of_decide_eq_true h4, h5⟩, of_decide_eq_true h6, of_decide_eq_true h7, of_decide_eq_true h8, fn, bd⟩
theorem fun_of_D {K : PySem.W.Frag} {x qual : Str} {st : Stmt} {f : Addr} {fd : FuncData} (F : FunD K x qual (defArgs st) (defBody st) (defScope st) [] [] f fd) : Fun K x qual st f fd := by
  obtain ⟨oc, od, dV, kV, doc, pm, an, cdv, ct, osl, e, lk, cd, dv, kw⟩ := F.ex
  rcases dv with ⟨_, rfl⟩ | ⟨z, _⟩
  · exact ⟨⟨oc, od, kV, doc, pm, an, cdv, ct, osl, e, lk, cd⟩, F.kp⟩
  · exact absurd rfl z
/-- a def of the top -/
def dd (x : Str) (st : Stmt) : He.DefD := ⟨(x, none), x, x, defArgs st, defBody st, defScope st, [], []⟩
def dm (c m q : Str) (st : Stmt) : He.DefD := ⟨(c, some m), m, q, defArgs st, defBody st, defScope st, [], []⟩
end VQ
namespace VQ
open PySem L2 LamX
/-! ### a class of the program as the top has left it -/
def clsB (K : PySem.W.Frag) (x : Str) : Bool := PySem.W.plainGet K (He.ga K x) Str.empty && (PySem.W.hasDictIn K (He.ga K x) && (PySem.W.plainOver K (He.ga K x) && decide (PySem.W.findIn K (.ref (He.ga K x)) "__setattr__" = some (some (.builtin "object.__setattr__")))))
theorem clsB_ok {K : PySem.W.Frag} {x : Str} (h : clsB K x = true) : Cls K (He.ga K x) := by
  obtain ⟨h1, h⟩ := He.ba h
  obtain ⟨h2, h⟩ := He.ba h
  obtain ⟨h3, h4⟩ := He.ba h
  exact ⟨h1, h2, h3, of_decide_eq_true h4⟩
def noB (K : PySem.W.Frag) (x f : Str) : Bool := decide (PySem.W.findIn K (.ref (He.ga K x)) f = some none)
theorem noB_ok {K : PySem.W.Frag} {x f : Str} (h : noB K x f = true) : NoAttr K (He.ga K x) f := by
  show PySem.W.findIn K (.ref (He.ga K x)) f = some none
  exact of_decide_eq_true h
def methB (K : PySem.W.Frag) (x m : Str) : Bool := decide (PySem.W.findIn K (.ref (He.ga K x)) m = some (some (.ref (He.ma K (He.ga K x) m)))) && (PySem.W.isFn K (.ref (He.ma K (He.ga K x) m)) && PySem.W.keepIn K (.ref (He.ma K (He.ga K x) m)))
theorem methB_ok {K : PySem.W.Frag} {x m : Str} (h : methB K x m = true) : Meth K (He.ga K x) m (He.ma K (He.ga K x) m) := by
  obtain ⟨h1, h⟩ := He.ba h
  obtain ⟨h2, h3⟩ := He.ba h
  exact ⟨of_decide_eq_true h1, h2, h3⟩
def mkB (K : PySem.W.Frag) (x : Str) : Bool := PySem.W.makesIn K (He.ga K x) && (decide (PySem.W.findIn K (.ref (He.ga K x)) "__init__" = some (some (.ref (He.ma K (He.ga K x) "__init__")))) && (PySem.W.isFn K (.ref (He.ma K (He.ga K x) "__init__")) && PySem.W.keepIn K (.ref (He.ga K x))))
theorem mkB_ok {K : PySem.W.Frag} {x : Str} (h : mkB K x = true) : Mk K (He.ga K x) (He.ma K (He.ga K x) "__init__") := by
  obtain ⟨h1, h⟩ := He.ba h
  obtain ⟨h2, h⟩ := He.ba h
  obtain ⟨h3, h4⟩ := He.ba h
  exact ⟨h1, of_decide_eq_true h2, h3, h4⟩
end VQ
namespace VQ
open PySem L2 LamX
/-- a table of the top: its keys, its values -/
theorem tab_ok {K : PySem.W.Frag} {w : World} {x : Str} {kvs : List (Str × He.Dv)} (kd : ∃ es n, KDict K w (He.ga K x) es n) (hv : He.valsB K (He.ga K x) kvs = true) (hk : keysB K (He.ga K x) (kvs.map (·.1)) = true) : TabK K w (He.ga K x) (kvs.map fun q => (q.1, He.Dv.v K q.2)) := by
  refine ⟨kd, fun p mp => ?_, fun z nz => keysB_no hk (fun m => nz ?_)⟩
  · obtain ⟨q, mq, rfl⟩ := List.mem_map.mp mp
    exact He.valsB_ok hv mq
  · rw [List.map_map]
    exact m
end VQ
namespace VQ
open PySem L2
/-! ### the head's run in parts, over a list of addresses that is cheap to make -/
/-- what the names reach in n steps: all so far, the last step's -/
def asL (g : Addr → Option Obj) : Nat → List Addr × List Addr
  | 0 => ([mainGlobals], [mainGlobals])
  | n + 1 => match asL g n with
    | (all, last) => match (last.flatMap fun a => match g a with
        | some o => He.refsD o
        | none => []) with
      | nx => (all ++ nx, nx)
def frL (n : Nat) (g : Addr → Option Obj) : PySem.W.Frag := He.frG g (asL g n).1
section
variable {n : Nat} {fa : List He.Fa} {fn : List He.DefD} {ts : List He.Tab} {ex : PySem.W.Frag → Bool} {g : Addr → Option Obj}
def obsL (n : Nat) (fa : List He.Fa) (fn : List He.DefD) (ts : List He.Tab) (ex : PySem.W.Frag → Bool) (g : Addr → Option Obj) : He.AlX := (He.obsT fa fn ts (frL n g), ex (frL n g))
def hookL (n : Nat) (fa : List He.Fa) (fn : List He.DefD) (ts : List He.Tab) (ex : PySem.W.Frag → Bool) : PySem.W.Hook where
  α := He.AlX
  obs := fun s => obsL n fa fn ts ex s.heap.get?
  val := fun w => He.valX fn ts w
  says := fun w h => ∃ K : PySem.W.Frag, K.In h ∧ He.SaysX fa fn ts [] ex w h K
  of := fun _ _ e => ⟨_, He.frG_in, ⟨congrArg (fun z : He.AlX => z.1) e, congrArg (fun z : He.AlX => z.2) e, (fun _ m => nomatch m), (fun _ m => nomatch m), (fun _ m => nomatch m)⟩⟩
  keeps := fun _ _ _ ⟨K, hK, c⟩ k => ⟨K, PySem.W.Frag.In.keeps hK k, ⟨c.t, c.more, (fun _ m => nomatch m), (fun _ m => nomatch m), (fun _ m => nomatch m)⟩⟩
theorem obsL_eq {s : Shared} (h : ∀ a, g a = s.heap.get? a) : obsL n fa fn ts ex g = (hookL n fa fn ts ex).obs s := by
  rw [show g = s.heap.get? from funext h]
  rfl
def obs1 (n : Nat) (fn : List He.DefD) (g : Addr → Option Obj) : Bool × List He.FnW := (fn.all fun d => d.ok (frL n g), fn.map fun d => He.fnW (frL n g) d.at_)
def obs2 (n : Nat) (fa : List He.Fa) (ts : List He.Tab) (ex : PySem.W.Frag → Bool) (g : Addr → Option Obj) : Bool × List (Option (List (Option (Str × Int)))) × Bool := (fa.all fun f => f.ok (frL n g), ts.map (fun t => He.dicW (frL n g) (t.1 (frL n g))), ex (frL n g))
theorem obs_parts {fv : List He.FnW} {tv : List (Option (List (Option (Str × Int))))} (h1 : obs1 n fn g = (true, fv)) (h2 : obs2 n fa ts ex g = (true, tv, true)) : obsL n fa fn ts ex g = (((true, fv), tv), true) := by
  have a1 := congrArg (·.1) h1
  have a2 := congrArg (·.2) h1
  have b1 := congrArg (·.1) h2
  have b2 := congrArg (·.2.1) h2
  have b3 := congrArg (·.2.2) h2
  exact congr (congrArg Prod.mk (congr (congrArg Prod.mk (congr (congrArg Prod.mk (congr (congrArg and b1) a1)) a2)) b2)) b3
theorem parts_of {σ α β : Type} {o : Option σ} {F : σ → α × β} {G : σ → Addr → Option Obj} {v : α × β} {fv : List He.FnW} {tv : List (Option (List (Option (Str × Int))))} (a : o.map F = some v) (b : o.map (fun s => obs1 n fn (G s)) = some (true, fv)) (c : o.map (fun s => obs2 n fa ts ex (G s)) = some (true, tv, true)) : o.map (fun s => ((F s).1, (F s).2, obsL n fa fn ts ex (G s))) = some (v.1, v.2, (((true, fv), tv), true)) := by
  cases o with
  | none => cases a
  | some s =>
    have a' := Option.some.inj a
    have e := obs_parts (Option.some.inj b) (Option.some.inj c)
    show some ((F s).1, (F s).2, obsL n fa fn ts ex (G s)) = _
    rw [a', e]
open PySem.W PySem.Calls PyProof.Rows HandSHeadRun
theorem run_eq {r : OpenRow} {q : Program} {M : Nat} {loose : List PySem.Str} {w : World}
    (a : ∀ os : OsState, (endF (stepQ (denQ tabQ) r.prog w) M r.prog w os).map (fun s => (looksF r.prog (boot_heap w.params) s.abs, seenQ q loose (importedModules r.prog.main.body) (fun s => xlAt q [] s && recOk r.toRowW.records s) s.abs)) = some (true, openGood q loose))
    (b : ∀ os : OsState, (endF (stepQ (denQ tabQ) r.prog w) M r.prog w os).map (fun s => obs1 n fn (getT s)) = some (true, fn.map He.DefD.val))
    (c : ∀ os : OsState, (endF (stepQ (denQ tabQ) r.prog w) M r.prog w os).map (fun s => obs2 n fa ts ex (getT s)) = some (true, ts.map (fun t => some (He.keysIn w.params t.2)), true)) : RunEq r q (hookL n fa fn ts ex) (fun s => obsL n fa fn ts ex (getT s)) M loose w := fun os => by
  have z := parts_of (a os) (b os) (c os)
  exact z
end
end VQ
/-! ### the head: what the top has left, by names -/
namespace VQ
open PySem L2 LamX
def fn : List He.DefD := [dd "_law_bag" sBag, dd "_law_pull" sPull, dd "_law_of" sOf, dd "_law_mixed" sLawMixed, dd "_law_worth" sWorth, dd "_law_pool" sLawPool, dd "_law_names" sLawNames, dd "_law_pairs" sLawPairs, dd "_law_unlike_names" sLawUnlikeNames, dd "_law_few_rows" sLawFewRows, dd "_law_terms_of" sLawTermsOf, dd "_law_world" sLawWorld, dd "is_row" sIsRow, dd "are_rows" sAreRows, dd "table_of" sTableOf, dd "with_rows" sWithRows, dd "make_table" sMakeTable, dd "fill_table" sFillTable, dd "need_deed" sNeedDeed, dd "done" sDone, dd "_law_copied" sLawCopied, dd "is_number" sIsNumber, dd "is_worth" sIsWorth, dd "is_tuple" sIsTuple, dd "is_name" sIsName, dd "are_names" sAreNames, dd "is_tie" sIsTie, dd "is_pair" sIsPair, dd "all_tied" sAllTied, dd "is_question" sIsQuestion, dd "need_question" sNeedQuestion, dd "_law_own" sLawOwn, dd "_law_let" sLawLet, dd "own_places" sOwnPlaces, dd "own_names" sOwnNames, dd "own_worths" sOwnWorths, dd "need_fit" sNeedFit, dd "lets_by" sLetsBy, dd "picked" sPicked, dd "agreeing" sAgreeing, dd "lessened" sLessened, dd "common_names" sCommonNames, dd "next_ear" sNextEar, dd "ears" sEars, dd "_law_keeps" sLawKeeps, dd "_law_next" sLawNext, dd "_law_points" sLawPoints, dm "Book" "__init__" "Book.__init__" sBookInit, dm "Book" "make" "Book.make" sBookMake, dm "Book" "fill" "Book.fill" sBookFill, dm "Book" "do" "Book.do" sBookDo, dm "Book" "many" "Book.many" sBookMany, dm "Book" "width" "Book.width" sBookWidth, dm "Book" "rows" "Book.rows" sBookRows, dd "law" sLaw]
def fa : List He.Fa := [.free "isinstance", .free "int", .free "bool", .free "str", .free "list", .free "tuple", .free "len", .free "all", .free "range", .free "any", .free "enumerate", .free "set", .free "sorted", .free "zip", .free "dict", .int "WORTHS" 32, .int "MOST_PLACES" 5, .int "MOST_WIDTH" 4, .int "MOST_LETTERS" 8, .int "MOST_NAME" 4, .int "MOST_TIES" 6, .int "MOST_PAIRS" 3, .int "MOST_TABLES" 8, .int "MOST_ROWS" 40, .str "LETTERS" "abcdefghijklmnopqrstuvwxyz", .glo "BARRED", .glo "ACTIONS", .glo "COUNTS", .glo "_law_bag", .glo "_law_pull", .glo "_law_of", .glo "_law_mixed", .glo "_law_worth", .glo "_law_pool", .glo "_law_names", .glo "_law_pairs", .glo "_law_unlike_names", .glo "_law_few_rows", .glo "_law_terms_of", .glo "_law_world", .glo "is_row", .glo "are_rows", .glo "table_of", .glo "with_rows", .glo "make_table", .glo "fill_table", .glo "need_deed", .glo "done", .glo "_law_copied", .glo "is_number", .glo "is_worth", .glo "is_tuple", .glo "is_name", .glo "are_names", .glo "is_tie", .glo "is_pair", .glo "all_tied", .glo "is_question", .glo "need_question", .glo "_law_own", .glo "_law_let", .glo "own_places", .glo "own_names", .glo "own_worths", .glo "need_fit", .glo "lets_by", .glo "picked", .glo "agreeing", .glo "lessened", .glo "common_names", .glo "next_ear", .glo "ears", .glo "_law_keeps", .glo "_law_next", .glo "_law_points", .glo "Book", .glo "law"]
def ex (K : PySem.W.Frag) : Bool := (true) && ((clsB K "Book") && ((mkB K "Book") && ((noB K "Book" "tables") && ((noB K "Book" "past") && ((noB K "Book" "future") && ((methB K "Book" "make") && ((methB K "Book" "fill") && ((methB K "Book" "do") && ((methB K "Book" "many") && ((methB K "Book" "width") && ((methB K "Book" "rows") && ((He.tupB K "BARRED" [.str "find", .str "some"]) && ((He.valsB K (He.ga K "ACTIONS") [("make", .glo "make_table"), ("drop", .glo "drop_table"), ("put", .glo "put_row"), ("take", .glo "take_row"), ("fill", .glo "fill_table")]) && ((keysB K (He.ga K "ACTIONS") ["make", "drop", "put", "take", "fill"]) && ((He.valsB K (He.ga K "COUNTS") [("make", .int 3), ("drop", .int 2), ("put", .int 3), ("take", .int 3), ("fill", .int 3)]) && (keysB K (He.ga K "COUNTS") ["make", "drop", "put", "take", "fill"]))))))))))))))))
def ts : List He.Tab := [((fun K => He.ga K "ACTIONS"), ["make", "drop", "put", "take", "fill"]), ((fun K => He.ga K "COUNTS"), ["make", "drop", "put", "take", "fill"])]
abbrev Rw : PySem.W.OpenRow := PySem.W.OpenLaw.row PySem.Challenge.rw_voidquilt_k44_whole_lessened_ties_lose_n
abbrev hk : PySem.W.Hook := hookL 4 fa fn ts ex
def ob (s : PySem.W.SharedT) : He.AlX := obsL 4 fa fn ts ex (HandSHeadRun.getT s)
theorem ob_eq (s : PySem.W.SharedT) : ob s = hk.obs s.abs := obsL_eq (HandSHeadRun.getT_eq s)
def loose : List PySem.Str := (["_wall", "QuiltError", "BadName", "Taken", "BadWidth", "BadRow", "There", "Full", "BadDeed", "BadQuestion", "Unfit", "Missing", "NoTable", "NoRow", "WORTHS", "is_number", "is_worth", "MOST_PLACES", "MOST_TABLES", "MOST_ROWS", "MOST_WIDTH", "MOST_LETTERS", "LETTERS", "BARRED", "is_name", "is_row", "are_rows", "need_row", "table_of", "with_rows"] : List PySem.Str) ++ (["make_table", "drop_table", "put_row", "take_row", "fill_table", "ACTIONS", "COUNTS", "need_deed", "done", "Book", "MOST_NAME", "MOST_TIES", "MOST_PAIRS", "is_tuple", "are_names", "is_tie", "is_pair", "all_tied", "is_question", "need_question", "need_fit", "picked", "own_places", "own_names", "own_worths", "lets_by", "common_names", "next_ear", "ears", "agreeing"] : List PySem.Str) ++ (["lessened", "_law_bag", "_law_pull", "_law_of", "_law_mixed", "_law_worth", "_law_pool", "_law_copied", "_law_names", "_law_pairs", "_law_unlike_names", "_law_few_rows", "_law_terms_of", "_law_world", "_law_own", "_law_let", "_law_keeps", "_law_points", "_law_next"] : List PySem.Str)
section
open PySem.W PySem.Calls PyProof.Rows HandSHeadRun
abbrev lkP (w : World) : Prop := ∀ os : OsState, (endF (stepQ (denQ tabQ) Rw.prog w) 40000 Rw.prog w os).map (fun s => (looksF Rw.prog (boot_heap w.params) s.abs, seenQ (PySem.W.view Rw.prog [86]) loose (importedModules Rw.prog.main.body) (fun s => xlAt (PySem.W.view Rw.prog [86]) [] s && recOk Rw.toRowW.records s) s.abs)) = some (true, openGood (PySem.W.view Rw.prog [86]) loose)
abbrev o1P (w : World) : Prop := ∀ os : OsState, (endF (stepQ (denQ tabQ) Rw.prog w) 40000 Rw.prog w os).map (fun s => obs1 4 fn (getT s)) = some (true, fn.map He.DefD.val)
abbrev o2P (w : World) : Prop := ∀ os : OsState, (endF (stepQ (denQ tabQ) Rw.prog w) 40000 Rw.prog w os).map (fun s => obs2 4 fa ts ex (getT s)) = some (true, ts.map (fun t => some (He.keysIn w.params t.2)), true)
theorem run_parts {w : World} (a : lkP w) (b : o1P w) (c : o2P w) : RunEq Rw (PySem.W.view Rw.prog [86]) hk ob 40000 loose w := run_eq (n := 4) (fa := fa) (fn := fn) (ts := ts) (ex := ex) a b c
end
theorem lkF (w : World) : lkP (w.withFollow "special-get-raises" false) := by
  intro os
  kernel_rfl
theorem o1F (w : World) : o1P (w.withFollow "special-get-raises" false) := by
  intro os
  kernel_rfl
theorem o2F (w : World) : o2P (w.withFollow "special-get-raises" false) := by
  intro os
  kernel_rfl
theorem lkT (w : World) : lkP (w.withFollow "special-get-raises" true) := by
  intro os
  kernel_rfl
theorem o1T (w : World) : o1P (w.withFollow "special-get-raises" true) := by
  intro os
  kernel_rfl
theorem o2T (w : World) : o2P (w.withFollow "special-get-raises" true) := by
  intro os
  kernel_rfl
theorem run (w : World) : HandSHeadRun.RunEq Rw (PySem.W.view Rw.prog [86]) hk ob 40000 loose w := PySem.W.byRow2 "special-get-raises" (P := fun w => HandSHeadRun.RunEq Rw (PySem.W.view Rw.prog [86]) hk ob 40000 loose w) (fun w => run_parts (lkF w) (o1F w) (o2F w)) (fun w => run_parts (lkT w) (o1T w) (o2T w)) w
theorem at_of {K : PySem.W.Frag} {h : Heap} {mg : Str → Option Value} (X : K.In h) (G : h.Ns mainGlobals mg) {x : Str} {st : Stmt} {ps : List Str} (c : He.SaysD fa fn K) (m : dd x st ∈ fn) (g : He.Fa.glo x ∈ fa)
    (hb : ∀ (kV doc pm : Value) (an : Option Addr) (cdv ct : Value) (us : List Value), us.length = ps.length → bindArgs (PySem.W.fnOf x x (defArgs st) (defBody st) (defScope st) .none kV doc pm an cdv ct) ⟨us, []⟩ = pure (ps.zip us)) : ∃ fd, At K mg x st ps (He.ga K x) fd := by
  obtain ⟨fd, F⟩ := c.defs m
  have F' : Fun K x x st (He.ga K x) fd := fun_of_D F
  exact ⟨fd, F', He.glo_ok X G (c.facts g), F'.binds hb⟩
theorem facts {l : PySem.W.OpenLaw} {w : World} {K : PySem.W.Frag} {h : Heap} {mg : Str → Option Value} {f : Addr} (X : K.In h) (G : h.Ns mainGlobals mg) (hfa : mg ("law" : Str) = some (.ref f)) (S : He.SaysX fa fn ts [] ex w h K) : LawAtS l w K CX0 12 63 "_law_script" mg f h := by
  have c : He.SaysD fa fn K := S.t.d
  have gl : ∀ {x : Str}, He.Fa.glo x ∈ fa → mg x = some (.ref (He.ga K x)) := fun m => He.glo_ok X G (c.facts m)
  have fr : ∀ {x : Str}, He.Fa.free x ∈ fa → mg x = none := fun m => He.free_ok X G (c.facts m)
  obtain ⟨tkWORTHS, iWORTHS⟩ := He.int_ok X G (x := "WORTHS") (i := 32) (c.facts (by simp [fa]))
  obtain ⟨tkMOST_PLACES, iMOST_PLACES⟩ := He.int_ok X G (x := "MOST_PLACES") (i := 5) (c.facts (by simp [fa]))
  obtain ⟨tkMOST_WIDTH, iMOST_WIDTH⟩ := He.int_ok X G (x := "MOST_WIDTH") (i := 4) (c.facts (by simp [fa]))
  obtain ⟨tkMOST_LETTERS, iMOST_LETTERS⟩ := He.int_ok X G (x := "MOST_LETTERS") (i := 8) (c.facts (by simp [fa]))
  obtain ⟨tkMOST_NAME, iMOST_NAME⟩ := He.int_ok X G (x := "MOST_NAME") (i := 4) (c.facts (by simp [fa]))
  obtain ⟨tkMOST_TIES, iMOST_TIES⟩ := He.int_ok X G (x := "MOST_TIES") (i := 6) (c.facts (by simp [fa]))
  obtain ⟨tkMOST_PAIRS, iMOST_PAIRS⟩ := He.int_ok X G (x := "MOST_PAIRS") (i := 3) (c.facts (by simp [fa]))
  obtain ⟨tkMOST_TABLES, iMOST_TABLES⟩ := He.int_ok X G (x := "MOST_TABLES") (i := 8) (c.facts (by simp [fa]))
  obtain ⟨tkMOST_ROWS, iMOST_ROWS⟩ := He.int_ok X G (x := "MOST_ROWS") (i := 40) (c.facts (by simp [fa]))
  obtain ⟨tkLETTERS, iLETTERS⟩ := He.str_ok X G (x := "LETTERS") (z := "abcdefghijklmnopqrstuvwxyz") (c.facts (by simp [fa]))
  have gBARRED := gl (x := "BARRED") (by simp [fa])
  have gACTIONS := gl (x := "ACTIONS") (by simp [fa])
  have gCOUNTS := gl (x := "COUNTS") (by simp [fa])
  have b : Blt mg := ⟨fr (by simp [fa]), fr (by simp [fa]), fr (by simp [fa]), fr (by simp [fa]), fr (by simp [fa]), fr (by simp [fa]), fr (by simp [fa]), fr (by simp [fa]), fr (by simp [fa])⟩
  have fany : mg "any" = none := fr (by simp [fa])
  have fenumerate : mg "enumerate" = none := fr (by simp [fa])
  have fset : mg "set" = none := fr (by simp [fa])
  have fsorted : mg "sorted" = none := fr (by simp [fa])
  have fzip : mg "zip" = none := fr (by simp [fa])
  have fdict : mg "dict" = none := fr (by simp [fa])
  have tACTIONS : ∃ es n, KDict K w (He.ga K "ACTIONS") es n := S.t.tab 0
  have tCOUNTS : ∃ es n, KDict K w (He.ga K "COUNTS") es n := S.t.tab 1
  have more : ex K = true := S.more
  unfold ex at more
  obtain ⟨_, cmore⟩ := He.ba more
  obtain ⟨cb0, cmore⟩ := He.ba cmore
  obtain ⟨cb1, cmore⟩ := He.ba cmore
  obtain ⟨cb2, cmore⟩ := He.ba cmore
  obtain ⟨cb3, cmore⟩ := He.ba cmore
  obtain ⟨cb4, cmore⟩ := He.ba cmore
  obtain ⟨cb5, cmore⟩ := He.ba cmore
  obtain ⟨cb6, cmore⟩ := He.ba cmore
  obtain ⟨cb7, cmore⟩ := He.ba cmore
  obtain ⟨cb8, cmore⟩ := He.ba cmore
  obtain ⟨cb9, cmore⟩ := He.ba cmore
  obtain ⟨cb10, cmore⟩ := He.ba cmore
  obtain ⟨cb11, cmore⟩ := He.ba cmore
  obtain ⟨cb12, cmore⟩ := He.ba cmore
  obtain ⟨cb13, cmore⟩ := He.ba cmore
  obtain ⟨cb14, cmore⟩ := He.ba cmore
  have cb15 := cmore
  have KBook := clsB_ok cb0
  have mkBook := mkB_ok cb1
  have gBook := gl (x := "Book") (by simp [fa])
  have nBook_tables := noB_ok cb2
  have nBook_past := noB_ok cb3
  have nBook_future := noB_ok cb4
  obtain ⟨fdMBook___init__, FMBook___init__⟩ := c.defs (d := dm "Book" "__init__" "Book.__init__" sBookInit) (by simp [fn])
  have fBook___init__ : Fun K "__init__" "Book.__init__" sBookInit (He.ma K (He.ga K "Book") "__init__") fdMBook___init__ := fun_of_D FMBook___init__
  have bBook___init__ : Binds K fdMBook___init__ ["self"] [] := fBook___init__.binds fun _ _ _ _ _ _ us hl => match us, hl with | [_], _ => rfl
  have mBook_make := methB_ok cb5
  obtain ⟨fdMBook_make, FMBook_make⟩ := c.defs (d := dm "Book" "make" "Book.make" sBookMake) (by simp [fn])
  have fBook_make : Fun K "make" "Book.make" sBookMake (He.ma K (He.ga K "Book") "make") fdMBook_make := fun_of_D FMBook_make
  have bBook_make : Binds K fdMBook_make ["self", "name", "width"] [] := fBook_make.binds fun _ _ _ _ _ _ us hl => match us, hl with | [_, _, _], _ => rfl
  have mBook_fill := methB_ok cb6
  obtain ⟨fdMBook_fill, FMBook_fill⟩ := c.defs (d := dm "Book" "fill" "Book.fill" sBookFill) (by simp [fn])
  have fBook_fill : Fun K "fill" "Book.fill" sBookFill (He.ma K (He.ga K "Book") "fill") fdMBook_fill := fun_of_D FMBook_fill
  have bBook_fill : Binds K fdMBook_fill ["self", "name", "rows"] [] := fBook_fill.binds fun _ _ _ _ _ _ us hl => match us, hl with | [_, _, _], _ => rfl
  have mBook_do := methB_ok cb7
  obtain ⟨fdMBook_do, FMBook_do⟩ := c.defs (d := dm "Book" "do" "Book.do" sBookDo) (by simp [fn])
  have fBook_do : Fun K "do" "Book.do" sBookDo (He.ma K (He.ga K "Book") "do") fdMBook_do := fun_of_D FMBook_do
  have bBook_do : Binds K fdMBook_do ["self", "deed"] [] := fBook_do.binds fun _ _ _ _ _ _ us hl => match us, hl with | [_, _], _ => rfl
  have mBook_many := methB_ok cb8
  obtain ⟨fdMBook_many, FMBook_many⟩ := c.defs (d := dm "Book" "many" "Book.many" sBookMany) (by simp [fn])
  have fBook_many : Fun K "many" "Book.many" sBookMany (He.ma K (He.ga K "Book") "many") fdMBook_many := fun_of_D FMBook_many
  have bBook_many : Binds K fdMBook_many ["self", "deeds"] [] := fBook_many.binds fun _ _ _ _ _ _ us hl => match us, hl with | [_, _], _ => rfl
  have mBook_width := methB_ok cb9
  obtain ⟨fdMBook_width, FMBook_width⟩ := c.defs (d := dm "Book" "width" "Book.width" sBookWidth) (by simp [fn])
  have fBook_width : Fun K "width" "Book.width" sBookWidth (He.ma K (He.ga K "Book") "width") fdMBook_width := fun_of_D FMBook_width
  have bBook_width : Binds K fdMBook_width ["self", "name"] [] := fBook_width.binds fun _ _ _ _ _ _ us hl => match us, hl with | [_, _], _ => rfl
  have mBook_rows := methB_ok cb10
  obtain ⟨fdMBook_rows, FMBook_rows⟩ := c.defs (d := dm "Book" "rows" "Book.rows" sBookRows) (by simp [fn])
  have fBook_rows : Fun K "rows" "Book.rows" sBookRows (He.ma K (He.ga K "Book") "rows") fdMBook_rows := fun_of_D FMBook_rows
  have bBook_rows : Binds K fdMBook_rows ["self", "name"] [] := fBook_rows.binds fun _ _ _ _ _ _ us hl => match us, hl with | [_, _], _ => rfl
  have tBARRED := He.tupB_ok cb11
  have vACT := id cb12
  have kACT := id cb13
  have vCNT := id cb14
  have kCNT := id cb15
  obtain ⟨fd_law_bag, a_law_bag⟩ := at_of (x := "_law_bag") (st := sBag) (ps := ["_law_script"]) X G c (by simp [fn]) (by simp [fa]) fun _ _ _ _ _ _ us hl => match us, hl with | [_], _ => rfl
  obtain ⟨fd_law_pull, a_law_pull⟩ := at_of (x := "_law_pull") (st := sPull) (ps := ["_law_bag_here", "_law_size"]) X G c (by simp [fn]) (by simp [fa]) fun _ _ _ _ _ _ us hl => match us, hl with | [_, _], _ => rfl
  obtain ⟨fd_law_of, a_law_of⟩ := at_of (x := "_law_of") (st := sOf) (ps := ["_law_bag_here", "_law_some"]) X G c (by simp [fn]) (by simp [fa]) fun _ _ _ _ _ _ us hl => match us, hl with | [_, _], _ => rfl
  obtain ⟨fd_law_mixed, a_law_mixed⟩ := at_of (x := "_law_mixed") (st := sLawMixed) (ps := ["_law_bag_here", "_law_some"]) X G c (by simp [fn]) (by simp [fa]) fun _ _ _ _ _ _ us hl => match us, hl with | [_, _], _ => rfl
  obtain ⟨fd_law_worth, a_law_worth⟩ := at_of (x := "_law_worth") (st := sWorth) (ps := ["_law_bag_here"]) X G c (by simp [fn]) (by simp [fa]) fun _ _ _ _ _ _ us hl => match us, hl with | [_], _ => rfl
  obtain ⟨fd_law_pool, a_law_pool⟩ := at_of (x := "_law_pool") (st := sLawPool) (ps := ["_law_bag_here", "_law_many", "_law_most"]) X G c (by simp [fn]) (by simp [fa]) fun _ _ _ _ _ _ us hl => match us, hl with | [_, _, _], _ => rfl
  obtain ⟨fd_law_names, a_law_names⟩ := at_of (x := "_law_names") (st := sLawNames) (ps := ["_law_bag_here", "_law_many"]) X G c (by simp [fn]) (by simp [fa]) fun _ _ _ _ _ _ us hl => match us, hl with | [_, _], _ => rfl
  obtain ⟨fd_law_pairs, a_law_pairs⟩ := at_of (x := "_law_pairs") (st := sLawPairs) (ps := ["_law_bag_here", "_law_names_here", "_law_most"]) X G c (by simp [fn]) (by simp [fa]) fun _ _ _ _ _ _ us hl => match us, hl with | [_, _, _], _ => rfl
  obtain ⟨fd_law_unlike_names, a_law_unlike_names⟩ := at_of (x := "_law_unlike_names") (st := sLawUnlikeNames) (ps := ["_law_bag_here", "_law_many"]) X G c (by simp [fn]) (by simp [fa]) fun _ _ _ _ _ _ us hl => match us, hl with | [_, _], _ => rfl
  obtain ⟨fd_law_few_rows, a_law_few_rows⟩ := at_of (x := "_law_few_rows") (st := sLawFewRows) (ps := ["_law_bag_here", "_law_few", "_law_width", "_law_most"]) X G c (by simp [fn]) (by simp [fa]) fun _ _ _ _ _ _ us hl => match us, hl with | [_, _, _, _], _ => rfl
  obtain ⟨fd_law_terms_of, a_law_terms_of⟩ := at_of (x := "_law_terms_of") (st := sLawTermsOf) (ps := ["_law_bag_here", "_law_names_here", "_law_few", "_law_width"]) X G c (by simp [fn]) (by simp [fa]) fun _ _ _ _ _ _ us hl => match us, hl with | [_, _, _, _], _ => rfl
  obtain ⟨fd_law_world, a_law_world⟩ := at_of (x := "_law_world") (st := sLawWorld) (ps := ["_law_bag_here", "_law_most_names", "_law_most_ties", "_law_most_rows"]) X G c (by simp [fn]) (by simp [fa]) fun _ _ _ _ _ _ us hl => match us, hl with | [_, _, _, _], _ => rfl
  obtain ⟨fdis_row, ais_row⟩ := at_of (x := "is_row") (st := sIsRow) (ps := ["thing", "width"]) X G c (by simp [fn]) (by simp [fa]) fun _ _ _ _ _ _ us hl => match us, hl with | [_, _], _ => rfl
  obtain ⟨fdare_rows, aare_rows⟩ := at_of (x := "are_rows") (st := sAreRows) (ps := ["thing", "width"]) X G c (by simp [fn]) (by simp [fa]) fun _ _ _ _ _ _ us hl => match us, hl with | [_, _], _ => rfl
  obtain ⟨fdtable_of, atable_of⟩ := at_of (x := "table_of") (st := sTableOf) (ps := ["tables", "name"]) X G c (by simp [fn]) (by simp [fa]) fun _ _ _ _ _ _ us hl => match us, hl with | [_, _], _ => rfl
  obtain ⟨fdwith_rows, awith_rows⟩ := at_of (x := "with_rows") (st := sWithRows) (ps := ["tables", "name", "rows"]) X G c (by simp [fn]) (by simp [fa]) fun _ _ _ _ _ _ us hl => match us, hl with | [_, _, _], _ => rfl
  obtain ⟨fdmake_table, amake_table⟩ := at_of (x := "make_table") (st := sMakeTable) (ps := ["tables", "name", "width"]) X G c (by simp [fn]) (by simp [fa]) fun _ _ _ _ _ _ us hl => match us, hl with | [_, _, _], _ => rfl
  obtain ⟨fdfill_table, afill_table⟩ := at_of (x := "fill_table") (st := sFillTable) (ps := ["tables", "name", "rows"]) X G c (by simp [fn]) (by simp [fa]) fun _ _ _ _ _ _ us hl => match us, hl with | [_, _, _], _ => rfl
  obtain ⟨fdneed_deed, aneed_deed⟩ := at_of (x := "need_deed") (st := sNeedDeed) (ps := ["thing"]) X G c (by simp [fn]) (by simp [fa]) fun _ _ _ _ _ _ us hl => match us, hl with | [_], _ => rfl
  obtain ⟨fddone, adone⟩ := at_of (x := "done") (st := sDone) (ps := ["tables", "deed"]) X G c (by simp [fn]) (by simp [fa]) fun _ _ _ _ _ _ us hl => match us, hl with | [_, _], _ => rfl
  obtain ⟨fd_law_copied, a_law_copied⟩ := at_of (x := "_law_copied") (st := sLawCopied) (ps := ["_law_model"]) X G c (by simp [fn]) (by simp [fa]) fun _ _ _ _ _ _ us hl => match us, hl with | [_], _ => rfl
  obtain ⟨fdis_number, ais_number⟩ := at_of (x := "is_number") (st := sIsNumber) (ps := ["thing", "low", "behind"]) X G c (by simp [fn]) (by simp [fa]) fun _ _ _ _ _ _ us hl => match us, hl with | [_, _, _], _ => rfl
  obtain ⟨fdis_worth, ais_worth⟩ := at_of (x := "is_worth") (st := sIsWorth) (ps := ["thing"]) X G c (by simp [fn]) (by simp [fa]) fun _ _ _ _ _ _ us hl => match us, hl with | [_], _ => rfl
  obtain ⟨fdis_tuple, ais_tuple⟩ := at_of (x := "is_tuple") (st := sIsTuple) (ps := ["thing", "least", "most"]) X G c (by simp [fn]) (by simp [fa]) fun _ _ _ _ _ _ us hl => match us, hl with | [_, _, _], _ => rfl
  obtain ⟨fdis_name, ais_name⟩ := at_of (x := "is_name") (st := sIsName) (ps := ["thing", "most"]) X G c (by simp [fn]) (by simp [fa]) fun _ _ _ _ _ _ us hl => match us, hl with | [_, _], _ => rfl
  obtain ⟨fdare_names, aare_names⟩ := at_of (x := "are_names") (st := sAreNames) (ps := ["thing"]) X G c (by simp [fn]) (by simp [fa]) fun _ _ _ _ _ _ us hl => match us, hl with | [_], _ => rfl
  obtain ⟨fdis_tie, ais_tie⟩ := at_of (x := "is_tie") (st := sIsTie) (ps := ["thing", "names"]) X G c (by simp [fn]) (by simp [fa]) fun _ _ _ _ _ _ us hl => match us, hl with | [_, _], _ => rfl
  obtain ⟨fdis_pair, ais_pair⟩ := at_of (x := "is_pair") (st := sIsPair) (ps := ["thing", "names"]) X G c (by simp [fn]) (by simp [fa]) fun _ _ _ _ _ _ us hl => match us, hl with | [_, _], _ => rfl
  obtain ⟨fdall_tied, aall_tied⟩ := at_of (x := "all_tied") (st := sAllTied) (ps := ["names", "ties"]) X G c (by simp [fn]) (by simp [fa]) fun _ _ _ _ _ _ us hl => match us, hl with | [_, _], _ => rfl
  obtain ⟨fdis_question, ais_question⟩ := at_of (x := "is_question") (st := sIsQuestion) (ps := ["thing"]) X G c (by simp [fn]) (by simp [fa]) fun _ _ _ _ _ _ us hl => match us, hl with | [_], _ => rfl
  obtain ⟨fdneed_question, aneed_question⟩ := at_of (x := "need_question") (st := sNeedQuestion) (ps := ["question"]) X G c (by simp [fn]) (by simp [fa]) fun _ _ _ _ _ _ us hl => match us, hl with | [_], _ => rfl
  obtain ⟨fd_law_own, a_law_own⟩ := at_of (x := "_law_own") (st := sLawOwn) (ps := ["_law_question", "_law_tie"]) X G c (by simp [fn]) (by simp [fa]) fun _ _ _ _ _ _ us hl => match us, hl with | [_, _], _ => rfl
  obtain ⟨fd_law_let, a_law_let⟩ := at_of (x := "_law_let") (st := sLawLet) (ps := ["_law_model", "_law_question", "_law_tie"]) X G c (by simp [fn]) (by simp [fa]) fun _ _ _ _ _ _ us hl => match us, hl with | [_, _, _], _ => rfl
  obtain ⟨fdown_places, aown_places⟩ := at_of (x := "own_places") (st := sOwnPlaces) (ps := ["question", "tie"]) X G c (by simp [fn]) (by simp [fa]) fun _ _ _ _ _ _ us hl => match us, hl with | [_, _], _ => rfl
  obtain ⟨fdown_names, aown_names⟩ := at_of (x := "own_names") (st := sOwnNames) (ps := ["question", "tie"]) X G c (by simp [fn]) (by simp [fa]) fun _ _ _ _ _ _ us hl => match us, hl with | [_, _], _ => rfl
  obtain ⟨fdown_worths, aown_worths⟩ := at_of (x := "own_worths") (st := sOwnWorths) (ps := ["terms", "row"]) X G c (by simp [fn]) (by simp [fa]) fun _ _ _ _ _ _ us hl => match us, hl with | [_, _], _ => rfl
  obtain ⟨fdneed_fit, aneed_fit⟩ := at_of (x := "need_fit") (st := sNeedFit) (ps := ["book", "question"]) X G c (by simp [fn]) (by simp [fa]) fun _ _ _ _ _ _ us hl => match us, hl with | [_, _], _ => rfl
  obtain ⟨fdlets_by, alets_by⟩ := at_of (x := "lets_by") (st := sLetsBy) (ps := ["book", "question", "tie"]) X G c (by simp [fn]) (by simp [fa]) fun _ _ _ _ _ _ us hl => match us, hl with | [_, _, _], _ => rfl
  obtain ⟨fdpicked, apicked⟩ := at_of (x := "picked") (st := sPicked) (ps := ["things", "places"]) X G c (by simp [fn]) (by simp [fa]) fun _ _ _ _ _ _ us hl => match us, hl with | [_, _], _ => rfl
  obtain ⟨fdagreeing, aagreeing⟩ := at_of (x := "agreeing") (st := sAgreeing) (ps := ["rows", "places", "others", "other_places"]) X G c (by simp [fn]) (by simp [fa]) fun _ _ _ _ _ _ us hl => match us, hl with | [_, _, _, _], _ => rfl
  obtain ⟨fdlessened, alessened⟩ := at_of (x := "lessened") (st := sLessened) (ps := ["book", "question"]) X G c (by simp [fn]) (by simp [fa]) fun _ _ _ _ _ _ us hl => match us, hl with | [_, _], _ => rfl
  obtain ⟨fdcommon_names, acommon_names⟩ := at_of (x := "common_names") (st := sCommonNames) (ps := ["names", "left", "tie"]) X G c (by simp [fn]) (by simp [fa]) fun _ _ _ _ _ _ us hl => match us, hl with | [_, _, _], _ => rfl
  obtain ⟨fdnext_ear, anext_ear⟩ := at_of (x := "next_ear") (st := sNextEar) (ps := ["names", "left"]) X G c (by simp [fn]) (by simp [fa]) fun _ _ _ _ _ _ us hl => match us, hl with | [_, _], _ => rfl
  obtain ⟨fdears, aears⟩ := at_of (x := "ears") (st := sEars) (ps := ["question"]) X G c (by simp [fn]) (by simp [fa]) fun _ _ _ _ _ _ us hl => match us, hl with | [_], _ => rfl
  obtain ⟨fd_law_keeps, a_law_keeps⟩ := at_of (x := "_law_keeps") (st := sLawKeeps) (ps := ["_law_question", "_law_point"]) X G c (by simp [fn]) (by simp [fa]) fun _ _ _ _ _ _ us hl => match us, hl with | [_, _], _ => rfl
  obtain ⟨fd_law_next, a_law_next⟩ := at_of (x := "_law_next") (st := sLawNext) (ps := ["_law_model", "_law_question", "_law_done", "_law_point"]) X G c (by simp [fn]) (by simp [fa]) fun _ _ _ _ _ _ us hl => match us, hl with | [_, _, _, _], _ => rfl
  obtain ⟨fd_law_points, a_law_points⟩ := at_of (x := "_law_points") (st := sLawPoints) (ps := ["_law_model", "_law_question"]) X G c (by simp [fn]) (by simp [fa]) fun _ _ _ _ _ _ us hl => match us, hl with | [_, _], _ => rfl
  obtain ⟨fd, F⟩ := c.defs (d := dd "law" sLaw) (by simp [fn])
  have ef : f = He.ga K "law" := by
    have e := hfa.symm.trans (gl (x := "law") (by simp [fa]))
    injection e with e
    injection e
  subst ef
  have F' : Fun K "law" "law" sLaw (He.ga K "law") fd := fun_of_D F
  obtain ⟨oc, od, kV, doc, pm, an, cdv, ct, osl, efd, lk, hcd⟩ := F'.ex
  refine ⟨fd, [], spLawN K, fun p hp => absurd hp (by simp), fun p hp => absurd hp (by simp), fun p hp => absurd hp (by simp), fun s u => ?_, fun H a ns hn _ hT hS => ?_, fun base KB GB TB => ?_⟩
  · rw [efd]
    exact .of_eq rfl
  · exact ⟨a, ns, rfl, hS, hn, fun _ => rfl⟩
  · exact (by
    have W : Wq K mg (He.ga K "BARRED") := ⟨⟨_, iMOST_PLACES⟩, ⟨_, iMOST_WIDTH⟩, ⟨_, iMOST_LETTERS⟩, ⟨_, iMOST_NAME⟩, ⟨_, iMOST_TIES⟩, ⟨_, iMOST_PAIRS⟩, ⟨_, iWORTHS⟩, ⟨_, iLETTERS⟩, gBARRED, tBARRED, fset⟩
    have BE : BookE w K mg (He.ga K "Book") := ⟨⟨KBook, nBook_tables, nBook_past, nBook_future⟩, gBook, ⟨_, _, fBook___init__, mkBook, bBook___init__⟩, ⟨_, _, fBook_make, mBook_make, bBook_make⟩, ⟨_, _, fBook_fill, mBook_fill, bBook_fill⟩, ⟨_, _, fBook_do, mBook_do, bBook_do⟩, ⟨_, _, fBook_many, mBook_many, bBook_many⟩, ⟨_, _, fBook_width, mBook_width, bBook_width⟩, ⟨_, _, fBook_rows, mBook_rows, bBook_rows⟩, ⟨_, _, _, _, _, _, _, _, gACTIONS, tab_ok tACTIONS vACT kACT, amake_table, afill_table⟩, ⟨_, gCOUNTS, tab_ok tCOUNTS vCNT kCNT⟩, ⟨_, _, ais_row⟩, ⟨_, _, aare_rows⟩, ⟨_, _, atable_of⟩, ⟨_, _, awith_rows⟩, ⟨_, _, aneed_deed⟩, ⟨_, _, adone⟩, ⟨_, _, a_law_copied⟩⟩
    have WE : WorldE K mg := ⟨⟨_, _, a_law_pull⟩, ⟨_, _, a_law_of⟩, ⟨_, _, a_law_mixed⟩, ⟨_, _, a_law_worth⟩, ⟨_, _, a_law_pool⟩, ⟨_, _, a_law_names⟩, ⟨_, _, a_law_pairs⟩, ⟨_, _, a_law_unlike_names⟩, ⟨_, _, a_law_few_rows⟩, ⟨_, _, a_law_terms_of⟩, ⟨_, _, a_law_world⟩⟩
    have JE : JudgeE K mg := ⟨⟨_, _, ais_number⟩, ⟨_, _, ais_worth⟩, ⟨_, _, ais_tuple⟩, ⟨_, _, ais_name⟩, ⟨_, _, aare_names⟩, ⟨_, _, ais_tie⟩, ⟨_, _, ais_pair⟩, ⟨_, _, aall_tied⟩, ⟨_, _, ais_question⟩, ⟨_, _, aneed_question⟩⟩
    exact law_whole F' b W fany fenumerate fsorted fzip fdict iMOST_TABLES iMOST_ROWS a_law_bag BE WE JE ⟨_, _, a_law_own⟩ ⟨_, _, a_law_let⟩ ⟨_, _, aown_places⟩ ⟨_, _, aown_names⟩ ⟨_, _, aown_worths⟩ ⟨_, _, aneed_fit⟩ ⟨_, _, alets_by⟩ ⟨_, _, apicked⟩ ⟨_, _, aagreeing⟩ ⟨_, _, alessened⟩ ⟨_, _, acommon_names⟩ ⟨_, _, anext_ear⟩ ⟨_, _, aears⟩ ⟨_, _, a_law_keeps⟩ ⟨_, _, a_law_next⟩ ⟨_, _, a_law_points⟩)
end VQ
open PySem PySem.W PySem.Calls PyProof.Rows
set_option maxRecDepth 100000 in
set_option maxHeartbeats 0 in
theorem PySem.Challenge.cw_voidquilt_k44_whole_lessened_ties_lose_n_holds : PySem.Challenge.rw_voidquilt_k44_whole_lessened_ties_lose_n.Holds := by
  w_on; o_law
  refine HandSHeadRun.head_any (r := PySem.W.OpenLaw.row PySem.Challenge.rw_voidquilt_k44_whole_lessened_ties_lose_n) (q := view (PySem.W.OpenLaw.row PySem.Challenge.rw_voidquilt_k44_whole_lessened_ties_lose_n).prog [86]) (H := VQ.hk) (ob := VQ.ob) (M := 40000) (loose := VQ.loose) (d := HandSHeadRun.topDef (PySem.W.OpenLaw.row PySem.Challenge.rw_voidquilt_k44_whole_lessened_ties_lose_n).prog 86) (kwd := []) VQ.ob_eq
    (by kernel_rfl) (fun s => by kernel_rfl) VQ.run (by kernel_rfl) (by kernel_rfl) (by kernel_rfl) (by rfl) (by first | assumption | decide +kernel) (by decide +kernel) ⟨rfl, rfl, rfl, rfl, rfl, by decide +kernel⟩ ?hw ?hc
  case hw => w_witness2
  case hc =>
    refine LamX.walk_ofTsE (l := PySem.Challenge.rw_voidquilt_k44_whole_lessened_ties_lose_n) (n := 63) (k := 12) (x := "_law_script") (CX := fun _ => L2.CX0) rfl (by decide) (by kernel_rfl) ⟨rfl, by decide, by decide⟩ ?F (fun _ _ _ _ _ z => z)
    intro w mg fa h Y G hmg0
    obtain ⟨K, KX, S⟩ := Y
    have hmg : mg ("law" : PySem.Str) = some (.ref fa) := by
      have e : (HandSHeadRun.topDef (PySem.W.OpenLaw.row PySem.Challenge.rw_voidquilt_k44_whole_lessened_ties_lose_n).prog 86).name = ("law" : PySem.Str) := by kernel_rfl
      rw [← e]
      exact hmg0
    exact ⟨K, KX, VQ.facts KX G hmg S⟩
