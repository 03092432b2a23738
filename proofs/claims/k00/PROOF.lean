import PyProof.Rows.All
import Wide.All
import OpenK.AllK
import Wide.FinOn
import HandS.Base
import HandS.Call
import HandS.List
import HandS.Ends
import HandS.Words
import HandS.Exc
import HandS.ExcOwn
import HandS.ExcInit
import HandS.Comp
import HandS.Dict
import HandS.Iter
import HandS.ExcValue
import HandS.Defaults
import HandS.IsInst
import KE.KExcIs
import PyProof.ReprReads
import PyProof.ReprRoads
import PyProof.ReprNest
import PyProof.ReprDict
import PySem.Challenge.RW_ringcubes_k00_errors_of_all_parts
set_option Elab.async false
section
set_option linter.all false
set_option maxRecDepth 100000
set_option maxHeartbeats 4000000
/-! an exception of an own class over ValueError, made by one keyword -/
namespace KX
open PySem PySem.Calls PySem.HandSPX
section
variable {prog : Program} {w : World} {A : Around} {E : Value → Shared → Prop} {R : Result → Shared → Prop} {h : Heap} {g : Array GenState} {d : Drawn} {t : Nat} {os : OsState}
variable {nm q : Str} {C N : Addr} {bs bm : List Value} {hdct : Bool} {sn : List Str} {sub : List Value} {ab : Bool} {col : Option Bool} {dd : Option Addr} {k0 k1 k2 k3 k5 : Option Value}
variable {f : Str} {v : Value}

theorem checkCall (hC : h.get? C = some (excClassObj nm q C N bs bm hdct sn sub ab col dd k0 k1 k2 k3 k5 "ValueError.__new__")) {Q : Unit → Shared → Prop} {M : Model}
    (k : Q () ⟨h, g, d, t, os⟩) : wpAny M A (checkBuiltinCall "type.__call__" ⟨[.ref C], [(f, v)]⟩) Q E ⟨h, g, d, t, os⟩ := by
  have z1 := tc_sub
  have z2 : (⟨h, g, d, t, os⟩ : Shared).TypeIs (.ref C) "type" := ⟨_, hC, rfl⟩
  simp only [checkBuiltinCall, tc_split, tc_kind]
  repeat (any_goals (first | with_reducible refine wpAny_loadPart_at hC ?_ | assumption | with_reducible refine wpAny_map ?_ | with_reducible refine wpAny_onRaise ?_ | wp_step))

abbrev bmV : List Value := [.type "ValueError", .type "Exception", .type "BaseException", .type "object"]
theorem checkNew (hT : ∀ X : String, bm.contains (.type X) = bmV.contains (.type X)) (hC : h.get? C = some (excClassObj nm q C N bs bm hdct sn sub ab col dd k0 k1 k2 k3 k5 "ValueError.__new__")) {Q : Unit → Shared → Prop} {M : Model}
    (k : Q () ⟨h, g, d, t, os⟩) : wpAny M A (checkBuiltinCall "ValueError.__new__" ⟨[.ref C], [(f, v)]⟩) Q E ⟨h, g, d, t, os⟩ := by
  have FV := PySem.F.excBase_ValueError
  have inB : (Value.ref C :: bm).contains (.type "ValueError") = true := by rw [List.contains_cons, hT, FV.hasB, Bool.or_true]
  have noStar := FV.noStar
  simp only [checkBuiltinCall, FV.newSplit, FV.newKind, FV.newRow]
  repeat (first | (refine wpAny_isSubtype_exc hC ?_; rw [inB]) | refine wpAny_madeBy_exc hC ?_ | refine wpAny_staticBase_exc hC ?_ | refine wpAny_loadPart_at hC ?_ | simp only [bne_self_eq_false, Bool.false_eq_true, if_false] | wp_step)
  exact k
theorem newOf (hT : ∀ X : String, bm.contains (.type X) = bmV.contains (.type X)) (hC : h.get? C = some (excClassObj nm q C N bs bm hdct sn sub ab col dd k0 k1 k2 k3 k5 "ValueError.__new__"))
    (k : R (.ok (.ret (.ref (h.objs.size + 1)))) ⟨(h.push (W.kdv_tup [])).push (excO C h.objs.size), g, d, t, os⟩) :
    codeAny (model prog w) A (.builtin "ValueError.__new__" ⟨[.ref C], [(f, v)]⟩) R ⟨h, g, d, t, os⟩ := by
  have FV := PySem.F.excBase_ValueError
  have ends := FV.ends
  have inB : (Value.ref C :: bm).contains (.type "ValueError") = true := by rw [List.contains_cons, hT, FV.hasB, Bool.or_true]
  have noA : (Value.ref C :: bm).contains (.type "AttributeError") = false := by rw [List.contains_cons, hT, FV.noAttr]; rfl
  have noN : (Value.ref C :: bm).contains (.type "NameError") = false := by rw [List.contains_cons, hT, FV.noName]; rfl
  refine codeAny_builtinAt FV.entry ?_
  unfold Builtin.«BaseException.__new__»
  refine wpAt_bind ?_
  show wpAt _ _ _ (stack >>= _) _ _ _
  refine wpAt_bind (wpAt_stack fun p below => wpAt_of_wpAny ?_)
  wp_walk
  refine wpAt_of_wpAny ?_
  rw [FV.owner]
  repeat (first | (with_reducible refine wpAny_isSubtype_exc hC ?_; first | rw [inB] | rw [noA] | rw [noN]) | with_reducible refine wpAny_madeHere_exc FV.canon hC ?_ | with_reducible refine wpAny_loadPart_at hC ?_ | wp_step)
  show R _ _
  rw [Heap.size_push]
  exact k
theorem typeCall (hT : ∀ X : String, bm.contains (.type X) = bmV.contains (.type X)) (hC : h.get? C = some (excClassObj nm q C N bs bm hdct sn sub ab col dd k0 k1 k2 k3 k5 "ValueError.__new__")) {fI : Addr} {Q : Fin → Shared → Prop}
    (hi : W.Looks (model prog w) h (typeLookup (.ref C) "__init__") (some (.ref fI))) (hb : ∀ self, W.Looks (model prog w) h (bindSpecial (.ref fI) self) (.ref fI, [self]))
    (k : codeAny (model prog w) A (.call (.ref fI) ⟨[.ref (h.objs.size + 1)], [(f, v)]⟩) (fun r s' => match r with | .ok (.ret u) => u = .none ∧ Q (.done (.ret (.ref (h.objs.size + 1)))) s' | .ok _ => False | .error e => E e s')
      ⟨(h.push (W.kdv_tup [])).push (excO C h.objs.size), g, d, t, os⟩) :
    wpAny (model prog w) A (Builtin.«type.__call__» ⟨[.ref C], [(f, v)]⟩) Q E ⟨h, g, d, t, os⟩ := by
  have FV := PySem.F.excBase_ValueError
  repeat (first | with_reducible refine wpAny_madeBy_exc hC ?_ | with_reducible refine wpAny_loadPart_at hC ?_ | wp_step)
  refine codeAny_call_builtin_code (Code.quiet_builtin _ FV.quiet) (checkNew hT hC ?_)
  refine newOf hT hC ?_
  show wpAny _ _ _ _ _ _
  have kp : ∀ b o, h.get? b = some o → ((h.push (W.kdv_tup [])).push (excO C h.objs.size)).get? b = some o := fun b o e => Heap.get?_push_of_some _ (Heap.get?_push_of_some _ e)
  have hC' := kp _ _ hC
  have here : ((h.push (W.kdv_tup [])).push (excO C h.objs.size)).get? (h.objs.size + 1) = some (excO C h.objs.size) := by heap_get
  have inC : (Value.ref C :: bm).contains (.ref C) = true := by simp
  have i' := hi.keeps kp
  have b' := (hb (.ref (h.objs.size + 1))).keeps kp
  unfold isInstance
  repeat (first | (with_reducible refine wpAny_isSubtype_exc hC' ?_; rw [inC]) | with_reducible refine wpAny_loadPart_at here ?_ | wp_step)
  show wpAny _ _ (typeLookup (.ref C) _) _ _ _
  refine i'.at ?_
  refine wpAny_holding (wpAny_bind (b'.at ?_))
  refine wpAny_bind (wpAny_call (codeAny_mono k fun r s' z => ?_))
  rcases r with e | (u | _ | _ | _) <;> first | exact z | exact z.elim | skip
  obtain ⟨rfl, z⟩ := z
  first
    | (wp_walk; exact z)
    | exact wpAny_pure (wpAny_pure z)
theorem callOf (hT : ∀ X : String, bm.contains (.type X) = bmV.contains (.type X)) (hC : h.get? C = some (excClassObj nm q C N bs bm hdct sn sub ab col dd k0 k1 k2 k3 k5 "ValueError.__new__")) {fI : Addr}
    (hi : W.Looks (model prog w) h (typeLookup (.ref C) "__init__") (some (.ref fI))) (hb : ∀ self, W.Looks (model prog w) h (bindSpecial (.ref fI) self) (.ref fI, [self]))
    (k : codeAny (model prog w) (A.under (.builtin "type.__call__" ⟨[.ref C], [(f, v)]⟩)) (.call (.ref fI) ⟨[.ref (h.objs.size + 1)], [(f, v)]⟩) (W.InitBack (h.objs.size + 1) R)
      ⟨(h.push (W.kdv_tup [])).push (excO C h.objs.size), g, d, t, os⟩) :
    codeAny (model prog w) A (.call (.ref C) ⟨[], [(f, v)]⟩) R ⟨h, g, d, t, os⟩ := by
  have z1 := tc_lookup
  have z2 := tc_bind (.ref C)
  have z3 : (⟨h, g, d, t, os⟩ : Shared).TypeIs (.ref C) "type" := ⟨_, hC, rfl⟩
  refine codeAny_of_tree ?_
  show wpAny _ _ (callAny (.ref C) _) _ _ _
  repeat (any_goals (first | with_reducible refine wpAny_loadPart_at hC ?_ | assumption | wp_step))
  refine ⟨rfl, ?_⟩
  refine codeAny_call_builtin_at (Code.quiet_builtin _ (by decide +kernel)) entry_typeCall (checkCall hC (typeCall hT hC hi hb ?_))
  refine codeAny_mono k fun r s' z => ?_
  rcases r with e | (u | _ | _ | _) <;> exact z
end
end KX
end

section
set_option linter.all false
set_option maxRecDepth 100000
set_option maxHeartbeats 4000000
namespace K0
open PySem L2

def top (i : Nat) : Stmt := PySem.Challenge.pw_ringcubes_k00_errors_of_all_parts.main.body.getD i (.Pass ⟨0, 0, 0, 0⟩)
abbrev sBegun : Stmt := top 38
abbrev sMixed : Stmt := top 39
abbrev sTake : Stmt := top 40
abbrev sPick : Stmt := top 41

/-- what all laws ask of the built-in names -/
structure Txt (mg : Str → Option Value) (K : PySem.W.Frag) (fM fT fP : Addr) : Prop where
  abs : mg "abs" = none
  int : mg "int" = none
  len : mg "len" = none
  gM : mg "_law_mixed" = some (.ref fM)
  kM : PySem.W.keepIn K (.ref fM) = true
  gT : mg "_law_take" = some (.ref fT)
  kT : PySem.W.keepIn K (.ref fT) = true
  gP : mg "_law_pick" = some (.ref fP)
  kP : PySem.W.keepIn K (.ref fP) = true

/-- the dict of the draws, as its pairs -/
def dk (l c : Addr) (rest turn : Int) : List (Key × V) :=
  [(Sum.inr ("large" : Str), .ref l), (Sum.inr ("rest" : Str), .int rest), (Sum.inr ("cells" : Str), .ref c), (Sum.inr ("turn" : Str), .int turn)]
theorem dk_large (l c : Addr) (r t : Int) : valV (dk l c r t) (Sum.inr ("large" : Str)) = some (.ref l) := rfl
/-- draws stand at d, their list of large numbers at l -/
def Draw (H : Hp) (d l : Addr) : Prop := ∃ (c : Addr) (r t : Int) (la ce : List Int), H d = some (.dK (dk l c r t)) ∧ H l = some (.lst (la.map V.int)) ∧ H c = some (.lst (ce.map V.int)) ∧ la.length ≤ 63 ∧ ce.length ≤ 63 ∧ c ≠ l

def spBegun (K : PySem.W.Frag) : Sp := fun vs H Q _ => ∃ (a : Addr) (ns : List Int), vs = [.ref a] ∧ SqL K H a (ns.map V.int) ∧ ns.length ≤ 63 ∧
  ∀ (d l : Addr) (H' : Hp), H d = none → H l = none → Draw H' d l → Same H H' → Q (.ref d) H'

section
variable {P : Program} {w : World} {K : PySem.W.Frag} {mg : Str → Option Value} {base : Heap}
theorem scB : FnScope ["script", "large", "grain"] ["script"] (defScope sBegun) := ⟨rfl, rfl, rfl, by decide +kernel, rfl, by decide +kernel, by decide +kernel⟩
theorem map_int {ns : List Int} {i : Nat} {y : V} (h : (ns.map V.int)[i]? = some y) : ∃ z, ns[i]? = some z ∧ y = V.int z := by
  rw [List.getElem?_map] at h
  cases e : ns[i]? with
  | none => rw [e] at h; cases h
  | some z => rw [e] at h; exact ⟨z, rfl, (Option.some.inj h).symm⟩
theorem lt_of_get {ns : List Int} {i : Nat} {z : Int} (h : ns[i]? = some z) : i < ns.length := (List.getElem?_eq_some_iff.mp h).1
theorem ok_begun {f fM fT fP : Addr} {fd : FuncData} (F : Fun K "_law_begun" "_law_begun" sBegun f fd) (T : Txt mg K fM fT fP) : FnOk P w K mg base CX0 1 f fd ["script"] (spBegun K) := by
  refine F.ok scB (fun vs H Q E h => ?_) (fun cdv A outer s H vs Q E hr h => ?_)
  · obtain ⟨a, ns, rfl, _⟩ := h
    rfl
  · obtain ⟨a, ns, rfl, hS, hlen, k⟩ := h
    refine ⟨_, pss_cons (ps_setLc (i := 1) (own := [("grain", 2)]) (g := gName 2) rfl scB.nd rfl rfl (sw_true rfl rfl rfl (by decide +kernel)) (pi_list (pv 0)) (blkOk_by (own := [("grain", 2)]) (N := ["script", "large", "grain"]) (sc := defScope sBegun) (by decide +kernel))
        (fun _ _ _ _ _ => pg_name (i := 2) scB.nd rfl (Or.inl rfl)) (fun _ _ _ _ _ => pts_one (pt_cmpR op_ge (pe_callB call_abs (by rfl) T.abs (by decide +kernel) (pa_cons (pv 2) pa_nil)) (pe_op op_pow pe_int pe_int) (nomark _)))
        (fun _ _ _ _ _ => pe_op op_sub (pe_callB call_abs (by rfl) T.abs (by decide +kernel) (pa_cons (pv 2) pa_nil)) (pe_op op_pow pe_int pe_int)))
      (pss_one (ps_ret (pe_disp (pps_cons pe_str (pv 1) (pps_cons pe_str pe_int (pps_cons pe_str
        (pe_lc (own := [("grain", 2)]) (g := gName 2) (tt := tYes) rfl scB.nd (pi_list (pv 0)) (blkOk_by (own := [("grain", 2)]) (N := ["script", "large", "grain"]) (sc := defScope sBegun) (by decide +kernel))
          (fun _ _ _ _ _ => pg_name (i := 2) scB.nd rfl (Or.inl rfl)) (fun _ _ _ _ _ => pts_nil) (fun _ _ _ _ _ => pe_callB call_abs (by rfl) T.abs (by decide +kernel) (pa_cons (pv 2) pa_nil)))
        (pps_cons pe_str pe_int pps_nil)))) (by rfl) (by rfl) (fun z => by cases z) (by decide)))), ?_⟩
    refine ⟨_, rfl, a, rfl, ⟨_, hS⟩, fun D hD => ?_⟩
    refine lc_list (K := K) (a := a) (xs := ns.map V.int) (fun i H' => Same H H' ∧ ∃ la : List Int, H' D = some (.lst (la.map V.int)) ∧ la.length ≤ i)
      ⟨fun b o e => by rw [upd_ne (ne_of_none e hD)]; exact e, [], upd_same, Nat.le_refl _⟩ (fun i H' _ p => p.1.seq hS) ?_ ?_
    · rintro i x H' hx ⟨s1, la, hla, hl⟩
      obtain ⟨z, hz, rfl⟩ := map_int hx
      have hi := lt_of_get hz
      refine ⟨rfl, _, rfl, z, rfl, _, _, rfl, rfl, ⟨by decide, by decide, by decide⟩, _, _, rfl, rfl, _, rfl, ?_⟩
      refine ite2 (fun _ => ?_) (fun _ => ?_)
      · refine ⟨_, rfl, z, rfl, _, _, rfl, rfl, ⟨by decide, by decide, by decide⟩, _, _, rfl, rfl, _, hla, (by rw [List.length_map]; exact small1000 (by omega)), ?_, la ++ [(if z < 0 then -z else z) - 10 ^ Int.toNat 18], ?_, ?_⟩
        · intro b o e
          rw [upd_ne (ne_of_none e hD)]
          exact s1 b o e
        · rw [upd_same, List.map_append]
          rfl
        · rw [List.length_append, List.length_singleton]
          omega
      · exact ⟨s1, la, hla, by omega⟩
    · rintro H1 ⟨s1, la, hla, hl⟩
      rw [List.length_map] at hl
      intro d hd
      have hdD : D ≠ d := fun e => by rw [← e, hla] at hd; cases hd
      have s2 : Same H (upd H1 d (.dK [])) := fun b o e => by
        rw [upd_ne (ne_of_none (s1 b o e) hd)]
        exact s1 b o e
      refine ⟨_, rfl, _, rfl, a, rfl, ⟨_, s2.seq hS⟩, fun c hc => ?_⟩
      have hcd : c ≠ d := fun e => by rw [e, upd_same] at hc; cases hc
      have hcD : c ≠ D := fun e => by rw [e, upd_ne hdD, hla] at hc; cases hc
      refine lc_list (K := K) (a := a) (xs := ns.map V.int) (fun i H' => Same (upd H1 d (.dK [])) H' ∧ ∃ ce : List Int, H' c = some (.lst (ce.map V.int)) ∧ ce.length ≤ i)
        ⟨fun b o e => by rw [upd_ne (ne_of_none e hc)]; exact e, [], upd_same, Nat.le_refl _⟩ (fun i H' _ p => p.1.seq (s2.seq hS)) ?_ ?_
      · rintro i x H' hx ⟨s3, ce, hce, hl3⟩
        obtain ⟨z, hz, rfl⟩ := map_int hx
        have hi := lt_of_get hz
        refine ⟨rfl, _, rfl, z, rfl, _, hce, (by rw [List.length_map]; exact small1000 (by omega)), ?_, ce ++ [if z < 0 then -z else z], ?_, ?_⟩
        · intro b o e
          rw [upd_ne (ne_of_none e hc)]
          exact s3 b o e
        · rw [upd_same, List.map_append]
          rfl
        · rw [List.length_append, List.length_singleton]
          omega
      · rintro H2 ⟨s3, ce, hce, hl3⟩
        rw [List.length_map] at hl3
        have s4 : Same H H2 := s2.trans s3
        refine ⟨s3 _ _ upd_same, [(Sum.inr ("large" : Str), .ref D), (Sum.inr ("rest" : Str), .int 0), (Sum.inr ("cells" : Str), .ref c), (Sum.inr ("turn" : Str), .int 0)], rfl, (by show 4 ≤ 15; decide), ?_⟩
        have hD2 : H2 D = some (.lst (la.map V.int)) := s3 _ _ (by rw [upd_ne hdD]; exact hla)
        refine k d D _ (s1.free hd) hD ⟨c, 0, 0, la, ce, ?_, ?_, ?_, by omega, by omega, hcD⟩ fun b o e => ?_
        · rw [upd_same]
          rfl
        · rw [upd_ne hdD]
          exact hD2
        · rw [upd_ne hcd]
          exact hce
        · rw [upd_ne (ne_of_none (s1 b o e) hd)]
          exact s4 b o e
/-- what a draw leaves: draws again, and all that is no part of them as it stood -/
def After (H H' : Hp) (d l : Addr) : Prop := Draw H' d l ∧ ∀ b o, H b = some o → b ≠ d → b ≠ l → H' b = some o
def spMixed : Sp := fun vs H Q _ => ∃ d l : Addr, vs = [.ref d] ∧ Draw H d l ∧ ∀ (r : Int) (H' : Hp), After H H' d l → Q (.int r) H'
def spTake : Sp := fun vs H Q _ => ∃ (d l : Addr) (n : Int), vs = [.ref d, .int n] ∧ Draw H d l ∧ 0 < n ∧ n < 1073741824 ∧ ∀ (r : Int) (H' : Hp), 0 ≤ r → r < n → After H H' d l → Q (.int r) H'
def spPick (K : PySem.W.Frag) : Sp := fun vs H Q _ => ∃ (d l a : Addr) (xs : List V), vs = [.ref d, .ref a] ∧ Draw H d l ∧ SqL K H a xs ∧ a ≠ d ∧ a ≠ l ∧ 0 < xs.length ∧ xs.length < 1073741824 ∧ ∀ (v : V) (H' : Hp), v ∈ xs → After H H' d l → Q v H'
theorem mod_lt31 {x g : Int} (h0 : 0 < g) (h1 : g < 2147483648) : 0 ≤ x % g ∧ x % g < 2147483648 := ⟨Int.emod_nonneg _ (by omega), Int.lt_trans (Int.emod_lt_of_pos _ h0) h1⟩
theorem scM : FnScope ["draw", "turn", "found", "great", "blend", "grain"] ["draw"] (defScope sMixed) := ⟨rfl, rfl, rfl, by decide +kernel, rfl, by decide +kernel, by decide +kernel⟩
theorem ok_mixed {f fM fT fP : Addr} {fd : FuncData} (F : Fun K "_law_mixed" "_law_mixed" sMixed f fd) (T : Txt mg K fM fT fP) : FnOk P w K mg base CX0 1 f fd ["draw"] spMixed := by
  refine F.ok scM (fun vs H Q E h => ?_) (fun cdv A outer s H vs Q E hr h => ?_)
  · obtain ⟨d, l, rfl, _⟩ := h
    rfl
  · obtain ⟨d, l, rfl, ⟨c, r, t, la, ce, hd, hl, hc, zl, zc, ncl⟩, k⟩ := h
    have hu := hu_of hr
    refine ⟨_, pss_cons (ps_dput hu (pv 0) pe_str (pe_op op_add (pe_dget hu (pv 0) pe_str (fun _ _ => rfl)) pe_int) rfl)
      (pss_cons (ps_par (i := 1) (j := 2) (by rfl) scM.nd rfl rfl (by decide) rfl rfl (pa_cons (pe_callTy call_int1 (by rfl) T.int (by decide +kernel) (pa_cons (pe_dget hu (pv 0) pe_str (fun _ _ => rfl)) pa_nil)) (pa_cons pe_int pa_nil)) (by rfl))
      (pss_cons (ps_for PassesOwn.never rfl (pi_list (pe_lst (pa_cons pe_int (pa_cons pe_int (pa_cons pe_int pa_nil))))) (pg_name (i := 3) scM.nd rfl (Or.inl rfl))
        (pss_cons (ps_set (i := 4) scM.nd rfl (Or.inl rfl) (pe_op op_mod (pe_op op_add (pe_op op_mul (pv 1) pe_int) (pe_op op_fdiv (pv 3) pe_int)) (pv 3)))
        (pss_cons (ps_for PassesOwn.never rfl (pi_list (pe_dget hu (pv 0) pe_str (fun _ _ => rfl))) (pg_name (i := 5) scM.nd rfl (Or.inl rfl))
          (pss_one (ps_set (i := 4) scM.nd rfl (Or.inl rfl) (pe_op op_mod (pe_op op_add (pe_op op_mul (pv 4) pe_int) (pe_callTy call_int1 (by rfl) T.int (by decide +kernel) (pa_cons (pv 5) pa_nil))) (pv 3)))))
        (pss_one (ps_set (i := 2) scM.nd rfl (Or.inl rfl) (pe_op op_add (pe_op op_mul (pv 2) pe_int) (pe_op op_mod (pe_op op_pow (pv 4) pe_int) (pv 3))))))))
      (pss_one (ps_ret (pv 2))))), ?_⟩
    refine ⟨_, rfl, d, _, rfl, DGet.k (k := Sum.inr ("turn" : Str)) hd, _, _, rfl, rfl, _, rfl, d, _, rfl, DPut.k (k := Sum.inr ("turn" : Str)) hd (by show 4 < sizeLine; decide), ?_⟩
    have nld : l ≠ d := ne_of hl hd (by intro z; cases z)
    have ncd : c ≠ d := ne_of hc hd (by intro z; cases z)
    have e1 : putK (dk l c r t) (Sum.inr ("turn" : Str)) (V.int (t + 1)) = dk l c r (t + 1) := rfl
    rw [show putK (dk l c r t) (Sum.inr ("turn" : Str)) (V.int (t + 1)) = dk l c r (t + 1) from rfl]
    refine ⟨_, rfl, d, _, rfl, DGet.k (k := Sum.inr ("turn" : Str)) upd_same, .inl ⟨_, rfl, _, _, rfl, ?_⟩⟩
    refine ⟨by show 3 ≤ sizeLine; decide, fun p hp => ?_⟩
    have npd : d ≠ p := fun e => by rw [← e, upd_same] at hp; cases hp
    have hp0 : H p = none := by rw [upd_ne npd.symm] at hp; exact hp
    let H1 : Hp := upd (upd H d (.dK (dk l c r (t + 1)))) p (.lst [.int 2147483629, .int 2147483587, .int 2147483579])
    have h1p : H1 p = some (.lst [.int 2147483629, .int 2147483587, .int 2147483579]) := upd_same
    have h1d : H1 d = some (.dK (dk l c r (t + 1))) := by show upd _ _ _ _ = _; rw [upd_ne npd, upd_same]
    have h1c : H1 c = some (.lst (ce.map V.int)) := by show upd _ _ _ _ = _; rw [upd_ne (ne_of_none hc hp0), upd_ne ncd]; exact hc
    have h1l : H1 l = some (.lst (la.map V.int)) := by show upd _ _ _ _ = _; rw [upd_ne (ne_of_none hl hp0), upd_ne nld]; exact hl
    refine ⟨p, rfl, ⟨_, SqL.of h1p⟩, for_list (K := K) (a := p) (xs := [.int 2147483629, .int 2147483587, .int 2147483579])
      (fun i σ H' => H' = H1 ∧ ∃ (fo : Int) (x3 x4 x5 : Option V), σ = [some (.ref d), some (.int (t + 1)), some (.int fo), x3, x4, x5]) ⟨rfl, 0, none, none, none, rfl⟩
      (fun i σ H' _ q => by rw [q.1]; exact SqL.of h1p) ?_ ?_⟩
    · rintro i x σ H' hx ⟨rfl, fo, x3, x4, x5, rfl⟩
      obtain ⟨g, rfl, g0, g1⟩ : ∃ g : Int, x = .int g ∧ 0 < g ∧ g < 2147483648 := by
        match i, hx with
        | 0, hx => exact ⟨_, (Option.some.inj hx).symm, by decide, by decide⟩
        | 1, hx => exact ⟨_, (Option.some.inj hx).symm, by decide, by decide⟩
        | 2, hx => exact ⟨_, (Option.some.inj hx).symm, by decide, by decide⟩
      refine ⟨_, rfl, _, _, rfl, rfl, .inr ⟨by decide, by decide⟩, _, rfl, _, _, rfl, rfl, ⟨by decide, by decide⟩, _, _, rfl, rfl, _, rfl, _, _, rfl, rfl, g0, ?_⟩
      refine ⟨_, rfl, d, _, rfl, DGet.k (k := Sum.inr ("cells" : Str)) h1d, c, rfl, ⟨_, SqL.of h1c⟩, for_list (K := K) (a := c) (xs := ce.map V.int)
        (fun i σ H' => H' = H1 ∧ ∃ (b : Int) (x5 : Option V), 0 ≤ b ∧ b < 2147483648 ∧ σ = [some (.ref d), some (.int (t + 1)), some (.int fo), some (.int g), some (.int b), x5]) ⟨rfl, _, _, (mod_lt31 g0 g1).1, (mod_lt31 g0 g1).2, rfl⟩
        (fun i σ H' _ q => by rw [q.1]; exact SqL.of h1c) ?_ ?_⟩
      · rintro j y σ H' hy ⟨rfl, b, x5', b0, b1, rfl⟩
        obtain ⟨z, hz, rfl⟩ := map_int hy
        refine ⟨_, rfl, _, _, rfl, rfl, .inr ⟨by decide, by decide⟩, _, rfl, .inl ⟨_, rfl, _, _, rfl, rfl, _, rfl, _, _, rfl, rfl, g0, rfl, _, _, (mod_lt31 g0 g1).1, (mod_lt31 g0 g1).2, rfl⟩⟩
      · rintro σ H' ⟨rfl, b, x5', b0, b1, rfl⟩
        refine ⟨_, rfl, _, _, rfl, rfl, .inr ⟨by decide, by decide⟩, _, rfl, _, _, rfl, rfl, ⟨by decide, by decide, by omega⟩, _, rfl, _, _, rfl, rfl, g0, _, _, rfl, rfl, rfl, _, _, _, _, rfl⟩
    · rintro σ H' ⟨rfl, fo, x3, x4, x5, rfl⟩
      refine ⟨_, rfl, k fo H1 ⟨⟨c, r, t + 1, la, ce, h1d, h1l, h1c, zl, zc, ncl⟩, fun b o e n1 n2 => ?_⟩⟩
      show upd _ _ _ _ = _
      rw [upd_ne (ne_of_none e hp0), upd_ne n1]
      exact e
theorem After.refl {H : Hp} {d l : Addr} (h : Draw H d l) : After H H d l := ⟨h, fun _ _ e _ _ => e⟩
theorem After.trans {H H1 H2 : Hp} {d l : Addr} (a : After H H1 d l) (b : After H1 H2 d l) : After H H2 d l := ⟨b.1, fun c o e n1 n2 => b.2 c o (a.2 c o e n1 n2) n1 n2⟩
theorem Draw.nld {H : Hp} {d l : Addr} (h : Draw H d l) : l ≠ d := by
  obtain ⟨c, r, t, la, ce, hd, hl, _⟩ := h
  exact ne_of hl hd (by intro z; cases z)
/-- the pairs changed: another rest, another turn -/
theorem Draw.put {H : Hp} {d l c : Addr} {r t r' t' : Int} {la ce : List Int} (hd : H d = some (.dK (dk l c r t))) (hl : H l = some (.lst (la.map V.int))) (hc : H c = some (.lst (ce.map V.int))) (zl : la.length ≤ 63) (zc : ce.length ≤ 63) (ncl : c ≠ l) :
    After H (upd H d (.dK (dk l c r' t'))) d l := by
  have nld : l ≠ d := ne_of hl hd (by intro z; cases z)
  have ncd : c ≠ d := ne_of hc hd (by intro z; cases z)
  exact ⟨⟨c, r', t', la, ce, upd_same, by rw [upd_ne nld]; exact hl, by rw [upd_ne ncd]; exact hc, zl, zc, ncl⟩, fun b o e n1 n2 => by rw [upd_ne n1]; exact e⟩
theorem eqv_nil (la : List Int) : PyData.eqv (.list (la.map PyData.int)) (.list []) = decide (la = []) := by
  cases la with
  | nil => decide +kernel
  | cons a l => rw [decide_eq_false (by simp)]; rfl
theorem dp_ints {H : Hp} : ∀ la : List Int, DpAll K H (la.map V.int) (la.map PyData.int)
  | [] => .nil
  | a :: l => .cons (.int a) (dp_ints l)
theorem shaped_ints (la : List Int) : SeqAt.shaped (.list (la.map PyData.int)) = true := by
  induction la with
  | nil => decide +kernel
  | cons a l ih => exact ih
theorem scT : FnScope ["draw", "amount", "found"] ["draw", "amount"] (defScope sTake) := ⟨rfl, rfl, rfl, by decide +kernel, rfl, by decide +kernel, by decide +kernel⟩
theorem ok_take {f fM fT fP : Addr} {fd fdM : FuncData} (F : Fun K "_law_take" "_law_take" sTake f fd) (T : Txt mg K fM fT fP) (FM : Fun K "_law_mixed" "_law_mixed" sMixed fM fdM) (bM : Binds K fdM ["draw"] []) :
    FnOk P w K mg base CX0 2 f fd ["draw", "amount"] spTake := by
  have GM : FnOk P w K mg base CX0 1 fM fdM ["draw"] spMixed := ok_mixed FM T
  refine F.ok scT (fun vs H Q E h => ?_) (fun cdv A outer s H vs Q E hr h => ?_)
  · obtain ⟨d, l, n, rfl, _⟩ := h
    rfl
  · obtain ⟨d, l, n, rfl, ⟨c, r, t, la, ce, hd, hl, hc, zl, zc, ncl⟩, n0, n1, k⟩ := h
    have hu := hu_of hr
    have D0 : Draw H d l := ⟨c, r, t, la, ce, hd, hl, hc, zl, zc, ncl⟩
    refine ⟨_, pss_cons (ps_if (pt_cmpR op_eq (pe_dget hu (pv 0) pe_str (fun _ _ => rfl)) pe_int (nomark _))
        (pss_one (ps_dput hu (pv 0) pe_str (pe_ifExp (pt_cmpR (op_neD hr.units) (pe_dget hu (pv 0) pe_str (fun _ _ => rfl)) (pe_lst pa_nil) (nomark _))
          (pe_bm PySem.F.plainAttrs_list PySem.F.slot_list_pop PySem.F.type_list_pop mt_popAt (pe_dget hu (pv 0) pe_str (fun _ _ => rfl)) (pa_cons pe_int pa_nil))
          (pe_call GM hr rfl T.gM T.kM bM .nil pass0 (pa_cons (pv 0) pa_nil))) rfl)) pss_nil)
      (pss_cons (ps_set (i := 2) scT.nd rfl (Or.inl rfl) (pe_op op_mod (pe_callTy call_int1 (by rfl) T.int (by decide +kernel) (pa_cons (pe_dget hu (pv 0) pe_str (fun _ _ => rfl)) pa_nil)) (pv 1)))
      (pss_cons (ps_dput hu (pv 0) pe_str (pe_op op_fdiv (pe_callTy call_int1 (by rfl) T.int (by decide +kernel) (pa_cons (pe_dget hu (pv 0) pe_str (fun _ _ => rfl)) pa_nil)) (pv 1)) rfl)
      (pss_one (ps_ret (pv 2))))), ?_⟩
    refine ⟨_, rfl, d, _, rfl, DGet.k (k := Sum.inr ("rest" : Str)) hd, rfl, _, rfl, ?_⟩
    refine ite2 (fun _ => ?_) (fun _ => ?_)
    · refine ⟨_, rfl, d, _, rfl, DGet.k (k := Sum.inr ("large" : Str)) hd, Nat.zero_le _, fun p hp => ?_⟩
      have hlp : upd H p (.lst []) l = some (.lst (la.map V.int)) := by rw [upd_ne (ne_of_none hl hp)]; exact hl
      have hdp : upd H p (.lst []) d = some (.dK (dk l c r t)) := by rw [upd_ne (ne_of_none hd hp)]; exact hd
      have hcp : upd H p (.lst []) c = some (.lst (ce.map V.int)) := by rw [upd_ne (ne_of_none hc hp)]; exact hc
      have Ap : After H (upd H p (.lst [])) d l := ⟨⟨c, r, t, la, ce, hdp, hlp, hcp, zl, zc, ncl⟩, fun b o e _ _ => by rw [upd_ne (ne_of_none e hp)]; exact e⟩
      refine ⟨_, _, .lst (SqL.of hlp) (dp_ints la), .lst (SqL.of upd_same) .nil, shaped_ints la, by decide +kernel, _, rfl, ?_⟩
      rw [eqv_nil]
      cases la with
      | nil =>
        refine ⟨_, rfl, d, l, rfl, Ap.1, fun r1 H1 A1 => ?_⟩
        have A2 := After.trans Ap A1
        obtain ⟨⟨c2, r2, t2, la2, ce2, hd2, hl2, hc2, zl2, zc2, ncl2⟩, kp2⟩ := A2
        refine ⟨_, rfl, d, _, rfl, DPut.k (k := Sum.inr ("rest" : Str)) hd2 (by show 4 < sizeLine; decide), ?_⟩
        have A1 : After H (upd H1 d (.dK (dk l c2 r1 t2))) d l := After.trans ⟨⟨c2, r2, t2, la2, ce2, hd2, hl2, hc2, zl2, zc2, ncl2⟩, kp2⟩ (Draw.put hd2 hl2 hc2 zl2 zc2 ncl2)
        obtain ⟨⟨c1, r1, t1, la1, ce1, hd1, hl1, hc1, zl1, zc1, ncl1⟩, kp1⟩ := A1
        refine ⟨_, rfl, d, _, rfl, DGet.k (k := Sum.inr ("rest" : Str)) hd1, .inl ⟨_, rfl, _, rfl, _, _, rfl, rfl, n0, _, rfl, d, _, rfl, DGet.k (k := Sum.inr ("rest" : Str)) hd1, .inl ⟨_, rfl, _, rfl, _, _, rfl, rfl, ⟨n0, n1⟩, _, rfl, d, _, rfl, DPut.k (k := Sum.inr ("rest" : Str)) hd1 (by show 4 < sizeLine; decide), _, rfl, ?_⟩⟩⟩
        exact k _ _ (Int.emod_nonneg _ (by omega)) (Int.emod_lt_of_pos _ n0) (After.trans ⟨⟨c1, r1, t1, la1, ce1, hd1, hl1, hc1, zl1, zc1, ncl1⟩, kp1⟩ (Draw.put hd1 hl1 hc1 zl1 zc1 ncl1))
      | cons x0 la =>
        refine ⟨_, rfl, d, _, rfl, DGet.k (k := Sum.inr ("large" : Str)) hdp, .inl ⟨rfl, _, SqL.of hlp⟩, l, _, _, 0, _, rfl, rfl, hlp, by decide, by decide, (by rw [List.length_map, List.length_cons]; simp [seqIndex?]), rfl, ?_⟩
        have nld : l ≠ d := D0.nld
        have ncd : c ≠ d := ne_of hc hd (by intro z; cases z)
        have hd3 : upd (upd H p (.lst [])) l (.lst (la.map V.int)) d = some (.dK (dk l c r t)) := by rw [upd_ne nld.symm]; exact hdp
        have hl3 : upd (upd H p (.lst [])) l (.lst (la.map V.int)) l = some (.lst (la.map V.int)) := upd_same
        have hc3 : upd (upd H p (.lst [])) l (.lst (la.map V.int)) c = some (.lst (ce.map V.int)) := by rw [upd_ne ncl]; exact hcp
        have zl3 : la.length ≤ 63 := by rw [List.length_cons] at zl; omega
        have A3 : After H (upd (upd H p (.lst [])) l (.lst (la.map V.int))) d l := ⟨⟨c, r, t, la, ce, hd3, hl3, hc3, zl3, zc, ncl⟩, fun b o e _ n2 => by rw [upd_ne n2, upd_ne (ne_of_none e hp)]; exact e⟩
        refine ⟨_, rfl, d, _, rfl, DPut.k (k := Sum.inr ("rest" : Str)) hd3 (by show 4 < sizeLine; decide), ?_⟩
        have A1 : After H (upd (upd (upd H p (.lst [])) l (.lst (la.map V.int))) d (.dK (dk l c x0 t))) d l := After.trans A3 (Draw.put hd3 hl3 hc3 zl3 zc ncl)
        obtain ⟨⟨c1, r1, t1, la1, ce1, hd1, hl1, hc1, zl1, zc1, ncl1⟩, kp1⟩ := A1
        refine ⟨_, rfl, d, _, rfl, DGet.k (k := Sum.inr ("rest" : Str)) hd1, .inl ⟨_, rfl, _, rfl, _, _, rfl, rfl, n0, _, rfl, d, _, rfl, DGet.k (k := Sum.inr ("rest" : Str)) hd1, .inl ⟨_, rfl, _, rfl, _, _, rfl, rfl, ⟨n0, n1⟩, _, rfl, d, _, rfl, DPut.k (k := Sum.inr ("rest" : Str)) hd1 (by show 4 < sizeLine; decide), _, rfl, ?_⟩⟩⟩
        exact k _ _ (Int.emod_nonneg _ (by omega)) (Int.emod_lt_of_pos _ n0) (After.trans ⟨⟨c1, r1, t1, la1, ce1, hd1, hl1, hc1, zl1, zc1, ncl1⟩, kp1⟩ (Draw.put hd1 hl1 hc1 zl1 zc1 ncl1))
    · have A1 : After H H d l := After.refl D0
      obtain ⟨⟨c1, r1, t1, la1, ce1, hd1, hl1, hc1, zl1, zc1, ncl1⟩, kp1⟩ := A1
      refine ⟨_, rfl, d, _, rfl, DGet.k (k := Sum.inr ("rest" : Str)) hd1, .inl ⟨_, rfl, _, rfl, _, _, rfl, rfl, n0, _, rfl, d, _, rfl, DGet.k (k := Sum.inr ("rest" : Str)) hd1, .inl ⟨_, rfl, _, rfl, _, _, rfl, rfl, ⟨n0, n1⟩, _, rfl, d, _, rfl, DPut.k (k := Sum.inr ("rest" : Str)) hd1 (by show 4 < sizeLine; decide), _, rfl, ?_⟩⟩⟩
      exact k _ _ (Int.emod_nonneg _ (by omega)) (Int.emod_lt_of_pos _ n0) (After.trans ⟨⟨c1, r1, t1, la1, ce1, hd1, hl1, hc1, zl1, zc1, ncl1⟩, kp1⟩ (Draw.put hd1 hl1 hc1 zl1 zc1 ncl1))

theorem scP : FnScope ["draw", "some"] ["draw", "some"] (defScope sPick) := ⟨rfl, rfl, rfl, by decide +kernel, rfl, by decide +kernel, by decide +kernel⟩
theorem Draw.ne {H : Hp} {d l a : Addr} (D : Draw H d l) (ha : H a = none) : a ≠ d ∧ a ≠ l := by
  obtain ⟨c, r, t, la, ce, hd, hl, _⟩ := D
  exact ⟨fun e => (by rw [e, hd] at ha; cases ha), fun e => (by rw [e, hl] at ha; cases ha)⟩
theorem After.seq {H H' : Hp} {d l a : Addr} {xs : List V} (A : After H H' d l) (h : SqL K H a xs) (n1 : a ≠ d) (n2 : a ≠ l) : SqL K H' a xs := by
  rcases h with (h | ⟨o, h⟩) | h
  · exact .inl (.inl (A.2 _ _ h n1 n2))
  · exact .inl (.inr ⟨o, A.2 _ _ h n1 n2⟩)
  · exact .inr h
theorem After.new {H H' : Hp} {d l a : Addr} {o : HO} (ha : H a = none) (A : After (upd H a o) H' d l) : After H H' d l := ⟨A.1, fun b u e n1 n2 => A.2 b u (by rw [upd_ne (ne_of_none e ha)]; exact e) n1 n2⟩
theorem ok_pick {f fM fT fP : Addr} {fd fdM fdT : FuncData} (F : Fun K "_law_pick" "_law_pick" sPick f fd) (T : Txt mg K fM fT fP) (FM : Fun K "_law_mixed" "_law_mixed" sMixed fM fdM) (bM : Binds K fdM ["draw"] [])
    (FT : Fun K "_law_take" "_law_take" sTake fT fdT) (bT : Binds K fdT ["draw", "amount"] []) : FnOk P w K mg base CX0 3 f fd ["draw", "some"] (spPick K) := by
  have GT : FnOk P w K mg base CX0 2 fT fdT ["draw", "amount"] spTake := ok_take FT T FM bM
  refine F.ok scP (fun vs H Q E h => ?_) (fun cdv A outer s H vs Q E hr h => ?_)
  · obtain ⟨d, l, a, xs, rfl, _⟩ := h
    rfl
  · obtain ⟨d, l, a, xs, rfl, D, hS, n1, n2, z0, z1, k⟩ := h
    refine ⟨_, pss_one (ps_ret (pe_ix ix_list (pv 1) (pe_call GT hr rfl T.gT T.kT bT .nil pass0 (pa_cons (pv 0) (pa_cons (pe_callB call_len_seq (by rfl) T.len (by decide +kernel) (pa_cons (pv 1) pa_nil)) pa_nil))) (fun _ _ => rfl))), ?_⟩
    refine ⟨_, rfl, _, rfl, _, rfl, a, _, rfl, .inl hS, d, l, _, rfl, D, (by omega), (by omega), fun r H' r0 r1 A' => ?_⟩
    obtain ⟨i, rfl⟩ : ∃ i : Nat, r = (i : Int) := ⟨r.toNat, by omega⟩
    have hi : i < xs.length := by omega
    refine ⟨a, _, _, _, rfl, rfl, A'.seq hS n1 n2, atI_nat (List.getElem?_eq_getElem hi), k _ H' (List.getElem_mem hi) A'⟩
end
end K0
end

section
set_option linter.all false
set_option maxRecDepth 100000
set_option maxHeartbeats 4000000
/-! exceptions of own classes as values: made by place, made by name, their classes asked, their field read -/
namespace K0
open PySem L2

/-- at a stands an exception of the class at C -/
def ErrAt (H : Hp) (a C : Addr) : Prop := H a = some (ExO (.ref C) a) ∨ ∃ (d : Addr) (fs : List (Str × V)), H a = some (exo a C (some d)) ∧ H d = some (exd d fs)
theorem ErrAt.same {H H' : Hp} {a C : Addr} (h : ErrAt H a C) (s : Same H H') : ErrAt H' a C := by
  rcases h with h | ⟨d, fs, h1, h2⟩
  · exact .inl (s _ _ h)
  · exact .inr ⟨d, fs, s _ _ h1, s _ _ h2⟩
theorem ErrAt.got {H : Hp} {a C : Addr} (h : ErrAt H a C) : ∃ o, H a = some o := by
  rcases h with h | ⟨d, fs, h1, h2⟩
  · exact ⟨_, h⟩
  · exact ⟨_, h1⟩
/-- what the class at C must say, so that its instances are asked for their class rightly -/
structure ExcK (K : PySem.W.Frag) (C : Addr) : Prop where
  cl : (PySem.W.clsIn K C).isSome = true
  ga : PySem.W.findIn K (.ref C) "__getattribute__" = some (some (.builtin "BaseException.__getattribute__"))
  gg : PySem.W.findIn K (.ref C) "__getattr__" = some none
  sb : PySem.W.subIn K (.ref C) (.type "BaseException") = some true
  ca : PySem.W.findIn K (.ref C) "__class__" = some (some (.builtin "object.__class__"))
  sp : PySem.W.specialIn K (.builtin "object.__class__") "__get__" = some (some (.builtin "getset_descriptor.__get__"))
  tk : PySem.W.takesIn K (.builtin "object.__class__") = some true
  mo : PySem.W.mroIn K C (.type "object") = some true
def excB (K : PySem.W.Frag) (C : Addr) : Bool :=
  (PySem.W.clsIn K C).isSome && (decide (PySem.W.findIn K (.ref C) "__getattribute__" = some (some (.builtin "BaseException.__getattribute__"))) && (decide (PySem.W.findIn K (.ref C) "__getattr__" = some none) &&
  (decide (PySem.W.subIn K (.ref C) (.type "BaseException") = some true) && (decide (PySem.W.findIn K (.ref C) "__class__" = some (some (.builtin "object.__class__"))) && (decide (PySem.W.specialIn K (.builtin "object.__class__") "__get__" = some (some (.builtin "getset_descriptor.__get__"))) &&
  (decide (PySem.W.takesIn K (.builtin "object.__class__") = some true) && decide (PySem.W.mroIn K C (.type "object") = some true)))))))
theorem excB_ok {K : PySem.W.Frag} {C : Addr} (h : excB K C = true) : ExcK K C := by
  unfold excB at h
  simp only [Bool.and_eq_true, decide_eq_true_eq] at h
  obtain ⟨h1, h2, h3, h4, h5, h6, h7, h8⟩ := h
  exact ⟨h1, h2, h3, h4, h5, h6, h7, h8⟩

section
variable {X : Cx} {pins : List (Addr × Obj)} {σ : St} {H : Hp} {s : Shared} {a C : Addr}
theorem err_inst (I : Inv X pins σ H s) (h : ErrAt H a C) : ∃ ox od, PySem.W.InstAt s.heap a ox C od := by
  rcases h with h | ⟨d, fs, h1, h2⟩
  · obtain ⟨⟨oe, vs, ho, hz, hd, _⟩, _, _⟩ := I.hok a _ h
    obtain ⟨oc, od, oda, osl⟩ := oe
    obtain ⟨z1, z2⟩ := hz
    dsimp only at z1 z2 hd
    subst z1 z2 hd
    exact ⟨_, none, ho, rfl, rfl, trivial⟩
  · obtain ⟨t1, ho⟩ := exo_at I.hok h1
    obtain ⟨mA, ⟨od, es, ep, hd, _⟩, _⟩ := exd_at I.hok h2
    exact ⟨_, some od, ho, rfl, rfl, hd⟩
end
/-- isinstance(error, c), one class -/
def rIsV (K : PySem.W.Frag) : List V → Hp → VK → Prop := fun xs H Q => ∃ (a C : Addr) (c : V) (u : Value) (b : Bool), xs = [.ref a, c] ∧ ErrAt H a C ∧ ExcK K C ∧ ClsV c u ∧ PySem.W.kitOne K (.ref C) u = some b ∧ Q (.bl b) H
theorem call_isV {X : Cx} : CallR X (.builtin "isinstance") (rIsV X.K) := by
  intro pins s σ H xs us Q I r h
  obtain ⟨a, C, c, u, b, rfl, he, k, cv, e, q⟩ := h
  obtain ⟨u1, u2, rfl, r1, r2⟩ := vals2 r
  have e2 := cv.eq r2
  subst e2
  obtain rfl : u1 = Value.ref a := r1
  obtain ⟨ox, od, J⟩ := err_inst I he
  exact PySem.W.kia_one (PySem.W.kitx_exc (ox := ox) (od := od) k.cl k.ga k.gg k.sb k.ca k.sp k.tk k.mo) I.kIn J e (fun z => nomatch z) fun tk => ⟨.bl b, H, I.tok tk, rfl, q⟩

/-! ### made by its own __init__ -/
/-- __init__(self, f): self.f = f -/
def spIni (C : Addr) (f : Str) : Sp := fun vs H Q _ => ∃ (a : Addr) (v : V), vs = [.ref a, v] ∧ H a = some (exo a C none) ∧ ∀ dx, H dx = none → dx ≠ a → Q .non (upd (upd H dx (exd dx [(f, v)])) a (exo a C (some dx)))
/-- C(e), C(f = e) as a value -/
def tMkV (C : Addr) (f : Str) (ta : TA) : TE := fun σ H Q => ta σ H fun vs H1 => ∃ v, vs = [v] ∧ ∀ (a d : Addr), H1 a = none → H1 d = none → d ≠ a → Q (.ref a) (upd (upd H1 d (exd d [(f, v)])) a (exo a C (some d)))
section
variable {X : Cx} {pins : List (Addr × Obj)} {σ : St} {H1 : Hp} {C fI : Addr} {k : Nat} {fd : FuncData} {f : Str}
/-- what the walks of both ways share: behind the making, __init__'s own end -/
theorem ini_end {hp : Heap} {g : Array GenState} {dr : Drawn} {tk : Nat} {os : OsState} {Q : VK} {v : V} {u : Value} {rest : List Value} {kw : List (Str × Value)} (F1 : FnOk X.prog X.w X.K X.mg X.base CX0 k fI fd ["self", f] (spIni C f)) (hr : Room (k + 1) X.A)
    (I1 : Inv X pins σ H1 ⟨hp, g, dr, tk, os⟩) (ru : RelV v u)
    (hb : ∀ s : Shared, X.K.In s.heap → BindsTo s fd ⟨.ref (hp.objs.size + 1) :: rest, kw⟩ [("self", .ref (hp.objs.size + 1)), (f, u)])
    (q : ∀ (a d : Addr), H1 a = none → H1 d = none → d ≠ a → Q (.ref a) (upd (upd H1 d (exd d [(f, v)])) a (exo a C (some d)))) :
    codeAny (model X.prog X.w) (X.A.under (.builtin "type.__call__" ⟨.ref C :: rest, kw⟩)) (.call (.ref fI) ⟨.ref (hp.objs.size + 1) :: rest, kw⟩)
      (PySem.W.InitBack (hp.objs.size + 1) fun r s' => match r with | .ok (.ret w') => EP X pins σ Q w' s' | .ok _ => False | .error e => X.xe e s')
      ⟨(hp.push (PySem.W.kdv_tup (match kw with | [] => [u] | _ => []))).push (PySem.HandSPX.excO C hp.objs.size), g, dr, tk, os⟩ := by
  have hsz : hp.objs.size ≤ hp.objs.size + 1 := Nat.le_succ _
  have hn : H1 (hp.objs.size + 1) = none := I1.hok.fresh hsz
  have kk : ∀ (T : Obj) b o, hp.get? b = some o → ((hp.push T).push (PySem.HandSPX.excO C hp.objs.size)).get? b = some o := fun T b o e => Heap.get?_push_of_some _ (Heap.get?_push_of_some _ e)
  have hget : ∀ T : Obj, ((hp.push T).push (PySem.HandSPX.excO C hp.objs.size)).get? (hp.objs.size + 1) = some (PySem.HandSPX.excO C hp.objs.size) := fun T => by heap_get
  generalize PySem.W.kdv_tup (match kw with | [] => [u] | _ => []) = T
  have I2 : Inv X pins σ (upd H1 (hp.objs.size + 1) (exo (hp.objs.size + 1) C none)) ⟨(hp.push T).push (PySem.HandSPX.excO C hp.objs.size), g, dr, tk, os⟩ :=
    I1.laid (t' := tk) (kk T) hsz (exo_ok (hget T))
  have hq : spIni C f [.ref (hp.objs.size + 1), v] (upd H1 (hp.objs.size + 1) (exo (hp.objs.size + 1) C none)) (fun z H2 => z = .non ∧ Q (.ref (hp.objs.size + 1)) H2) (fun _ _ _ => False) := by
    refine ⟨_, _, rfl, upd_same, fun dx n ne => ⟨rfl, ?_⟩⟩
    have hd : H1 dx = none := by rw [upd_ne ne] at n; exact n
    have z := q (hp.objs.size + 1) dx hn hd ne
    have eH : upd (upd (upd H1 (hp.objs.size + 1) (exo (hp.objs.size + 1) C none)) dx (exd dx [(f, v)])) (hp.objs.size + 1) (exo (hp.objs.size + 1) C (some dx)) = upd (upd H1 dx (exd dx [(f, v)])) (hp.objs.size + 1) (exo (hp.objs.size + 1) C (some dx)) := by
      funext b
      unfold upd
      split <;> rfl
    rw [eH]
    exact z
  refine codeAny_mono (F1.run _ X.stack _ _ ⟨Value.ref (hp.objs.size + 1) :: rest, kw⟩ [Value.ref (hp.objs.size + 1), u] _ _ (fun _ _ _ => False) (hr.make C rest kw) (I2.env0.make C rest kw) (hb _ I2.kIn) (.cons (show RelV (.ref (hp.objs.size + 1)) _ from rfl) (.cons ru .nil)) hq) fun r s' z => ?_
  cases r with
  | error e => exact z.elim
  | ok fl =>
    cases fl with
    | ret w' =>
      obtain ⟨y, H', I3, rv, ev, q3⟩ := I2.after z
      subst ev
      exact ⟨rv, V.ref (hp.objs.size + 1), H', I3, rfl, q3⟩
    | next => exact z.elim
    | brk => exact z.elim
    | cont => exact z.elim
end
section
variable {X : Cx} {C fI : Addr} {k : Nat} {fd : FuncData} {f x : Str} {e : Expr} {ta : TA} {p pos kpos : Pos}
theorem pe_mkv (T : OexC X.K C) (iC : PySem.W.findIn X.K (.ref C) "__init__" = some (some (.ref fI))) (tI : PySem.W.typeIn X.K (.ref fI) = some (.type "function"))
    (F1 : FnOk X.prog X.w X.K X.mg X.base CX0 k fI fd ["self", f] (spIni C f)) (hr : Room (k + 1) X.A) (hb : Binds X.K fd ["self", f] []) (hg : Gl X x) (hm : X.mg x = some (.ref C)) (ha : PA X [e] ta)
    (hdb : (x == ("__debug__" : Str)) = false := by decide) (he : starEach [e] X.env = (false, eval e X.env) :: starEach [] X.env := by rfl) (hpl : (backTo pos (starEach [] X.env)).any (·.1) = false := by rfl) :
    PE X (.Call (.Name x p) [e] [] pos) (tMkV C f ta) := by
  refine ⟨fun pins s σ H Q I h => ?_⟩
  obtain ⟨nm, q, N, bs, bm, sn, sub, ab, col, dd, k0, k1, k2, k3, k5, hC, hbm⟩ := T.cls
  refine wpAny_Call_Name_kw (ld_glob I hg hm ?_ hdb)
  refine PySem.W.callWith_K (h₀ := X.base) I.ok.mod.kin T.kC (thn (ha.run pos pins s σ H _ I h) fun us s1 ⟨vs, H1, I1, r1, v, ev, q1⟩ => ⟨I1.kIn, ?_⟩) he hpl
  subst ev
  obtain ⟨u, rfl, ru⟩ := vals1 r1
  show wpAny _ _ (call (.ref C) [u]) _ _ _
  obtain ⟨hp, g, dr, tk, os⟩ := s1
  have X1 : X.K.In hp := I1.kIn
  refine wpAny_call (PySem.HandSPX.call_own PySem.F.excBase_ValueError (fun Y => PySem.HandSPX.refsVE_contains Y bm hbm) (X1 _ _ hC) (PySem.W.looks_findIn X1 iC) (fun self => PySem.W.bind_fn X1 self tI) (by show 1 ≤ sizeLine; rw [sizeLine_eq]; omega)
    (codeAny_mono (ini_end (kw := []) (rest := [u]) F1 hr I1 ru (fun s1 Y => ?_) q1) fun r s' z => ?_))
  · exact hb s1 [_, u] Y rfl
  · rcases r with e | (w' | _ | _ | _) <;> exact z
theorem pe_mkk (T : OexC X.K C) (iC : PySem.W.findIn X.K (.ref C) "__init__" = some (some (.ref fI))) (tI : PySem.W.typeIn X.K (.ref fI) = some (.type "function"))
    (F1 : FnOk X.prog X.w X.K X.mg X.base CX0 k fI fd ["self", f] (spIni C f)) (hr : Room (k + 1) X.A) (hb : ∀ (s : Shared) (a u : Value), BindsTo s fd ⟨[a], [(f, u)]⟩ [("self", a), (f, u)]) (hg : Gl X x) (hm : X.mg x = some (.ref C)) {te : TE} (ha : PE X e te)
    (hdb : (x == ("__debug__" : Str)) = false := by decide) (hall : (backToKw pos (keywordEach [⟨some f, e, kpos⟩] X.env)).all (·.1.isSome) = true := by rfl)
    (hks : (backToKw pos (keywordEach [⟨some f, e, kpos⟩] X.env)).filterMap (·.1) = [f] := by rfl)
    (hpl : ((backTo pos (starEach [] X.env)).any (·.1) || (backToKw pos (keywordEach [⟨some f, e, kpos⟩] X.env)).any (·.1.isNone)) = false := by rfl) :
    PE X (.Call (.Name x p) [] [⟨some f, e, kpos⟩] pos) (tMkV C f (tCons te tNil)) := by
  refine ⟨fun pins s σ H Q I h => ?_⟩
  obtain ⟨nm, q, N, bs, bm, sn, sub, ab, col, dd, k0, k1, k2, k3, k5, hC, hbm⟩ := T.cls
  refine wpAny_Call_Name_kw (ld_glob I hg hm ?_ hdb)
  refine PySem.W.callWith_KW0 (h₀ := X.base) I.ok.mod.kin T.kC hall ?_ hpl
  refine thn ((pk_cons ha pk_nil).run pos pins s σ H _ I h) fun ws s1 ⟨zs, H1, I1, r1, v, ev, q1⟩ => ⟨I1.kIn, ?_⟩
  subst ev
  obtain ⟨u, rfl, ru⟩ := vals1 r1
  rw [hks]
  show wpAny _ _ (call (.ref C) [] [(f, u)]) _ _ _
  obtain ⟨hp, g, dr, tk, os⟩ := s1
  have X1 : X.K.In hp := I1.kIn
  refine wpAny_call (KX.callOf (fun Y => PySem.HandSPX.refsVE_contains Y bm hbm) (X1 _ _ hC) (PySem.W.looks_findIn X1 iC) (fun self => PySem.W.bind_fn X1 self tI)
    (codeAny_mono (ini_end (kw := [(f, u)]) (rest := []) F1 hr I1 ru (fun s1 _ => hb s1 _ _) q1) fun r s' z => ?_))
  rcases r with e | (w' | _ | _ | _) <;> exact z
/-- error.f -/
def tFldV (K : PySem.W.Frag) (f : Str) (te : TE) : TE := fun σ H Q => te σ H fun x H1 => ∃ (a C d : Addr) (v : V), x = .ref a ∧ H1 a = some (exo a C (some d)) ∧ H1 d = some (exd d [(f, v)]) ∧ ExcK K C ∧ PySem.W.hasDictIn K C = true ∧ PySem.W.findIn K (.ref C) f = some none ∧ Q v H1
theorem pe_fldv {te : TE} (he : PE X e te) (hb : attributeBase e f X.env (eval e X.env) = eval e X.env := by rfl) : PE X (.Attribute e f pos) (tFldV X.K f te) := by
  refine ⟨fun pins s σ H Q I h => ?_⟩
  refine attr_of hb (thn (he.run pins s σ H _ I h) fun u s1 ⟨x, H1, I1, rx, a, C, d, v, ex, ea, ed, k, hd, hno, q⟩ => ?_)
  subst ex
  obtain rfl : u = Value.ref a := rx
  obtain ⟨t1, ho⟩ := exo_at I1.hok ea
  obtain ⟨mA, hns, hr⟩ := exd_at I1.hok ed
  obtain ⟨od, hod, hl⟩ := lookIn_ns hns
  obtain ⟨u, hu, ru⟩ := RelO.some_of (v := v) (o := mA f) (by
    have z := hr f
    rw [lookup_put, if_pos rfl] at z
    exact z)
  exact HandSPX.exc_get I1.kIn (ox := _) (od := some od) ⟨ho, rfl, rfl, hod⟩ k.ga k.gg k.sb (PySem.W.findObj_own hd hno rfl (by rw [hl, hu])) (handed_of ru) ⟨v, H1, I1.tok _, ru, q⟩
end
end K0
end

section
set_option linter.all false
set_option maxRecDepth 100000
set_option maxHeartbeats 4000000
namespace K0
open PySem L2

abbrev sAny : Stmt := top 42
abbrev sKinds : Stmt := top 43
abbrev sPlain : Stmt := top 44
abbrev sOf : Stmt := top 45
abbrev sLaw : Stmt := top 46
abbrev sI26 : Stmt := inClass (top 17) 0
abbrev sI27 : Stmt := inClass (top 9) 0
abbrev sI28 : Stmt := inClass (top 36) 0
abbrev sI29 : Stmt := inClass (top 11) 0
abbrev sI30 : Stmt := inClass (top 27) 0
abbrev sI31 : Stmt := inClass (top 31) 0
abbrev sI32 : Stmt := inClass (top 32) 0
abbrev sI33 : Stmt := inClass (top 19) 0
abbrev sI34 : Stmt := inClass (top 5) 0
def nms : List Str := [("BadPrime" : Str), ("BadArc" : Str), ("BadWay" : Str), ("BadCrossing" : Str), ("BadOrder" : Str), ("BadTable" : Str), ("BadChoice" : Str), ("BadBraid" : Str), ("NotHere" : Str), ("BadRule" : Str), ("BadState" : Str), ("NotOne" : Str), ("BadEvent" : Str), ("BadDeed" : Str), ("BadLive" : Str), ("BadName" : Str), ("BadStart" : Str), ("NothingLeft" : Str), ("BadWeb" : Str), ("BadForm" : Str), ("BadTree" : Str), ("BadArrows" : Str), ("BadMove" : Str), ("BadPlace" : Str), ("BadMatching" : Str), ("BadSurface" : Str), ("BadNumber" : Str), ("BadDrawing" : Str), ("TooMany" : Str), ("BadFilm" : Str), ("BadText" : Str), ("NoMark" : Str), ("NoWatch" : Str), ("BadPatch" : Str), ("BadChain" : Str), ("RingError" : Str)]
abbrev nmOf (i : Nat) : Str := nms.getD i "RingError"
abbrev bmV : List Value := [.type "ValueError", .type "Exception", .type "BaseException", .type "object"]
/-- what the written part says of the classes at C 0 .. C 34, and of RingError at C 35 -/
structure Clss (K : PySem.W.Frag) (mg : Str → Option Value) (C : Nat → Addr) : Prop where
  g : ∀ i, i < 36 → mg (nmOf i) = some (.ref (C i))
  k : ∀ i, i < 36 → PySem.W.keepIn K (.ref (C i)) = true
  e : ∀ i, i < 36 → ExcK K (C i)
  x : ∀ i, i < 26 ∨ i = 35 → PySem.W.excIn K (C i) bmV "ValueError.__new__" = true
  is : ∀ i j, i < 36 → j < 35 → PySem.W.kitOne K (.ref (C i)) (.ref (C j)) = some (decide (i = j))
  ir : ∀ i, i < 36 → PySem.W.kitOne K (.ref (C i)) (.ref (C 35)) = some true
  iv : ∀ i, i < 36 → PySem.W.kitOne K (.ref (C i)) (.type "ValueError") = some true
/-- a class with an attribute f of its own, by __init__ at fI -/
structure Atts (P : Program) (w : World) (K : PySem.W.Frag) (mg : Str → Option Value) (base : Heap) (C fI : Addr) (f : Str) : Prop where
  o : OexC K C
  iC : PySem.W.findIn K (.ref C) "__init__" = some (some (.ref fI))
  tI : PySem.W.typeIn K (.ref fI) = some (.type "function")
  hd : PySem.W.hasDictIn K C = true
  no : PySem.W.findIn K (.ref C) f = some none
  ok : ∃ fd : FuncData, FnOk P w K mg base CX0 1 fI fd ["self", f] (spIni C f) ∧ Binds K fd ["self", f] [] ∧ ∀ (s : Shared) (a u : Value), BindsTo s fd ⟨[a], [(f, u)]⟩ [("self", a), (f, u)]
/-- the values that may be drawn, and their texts -/
inductive AnyV (H : Hp) : V → Str → Prop where
  | non : AnyV H .non "None"
  | bl : AnyV H (.bl false) "False"
  | int (i : Int) (h : i.natAbs.log2 < 1920) (z : (toString i : Str).length ≤ 100) : AnyV H (.int i) (toString i)
  | str (x : Str) (z : (reprText x).length ≤ 100) : AnyV H (.str x) (reprText x)
  | l0 {a : Addr} (h : H a = some (.lst [])) : AnyV H (.ref a) "[]"
  | l1 {a t : Addr} (h : H a = some (.lst [.ref t])) (ht : H t = some (.tup [.int 0, .int 2])) : AnyV H (.ref a) (listText [tupleText [toString (0 : Int), toString (2 : Int)]])
  | t0 {a : Addr} (h : H a = some (.tup [])) : AnyV H (.ref a) (tupleText [])
  | t1 {a : Addr} (h : H a = some (.tup [.int 4])) : AnyV H (.ref a) (tupleText [toString (4 : Int)])
  | d0 {a : Addr} (h : H a = some (.dK [])) : AnyV H (.ref a) (dictText [])
  | d1 {a t : Addr} (h : H a = some (.dK [(Sum.inr ("a" : Str), .ref t)])) (ht : H t = some (.tup [.int 1])) : AnyV H (.ref a) (dictText [reprText "a" ++ ": " ++ tupleText [toString (1 : Int)]])
  | l2 {a b : Addr} (h : H a = some (.lst [.ref b])) (hb : H b = some (.lst [.non])) : AnyV H (.ref a) (listText [listText ["None"]])
theorem AnyV.same {H H' : Hp} {v : V} {t : Str} (h : AnyV H v t) (s : Same H H') : AnyV H' v t := by
  cases h with
  | non => exact .non
  | bl => exact .bl
  | int i h z => exact .int i h z
  | str x z => exact .str x z
  | l0 h => exact .l0 (s _ _ h)
  | l1 h ht => exact .l1 (s _ _ h) (s _ _ ht)
  | t0 h => exact .t0 (s _ _ h)
  | t1 h => exact .t1 (s _ _ h)
  | d0 h => exact .d0 (s _ _ h)
  | d1 h ht => exact .d1 (s _ _ h) (s _ _ ht)
  | l2 h hb => exact .l2 (s _ _ h) (s _ _ hb)
theorem AnyV.after {H H' : Hp} {v : V} {t : Str} {d l : Addr} {q : Addr → Prop} (h : AnyV H v t) (s : ∀ b o, H b = some o → q b → H' b = some o) (hq : ∀ b o, H b = some o → q b) : AnyV H' v t := h.same fun b o e => s b o e (hq b o e)
def spKinds (C : Nat → Addr) : Sp := fun vs H Q _ => ∃ (a : Addr) (i : Nat), vs = [.ref a] ∧ i < 36 ∧ ErrAt H a (C i) ∧ ∀ (p : Addr) (H' : Hp), Same H H' → H p = none → H' p = some (.lst ((List.range 35).map fun j => .bl (decide (i = j)))) → Q (.ref p) H'
/-- some addresses, at which stand exceptions of the classes from j on -/
def Errs (H : Hp) (C : Nat → Addr) (j : Nat) (as : List Addr) : Prop := ∀ k a, as[k]? = some a → ErrAt H a (C (j + k))
theorem Errs.nil {H : Hp} {C : Nat → Addr} {j : Nat} : Errs H C j [] := fun k a e => by simp at e
theorem Errs.same {H H' : Hp} {C : Nat → Addr} {j : Nat} {as : List Addr} (h : Errs H C j as) (s : Same H H') : Errs H' C j as := fun k a e => (h k a e).same s
theorem Errs.snoc {H : Hp} {C : Nat → Addr} {j : Nat} {as : List Addr} {a : Addr} (h : Errs H C j as) (e : ErrAt H a (C (j + as.length))) : Errs H C j (as ++ [a]) := fun k b q => by
  by_cases hk : k < as.length
  · rw [List.getElem?_append_left hk] at q
    exact h k b q
  · rw [List.getElem?_append_right (by omega)] at q
    have hz : k - as.length = 0 := by
      by_cases z : k - as.length = 0
      · exact z
      · rw [List.getElem?_eq_none_iff.mpr (by show 1 ≤ _; omega)] at q
        cases q
    rw [hz] at q
    cases q
    have : k = as.length := by omega
    rw [this]
    exact e
theorem Errs.append {H : Hp} {C : Nat → Addr} {j : Nat} {as bs : List Addr} (h : Errs H C j as) (g : Errs H C (j + as.length) bs) : Errs H C j (as ++ bs) := fun k b q => by
  by_cases hk : k < as.length
  · rw [List.getElem?_append_left hk] at q
    exact h k b q
  · rw [List.getElem?_append_right (by omega)] at q
    have z := g _ b q
    rwa [show j + as.length + (k - as.length) = j + k by omega] at z
def spPlain (C : Nat → Addr) : Sp := fun vs H Q _ => ∃ x : V, vs = [x] ∧ ∀ (as : List Addr) (p : Addr) (H' : Hp), as.length = 26 → Errs H' C 0 as → Same H H' → H p = none → H' p = some (.lst (as.map V.ref)) → Q (.ref p) H'
/-- a triple: the error, what it keeps, made by place and by name -/
def Three (H : Hp) (C : Addr) (v : V) (t : Addr) : Prop := ∃ e, H t = some (.tup [.ref e, v, v]) ∧ ErrAt H e C
def Threes (H : Hp) (C : Nat → Addr) (v : V) (j : Nat) (ts : List Addr) : Prop := ∀ k t, ts[k]? = some t → Three H (C (j + k)) v t
theorem Three.same {H H' : Hp} {C : Addr} {v : V} {t : Addr} (h : Three H C v t) (s : Same H H') : Three H' C v t := by
  obtain ⟨e, h1, h2⟩ := h
  exact ⟨e, s _ _ h1, h2.same s⟩
theorem Threes.same {H H' : Hp} {C : Nat → Addr} {v : V} {j : Nat} {ts : List Addr} (h : Threes H C v j ts) (s : Same H H') : Threes H' C v j ts := fun k t e => (h k t e).same s
theorem Threes.nil {H : Hp} {C : Nat → Addr} {v : V} {j : Nat} : Threes H C v j [] := fun k a e => by simp at e
theorem Threes.snoc {H : Hp} {C : Nat → Addr} {v : V} {j : Nat} {ts : List Addr} {t : Addr} (h : Threes H C v j ts) (e : Three H (C (j + ts.length)) v t) : Threes H C v j (ts ++ [t]) := fun k b q => by
  by_cases hk : k < ts.length
  · rw [List.getElem?_append_left hk] at q
    exact h k b q
  · rw [List.getElem?_append_right (by omega)] at q
    have hz : k - ts.length = 0 := by
      by_cases z : k - ts.length = 0
      · exact z
      · rw [List.getElem?_eq_none_iff.mpr (by show 1 ≤ _; omega)] at q
        cases q
    rw [hz] at q
    cases q
    have : k = ts.length := by omega
    rw [this]
    exact e
def spOf (C : Nat → Addr) : Sp := fun vs H Q _ => ∃ v : V, vs = [v] ∧ ∀ (ts : List Addr) (p : Addr) (H' : Hp), ts.length = 9 → Threes H' C v 26 ts → Same H H' → H p = none → H' p = some (.lst (ts.map V.ref)) → Q (.ref p) H'
def spAny : Sp := fun vs H Q _ => ∃ d l : Addr, vs = [.ref d] ∧ Draw H d l ∧ ∀ (v : V) (t : Str) (H' : Hp), AnyV H' v t → After H H' d l → Q v H'
theorem same_up {H H1 : Hp} {p : Addr} {o : HO} (s : Same H H1) (n : H1 p = none) : Same H (upd H1 p o) := fun b u e => by
  rw [upd_ne (ne_of_none (s b u e) n)]
  exact s b u e
section
variable {P : Program} {w : World} {K : PySem.W.Frag} {mg : Str → Option Value} {base : Heap} {C : Nat → Addr}

theorem scI26 : FnScope ["self", "part"] ["self", "part"] (defScope sI26) := ⟨rfl, rfl, rfl, by decide +kernel, rfl, by decide +kernel, by decide +kernel⟩
theorem ok_I26 {f : Addr} {fd : FuncData} {C : Addr} (F : Fun K "__init__" "BadNumber.__init__" sI26 f fd) (o : OexC K C) (no : PySem.W.findIn K (.ref C) "part" = some none) : FnOk P w K mg base CX0 1 f fd ["self", "part"] (spIni C "part") := by
  refine F.ok scI26 (fun vs H Q E h => ?_) (fun cdv A outer s H vs Q E hr h => ?_)
  · obtain ⟨a, v, rfl, _⟩ := h
    rfl
  · obtain ⟨a, v, rfl, ha, k⟩ := h
    exact ⟨_, pss_one (ps_ost (pv 0) (pv 1)), _, rfl, _, rfl, a, C, rfl, o, no, .inl ⟨ha, fun dx n ne => k dx n ne⟩⟩

theorem scI27 : FnScope ["self", "part"] ["self", "part"] (defScope sI27) := ⟨rfl, rfl, rfl, by decide +kernel, rfl, by decide +kernel, by decide +kernel⟩
theorem ok_I27 {f : Addr} {fd : FuncData} {C : Addr} (F : Fun K "__init__" "BadDrawing.__init__" sI27 f fd) (o : OexC K C) (no : PySem.W.findIn K (.ref C) "part" = some none) : FnOk P w K mg base CX0 1 f fd ["self", "part"] (spIni C "part") := by
  refine F.ok scI27 (fun vs H Q E h => ?_) (fun cdv A outer s H vs Q E hr h => ?_)
  · obtain ⟨a, v, rfl, _⟩ := h
    rfl
  · obtain ⟨a, v, rfl, ha, k⟩ := h
    exact ⟨_, pss_one (ps_ost (pv 0) (pv 1)), _, rfl, _, rfl, a, C, rfl, o, no, .inl ⟨ha, fun dx n ne => k dx n ne⟩⟩

theorem scI28 : FnScope ["self", "most"] ["self", "most"] (defScope sI28) := ⟨rfl, rfl, rfl, by decide +kernel, rfl, by decide +kernel, by decide +kernel⟩
theorem ok_I28 {f : Addr} {fd : FuncData} {C : Addr} (F : Fun K "__init__" "TooMany.__init__" sI28 f fd) (o : OexC K C) (no : PySem.W.findIn K (.ref C) "most" = some none) : FnOk P w K mg base CX0 1 f fd ["self", "most"] (spIni C "most") := by
  refine F.ok scI28 (fun vs H Q E h => ?_) (fun cdv A outer s H vs Q E hr h => ?_)
  · obtain ⟨a, v, rfl, _⟩ := h
    rfl
  · obtain ⟨a, v, rfl, ha, k⟩ := h
    exact ⟨_, pss_one (ps_ost (pv 0) (pv 1)), _, rfl, _, rfl, a, C, rfl, o, no, .inl ⟨ha, fun dx n ne => k dx n ne⟩⟩

theorem scI29 : FnScope ["self", "at"] ["self", "at"] (defScope sI29) := ⟨rfl, rfl, rfl, by decide +kernel, rfl, by decide +kernel, by decide +kernel⟩
theorem ok_I29 {f : Addr} {fd : FuncData} {C : Addr} (F : Fun K "__init__" "BadFilm.__init__" sI29 f fd) (o : OexC K C) (no : PySem.W.findIn K (.ref C) "at" = some none) : FnOk P w K mg base CX0 1 f fd ["self", "at"] (spIni C "at") := by
  refine F.ok scI29 (fun vs H Q E h => ?_) (fun cdv A outer s H vs Q E hr h => ?_)
  · obtain ⟨a, v, rfl, _⟩ := h
    rfl
  · obtain ⟨a, v, rfl, ha, k⟩ := h
    exact ⟨_, pss_one (ps_ost (pv 0) (pv 1)), _, rfl, _, rfl, a, C, rfl, o, no, .inl ⟨ha, fun dx n ne => k dx n ne⟩⟩

theorem scI30 : FnScope ["self", "at"] ["self", "at"] (defScope sI30) := ⟨rfl, rfl, rfl, by decide +kernel, rfl, by decide +kernel, by decide +kernel⟩
theorem ok_I30 {f : Addr} {fd : FuncData} {C : Addr} (F : Fun K "__init__" "BadText.__init__" sI30 f fd) (o : OexC K C) (no : PySem.W.findIn K (.ref C) "at" = some none) : FnOk P w K mg base CX0 1 f fd ["self", "at"] (spIni C "at") := by
  refine F.ok scI30 (fun vs H Q E h => ?_) (fun cdv A outer s H vs Q E hr h => ?_)
  · obtain ⟨a, v, rfl, _⟩ := h
    rfl
  · obtain ⟨a, v, rfl, ha, k⟩ := h
    exact ⟨_, pss_one (ps_ost (pv 0) (pv 1)), _, rfl, _, rfl, a, C, rfl, o, no, .inl ⟨ha, fun dx n ne => k dx n ne⟩⟩

theorem scI31 : FnScope ["self", "name"] ["self", "name"] (defScope sI31) := ⟨rfl, rfl, rfl, by decide +kernel, rfl, by decide +kernel, by decide +kernel⟩
theorem ok_I31 {f : Addr} {fd : FuncData} {C : Addr} (F : Fun K "__init__" "NoMark.__init__" sI31 f fd) (o : OexC K C) (no : PySem.W.findIn K (.ref C) "name" = some none) : FnOk P w K mg base CX0 1 f fd ["self", "name"] (spIni C "name") := by
  refine F.ok scI31 (fun vs H Q E h => ?_) (fun cdv A outer s H vs Q E hr h => ?_)
  · obtain ⟨a, v, rfl, _⟩ := h
    rfl
  · obtain ⟨a, v, rfl, ha, k⟩ := h
    exact ⟨_, pss_one (ps_ost (pv 0) (pv 1)), _, rfl, _, rfl, a, C, rfl, o, no, .inl ⟨ha, fun dx n ne => k dx n ne⟩⟩

theorem scI32 : FnScope ["self", "name"] ["self", "name"] (defScope sI32) := ⟨rfl, rfl, rfl, by decide +kernel, rfl, by decide +kernel, by decide +kernel⟩
theorem ok_I32 {f : Addr} {fd : FuncData} {C : Addr} (F : Fun K "__init__" "NoWatch.__init__" sI32 f fd) (o : OexC K C) (no : PySem.W.findIn K (.ref C) "name" = some none) : FnOk P w K mg base CX0 1 f fd ["self", "name"] (spIni C "name") := by
  refine F.ok scI32 (fun vs H Q E h => ?_) (fun cdv A outer s H vs Q E hr h => ?_)
  · obtain ⟨a, v, rfl, _⟩ := h
    rfl
  · obtain ⟨a, v, rfl, ha, k⟩ := h
    exact ⟨_, pss_one (ps_ost (pv 0) (pv 1)), _, rfl, _, rfl, a, C, rfl, o, no, .inl ⟨ha, fun dx n ne => k dx n ne⟩⟩

theorem scI33 : FnScope ["self", "part"] ["self", "part"] (defScope sI33) := ⟨rfl, rfl, rfl, by decide +kernel, rfl, by decide +kernel, by decide +kernel⟩
theorem ok_I33 {f : Addr} {fd : FuncData} {C : Addr} (F : Fun K "__init__" "BadPatch.__init__" sI33 f fd) (o : OexC K C) (no : PySem.W.findIn K (.ref C) "part" = some none) : FnOk P w K mg base CX0 1 f fd ["self", "part"] (spIni C "part") := by
  refine F.ok scI33 (fun vs H Q E h => ?_) (fun cdv A outer s H vs Q E hr h => ?_)
  · obtain ⟨a, v, rfl, _⟩ := h
    rfl
  · obtain ⟨a, v, rfl, ha, k⟩ := h
    exact ⟨_, pss_one (ps_ost (pv 0) (pv 1)), _, rfl, _, rfl, a, C, rfl, o, no, .inl ⟨ha, fun dx n ne => k dx n ne⟩⟩

theorem scI34 : FnScope ["self", "part"] ["self", "part"] (defScope sI34) := ⟨rfl, rfl, rfl, by decide +kernel, rfl, by decide +kernel, by decide +kernel⟩
theorem ok_I34 {f : Addr} {fd : FuncData} {C : Addr} (F : Fun K "__init__" "BadChain.__init__" sI34 f fd) (o : OexC K C) (no : PySem.W.findIn K (.ref C) "part" = some none) : FnOk P w K mg base CX0 1 f fd ["self", "part"] (spIni C "part") := by
  refine F.ok scI34 (fun vs H Q E h => ?_) (fun cdv A outer s H vs Q E hr h => ?_)
  · obtain ⟨a, v, rfl, _⟩ := h
    rfl
  · obtain ⟨a, v, rfl, ha, k⟩ := h
    exact ⟨_, pss_one (ps_ost (pv 0) (pv 1)), _, rfl, _, rfl, a, C, rfl, o, no, .inl ⟨ha, fun dx n ne => k dx n ne⟩⟩

theorem scK : FnScope ["error", "found"] ["error"] (defScope sKinds) := ⟨rfl, rfl, rfl, by decide +kernel, rfl, by decide +kernel, by decide +kernel⟩
theorem ok_kinds {f : Addr} {fd : FuncData} (F : Fun K "_law_kinds" "_law_kinds" sKinds f fd) (T : Clss K mg C) (isi : mg "isinstance" = none) : FnOk P w K mg base CX0 1 f fd ["error"] (spKinds C) := by
  refine F.ok scK (fun vs H Q E h => ?_) (fun cdv A outer s H vs Q E hr h => ?_)
  · obtain ⟨a, i, rfl, _⟩ := h
    rfl
  · obtain ⟨a, i, rfl, hi, he, k⟩ := h
    refine ⟨_, pss_cons (ps_set (i := 1) scK.nd rfl (Or.inl rfl) (pe_lst pa_nil))
      (pss_cons (ps_set (i := 1) scK.nd rfl (Or.inl rfl) (pe_op op_cat (pv 1) (pe_lst (pa_cons (pe_callB call_isV (by rfl) isi (by decide +kernel) (pa_cons (pv 0) (pa_cons (pe_glob (v := V.ref (C 0)) (by rfl) (T.g 0 (by decide)) rfl) pa_nil))) (pa_cons (pe_callB call_isV (by rfl) isi (by decide +kernel) (pa_cons (pv 0) (pa_cons (pe_glob (v := V.ref (C 1)) (by rfl) (T.g 1 (by decide)) rfl) pa_nil))) (pa_cons (pe_callB call_isV (by rfl) isi (by decide +kernel) (pa_cons (pv 0) (pa_cons (pe_glob (v := V.ref (C 2)) (by rfl) (T.g 2 (by decide)) rfl) pa_nil))) pa_nil))))))
      (pss_cons (ps_set (i := 1) scK.nd rfl (Or.inl rfl) (pe_op op_cat (pv 1) (pe_lst (pa_cons (pe_callB call_isV (by rfl) isi (by decide +kernel) (pa_cons (pv 0) (pa_cons (pe_glob (v := V.ref (C 3)) (by rfl) (T.g 3 (by decide)) rfl) pa_nil))) (pa_cons (pe_callB call_isV (by rfl) isi (by decide +kernel) (pa_cons (pv 0) (pa_cons (pe_glob (v := V.ref (C 4)) (by rfl) (T.g 4 (by decide)) rfl) pa_nil))) (pa_cons (pe_callB call_isV (by rfl) isi (by decide +kernel) (pa_cons (pv 0) (pa_cons (pe_glob (v := V.ref (C 5)) (by rfl) (T.g 5 (by decide)) rfl) pa_nil))) pa_nil))))))
      (pss_cons (ps_set (i := 1) scK.nd rfl (Or.inl rfl) (pe_op op_cat (pv 1) (pe_lst (pa_cons (pe_callB call_isV (by rfl) isi (by decide +kernel) (pa_cons (pv 0) (pa_cons (pe_glob (v := V.ref (C 6)) (by rfl) (T.g 6 (by decide)) rfl) pa_nil))) (pa_cons (pe_callB call_isV (by rfl) isi (by decide +kernel) (pa_cons (pv 0) (pa_cons (pe_glob (v := V.ref (C 7)) (by rfl) (T.g 7 (by decide)) rfl) pa_nil))) (pa_cons (pe_callB call_isV (by rfl) isi (by decide +kernel) (pa_cons (pv 0) (pa_cons (pe_glob (v := V.ref (C 8)) (by rfl) (T.g 8 (by decide)) rfl) pa_nil))) pa_nil))))))
      (pss_cons (ps_set (i := 1) scK.nd rfl (Or.inl rfl) (pe_op op_cat (pv 1) (pe_lst (pa_cons (pe_callB call_isV (by rfl) isi (by decide +kernel) (pa_cons (pv 0) (pa_cons (pe_glob (v := V.ref (C 9)) (by rfl) (T.g 9 (by decide)) rfl) pa_nil))) (pa_cons (pe_callB call_isV (by rfl) isi (by decide +kernel) (pa_cons (pv 0) (pa_cons (pe_glob (v := V.ref (C 10)) (by rfl) (T.g 10 (by decide)) rfl) pa_nil))) (pa_cons (pe_callB call_isV (by rfl) isi (by decide +kernel) (pa_cons (pv 0) (pa_cons (pe_glob (v := V.ref (C 11)) (by rfl) (T.g 11 (by decide)) rfl) pa_nil))) pa_nil))))))
      (pss_cons (ps_set (i := 1) scK.nd rfl (Or.inl rfl) (pe_op op_cat (pv 1) (pe_lst (pa_cons (pe_callB call_isV (by rfl) isi (by decide +kernel) (pa_cons (pv 0) (pa_cons (pe_glob (v := V.ref (C 12)) (by rfl) (T.g 12 (by decide)) rfl) pa_nil))) (pa_cons (pe_callB call_isV (by rfl) isi (by decide +kernel) (pa_cons (pv 0) (pa_cons (pe_glob (v := V.ref (C 13)) (by rfl) (T.g 13 (by decide)) rfl) pa_nil))) (pa_cons (pe_callB call_isV (by rfl) isi (by decide +kernel) (pa_cons (pv 0) (pa_cons (pe_glob (v := V.ref (C 14)) (by rfl) (T.g 14 (by decide)) rfl) pa_nil))) pa_nil))))))
      (pss_cons (ps_set (i := 1) scK.nd rfl (Or.inl rfl) (pe_op op_cat (pv 1) (pe_lst (pa_cons (pe_callB call_isV (by rfl) isi (by decide +kernel) (pa_cons (pv 0) (pa_cons (pe_glob (v := V.ref (C 15)) (by rfl) (T.g 15 (by decide)) rfl) pa_nil))) (pa_cons (pe_callB call_isV (by rfl) isi (by decide +kernel) (pa_cons (pv 0) (pa_cons (pe_glob (v := V.ref (C 16)) (by rfl) (T.g 16 (by decide)) rfl) pa_nil))) (pa_cons (pe_callB call_isV (by rfl) isi (by decide +kernel) (pa_cons (pv 0) (pa_cons (pe_glob (v := V.ref (C 17)) (by rfl) (T.g 17 (by decide)) rfl) pa_nil))) pa_nil))))))
      (pss_cons (ps_set (i := 1) scK.nd rfl (Or.inl rfl) (pe_op op_cat (pv 1) (pe_lst (pa_cons (pe_callB call_isV (by rfl) isi (by decide +kernel) (pa_cons (pv 0) (pa_cons (pe_glob (v := V.ref (C 18)) (by rfl) (T.g 18 (by decide)) rfl) pa_nil))) (pa_cons (pe_callB call_isV (by rfl) isi (by decide +kernel) (pa_cons (pv 0) (pa_cons (pe_glob (v := V.ref (C 19)) (by rfl) (T.g 19 (by decide)) rfl) pa_nil))) (pa_cons (pe_callB call_isV (by rfl) isi (by decide +kernel) (pa_cons (pv 0) (pa_cons (pe_glob (v := V.ref (C 20)) (by rfl) (T.g 20 (by decide)) rfl) pa_nil))) pa_nil))))))
      (pss_cons (ps_set (i := 1) scK.nd rfl (Or.inl rfl) (pe_op op_cat (pv 1) (pe_lst (pa_cons (pe_callB call_isV (by rfl) isi (by decide +kernel) (pa_cons (pv 0) (pa_cons (pe_glob (v := V.ref (C 21)) (by rfl) (T.g 21 (by decide)) rfl) pa_nil))) (pa_cons (pe_callB call_isV (by rfl) isi (by decide +kernel) (pa_cons (pv 0) (pa_cons (pe_glob (v := V.ref (C 22)) (by rfl) (T.g 22 (by decide)) rfl) pa_nil))) (pa_cons (pe_callB call_isV (by rfl) isi (by decide +kernel) (pa_cons (pv 0) (pa_cons (pe_glob (v := V.ref (C 23)) (by rfl) (T.g 23 (by decide)) rfl) pa_nil))) pa_nil))))))
      (pss_cons (ps_set (i := 1) scK.nd rfl (Or.inl rfl) (pe_op op_cat (pv 1) (pe_lst (pa_cons (pe_callB call_isV (by rfl) isi (by decide +kernel) (pa_cons (pv 0) (pa_cons (pe_glob (v := V.ref (C 24)) (by rfl) (T.g 24 (by decide)) rfl) pa_nil))) (pa_cons (pe_callB call_isV (by rfl) isi (by decide +kernel) (pa_cons (pv 0) (pa_cons (pe_glob (v := V.ref (C 25)) (by rfl) (T.g 25 (by decide)) rfl) pa_nil))) pa_nil)))))
      (pss_cons (ps_set (i := 1) scK.nd rfl (Or.inl rfl) (pe_op op_cat (pv 1) (pe_lst (pa_cons (pe_callB call_isV (by rfl) isi (by decide +kernel) (pa_cons (pv 0) (pa_cons (pe_glob (v := V.ref (C 26)) (by rfl) (T.g 26 (by decide)) rfl) pa_nil))) (pa_cons (pe_callB call_isV (by rfl) isi (by decide +kernel) (pa_cons (pv 0) (pa_cons (pe_glob (v := V.ref (C 27)) (by rfl) (T.g 27 (by decide)) rfl) pa_nil))) (pa_cons (pe_callB call_isV (by rfl) isi (by decide +kernel) (pa_cons (pv 0) (pa_cons (pe_glob (v := V.ref (C 28)) (by rfl) (T.g 28 (by decide)) rfl) pa_nil))) pa_nil))))))
      (pss_cons (ps_set (i := 1) scK.nd rfl (Or.inl rfl) (pe_op op_cat (pv 1) (pe_lst (pa_cons (pe_callB call_isV (by rfl) isi (by decide +kernel) (pa_cons (pv 0) (pa_cons (pe_glob (v := V.ref (C 29)) (by rfl) (T.g 29 (by decide)) rfl) pa_nil))) (pa_cons (pe_callB call_isV (by rfl) isi (by decide +kernel) (pa_cons (pv 0) (pa_cons (pe_glob (v := V.ref (C 30)) (by rfl) (T.g 30 (by decide)) rfl) pa_nil))) (pa_cons (pe_callB call_isV (by rfl) isi (by decide +kernel) (pa_cons (pv 0) (pa_cons (pe_glob (v := V.ref (C 31)) (by rfl) (T.g 31 (by decide)) rfl) pa_nil))) pa_nil))))))
      (pss_cons (ps_set (i := 1) scK.nd rfl (Or.inl rfl) (pe_op op_cat (pv 1) (pe_lst (pa_cons (pe_callB call_isV (by rfl) isi (by decide +kernel) (pa_cons (pv 0) (pa_cons (pe_glob (v := V.ref (C 32)) (by rfl) (T.g 32 (by decide)) rfl) pa_nil))) (pa_cons (pe_callB call_isV (by rfl) isi (by decide +kernel) (pa_cons (pv 0) (pa_cons (pe_glob (v := V.ref (C 33)) (by rfl) (T.g 33 (by decide)) rfl) pa_nil))) (pa_cons (pe_callB call_isV (by rfl) isi (by decide +kernel) (pa_cons (pv 0) (pa_cons (pe_glob (v := V.ref (C 34)) (by rfl) (T.g 34 (by decide)) rfl) pa_nil))) pa_nil))))))
      (pss_one (ps_ret (pv 1))))))))))))))), ?_⟩
    refine ⟨Nat.zero_le _, fun p0 n0 => ?_⟩
    have s0 : Same H (upd H p0 (.lst [])) := same_up (Same.refl H) n0
    have h0 : (upd H p0 (.lst [])) p0 = some (.lst ([] : List V)) := upd_same
    generalize upd H p0 (.lst []) = H0 at s0 h0 ⊢
    refine ⟨_, rfl, _, rfl, a, C i, .ref (C 0), .ref (C 0), _, rfl, he.same s0, T.e i hi, .own _, T.is i 0 hi (by decide), _, rfl, a, C i, .ref (C 1), .ref (C 1), _, rfl, he.same s0, T.e i hi, .own _, T.is i 1 hi (by decide), _, rfl, a, C i, .ref (C 2), .ref (C 2), _, rfl, he.same s0, T.e i hi, .own _, T.is i 2 hi (by decide), (by show 3 ≤ sizeLine; decide), fun l l0 => ⟨p0, l, _, _, rfl, rfl, (by rw [upd_ne (ne_of_none h0 l0)]; exact h0), upd_same, (by show 3 ≤ sizeLine; decide), fun p1 n1 => ?_⟩⟩
    have s1 : Same H (upd (upd H0 l (.lst [.bl (decide (i = 0)), .bl (decide (i = 1)), .bl (decide (i = 2))])) p1 (.lst (([] : List V) ++ [.bl (decide (i = 0)), .bl (decide (i = 1)), .bl (decide (i = 2))]))) := same_up (same_up s0 l0) n1
    have h1 : (upd (upd H0 l (.lst [.bl (decide (i = 0)), .bl (decide (i = 1)), .bl (decide (i = 2))])) p1 (.lst (([] : List V) ++ [.bl (decide (i = 0)), .bl (decide (i = 1)), .bl (decide (i = 2))]))) p1 = some (.lst ([.bl (decide (i = 0)), .bl (decide (i = 1)), .bl (decide (i = 2))] : List V)) := upd_same
    generalize upd (upd H0 l (.lst [.bl (decide (i = 0)), .bl (decide (i = 1)), .bl (decide (i = 2))])) p1 (.lst (([] : List V) ++ [.bl (decide (i = 0)), .bl (decide (i = 1)), .bl (decide (i = 2))])) = H1 at s1 h1 ⊢
    clear n1 l0 h0 s0
    refine ⟨_, rfl, _, rfl, a, C i, .ref (C 3), .ref (C 3), _, rfl, he.same s1, T.e i hi, .own _, T.is i 3 hi (by decide), _, rfl, a, C i, .ref (C 4), .ref (C 4), _, rfl, he.same s1, T.e i hi, .own _, T.is i 4 hi (by decide), _, rfl, a, C i, .ref (C 5), .ref (C 5), _, rfl, he.same s1, T.e i hi, .own _, T.is i 5 hi (by decide), (by show 3 ≤ sizeLine; decide), fun l l0 => ⟨p1, l, _, _, rfl, rfl, (by rw [upd_ne (ne_of_none h1 l0)]; exact h1), upd_same, (by show 6 ≤ sizeLine; decide), fun p2 n2 => ?_⟩⟩
    have s2 : Same H (upd (upd H1 l (.lst [.bl (decide (i = 3)), .bl (decide (i = 4)), .bl (decide (i = 5))])) p2 (.lst (([.bl (decide (i = 0)), .bl (decide (i = 1)), .bl (decide (i = 2))] : List V) ++ [.bl (decide (i = 3)), .bl (decide (i = 4)), .bl (decide (i = 5))]))) := same_up (same_up s1 l0) n2
    have h2 : (upd (upd H1 l (.lst [.bl (decide (i = 3)), .bl (decide (i = 4)), .bl (decide (i = 5))])) p2 (.lst (([.bl (decide (i = 0)), .bl (decide (i = 1)), .bl (decide (i = 2))] : List V) ++ [.bl (decide (i = 3)), .bl (decide (i = 4)), .bl (decide (i = 5))]))) p2 = some (.lst ([.bl (decide (i = 0)), .bl (decide (i = 1)), .bl (decide (i = 2)), .bl (decide (i = 3)), .bl (decide (i = 4)), .bl (decide (i = 5))] : List V)) := upd_same
    generalize upd (upd H1 l (.lst [.bl (decide (i = 3)), .bl (decide (i = 4)), .bl (decide (i = 5))])) p2 (.lst (([.bl (decide (i = 0)), .bl (decide (i = 1)), .bl (decide (i = 2))] : List V) ++ [.bl (decide (i = 3)), .bl (decide (i = 4)), .bl (decide (i = 5))])) = H2 at s2 h2 ⊢
    clear n2 l0 h1 s1
    refine ⟨_, rfl, _, rfl, a, C i, .ref (C 6), .ref (C 6), _, rfl, he.same s2, T.e i hi, .own _, T.is i 6 hi (by decide), _, rfl, a, C i, .ref (C 7), .ref (C 7), _, rfl, he.same s2, T.e i hi, .own _, T.is i 7 hi (by decide), _, rfl, a, C i, .ref (C 8), .ref (C 8), _, rfl, he.same s2, T.e i hi, .own _, T.is i 8 hi (by decide), (by show 3 ≤ sizeLine; decide), fun l l0 => ⟨p2, l, _, _, rfl, rfl, (by rw [upd_ne (ne_of_none h2 l0)]; exact h2), upd_same, (by show 9 ≤ sizeLine; decide), fun p3 n3 => ?_⟩⟩
    have s3 : Same H (upd (upd H2 l (.lst [.bl (decide (i = 6)), .bl (decide (i = 7)), .bl (decide (i = 8))])) p3 (.lst (([.bl (decide (i = 0)), .bl (decide (i = 1)), .bl (decide (i = 2)), .bl (decide (i = 3)), .bl (decide (i = 4)), .bl (decide (i = 5))] : List V) ++ [.bl (decide (i = 6)), .bl (decide (i = 7)), .bl (decide (i = 8))]))) := same_up (same_up s2 l0) n3
    have h3 : (upd (upd H2 l (.lst [.bl (decide (i = 6)), .bl (decide (i = 7)), .bl (decide (i = 8))])) p3 (.lst (([.bl (decide (i = 0)), .bl (decide (i = 1)), .bl (decide (i = 2)), .bl (decide (i = 3)), .bl (decide (i = 4)), .bl (decide (i = 5))] : List V) ++ [.bl (decide (i = 6)), .bl (decide (i = 7)), .bl (decide (i = 8))]))) p3 = some (.lst ([.bl (decide (i = 0)), .bl (decide (i = 1)), .bl (decide (i = 2)), .bl (decide (i = 3)), .bl (decide (i = 4)), .bl (decide (i = 5)), .bl (decide (i = 6)), .bl (decide (i = 7)), .bl (decide (i = 8))] : List V)) := upd_same
    generalize upd (upd H2 l (.lst [.bl (decide (i = 6)), .bl (decide (i = 7)), .bl (decide (i = 8))])) p3 (.lst (([.bl (decide (i = 0)), .bl (decide (i = 1)), .bl (decide (i = 2)), .bl (decide (i = 3)), .bl (decide (i = 4)), .bl (decide (i = 5))] : List V) ++ [.bl (decide (i = 6)), .bl (decide (i = 7)), .bl (decide (i = 8))])) = H3 at s3 h3 ⊢
    clear n3 l0 h2 s2
    refine ⟨_, rfl, _, rfl, a, C i, .ref (C 9), .ref (C 9), _, rfl, he.same s3, T.e i hi, .own _, T.is i 9 hi (by decide), _, rfl, a, C i, .ref (C 10), .ref (C 10), _, rfl, he.same s3, T.e i hi, .own _, T.is i 10 hi (by decide), _, rfl, a, C i, .ref (C 11), .ref (C 11), _, rfl, he.same s3, T.e i hi, .own _, T.is i 11 hi (by decide), (by show 3 ≤ sizeLine; decide), fun l l0 => ⟨p3, l, _, _, rfl, rfl, (by rw [upd_ne (ne_of_none h3 l0)]; exact h3), upd_same, (by show 12 ≤ sizeLine; decide), fun p4 n4 => ?_⟩⟩
    have s4 : Same H (upd (upd H3 l (.lst [.bl (decide (i = 9)), .bl (decide (i = 10)), .bl (decide (i = 11))])) p4 (.lst (([.bl (decide (i = 0)), .bl (decide (i = 1)), .bl (decide (i = 2)), .bl (decide (i = 3)), .bl (decide (i = 4)), .bl (decide (i = 5)), .bl (decide (i = 6)), .bl (decide (i = 7)), .bl (decide (i = 8))] : List V) ++ [.bl (decide (i = 9)), .bl (decide (i = 10)), .bl (decide (i = 11))]))) := same_up (same_up s3 l0) n4
    have h4 : (upd (upd H3 l (.lst [.bl (decide (i = 9)), .bl (decide (i = 10)), .bl (decide (i = 11))])) p4 (.lst (([.bl (decide (i = 0)), .bl (decide (i = 1)), .bl (decide (i = 2)), .bl (decide (i = 3)), .bl (decide (i = 4)), .bl (decide (i = 5)), .bl (decide (i = 6)), .bl (decide (i = 7)), .bl (decide (i = 8))] : List V) ++ [.bl (decide (i = 9)), .bl (decide (i = 10)), .bl (decide (i = 11))]))) p4 = some (.lst ([.bl (decide (i = 0)), .bl (decide (i = 1)), .bl (decide (i = 2)), .bl (decide (i = 3)), .bl (decide (i = 4)), .bl (decide (i = 5)), .bl (decide (i = 6)), .bl (decide (i = 7)), .bl (decide (i = 8)), .bl (decide (i = 9)), .bl (decide (i = 10)), .bl (decide (i = 11))] : List V)) := upd_same
    generalize upd (upd H3 l (.lst [.bl (decide (i = 9)), .bl (decide (i = 10)), .bl (decide (i = 11))])) p4 (.lst (([.bl (decide (i = 0)), .bl (decide (i = 1)), .bl (decide (i = 2)), .bl (decide (i = 3)), .bl (decide (i = 4)), .bl (decide (i = 5)), .bl (decide (i = 6)), .bl (decide (i = 7)), .bl (decide (i = 8))] : List V) ++ [.bl (decide (i = 9)), .bl (decide (i = 10)), .bl (decide (i = 11))])) = H4 at s4 h4 ⊢
    clear n4 l0 h3 s3
    refine ⟨_, rfl, _, rfl, a, C i, .ref (C 12), .ref (C 12), _, rfl, he.same s4, T.e i hi, .own _, T.is i 12 hi (by decide), _, rfl, a, C i, .ref (C 13), .ref (C 13), _, rfl, he.same s4, T.e i hi, .own _, T.is i 13 hi (by decide), _, rfl, a, C i, .ref (C 14), .ref (C 14), _, rfl, he.same s4, T.e i hi, .own _, T.is i 14 hi (by decide), (by show 3 ≤ sizeLine; decide), fun l l0 => ⟨p4, l, _, _, rfl, rfl, (by rw [upd_ne (ne_of_none h4 l0)]; exact h4), upd_same, (by show 15 ≤ sizeLine; decide), fun p5 n5 => ?_⟩⟩
    have s5 : Same H (upd (upd H4 l (.lst [.bl (decide (i = 12)), .bl (decide (i = 13)), .bl (decide (i = 14))])) p5 (.lst (([.bl (decide (i = 0)), .bl (decide (i = 1)), .bl (decide (i = 2)), .bl (decide (i = 3)), .bl (decide (i = 4)), .bl (decide (i = 5)), .bl (decide (i = 6)), .bl (decide (i = 7)), .bl (decide (i = 8)), .bl (decide (i = 9)), .bl (decide (i = 10)), .bl (decide (i = 11))] : List V) ++ [.bl (decide (i = 12)), .bl (decide (i = 13)), .bl (decide (i = 14))]))) := same_up (same_up s4 l0) n5
    have h5 : (upd (upd H4 l (.lst [.bl (decide (i = 12)), .bl (decide (i = 13)), .bl (decide (i = 14))])) p5 (.lst (([.bl (decide (i = 0)), .bl (decide (i = 1)), .bl (decide (i = 2)), .bl (decide (i = 3)), .bl (decide (i = 4)), .bl (decide (i = 5)), .bl (decide (i = 6)), .bl (decide (i = 7)), .bl (decide (i = 8)), .bl (decide (i = 9)), .bl (decide (i = 10)), .bl (decide (i = 11))] : List V) ++ [.bl (decide (i = 12)), .bl (decide (i = 13)), .bl (decide (i = 14))]))) p5 = some (.lst ([.bl (decide (i = 0)), .bl (decide (i = 1)), .bl (decide (i = 2)), .bl (decide (i = 3)), .bl (decide (i = 4)), .bl (decide (i = 5)), .bl (decide (i = 6)), .bl (decide (i = 7)), .bl (decide (i = 8)), .bl (decide (i = 9)), .bl (decide (i = 10)), .bl (decide (i = 11)), .bl (decide (i = 12)), .bl (decide (i = 13)), .bl (decide (i = 14))] : List V)) := upd_same
    generalize upd (upd H4 l (.lst [.bl (decide (i = 12)), .bl (decide (i = 13)), .bl (decide (i = 14))])) p5 (.lst (([.bl (decide (i = 0)), .bl (decide (i = 1)), .bl (decide (i = 2)), .bl (decide (i = 3)), .bl (decide (i = 4)), .bl (decide (i = 5)), .bl (decide (i = 6)), .bl (decide (i = 7)), .bl (decide (i = 8)), .bl (decide (i = 9)), .bl (decide (i = 10)), .bl (decide (i = 11))] : List V) ++ [.bl (decide (i = 12)), .bl (decide (i = 13)), .bl (decide (i = 14))])) = H5 at s5 h5 ⊢
    clear n5 l0 h4 s4
    refine ⟨_, rfl, _, rfl, a, C i, .ref (C 15), .ref (C 15), _, rfl, he.same s5, T.e i hi, .own _, T.is i 15 hi (by decide), _, rfl, a, C i, .ref (C 16), .ref (C 16), _, rfl, he.same s5, T.e i hi, .own _, T.is i 16 hi (by decide), _, rfl, a, C i, .ref (C 17), .ref (C 17), _, rfl, he.same s5, T.e i hi, .own _, T.is i 17 hi (by decide), (by show 3 ≤ sizeLine; decide), fun l l0 => ⟨p5, l, _, _, rfl, rfl, (by rw [upd_ne (ne_of_none h5 l0)]; exact h5), upd_same, (by show 18 ≤ sizeLine; decide), fun p6 n6 => ?_⟩⟩
    have s6 : Same H (upd (upd H5 l (.lst [.bl (decide (i = 15)), .bl (decide (i = 16)), .bl (decide (i = 17))])) p6 (.lst (([.bl (decide (i = 0)), .bl (decide (i = 1)), .bl (decide (i = 2)), .bl (decide (i = 3)), .bl (decide (i = 4)), .bl (decide (i = 5)), .bl (decide (i = 6)), .bl (decide (i = 7)), .bl (decide (i = 8)), .bl (decide (i = 9)), .bl (decide (i = 10)), .bl (decide (i = 11)), .bl (decide (i = 12)), .bl (decide (i = 13)), .bl (decide (i = 14))] : List V) ++ [.bl (decide (i = 15)), .bl (decide (i = 16)), .bl (decide (i = 17))]))) := same_up (same_up s5 l0) n6
    have h6 : (upd (upd H5 l (.lst [.bl (decide (i = 15)), .bl (decide (i = 16)), .bl (decide (i = 17))])) p6 (.lst (([.bl (decide (i = 0)), .bl (decide (i = 1)), .bl (decide (i = 2)), .bl (decide (i = 3)), .bl (decide (i = 4)), .bl (decide (i = 5)), .bl (decide (i = 6)), .bl (decide (i = 7)), .bl (decide (i = 8)), .bl (decide (i = 9)), .bl (decide (i = 10)), .bl (decide (i = 11)), .bl (decide (i = 12)), .bl (decide (i = 13)), .bl (decide (i = 14))] : List V) ++ [.bl (decide (i = 15)), .bl (decide (i = 16)), .bl (decide (i = 17))]))) p6 = some (.lst ([.bl (decide (i = 0)), .bl (decide (i = 1)), .bl (decide (i = 2)), .bl (decide (i = 3)), .bl (decide (i = 4)), .bl (decide (i = 5)), .bl (decide (i = 6)), .bl (decide (i = 7)), .bl (decide (i = 8)), .bl (decide (i = 9)), .bl (decide (i = 10)), .bl (decide (i = 11)), .bl (decide (i = 12)), .bl (decide (i = 13)), .bl (decide (i = 14)), .bl (decide (i = 15)), .bl (decide (i = 16)), .bl (decide (i = 17))] : List V)) := upd_same
    generalize upd (upd H5 l (.lst [.bl (decide (i = 15)), .bl (decide (i = 16)), .bl (decide (i = 17))])) p6 (.lst (([.bl (decide (i = 0)), .bl (decide (i = 1)), .bl (decide (i = 2)), .bl (decide (i = 3)), .bl (decide (i = 4)), .bl (decide (i = 5)), .bl (decide (i = 6)), .bl (decide (i = 7)), .bl (decide (i = 8)), .bl (decide (i = 9)), .bl (decide (i = 10)), .bl (decide (i = 11)), .bl (decide (i = 12)), .bl (decide (i = 13)), .bl (decide (i = 14))] : List V) ++ [.bl (decide (i = 15)), .bl (decide (i = 16)), .bl (decide (i = 17))])) = H6 at s6 h6 ⊢
    clear n6 l0 h5 s5
    refine ⟨_, rfl, _, rfl, a, C i, .ref (C 18), .ref (C 18), _, rfl, he.same s6, T.e i hi, .own _, T.is i 18 hi (by decide), _, rfl, a, C i, .ref (C 19), .ref (C 19), _, rfl, he.same s6, T.e i hi, .own _, T.is i 19 hi (by decide), _, rfl, a, C i, .ref (C 20), .ref (C 20), _, rfl, he.same s6, T.e i hi, .own _, T.is i 20 hi (by decide), (by show 3 ≤ sizeLine; decide), fun l l0 => ⟨p6, l, _, _, rfl, rfl, (by rw [upd_ne (ne_of_none h6 l0)]; exact h6), upd_same, (by show 21 ≤ sizeLine; decide), fun p7 n7 => ?_⟩⟩
    have s7 : Same H (upd (upd H6 l (.lst [.bl (decide (i = 18)), .bl (decide (i = 19)), .bl (decide (i = 20))])) p7 (.lst (([.bl (decide (i = 0)), .bl (decide (i = 1)), .bl (decide (i = 2)), .bl (decide (i = 3)), .bl (decide (i = 4)), .bl (decide (i = 5)), .bl (decide (i = 6)), .bl (decide (i = 7)), .bl (decide (i = 8)), .bl (decide (i = 9)), .bl (decide (i = 10)), .bl (decide (i = 11)), .bl (decide (i = 12)), .bl (decide (i = 13)), .bl (decide (i = 14)), .bl (decide (i = 15)), .bl (decide (i = 16)), .bl (decide (i = 17))] : List V) ++ [.bl (decide (i = 18)), .bl (decide (i = 19)), .bl (decide (i = 20))]))) := same_up (same_up s6 l0) n7
    have h7 : (upd (upd H6 l (.lst [.bl (decide (i = 18)), .bl (decide (i = 19)), .bl (decide (i = 20))])) p7 (.lst (([.bl (decide (i = 0)), .bl (decide (i = 1)), .bl (decide (i = 2)), .bl (decide (i = 3)), .bl (decide (i = 4)), .bl (decide (i = 5)), .bl (decide (i = 6)), .bl (decide (i = 7)), .bl (decide (i = 8)), .bl (decide (i = 9)), .bl (decide (i = 10)), .bl (decide (i = 11)), .bl (decide (i = 12)), .bl (decide (i = 13)), .bl (decide (i = 14)), .bl (decide (i = 15)), .bl (decide (i = 16)), .bl (decide (i = 17))] : List V) ++ [.bl (decide (i = 18)), .bl (decide (i = 19)), .bl (decide (i = 20))]))) p7 = some (.lst ([.bl (decide (i = 0)), .bl (decide (i = 1)), .bl (decide (i = 2)), .bl (decide (i = 3)), .bl (decide (i = 4)), .bl (decide (i = 5)), .bl (decide (i = 6)), .bl (decide (i = 7)), .bl (decide (i = 8)), .bl (decide (i = 9)), .bl (decide (i = 10)), .bl (decide (i = 11)), .bl (decide (i = 12)), .bl (decide (i = 13)), .bl (decide (i = 14)), .bl (decide (i = 15)), .bl (decide (i = 16)), .bl (decide (i = 17)), .bl (decide (i = 18)), .bl (decide (i = 19)), .bl (decide (i = 20))] : List V)) := upd_same
    generalize upd (upd H6 l (.lst [.bl (decide (i = 18)), .bl (decide (i = 19)), .bl (decide (i = 20))])) p7 (.lst (([.bl (decide (i = 0)), .bl (decide (i = 1)), .bl (decide (i = 2)), .bl (decide (i = 3)), .bl (decide (i = 4)), .bl (decide (i = 5)), .bl (decide (i = 6)), .bl (decide (i = 7)), .bl (decide (i = 8)), .bl (decide (i = 9)), .bl (decide (i = 10)), .bl (decide (i = 11)), .bl (decide (i = 12)), .bl (decide (i = 13)), .bl (decide (i = 14)), .bl (decide (i = 15)), .bl (decide (i = 16)), .bl (decide (i = 17))] : List V) ++ [.bl (decide (i = 18)), .bl (decide (i = 19)), .bl (decide (i = 20))])) = H7 at s7 h7 ⊢
    clear n7 l0 h6 s6
    refine ⟨_, rfl, _, rfl, a, C i, .ref (C 21), .ref (C 21), _, rfl, he.same s7, T.e i hi, .own _, T.is i 21 hi (by decide), _, rfl, a, C i, .ref (C 22), .ref (C 22), _, rfl, he.same s7, T.e i hi, .own _, T.is i 22 hi (by decide), _, rfl, a, C i, .ref (C 23), .ref (C 23), _, rfl, he.same s7, T.e i hi, .own _, T.is i 23 hi (by decide), (by show 3 ≤ sizeLine; decide), fun l l0 => ⟨p7, l, _, _, rfl, rfl, (by rw [upd_ne (ne_of_none h7 l0)]; exact h7), upd_same, (by show 24 ≤ sizeLine; decide), fun p8 n8 => ?_⟩⟩
    have s8 : Same H (upd (upd H7 l (.lst [.bl (decide (i = 21)), .bl (decide (i = 22)), .bl (decide (i = 23))])) p8 (.lst (([.bl (decide (i = 0)), .bl (decide (i = 1)), .bl (decide (i = 2)), .bl (decide (i = 3)), .bl (decide (i = 4)), .bl (decide (i = 5)), .bl (decide (i = 6)), .bl (decide (i = 7)), .bl (decide (i = 8)), .bl (decide (i = 9)), .bl (decide (i = 10)), .bl (decide (i = 11)), .bl (decide (i = 12)), .bl (decide (i = 13)), .bl (decide (i = 14)), .bl (decide (i = 15)), .bl (decide (i = 16)), .bl (decide (i = 17)), .bl (decide (i = 18)), .bl (decide (i = 19)), .bl (decide (i = 20))] : List V) ++ [.bl (decide (i = 21)), .bl (decide (i = 22)), .bl (decide (i = 23))]))) := same_up (same_up s7 l0) n8
    have h8 : (upd (upd H7 l (.lst [.bl (decide (i = 21)), .bl (decide (i = 22)), .bl (decide (i = 23))])) p8 (.lst (([.bl (decide (i = 0)), .bl (decide (i = 1)), .bl (decide (i = 2)), .bl (decide (i = 3)), .bl (decide (i = 4)), .bl (decide (i = 5)), .bl (decide (i = 6)), .bl (decide (i = 7)), .bl (decide (i = 8)), .bl (decide (i = 9)), .bl (decide (i = 10)), .bl (decide (i = 11)), .bl (decide (i = 12)), .bl (decide (i = 13)), .bl (decide (i = 14)), .bl (decide (i = 15)), .bl (decide (i = 16)), .bl (decide (i = 17)), .bl (decide (i = 18)), .bl (decide (i = 19)), .bl (decide (i = 20))] : List V) ++ [.bl (decide (i = 21)), .bl (decide (i = 22)), .bl (decide (i = 23))]))) p8 = some (.lst ([.bl (decide (i = 0)), .bl (decide (i = 1)), .bl (decide (i = 2)), .bl (decide (i = 3)), .bl (decide (i = 4)), .bl (decide (i = 5)), .bl (decide (i = 6)), .bl (decide (i = 7)), .bl (decide (i = 8)), .bl (decide (i = 9)), .bl (decide (i = 10)), .bl (decide (i = 11)), .bl (decide (i = 12)), .bl (decide (i = 13)), .bl (decide (i = 14)), .bl (decide (i = 15)), .bl (decide (i = 16)), .bl (decide (i = 17)), .bl (decide (i = 18)), .bl (decide (i = 19)), .bl (decide (i = 20)), .bl (decide (i = 21)), .bl (decide (i = 22)), .bl (decide (i = 23))] : List V)) := upd_same
    generalize upd (upd H7 l (.lst [.bl (decide (i = 21)), .bl (decide (i = 22)), .bl (decide (i = 23))])) p8 (.lst (([.bl (decide (i = 0)), .bl (decide (i = 1)), .bl (decide (i = 2)), .bl (decide (i = 3)), .bl (decide (i = 4)), .bl (decide (i = 5)), .bl (decide (i = 6)), .bl (decide (i = 7)), .bl (decide (i = 8)), .bl (decide (i = 9)), .bl (decide (i = 10)), .bl (decide (i = 11)), .bl (decide (i = 12)), .bl (decide (i = 13)), .bl (decide (i = 14)), .bl (decide (i = 15)), .bl (decide (i = 16)), .bl (decide (i = 17)), .bl (decide (i = 18)), .bl (decide (i = 19)), .bl (decide (i = 20))] : List V) ++ [.bl (decide (i = 21)), .bl (decide (i = 22)), .bl (decide (i = 23))])) = H8 at s8 h8 ⊢
    clear n8 l0 h7 s7
    refine ⟨_, rfl, _, rfl, a, C i, .ref (C 24), .ref (C 24), _, rfl, he.same s8, T.e i hi, .own _, T.is i 24 hi (by decide), _, rfl, a, C i, .ref (C 25), .ref (C 25), _, rfl, he.same s8, T.e i hi, .own _, T.is i 25 hi (by decide), (by show 2 ≤ sizeLine; decide), fun l l0 => ⟨p8, l, _, _, rfl, rfl, (by rw [upd_ne (ne_of_none h8 l0)]; exact h8), upd_same, (by show 26 ≤ sizeLine; decide), fun p9 n9 => ?_⟩⟩
    have s9 : Same H (upd (upd H8 l (.lst [.bl (decide (i = 24)), .bl (decide (i = 25))])) p9 (.lst (([.bl (decide (i = 0)), .bl (decide (i = 1)), .bl (decide (i = 2)), .bl (decide (i = 3)), .bl (decide (i = 4)), .bl (decide (i = 5)), .bl (decide (i = 6)), .bl (decide (i = 7)), .bl (decide (i = 8)), .bl (decide (i = 9)), .bl (decide (i = 10)), .bl (decide (i = 11)), .bl (decide (i = 12)), .bl (decide (i = 13)), .bl (decide (i = 14)), .bl (decide (i = 15)), .bl (decide (i = 16)), .bl (decide (i = 17)), .bl (decide (i = 18)), .bl (decide (i = 19)), .bl (decide (i = 20)), .bl (decide (i = 21)), .bl (decide (i = 22)), .bl (decide (i = 23))] : List V) ++ [.bl (decide (i = 24)), .bl (decide (i = 25))]))) := same_up (same_up s8 l0) n9
    have h9 : (upd (upd H8 l (.lst [.bl (decide (i = 24)), .bl (decide (i = 25))])) p9 (.lst (([.bl (decide (i = 0)), .bl (decide (i = 1)), .bl (decide (i = 2)), .bl (decide (i = 3)), .bl (decide (i = 4)), .bl (decide (i = 5)), .bl (decide (i = 6)), .bl (decide (i = 7)), .bl (decide (i = 8)), .bl (decide (i = 9)), .bl (decide (i = 10)), .bl (decide (i = 11)), .bl (decide (i = 12)), .bl (decide (i = 13)), .bl (decide (i = 14)), .bl (decide (i = 15)), .bl (decide (i = 16)), .bl (decide (i = 17)), .bl (decide (i = 18)), .bl (decide (i = 19)), .bl (decide (i = 20)), .bl (decide (i = 21)), .bl (decide (i = 22)), .bl (decide (i = 23))] : List V) ++ [.bl (decide (i = 24)), .bl (decide (i = 25))]))) p9 = some (.lst ([.bl (decide (i = 0)), .bl (decide (i = 1)), .bl (decide (i = 2)), .bl (decide (i = 3)), .bl (decide (i = 4)), .bl (decide (i = 5)), .bl (decide (i = 6)), .bl (decide (i = 7)), .bl (decide (i = 8)), .bl (decide (i = 9)), .bl (decide (i = 10)), .bl (decide (i = 11)), .bl (decide (i = 12)), .bl (decide (i = 13)), .bl (decide (i = 14)), .bl (decide (i = 15)), .bl (decide (i = 16)), .bl (decide (i = 17)), .bl (decide (i = 18)), .bl (decide (i = 19)), .bl (decide (i = 20)), .bl (decide (i = 21)), .bl (decide (i = 22)), .bl (decide (i = 23)), .bl (decide (i = 24)), .bl (decide (i = 25))] : List V)) := upd_same
    generalize upd (upd H8 l (.lst [.bl (decide (i = 24)), .bl (decide (i = 25))])) p9 (.lst (([.bl (decide (i = 0)), .bl (decide (i = 1)), .bl (decide (i = 2)), .bl (decide (i = 3)), .bl (decide (i = 4)), .bl (decide (i = 5)), .bl (decide (i = 6)), .bl (decide (i = 7)), .bl (decide (i = 8)), .bl (decide (i = 9)), .bl (decide (i = 10)), .bl (decide (i = 11)), .bl (decide (i = 12)), .bl (decide (i = 13)), .bl (decide (i = 14)), .bl (decide (i = 15)), .bl (decide (i = 16)), .bl (decide (i = 17)), .bl (decide (i = 18)), .bl (decide (i = 19)), .bl (decide (i = 20)), .bl (decide (i = 21)), .bl (decide (i = 22)), .bl (decide (i = 23))] : List V) ++ [.bl (decide (i = 24)), .bl (decide (i = 25))])) = H9 at s9 h9 ⊢
    clear n9 l0 h8 s8
    refine ⟨_, rfl, _, rfl, a, C i, .ref (C 26), .ref (C 26), _, rfl, he.same s9, T.e i hi, .own _, T.is i 26 hi (by decide), _, rfl, a, C i, .ref (C 27), .ref (C 27), _, rfl, he.same s9, T.e i hi, .own _, T.is i 27 hi (by decide), _, rfl, a, C i, .ref (C 28), .ref (C 28), _, rfl, he.same s9, T.e i hi, .own _, T.is i 28 hi (by decide), (by show 3 ≤ sizeLine; decide), fun l l0 => ⟨p9, l, _, _, rfl, rfl, (by rw [upd_ne (ne_of_none h9 l0)]; exact h9), upd_same, (by show 29 ≤ sizeLine; decide), fun p10 n10 => ?_⟩⟩
    have s10 : Same H (upd (upd H9 l (.lst [.bl (decide (i = 26)), .bl (decide (i = 27)), .bl (decide (i = 28))])) p10 (.lst (([.bl (decide (i = 0)), .bl (decide (i = 1)), .bl (decide (i = 2)), .bl (decide (i = 3)), .bl (decide (i = 4)), .bl (decide (i = 5)), .bl (decide (i = 6)), .bl (decide (i = 7)), .bl (decide (i = 8)), .bl (decide (i = 9)), .bl (decide (i = 10)), .bl (decide (i = 11)), .bl (decide (i = 12)), .bl (decide (i = 13)), .bl (decide (i = 14)), .bl (decide (i = 15)), .bl (decide (i = 16)), .bl (decide (i = 17)), .bl (decide (i = 18)), .bl (decide (i = 19)), .bl (decide (i = 20)), .bl (decide (i = 21)), .bl (decide (i = 22)), .bl (decide (i = 23)), .bl (decide (i = 24)), .bl (decide (i = 25))] : List V) ++ [.bl (decide (i = 26)), .bl (decide (i = 27)), .bl (decide (i = 28))]))) := same_up (same_up s9 l0) n10
    have h10 : (upd (upd H9 l (.lst [.bl (decide (i = 26)), .bl (decide (i = 27)), .bl (decide (i = 28))])) p10 (.lst (([.bl (decide (i = 0)), .bl (decide (i = 1)), .bl (decide (i = 2)), .bl (decide (i = 3)), .bl (decide (i = 4)), .bl (decide (i = 5)), .bl (decide (i = 6)), .bl (decide (i = 7)), .bl (decide (i = 8)), .bl (decide (i = 9)), .bl (decide (i = 10)), .bl (decide (i = 11)), .bl (decide (i = 12)), .bl (decide (i = 13)), .bl (decide (i = 14)), .bl (decide (i = 15)), .bl (decide (i = 16)), .bl (decide (i = 17)), .bl (decide (i = 18)), .bl (decide (i = 19)), .bl (decide (i = 20)), .bl (decide (i = 21)), .bl (decide (i = 22)), .bl (decide (i = 23)), .bl (decide (i = 24)), .bl (decide (i = 25))] : List V) ++ [.bl (decide (i = 26)), .bl (decide (i = 27)), .bl (decide (i = 28))]))) p10 = some (.lst ([.bl (decide (i = 0)), .bl (decide (i = 1)), .bl (decide (i = 2)), .bl (decide (i = 3)), .bl (decide (i = 4)), .bl (decide (i = 5)), .bl (decide (i = 6)), .bl (decide (i = 7)), .bl (decide (i = 8)), .bl (decide (i = 9)), .bl (decide (i = 10)), .bl (decide (i = 11)), .bl (decide (i = 12)), .bl (decide (i = 13)), .bl (decide (i = 14)), .bl (decide (i = 15)), .bl (decide (i = 16)), .bl (decide (i = 17)), .bl (decide (i = 18)), .bl (decide (i = 19)), .bl (decide (i = 20)), .bl (decide (i = 21)), .bl (decide (i = 22)), .bl (decide (i = 23)), .bl (decide (i = 24)), .bl (decide (i = 25)), .bl (decide (i = 26)), .bl (decide (i = 27)), .bl (decide (i = 28))] : List V)) := upd_same
    generalize upd (upd H9 l (.lst [.bl (decide (i = 26)), .bl (decide (i = 27)), .bl (decide (i = 28))])) p10 (.lst (([.bl (decide (i = 0)), .bl (decide (i = 1)), .bl (decide (i = 2)), .bl (decide (i = 3)), .bl (decide (i = 4)), .bl (decide (i = 5)), .bl (decide (i = 6)), .bl (decide (i = 7)), .bl (decide (i = 8)), .bl (decide (i = 9)), .bl (decide (i = 10)), .bl (decide (i = 11)), .bl (decide (i = 12)), .bl (decide (i = 13)), .bl (decide (i = 14)), .bl (decide (i = 15)), .bl (decide (i = 16)), .bl (decide (i = 17)), .bl (decide (i = 18)), .bl (decide (i = 19)), .bl (decide (i = 20)), .bl (decide (i = 21)), .bl (decide (i = 22)), .bl (decide (i = 23)), .bl (decide (i = 24)), .bl (decide (i = 25))] : List V) ++ [.bl (decide (i = 26)), .bl (decide (i = 27)), .bl (decide (i = 28))])) = H10 at s10 h10 ⊢
    clear n10 l0 h9 s9
    refine ⟨_, rfl, _, rfl, a, C i, .ref (C 29), .ref (C 29), _, rfl, he.same s10, T.e i hi, .own _, T.is i 29 hi (by decide), _, rfl, a, C i, .ref (C 30), .ref (C 30), _, rfl, he.same s10, T.e i hi, .own _, T.is i 30 hi (by decide), _, rfl, a, C i, .ref (C 31), .ref (C 31), _, rfl, he.same s10, T.e i hi, .own _, T.is i 31 hi (by decide), (by show 3 ≤ sizeLine; decide), fun l l0 => ⟨p10, l, _, _, rfl, rfl, (by rw [upd_ne (ne_of_none h10 l0)]; exact h10), upd_same, (by show 32 ≤ sizeLine; decide), fun p11 n11 => ?_⟩⟩
    have s11 : Same H (upd (upd H10 l (.lst [.bl (decide (i = 29)), .bl (decide (i = 30)), .bl (decide (i = 31))])) p11 (.lst (([.bl (decide (i = 0)), .bl (decide (i = 1)), .bl (decide (i = 2)), .bl (decide (i = 3)), .bl (decide (i = 4)), .bl (decide (i = 5)), .bl (decide (i = 6)), .bl (decide (i = 7)), .bl (decide (i = 8)), .bl (decide (i = 9)), .bl (decide (i = 10)), .bl (decide (i = 11)), .bl (decide (i = 12)), .bl (decide (i = 13)), .bl (decide (i = 14)), .bl (decide (i = 15)), .bl (decide (i = 16)), .bl (decide (i = 17)), .bl (decide (i = 18)), .bl (decide (i = 19)), .bl (decide (i = 20)), .bl (decide (i = 21)), .bl (decide (i = 22)), .bl (decide (i = 23)), .bl (decide (i = 24)), .bl (decide (i = 25)), .bl (decide (i = 26)), .bl (decide (i = 27)), .bl (decide (i = 28))] : List V) ++ [.bl (decide (i = 29)), .bl (decide (i = 30)), .bl (decide (i = 31))]))) := same_up (same_up s10 l0) n11
    have h11 : (upd (upd H10 l (.lst [.bl (decide (i = 29)), .bl (decide (i = 30)), .bl (decide (i = 31))])) p11 (.lst (([.bl (decide (i = 0)), .bl (decide (i = 1)), .bl (decide (i = 2)), .bl (decide (i = 3)), .bl (decide (i = 4)), .bl (decide (i = 5)), .bl (decide (i = 6)), .bl (decide (i = 7)), .bl (decide (i = 8)), .bl (decide (i = 9)), .bl (decide (i = 10)), .bl (decide (i = 11)), .bl (decide (i = 12)), .bl (decide (i = 13)), .bl (decide (i = 14)), .bl (decide (i = 15)), .bl (decide (i = 16)), .bl (decide (i = 17)), .bl (decide (i = 18)), .bl (decide (i = 19)), .bl (decide (i = 20)), .bl (decide (i = 21)), .bl (decide (i = 22)), .bl (decide (i = 23)), .bl (decide (i = 24)), .bl (decide (i = 25)), .bl (decide (i = 26)), .bl (decide (i = 27)), .bl (decide (i = 28))] : List V) ++ [.bl (decide (i = 29)), .bl (decide (i = 30)), .bl (decide (i = 31))]))) p11 = some (.lst ([.bl (decide (i = 0)), .bl (decide (i = 1)), .bl (decide (i = 2)), .bl (decide (i = 3)), .bl (decide (i = 4)), .bl (decide (i = 5)), .bl (decide (i = 6)), .bl (decide (i = 7)), .bl (decide (i = 8)), .bl (decide (i = 9)), .bl (decide (i = 10)), .bl (decide (i = 11)), .bl (decide (i = 12)), .bl (decide (i = 13)), .bl (decide (i = 14)), .bl (decide (i = 15)), .bl (decide (i = 16)), .bl (decide (i = 17)), .bl (decide (i = 18)), .bl (decide (i = 19)), .bl (decide (i = 20)), .bl (decide (i = 21)), .bl (decide (i = 22)), .bl (decide (i = 23)), .bl (decide (i = 24)), .bl (decide (i = 25)), .bl (decide (i = 26)), .bl (decide (i = 27)), .bl (decide (i = 28)), .bl (decide (i = 29)), .bl (decide (i = 30)), .bl (decide (i = 31))] : List V)) := upd_same
    generalize upd (upd H10 l (.lst [.bl (decide (i = 29)), .bl (decide (i = 30)), .bl (decide (i = 31))])) p11 (.lst (([.bl (decide (i = 0)), .bl (decide (i = 1)), .bl (decide (i = 2)), .bl (decide (i = 3)), .bl (decide (i = 4)), .bl (decide (i = 5)), .bl (decide (i = 6)), .bl (decide (i = 7)), .bl (decide (i = 8)), .bl (decide (i = 9)), .bl (decide (i = 10)), .bl (decide (i = 11)), .bl (decide (i = 12)), .bl (decide (i = 13)), .bl (decide (i = 14)), .bl (decide (i = 15)), .bl (decide (i = 16)), .bl (decide (i = 17)), .bl (decide (i = 18)), .bl (decide (i = 19)), .bl (decide (i = 20)), .bl (decide (i = 21)), .bl (decide (i = 22)), .bl (decide (i = 23)), .bl (decide (i = 24)), .bl (decide (i = 25)), .bl (decide (i = 26)), .bl (decide (i = 27)), .bl (decide (i = 28))] : List V) ++ [.bl (decide (i = 29)), .bl (decide (i = 30)), .bl (decide (i = 31))])) = H11 at s11 h11 ⊢
    clear n11 l0 h10 s10
    refine ⟨_, rfl, _, rfl, a, C i, .ref (C 32), .ref (C 32), _, rfl, he.same s11, T.e i hi, .own _, T.is i 32 hi (by decide), _, rfl, a, C i, .ref (C 33), .ref (C 33), _, rfl, he.same s11, T.e i hi, .own _, T.is i 33 hi (by decide), _, rfl, a, C i, .ref (C 34), .ref (C 34), _, rfl, he.same s11, T.e i hi, .own _, T.is i 34 hi (by decide), (by show 3 ≤ sizeLine; decide), fun l l0 => ⟨p11, l, _, _, rfl, rfl, (by rw [upd_ne (ne_of_none h11 l0)]; exact h11), upd_same, (by show 35 ≤ sizeLine; decide), fun p12 n12 => ?_⟩⟩
    have s12 : Same H (upd (upd H11 l (.lst [.bl (decide (i = 32)), .bl (decide (i = 33)), .bl (decide (i = 34))])) p12 (.lst (([.bl (decide (i = 0)), .bl (decide (i = 1)), .bl (decide (i = 2)), .bl (decide (i = 3)), .bl (decide (i = 4)), .bl (decide (i = 5)), .bl (decide (i = 6)), .bl (decide (i = 7)), .bl (decide (i = 8)), .bl (decide (i = 9)), .bl (decide (i = 10)), .bl (decide (i = 11)), .bl (decide (i = 12)), .bl (decide (i = 13)), .bl (decide (i = 14)), .bl (decide (i = 15)), .bl (decide (i = 16)), .bl (decide (i = 17)), .bl (decide (i = 18)), .bl (decide (i = 19)), .bl (decide (i = 20)), .bl (decide (i = 21)), .bl (decide (i = 22)), .bl (decide (i = 23)), .bl (decide (i = 24)), .bl (decide (i = 25)), .bl (decide (i = 26)), .bl (decide (i = 27)), .bl (decide (i = 28)), .bl (decide (i = 29)), .bl (decide (i = 30)), .bl (decide (i = 31))] : List V) ++ [.bl (decide (i = 32)), .bl (decide (i = 33)), .bl (decide (i = 34))]))) := same_up (same_up s11 l0) n12
    have h12 : (upd (upd H11 l (.lst [.bl (decide (i = 32)), .bl (decide (i = 33)), .bl (decide (i = 34))])) p12 (.lst (([.bl (decide (i = 0)), .bl (decide (i = 1)), .bl (decide (i = 2)), .bl (decide (i = 3)), .bl (decide (i = 4)), .bl (decide (i = 5)), .bl (decide (i = 6)), .bl (decide (i = 7)), .bl (decide (i = 8)), .bl (decide (i = 9)), .bl (decide (i = 10)), .bl (decide (i = 11)), .bl (decide (i = 12)), .bl (decide (i = 13)), .bl (decide (i = 14)), .bl (decide (i = 15)), .bl (decide (i = 16)), .bl (decide (i = 17)), .bl (decide (i = 18)), .bl (decide (i = 19)), .bl (decide (i = 20)), .bl (decide (i = 21)), .bl (decide (i = 22)), .bl (decide (i = 23)), .bl (decide (i = 24)), .bl (decide (i = 25)), .bl (decide (i = 26)), .bl (decide (i = 27)), .bl (decide (i = 28)), .bl (decide (i = 29)), .bl (decide (i = 30)), .bl (decide (i = 31))] : List V) ++ [.bl (decide (i = 32)), .bl (decide (i = 33)), .bl (decide (i = 34))]))) p12 = some (.lst ([.bl (decide (i = 0)), .bl (decide (i = 1)), .bl (decide (i = 2)), .bl (decide (i = 3)), .bl (decide (i = 4)), .bl (decide (i = 5)), .bl (decide (i = 6)), .bl (decide (i = 7)), .bl (decide (i = 8)), .bl (decide (i = 9)), .bl (decide (i = 10)), .bl (decide (i = 11)), .bl (decide (i = 12)), .bl (decide (i = 13)), .bl (decide (i = 14)), .bl (decide (i = 15)), .bl (decide (i = 16)), .bl (decide (i = 17)), .bl (decide (i = 18)), .bl (decide (i = 19)), .bl (decide (i = 20)), .bl (decide (i = 21)), .bl (decide (i = 22)), .bl (decide (i = 23)), .bl (decide (i = 24)), .bl (decide (i = 25)), .bl (decide (i = 26)), .bl (decide (i = 27)), .bl (decide (i = 28)), .bl (decide (i = 29)), .bl (decide (i = 30)), .bl (decide (i = 31)), .bl (decide (i = 32)), .bl (decide (i = 33)), .bl (decide (i = 34))] : List V)) := upd_same
    have q12 : H p12 = none := s11.free (by have z := n12; rw [upd_ne (fun e => by rw [e, upd_same] at z; cases z)] at z; exact z)
    exact ⟨_, rfl, k p12 _ s12 q12 h12⟩
theorem scPl : FnScope ["words_here", "found"] ["words_here"] (defScope sPlain) := ⟨rfl, rfl, rfl, by decide +kernel, rfl, by decide +kernel, by decide +kernel⟩
theorem ok_plain {f : Addr} {fd : FuncData} (F : Fun K "_law_plain_errors" "_law_plain_errors" sPlain f fd) (T : Clss K mg C) : FnOk P w K mg base CX0 1 f fd ["words_here"] (spPlain C) := by
  refine F.ok scPl (fun vs H Q E h => ?_) (fun cdv A outer s H vs Q E hr h => ?_)
  · obtain ⟨x, rfl, _⟩ := h
    rfl
  · obtain ⟨x, rfl, k⟩ := h
    refine ⟨_, pss_cons (ps_set (i := 1) scPl.nd rfl (Or.inl rfl) (pe_lst pa_nil))
      (pss_cons (ps_set (i := 1) scPl.nd rfl (Or.inl rfl) (pe_op op_cat (pv 1) (pe_lst (pa_cons (pe_exc1 PySem.F.excBase_ValueError (T.x 0 (by decide)) (T.g 0 (by decide)) (T.k 0 (by decide)) (by rfl) (pv 0)) (pa_cons (pe_exc1 PySem.F.excBase_ValueError (T.x 1 (by decide)) (T.g 1 (by decide)) (T.k 1 (by decide)) (by rfl) (pv 0)) (pa_cons (pe_exc1 PySem.F.excBase_ValueError (T.x 2 (by decide)) (T.g 2 (by decide)) (T.k 2 (by decide)) (by rfl) (pv 0)) (pa_cons (pe_exc1 PySem.F.excBase_ValueError (T.x 3 (by decide)) (T.g 3 (by decide)) (T.k 3 (by decide)) (by rfl) (pv 0)) pa_nil)))))))
      (pss_cons (ps_set (i := 1) scPl.nd rfl (Or.inl rfl) (pe_op op_cat (pv 1) (pe_lst (pa_cons (pe_exc1 PySem.F.excBase_ValueError (T.x 4 (by decide)) (T.g 4 (by decide)) (T.k 4 (by decide)) (by rfl) (pv 0)) (pa_cons (pe_exc1 PySem.F.excBase_ValueError (T.x 5 (by decide)) (T.g 5 (by decide)) (T.k 5 (by decide)) (by rfl) (pv 0)) (pa_cons (pe_exc1 PySem.F.excBase_ValueError (T.x 6 (by decide)) (T.g 6 (by decide)) (T.k 6 (by decide)) (by rfl) (pv 0)) (pa_cons (pe_exc1 PySem.F.excBase_ValueError (T.x 7 (by decide)) (T.g 7 (by decide)) (T.k 7 (by decide)) (by rfl) (pv 0)) pa_nil)))))))
      (pss_cons (ps_set (i := 1) scPl.nd rfl (Or.inl rfl) (pe_op op_cat (pv 1) (pe_lst (pa_cons (pe_exc1 PySem.F.excBase_ValueError (T.x 8 (by decide)) (T.g 8 (by decide)) (T.k 8 (by decide)) (by rfl) (pv 0)) (pa_cons (pe_exc1 PySem.F.excBase_ValueError (T.x 9 (by decide)) (T.g 9 (by decide)) (T.k 9 (by decide)) (by rfl) (pv 0)) (pa_cons (pe_exc1 PySem.F.excBase_ValueError (T.x 10 (by decide)) (T.g 10 (by decide)) (T.k 10 (by decide)) (by rfl) (pv 0)) (pa_cons (pe_exc1 PySem.F.excBase_ValueError (T.x 11 (by decide)) (T.g 11 (by decide)) (T.k 11 (by decide)) (by rfl) (pv 0)) pa_nil)))))))
      (pss_cons (ps_set (i := 1) scPl.nd rfl (Or.inl rfl) (pe_op op_cat (pv 1) (pe_lst (pa_cons (pe_exc1 PySem.F.excBase_ValueError (T.x 12 (by decide)) (T.g 12 (by decide)) (T.k 12 (by decide)) (by rfl) (pv 0)) (pa_cons (pe_exc1 PySem.F.excBase_ValueError (T.x 13 (by decide)) (T.g 13 (by decide)) (T.k 13 (by decide)) (by rfl) (pv 0)) (pa_cons (pe_exc1 PySem.F.excBase_ValueError (T.x 14 (by decide)) (T.g 14 (by decide)) (T.k 14 (by decide)) (by rfl) (pv 0)) (pa_cons (pe_exc1 PySem.F.excBase_ValueError (T.x 15 (by decide)) (T.g 15 (by decide)) (T.k 15 (by decide)) (by rfl) (pv 0)) pa_nil)))))))
      (pss_cons (ps_set (i := 1) scPl.nd rfl (Or.inl rfl) (pe_op op_cat (pv 1) (pe_lst (pa_cons (pe_exc1 PySem.F.excBase_ValueError (T.x 16 (by decide)) (T.g 16 (by decide)) (T.k 16 (by decide)) (by rfl) (pv 0)) (pa_cons (pe_exc1 PySem.F.excBase_ValueError (T.x 17 (by decide)) (T.g 17 (by decide)) (T.k 17 (by decide)) (by rfl) (pv 0)) (pa_cons (pe_exc1 PySem.F.excBase_ValueError (T.x 18 (by decide)) (T.g 18 (by decide)) (T.k 18 (by decide)) (by rfl) (pv 0)) (pa_cons (pe_exc1 PySem.F.excBase_ValueError (T.x 19 (by decide)) (T.g 19 (by decide)) (T.k 19 (by decide)) (by rfl) (pv 0)) pa_nil)))))))
      (pss_cons (ps_set (i := 1) scPl.nd rfl (Or.inl rfl) (pe_op op_cat (pv 1) (pe_lst (pa_cons (pe_exc1 PySem.F.excBase_ValueError (T.x 20 (by decide)) (T.g 20 (by decide)) (T.k 20 (by decide)) (by rfl) (pv 0)) (pa_cons (pe_exc1 PySem.F.excBase_ValueError (T.x 21 (by decide)) (T.g 21 (by decide)) (T.k 21 (by decide)) (by rfl) (pv 0)) (pa_cons (pe_exc1 PySem.F.excBase_ValueError (T.x 22 (by decide)) (T.g 22 (by decide)) (T.k 22 (by decide)) (by rfl) (pv 0)) (pa_cons (pe_exc1 PySem.F.excBase_ValueError (T.x 23 (by decide)) (T.g 23 (by decide)) (T.k 23 (by decide)) (by rfl) (pv 0)) pa_nil)))))))
      (pss_cons (ps_set (i := 1) scPl.nd rfl (Or.inl rfl) (pe_op op_cat (pv 1) (pe_lst (pa_cons (pe_exc1 PySem.F.excBase_ValueError (T.x 24 (by decide)) (T.g 24 (by decide)) (T.k 24 (by decide)) (by rfl) (pv 0)) (pa_cons (pe_exc1 PySem.F.excBase_ValueError (T.x 25 (by decide)) (T.g 25 (by decide)) (T.k 25 (by decide)) (by rfl) (pv 0)) pa_nil)))))
      (pss_one (ps_ret (pv 1)))))))))), ?_⟩
    refine ⟨Nat.zero_le _, fun p0 n0 => ?_⟩
    have s0 : Same H (upd H p0 (.lst [])) := same_up (Same.refl H) n0
    have h0 : (upd H p0 (.lst [])) p0 = some (.lst (([] : List Addr).map V.ref)) := upd_same
    generalize upd H p0 (.lst []) = H0 at s0 h0 ⊢
    have e0 : Errs H0 C 0 [] := Errs.nil
    refine ⟨_, rfl, _, rfl, fun a0 na0 => ⟨_, rfl, fun a1 na1 => ⟨_, rfl, fun a2 na2 => ⟨_, rfl, fun a3 na3 => ?_⟩⟩⟩⟩
    have t0 : Same H (upd (upd (upd (upd H0 a0 (ExO (.ref (C 0)) a0)) a1 (ExO (.ref (C 1)) a1)) a2 (ExO (.ref (C 2)) a2)) a3 (ExO (.ref (C 3)) a3)) := (same_up (same_up (same_up (same_up s0 na0) na1) na2) na3)
    have u0 : Same H0 (upd (upd (upd (upd H0 a0 (ExO (.ref (C 0)) a0)) a1 (ExO (.ref (C 1)) a1)) a2 (ExO (.ref (C 2)) a2)) a3 (ExO (.ref (C 3)) a3)) := (same_up (same_up (same_up (same_up (Same.refl _) na0) na1) na2) na3)
    have w0 : ErrAt (upd (upd (upd (upd H0 a0 (ExO (.ref (C 0)) a0)) a1 (ExO (.ref (C 1)) a1)) a2 (ExO (.ref (C 2)) a2)) a3 (ExO (.ref (C 3)) a3)) a0 (C 0) := .inl ((same_up (same_up (same_up (Same.refl _) na1) na2) na3) _ _ upd_same)
    have w1 : ErrAt (upd (upd (upd (upd H0 a0 (ExO (.ref (C 0)) a0)) a1 (ExO (.ref (C 1)) a1)) a2 (ExO (.ref (C 2)) a2)) a3 (ExO (.ref (C 3)) a3)) a1 (C 1) := .inl ((same_up (same_up (Same.refl _) na2) na3) _ _ upd_same)
    have w2 : ErrAt (upd (upd (upd (upd H0 a0 (ExO (.ref (C 0)) a0)) a1 (ExO (.ref (C 1)) a1)) a2 (ExO (.ref (C 2)) a2)) a3 (ExO (.ref (C 3)) a3)) a2 (C 2) := .inl ((same_up (Same.refl _) na3) _ _ upd_same)
    have w3 : ErrAt (upd (upd (upd (upd H0 a0 (ExO (.ref (C 0)) a0)) a1 (ExO (.ref (C 1)) a1)) a2 (ExO (.ref (C 2)) a2)) a3 (ExO (.ref (C 3)) a3)) a3 (C 3) := .inl ((Same.refl _) _ _ upd_same)
    have f0 : Errs (upd (upd (upd (upd H0 a0 (ExO (.ref (C 0)) a0)) a1 (ExO (.ref (C 1)) a1)) a2 (ExO (.ref (C 2)) a2)) a3 (ExO (.ref (C 3)) a3)) C 0 [a0, a1, a2, a3] := by
      have z := e0.same u0
      have z := z.snoc (a := a0) w0
      have z := z.snoc (a := a1) w1
      have z := z.snoc (a := a2) w2
      have z := z.snoc (a := a3) w3
      exact z
    have g0 := u0 _ _ h0
    clear h0 e0 s0 u0 w0 w1 w2 w3
    generalize (upd (upd (upd (upd H0 a0 (ExO (.ref (C 0)) a0)) a1 (ExO (.ref (C 1)) a1)) a2 (ExO (.ref (C 2)) a2)) a3 (ExO (.ref (C 3)) a3)) = G0 at t0 f0 g0 ⊢
    clear na0 na1 na2 na3
    refine ⟨(by show 4 ≤ sizeLine; decide), fun l l0 => ⟨p0, l, _, _, rfl, rfl, (by rw [upd_ne (ne_of_none g0 l0)]; exact g0), upd_same, (by show 4 ≤ sizeLine; decide), fun p1 n1 => ?_⟩⟩
    have s1 : Same H (upd (upd G0 l (.lst [V.ref a0, V.ref a1, V.ref a2, V.ref a3])) p1 (.lst ((([] : List Addr).map V.ref) ++ [V.ref a0, V.ref a1, V.ref a2, V.ref a3]))) := same_up (same_up t0 l0) n1
    have e1 : Errs (upd (upd G0 l (.lst [V.ref a0, V.ref a1, V.ref a2, V.ref a3])) p1 (.lst ((([] : List Addr).map V.ref) ++ [V.ref a0, V.ref a1, V.ref a2, V.ref a3]))) C 0 [a0, a1, a2, a3] := f0.same (same_up (same_up (Same.refl _) l0) n1)
    have h1 : (upd (upd G0 l (.lst [V.ref a0, V.ref a1, V.ref a2, V.ref a3])) p1 (.lst ((([] : List Addr).map V.ref) ++ [V.ref a0, V.ref a1, V.ref a2, V.ref a3]))) p1 = some (.lst ([a0, a1, a2, a3].map V.ref)) := upd_same
    clear f0 g0 t0
    generalize upd (upd G0 l (.lst [V.ref a0, V.ref a1, V.ref a2, V.ref a3])) p1 (.lst ((([] : List Addr).map V.ref) ++ [V.ref a0, V.ref a1, V.ref a2, V.ref a3])) = H1 at s1 h1 e1 ⊢
    clear n1 l0
    refine ⟨_, rfl, _, rfl, fun a4 na4 => ⟨_, rfl, fun a5 na5 => ⟨_, rfl, fun a6 na6 => ⟨_, rfl, fun a7 na7 => ?_⟩⟩⟩⟩
    have t1 : Same H (upd (upd (upd (upd H1 a4 (ExO (.ref (C 4)) a4)) a5 (ExO (.ref (C 5)) a5)) a6 (ExO (.ref (C 6)) a6)) a7 (ExO (.ref (C 7)) a7)) := (same_up (same_up (same_up (same_up s1 na4) na5) na6) na7)
    have u1 : Same H1 (upd (upd (upd (upd H1 a4 (ExO (.ref (C 4)) a4)) a5 (ExO (.ref (C 5)) a5)) a6 (ExO (.ref (C 6)) a6)) a7 (ExO (.ref (C 7)) a7)) := (same_up (same_up (same_up (same_up (Same.refl _) na4) na5) na6) na7)
    have w4 : ErrAt (upd (upd (upd (upd H1 a4 (ExO (.ref (C 4)) a4)) a5 (ExO (.ref (C 5)) a5)) a6 (ExO (.ref (C 6)) a6)) a7 (ExO (.ref (C 7)) a7)) a4 (C 4) := .inl ((same_up (same_up (same_up (Same.refl _) na5) na6) na7) _ _ upd_same)
    have w5 : ErrAt (upd (upd (upd (upd H1 a4 (ExO (.ref (C 4)) a4)) a5 (ExO (.ref (C 5)) a5)) a6 (ExO (.ref (C 6)) a6)) a7 (ExO (.ref (C 7)) a7)) a5 (C 5) := .inl ((same_up (same_up (Same.refl _) na6) na7) _ _ upd_same)
    have w6 : ErrAt (upd (upd (upd (upd H1 a4 (ExO (.ref (C 4)) a4)) a5 (ExO (.ref (C 5)) a5)) a6 (ExO (.ref (C 6)) a6)) a7 (ExO (.ref (C 7)) a7)) a6 (C 6) := .inl ((same_up (Same.refl _) na7) _ _ upd_same)
    have w7 : ErrAt (upd (upd (upd (upd H1 a4 (ExO (.ref (C 4)) a4)) a5 (ExO (.ref (C 5)) a5)) a6 (ExO (.ref (C 6)) a6)) a7 (ExO (.ref (C 7)) a7)) a7 (C 7) := .inl ((Same.refl _) _ _ upd_same)
    have f1 : Errs (upd (upd (upd (upd H1 a4 (ExO (.ref (C 4)) a4)) a5 (ExO (.ref (C 5)) a5)) a6 (ExO (.ref (C 6)) a6)) a7 (ExO (.ref (C 7)) a7)) C 0 [a0, a1, a2, a3, a4, a5, a6, a7] := by
      have z := e1.same u1
      have z := z.snoc (a := a4) w4
      have z := z.snoc (a := a5) w5
      have z := z.snoc (a := a6) w6
      have z := z.snoc (a := a7) w7
      exact z
    have g1 := u1 _ _ h1
    clear h1 e1 s1 u1 w4 w5 w6 w7
    generalize (upd (upd (upd (upd H1 a4 (ExO (.ref (C 4)) a4)) a5 (ExO (.ref (C 5)) a5)) a6 (ExO (.ref (C 6)) a6)) a7 (ExO (.ref (C 7)) a7)) = G1 at t1 f1 g1 ⊢
    clear na4 na5 na6 na7
    refine ⟨(by show 4 ≤ sizeLine; decide), fun l l0 => ⟨p1, l, _, _, rfl, rfl, (by rw [upd_ne (ne_of_none g1 l0)]; exact g1), upd_same, (by show 8 ≤ sizeLine; decide), fun p2 n2 => ?_⟩⟩
    have s2 : Same H (upd (upd G1 l (.lst [V.ref a4, V.ref a5, V.ref a6, V.ref a7])) p2 (.lst ((([a0, a1, a2, a3] : List Addr).map V.ref) ++ [V.ref a4, V.ref a5, V.ref a6, V.ref a7]))) := same_up (same_up t1 l0) n2
    have e2 : Errs (upd (upd G1 l (.lst [V.ref a4, V.ref a5, V.ref a6, V.ref a7])) p2 (.lst ((([a0, a1, a2, a3] : List Addr).map V.ref) ++ [V.ref a4, V.ref a5, V.ref a6, V.ref a7]))) C 0 [a0, a1, a2, a3, a4, a5, a6, a7] := f1.same (same_up (same_up (Same.refl _) l0) n2)
    have h2 : (upd (upd G1 l (.lst [V.ref a4, V.ref a5, V.ref a6, V.ref a7])) p2 (.lst ((([a0, a1, a2, a3] : List Addr).map V.ref) ++ [V.ref a4, V.ref a5, V.ref a6, V.ref a7]))) p2 = some (.lst ([a0, a1, a2, a3, a4, a5, a6, a7].map V.ref)) := upd_same
    clear f1 g1 t1
    generalize upd (upd G1 l (.lst [V.ref a4, V.ref a5, V.ref a6, V.ref a7])) p2 (.lst ((([a0, a1, a2, a3] : List Addr).map V.ref) ++ [V.ref a4, V.ref a5, V.ref a6, V.ref a7])) = H2 at s2 h2 e2 ⊢
    clear n2 l0
    refine ⟨_, rfl, _, rfl, fun a8 na8 => ⟨_, rfl, fun a9 na9 => ⟨_, rfl, fun a10 na10 => ⟨_, rfl, fun a11 na11 => ?_⟩⟩⟩⟩
    have t2 : Same H (upd (upd (upd (upd H2 a8 (ExO (.ref (C 8)) a8)) a9 (ExO (.ref (C 9)) a9)) a10 (ExO (.ref (C 10)) a10)) a11 (ExO (.ref (C 11)) a11)) := (same_up (same_up (same_up (same_up s2 na8) na9) na10) na11)
    have u2 : Same H2 (upd (upd (upd (upd H2 a8 (ExO (.ref (C 8)) a8)) a9 (ExO (.ref (C 9)) a9)) a10 (ExO (.ref (C 10)) a10)) a11 (ExO (.ref (C 11)) a11)) := (same_up (same_up (same_up (same_up (Same.refl _) na8) na9) na10) na11)
    have w8 : ErrAt (upd (upd (upd (upd H2 a8 (ExO (.ref (C 8)) a8)) a9 (ExO (.ref (C 9)) a9)) a10 (ExO (.ref (C 10)) a10)) a11 (ExO (.ref (C 11)) a11)) a8 (C 8) := .inl ((same_up (same_up (same_up (Same.refl _) na9) na10) na11) _ _ upd_same)
    have w9 : ErrAt (upd (upd (upd (upd H2 a8 (ExO (.ref (C 8)) a8)) a9 (ExO (.ref (C 9)) a9)) a10 (ExO (.ref (C 10)) a10)) a11 (ExO (.ref (C 11)) a11)) a9 (C 9) := .inl ((same_up (same_up (Same.refl _) na10) na11) _ _ upd_same)
    have w10 : ErrAt (upd (upd (upd (upd H2 a8 (ExO (.ref (C 8)) a8)) a9 (ExO (.ref (C 9)) a9)) a10 (ExO (.ref (C 10)) a10)) a11 (ExO (.ref (C 11)) a11)) a10 (C 10) := .inl ((same_up (Same.refl _) na11) _ _ upd_same)
    have w11 : ErrAt (upd (upd (upd (upd H2 a8 (ExO (.ref (C 8)) a8)) a9 (ExO (.ref (C 9)) a9)) a10 (ExO (.ref (C 10)) a10)) a11 (ExO (.ref (C 11)) a11)) a11 (C 11) := .inl ((Same.refl _) _ _ upd_same)
    have f2 : Errs (upd (upd (upd (upd H2 a8 (ExO (.ref (C 8)) a8)) a9 (ExO (.ref (C 9)) a9)) a10 (ExO (.ref (C 10)) a10)) a11 (ExO (.ref (C 11)) a11)) C 0 [a0, a1, a2, a3, a4, a5, a6, a7, a8, a9, a10, a11] := by
      have z := e2.same u2
      have z := z.snoc (a := a8) w8
      have z := z.snoc (a := a9) w9
      have z := z.snoc (a := a10) w10
      have z := z.snoc (a := a11) w11
      exact z
    have g2 := u2 _ _ h2
    clear h2 e2 s2 u2 w8 w9 w10 w11
    generalize (upd (upd (upd (upd H2 a8 (ExO (.ref (C 8)) a8)) a9 (ExO (.ref (C 9)) a9)) a10 (ExO (.ref (C 10)) a10)) a11 (ExO (.ref (C 11)) a11)) = G2 at t2 f2 g2 ⊢
    clear na8 na9 na10 na11
    refine ⟨(by show 4 ≤ sizeLine; decide), fun l l0 => ⟨p2, l, _, _, rfl, rfl, (by rw [upd_ne (ne_of_none g2 l0)]; exact g2), upd_same, (by show 12 ≤ sizeLine; decide), fun p3 n3 => ?_⟩⟩
    have s3 : Same H (upd (upd G2 l (.lst [V.ref a8, V.ref a9, V.ref a10, V.ref a11])) p3 (.lst ((([a0, a1, a2, a3, a4, a5, a6, a7] : List Addr).map V.ref) ++ [V.ref a8, V.ref a9, V.ref a10, V.ref a11]))) := same_up (same_up t2 l0) n3
    have e3 : Errs (upd (upd G2 l (.lst [V.ref a8, V.ref a9, V.ref a10, V.ref a11])) p3 (.lst ((([a0, a1, a2, a3, a4, a5, a6, a7] : List Addr).map V.ref) ++ [V.ref a8, V.ref a9, V.ref a10, V.ref a11]))) C 0 [a0, a1, a2, a3, a4, a5, a6, a7, a8, a9, a10, a11] := f2.same (same_up (same_up (Same.refl _) l0) n3)
    have h3 : (upd (upd G2 l (.lst [V.ref a8, V.ref a9, V.ref a10, V.ref a11])) p3 (.lst ((([a0, a1, a2, a3, a4, a5, a6, a7] : List Addr).map V.ref) ++ [V.ref a8, V.ref a9, V.ref a10, V.ref a11]))) p3 = some (.lst ([a0, a1, a2, a3, a4, a5, a6, a7, a8, a9, a10, a11].map V.ref)) := upd_same
    clear f2 g2 t2
    generalize upd (upd G2 l (.lst [V.ref a8, V.ref a9, V.ref a10, V.ref a11])) p3 (.lst ((([a0, a1, a2, a3, a4, a5, a6, a7] : List Addr).map V.ref) ++ [V.ref a8, V.ref a9, V.ref a10, V.ref a11])) = H3 at s3 h3 e3 ⊢
    clear n3 l0
    refine ⟨_, rfl, _, rfl, fun a12 na12 => ⟨_, rfl, fun a13 na13 => ⟨_, rfl, fun a14 na14 => ⟨_, rfl, fun a15 na15 => ?_⟩⟩⟩⟩
    have t3 : Same H (upd (upd (upd (upd H3 a12 (ExO (.ref (C 12)) a12)) a13 (ExO (.ref (C 13)) a13)) a14 (ExO (.ref (C 14)) a14)) a15 (ExO (.ref (C 15)) a15)) := (same_up (same_up (same_up (same_up s3 na12) na13) na14) na15)
    have u3 : Same H3 (upd (upd (upd (upd H3 a12 (ExO (.ref (C 12)) a12)) a13 (ExO (.ref (C 13)) a13)) a14 (ExO (.ref (C 14)) a14)) a15 (ExO (.ref (C 15)) a15)) := (same_up (same_up (same_up (same_up (Same.refl _) na12) na13) na14) na15)
    have w12 : ErrAt (upd (upd (upd (upd H3 a12 (ExO (.ref (C 12)) a12)) a13 (ExO (.ref (C 13)) a13)) a14 (ExO (.ref (C 14)) a14)) a15 (ExO (.ref (C 15)) a15)) a12 (C 12) := .inl ((same_up (same_up (same_up (Same.refl _) na13) na14) na15) _ _ upd_same)
    have w13 : ErrAt (upd (upd (upd (upd H3 a12 (ExO (.ref (C 12)) a12)) a13 (ExO (.ref (C 13)) a13)) a14 (ExO (.ref (C 14)) a14)) a15 (ExO (.ref (C 15)) a15)) a13 (C 13) := .inl ((same_up (same_up (Same.refl _) na14) na15) _ _ upd_same)
    have w14 : ErrAt (upd (upd (upd (upd H3 a12 (ExO (.ref (C 12)) a12)) a13 (ExO (.ref (C 13)) a13)) a14 (ExO (.ref (C 14)) a14)) a15 (ExO (.ref (C 15)) a15)) a14 (C 14) := .inl ((same_up (Same.refl _) na15) _ _ upd_same)
    have w15 : ErrAt (upd (upd (upd (upd H3 a12 (ExO (.ref (C 12)) a12)) a13 (ExO (.ref (C 13)) a13)) a14 (ExO (.ref (C 14)) a14)) a15 (ExO (.ref (C 15)) a15)) a15 (C 15) := .inl ((Same.refl _) _ _ upd_same)
    have f3 : Errs (upd (upd (upd (upd H3 a12 (ExO (.ref (C 12)) a12)) a13 (ExO (.ref (C 13)) a13)) a14 (ExO (.ref (C 14)) a14)) a15 (ExO (.ref (C 15)) a15)) C 0 [a0, a1, a2, a3, a4, a5, a6, a7, a8, a9, a10, a11, a12, a13, a14, a15] := by
      have z := e3.same u3
      have z := z.snoc (a := a12) w12
      have z := z.snoc (a := a13) w13
      have z := z.snoc (a := a14) w14
      have z := z.snoc (a := a15) w15
      exact z
    have g3 := u3 _ _ h3
    clear h3 e3 s3 u3 w12 w13 w14 w15
    generalize (upd (upd (upd (upd H3 a12 (ExO (.ref (C 12)) a12)) a13 (ExO (.ref (C 13)) a13)) a14 (ExO (.ref (C 14)) a14)) a15 (ExO (.ref (C 15)) a15)) = G3 at t3 f3 g3 ⊢
    clear na12 na13 na14 na15
    refine ⟨(by show 4 ≤ sizeLine; decide), fun l l0 => ⟨p3, l, _, _, rfl, rfl, (by rw [upd_ne (ne_of_none g3 l0)]; exact g3), upd_same, (by show 16 ≤ sizeLine; decide), fun p4 n4 => ?_⟩⟩
    have s4 : Same H (upd (upd G3 l (.lst [V.ref a12, V.ref a13, V.ref a14, V.ref a15])) p4 (.lst ((([a0, a1, a2, a3, a4, a5, a6, a7, a8, a9, a10, a11] : List Addr).map V.ref) ++ [V.ref a12, V.ref a13, V.ref a14, V.ref a15]))) := same_up (same_up t3 l0) n4
    have e4 : Errs (upd (upd G3 l (.lst [V.ref a12, V.ref a13, V.ref a14, V.ref a15])) p4 (.lst ((([a0, a1, a2, a3, a4, a5, a6, a7, a8, a9, a10, a11] : List Addr).map V.ref) ++ [V.ref a12, V.ref a13, V.ref a14, V.ref a15]))) C 0 [a0, a1, a2, a3, a4, a5, a6, a7, a8, a9, a10, a11, a12, a13, a14, a15] := f3.same (same_up (same_up (Same.refl _) l0) n4)
    have h4 : (upd (upd G3 l (.lst [V.ref a12, V.ref a13, V.ref a14, V.ref a15])) p4 (.lst ((([a0, a1, a2, a3, a4, a5, a6, a7, a8, a9, a10, a11] : List Addr).map V.ref) ++ [V.ref a12, V.ref a13, V.ref a14, V.ref a15]))) p4 = some (.lst ([a0, a1, a2, a3, a4, a5, a6, a7, a8, a9, a10, a11, a12, a13, a14, a15].map V.ref)) := upd_same
    clear f3 g3 t3
    generalize upd (upd G3 l (.lst [V.ref a12, V.ref a13, V.ref a14, V.ref a15])) p4 (.lst ((([a0, a1, a2, a3, a4, a5, a6, a7, a8, a9, a10, a11] : List Addr).map V.ref) ++ [V.ref a12, V.ref a13, V.ref a14, V.ref a15])) = H4 at s4 h4 e4 ⊢
    clear n4 l0
    refine ⟨_, rfl, _, rfl, fun a16 na16 => ⟨_, rfl, fun a17 na17 => ⟨_, rfl, fun a18 na18 => ⟨_, rfl, fun a19 na19 => ?_⟩⟩⟩⟩
    have t4 : Same H (upd (upd (upd (upd H4 a16 (ExO (.ref (C 16)) a16)) a17 (ExO (.ref (C 17)) a17)) a18 (ExO (.ref (C 18)) a18)) a19 (ExO (.ref (C 19)) a19)) := (same_up (same_up (same_up (same_up s4 na16) na17) na18) na19)
    have u4 : Same H4 (upd (upd (upd (upd H4 a16 (ExO (.ref (C 16)) a16)) a17 (ExO (.ref (C 17)) a17)) a18 (ExO (.ref (C 18)) a18)) a19 (ExO (.ref (C 19)) a19)) := (same_up (same_up (same_up (same_up (Same.refl _) na16) na17) na18) na19)
    have w16 : ErrAt (upd (upd (upd (upd H4 a16 (ExO (.ref (C 16)) a16)) a17 (ExO (.ref (C 17)) a17)) a18 (ExO (.ref (C 18)) a18)) a19 (ExO (.ref (C 19)) a19)) a16 (C 16) := .inl ((same_up (same_up (same_up (Same.refl _) na17) na18) na19) _ _ upd_same)
    have w17 : ErrAt (upd (upd (upd (upd H4 a16 (ExO (.ref (C 16)) a16)) a17 (ExO (.ref (C 17)) a17)) a18 (ExO (.ref (C 18)) a18)) a19 (ExO (.ref (C 19)) a19)) a17 (C 17) := .inl ((same_up (same_up (Same.refl _) na18) na19) _ _ upd_same)
    have w18 : ErrAt (upd (upd (upd (upd H4 a16 (ExO (.ref (C 16)) a16)) a17 (ExO (.ref (C 17)) a17)) a18 (ExO (.ref (C 18)) a18)) a19 (ExO (.ref (C 19)) a19)) a18 (C 18) := .inl ((same_up (Same.refl _) na19) _ _ upd_same)
    have w19 : ErrAt (upd (upd (upd (upd H4 a16 (ExO (.ref (C 16)) a16)) a17 (ExO (.ref (C 17)) a17)) a18 (ExO (.ref (C 18)) a18)) a19 (ExO (.ref (C 19)) a19)) a19 (C 19) := .inl ((Same.refl _) _ _ upd_same)
    have f4 : Errs (upd (upd (upd (upd H4 a16 (ExO (.ref (C 16)) a16)) a17 (ExO (.ref (C 17)) a17)) a18 (ExO (.ref (C 18)) a18)) a19 (ExO (.ref (C 19)) a19)) C 0 [a0, a1, a2, a3, a4, a5, a6, a7, a8, a9, a10, a11, a12, a13, a14, a15, a16, a17, a18, a19] := by
      have z := e4.same u4
      have z := z.snoc (a := a16) w16
      have z := z.snoc (a := a17) w17
      have z := z.snoc (a := a18) w18
      have z := z.snoc (a := a19) w19
      exact z
    have g4 := u4 _ _ h4
    clear h4 e4 s4 u4 w16 w17 w18 w19
    generalize (upd (upd (upd (upd H4 a16 (ExO (.ref (C 16)) a16)) a17 (ExO (.ref (C 17)) a17)) a18 (ExO (.ref (C 18)) a18)) a19 (ExO (.ref (C 19)) a19)) = G4 at t4 f4 g4 ⊢
    clear na16 na17 na18 na19
    refine ⟨(by show 4 ≤ sizeLine; decide), fun l l0 => ⟨p4, l, _, _, rfl, rfl, (by rw [upd_ne (ne_of_none g4 l0)]; exact g4), upd_same, (by show 20 ≤ sizeLine; decide), fun p5 n5 => ?_⟩⟩
    have s5 : Same H (upd (upd G4 l (.lst [V.ref a16, V.ref a17, V.ref a18, V.ref a19])) p5 (.lst ((([a0, a1, a2, a3, a4, a5, a6, a7, a8, a9, a10, a11, a12, a13, a14, a15] : List Addr).map V.ref) ++ [V.ref a16, V.ref a17, V.ref a18, V.ref a19]))) := same_up (same_up t4 l0) n5
    have e5 : Errs (upd (upd G4 l (.lst [V.ref a16, V.ref a17, V.ref a18, V.ref a19])) p5 (.lst ((([a0, a1, a2, a3, a4, a5, a6, a7, a8, a9, a10, a11, a12, a13, a14, a15] : List Addr).map V.ref) ++ [V.ref a16, V.ref a17, V.ref a18, V.ref a19]))) C 0 [a0, a1, a2, a3, a4, a5, a6, a7, a8, a9, a10, a11, a12, a13, a14, a15, a16, a17, a18, a19] := f4.same (same_up (same_up (Same.refl _) l0) n5)
    have h5 : (upd (upd G4 l (.lst [V.ref a16, V.ref a17, V.ref a18, V.ref a19])) p5 (.lst ((([a0, a1, a2, a3, a4, a5, a6, a7, a8, a9, a10, a11, a12, a13, a14, a15] : List Addr).map V.ref) ++ [V.ref a16, V.ref a17, V.ref a18, V.ref a19]))) p5 = some (.lst ([a0, a1, a2, a3, a4, a5, a6, a7, a8, a9, a10, a11, a12, a13, a14, a15, a16, a17, a18, a19].map V.ref)) := upd_same
    clear f4 g4 t4
    generalize upd (upd G4 l (.lst [V.ref a16, V.ref a17, V.ref a18, V.ref a19])) p5 (.lst ((([a0, a1, a2, a3, a4, a5, a6, a7, a8, a9, a10, a11, a12, a13, a14, a15] : List Addr).map V.ref) ++ [V.ref a16, V.ref a17, V.ref a18, V.ref a19])) = H5 at s5 h5 e5 ⊢
    clear n5 l0
    refine ⟨_, rfl, _, rfl, fun a20 na20 => ⟨_, rfl, fun a21 na21 => ⟨_, rfl, fun a22 na22 => ⟨_, rfl, fun a23 na23 => ?_⟩⟩⟩⟩
    have t5 : Same H (upd (upd (upd (upd H5 a20 (ExO (.ref (C 20)) a20)) a21 (ExO (.ref (C 21)) a21)) a22 (ExO (.ref (C 22)) a22)) a23 (ExO (.ref (C 23)) a23)) := (same_up (same_up (same_up (same_up s5 na20) na21) na22) na23)
    have u5 : Same H5 (upd (upd (upd (upd H5 a20 (ExO (.ref (C 20)) a20)) a21 (ExO (.ref (C 21)) a21)) a22 (ExO (.ref (C 22)) a22)) a23 (ExO (.ref (C 23)) a23)) := (same_up (same_up (same_up (same_up (Same.refl _) na20) na21) na22) na23)
    have w20 : ErrAt (upd (upd (upd (upd H5 a20 (ExO (.ref (C 20)) a20)) a21 (ExO (.ref (C 21)) a21)) a22 (ExO (.ref (C 22)) a22)) a23 (ExO (.ref (C 23)) a23)) a20 (C 20) := .inl ((same_up (same_up (same_up (Same.refl _) na21) na22) na23) _ _ upd_same)
    have w21 : ErrAt (upd (upd (upd (upd H5 a20 (ExO (.ref (C 20)) a20)) a21 (ExO (.ref (C 21)) a21)) a22 (ExO (.ref (C 22)) a22)) a23 (ExO (.ref (C 23)) a23)) a21 (C 21) := .inl ((same_up (same_up (Same.refl _) na22) na23) _ _ upd_same)
    have w22 : ErrAt (upd (upd (upd (upd H5 a20 (ExO (.ref (C 20)) a20)) a21 (ExO (.ref (C 21)) a21)) a22 (ExO (.ref (C 22)) a22)) a23 (ExO (.ref (C 23)) a23)) a22 (C 22) := .inl ((same_up (Same.refl _) na23) _ _ upd_same)
    have w23 : ErrAt (upd (upd (upd (upd H5 a20 (ExO (.ref (C 20)) a20)) a21 (ExO (.ref (C 21)) a21)) a22 (ExO (.ref (C 22)) a22)) a23 (ExO (.ref (C 23)) a23)) a23 (C 23) := .inl ((Same.refl _) _ _ upd_same)
    have f5 : Errs (upd (upd (upd (upd H5 a20 (ExO (.ref (C 20)) a20)) a21 (ExO (.ref (C 21)) a21)) a22 (ExO (.ref (C 22)) a22)) a23 (ExO (.ref (C 23)) a23)) C 0 [a0, a1, a2, a3, a4, a5, a6, a7, a8, a9, a10, a11, a12, a13, a14, a15, a16, a17, a18, a19, a20, a21, a22, a23] := by
      have z := e5.same u5
      have z := z.snoc (a := a20) w20
      have z := z.snoc (a := a21) w21
      have z := z.snoc (a := a22) w22
      have z := z.snoc (a := a23) w23
      exact z
    have g5 := u5 _ _ h5
    clear h5 e5 s5 u5 w20 w21 w22 w23
    generalize (upd (upd (upd (upd H5 a20 (ExO (.ref (C 20)) a20)) a21 (ExO (.ref (C 21)) a21)) a22 (ExO (.ref (C 22)) a22)) a23 (ExO (.ref (C 23)) a23)) = G5 at t5 f5 g5 ⊢
    clear na20 na21 na22 na23
    refine ⟨(by show 4 ≤ sizeLine; decide), fun l l0 => ⟨p5, l, _, _, rfl, rfl, (by rw [upd_ne (ne_of_none g5 l0)]; exact g5), upd_same, (by show 24 ≤ sizeLine; decide), fun p6 n6 => ?_⟩⟩
    have s6 : Same H (upd (upd G5 l (.lst [V.ref a20, V.ref a21, V.ref a22, V.ref a23])) p6 (.lst ((([a0, a1, a2, a3, a4, a5, a6, a7, a8, a9, a10, a11, a12, a13, a14, a15, a16, a17, a18, a19] : List Addr).map V.ref) ++ [V.ref a20, V.ref a21, V.ref a22, V.ref a23]))) := same_up (same_up t5 l0) n6
    have e6 : Errs (upd (upd G5 l (.lst [V.ref a20, V.ref a21, V.ref a22, V.ref a23])) p6 (.lst ((([a0, a1, a2, a3, a4, a5, a6, a7, a8, a9, a10, a11, a12, a13, a14, a15, a16, a17, a18, a19] : List Addr).map V.ref) ++ [V.ref a20, V.ref a21, V.ref a22, V.ref a23]))) C 0 [a0, a1, a2, a3, a4, a5, a6, a7, a8, a9, a10, a11, a12, a13, a14, a15, a16, a17, a18, a19, a20, a21, a22, a23] := f5.same (same_up (same_up (Same.refl _) l0) n6)
    have h6 : (upd (upd G5 l (.lst [V.ref a20, V.ref a21, V.ref a22, V.ref a23])) p6 (.lst ((([a0, a1, a2, a3, a4, a5, a6, a7, a8, a9, a10, a11, a12, a13, a14, a15, a16, a17, a18, a19] : List Addr).map V.ref) ++ [V.ref a20, V.ref a21, V.ref a22, V.ref a23]))) p6 = some (.lst ([a0, a1, a2, a3, a4, a5, a6, a7, a8, a9, a10, a11, a12, a13, a14, a15, a16, a17, a18, a19, a20, a21, a22, a23].map V.ref)) := upd_same
    clear f5 g5 t5
    generalize upd (upd G5 l (.lst [V.ref a20, V.ref a21, V.ref a22, V.ref a23])) p6 (.lst ((([a0, a1, a2, a3, a4, a5, a6, a7, a8, a9, a10, a11, a12, a13, a14, a15, a16, a17, a18, a19] : List Addr).map V.ref) ++ [V.ref a20, V.ref a21, V.ref a22, V.ref a23])) = H6 at s6 h6 e6 ⊢
    clear n6 l0
    refine ⟨_, rfl, _, rfl, fun a24 na24 => ⟨_, rfl, fun a25 na25 => ?_⟩⟩
    have t6 : Same H (upd (upd H6 a24 (ExO (.ref (C 24)) a24)) a25 (ExO (.ref (C 25)) a25)) := (same_up (same_up s6 na24) na25)
    have u6 : Same H6 (upd (upd H6 a24 (ExO (.ref (C 24)) a24)) a25 (ExO (.ref (C 25)) a25)) := (same_up (same_up (Same.refl _) na24) na25)
    have w24 : ErrAt (upd (upd H6 a24 (ExO (.ref (C 24)) a24)) a25 (ExO (.ref (C 25)) a25)) a24 (C 24) := .inl ((same_up (Same.refl _) na25) _ _ upd_same)
    have w25 : ErrAt (upd (upd H6 a24 (ExO (.ref (C 24)) a24)) a25 (ExO (.ref (C 25)) a25)) a25 (C 25) := .inl ((Same.refl _) _ _ upd_same)
    have f6 : Errs (upd (upd H6 a24 (ExO (.ref (C 24)) a24)) a25 (ExO (.ref (C 25)) a25)) C 0 [a0, a1, a2, a3, a4, a5, a6, a7, a8, a9, a10, a11, a12, a13, a14, a15, a16, a17, a18, a19, a20, a21, a22, a23, a24, a25] := by
      have z := e6.same u6
      have z := z.snoc (a := a24) w24
      have z := z.snoc (a := a25) w25
      exact z
    have g6 := u6 _ _ h6
    clear h6 e6 s6 u6 w24 w25
    generalize (upd (upd H6 a24 (ExO (.ref (C 24)) a24)) a25 (ExO (.ref (C 25)) a25)) = G6 at t6 f6 g6 ⊢
    clear na24 na25
    refine ⟨(by show 2 ≤ sizeLine; decide), fun l l0 => ⟨p6, l, _, _, rfl, rfl, (by rw [upd_ne (ne_of_none g6 l0)]; exact g6), upd_same, (by show 26 ≤ sizeLine; decide), fun p7 n7 => ?_⟩⟩
    have s7 : Same H (upd (upd G6 l (.lst [V.ref a24, V.ref a25])) p7 (.lst ((([a0, a1, a2, a3, a4, a5, a6, a7, a8, a9, a10, a11, a12, a13, a14, a15, a16, a17, a18, a19, a20, a21, a22, a23] : List Addr).map V.ref) ++ [V.ref a24, V.ref a25]))) := same_up (same_up t6 l0) n7
    have e7 : Errs (upd (upd G6 l (.lst [V.ref a24, V.ref a25])) p7 (.lst ((([a0, a1, a2, a3, a4, a5, a6, a7, a8, a9, a10, a11, a12, a13, a14, a15, a16, a17, a18, a19, a20, a21, a22, a23] : List Addr).map V.ref) ++ [V.ref a24, V.ref a25]))) C 0 [a0, a1, a2, a3, a4, a5, a6, a7, a8, a9, a10, a11, a12, a13, a14, a15, a16, a17, a18, a19, a20, a21, a22, a23, a24, a25] := f6.same (same_up (same_up (Same.refl _) l0) n7)
    have h7 : (upd (upd G6 l (.lst [V.ref a24, V.ref a25])) p7 (.lst ((([a0, a1, a2, a3, a4, a5, a6, a7, a8, a9, a10, a11, a12, a13, a14, a15, a16, a17, a18, a19, a20, a21, a22, a23] : List Addr).map V.ref) ++ [V.ref a24, V.ref a25]))) p7 = some (.lst ([a0, a1, a2, a3, a4, a5, a6, a7, a8, a9, a10, a11, a12, a13, a14, a15, a16, a17, a18, a19, a20, a21, a22, a23, a24, a25].map V.ref)) := upd_same
    have q7 : H p7 = none := t6.free (by have z := n7; rw [upd_ne (fun e => by rw [e, upd_same] at z; cases z)] at z; exact z)
    exact ⟨_, rfl, k [a0, a1, a2, a3, a4, a5, a6, a7, a8, a9, a10, a11, a12, a13, a14, a15, a16, a17, a18, a19, a20, a21, a22, a23, a24, a25] p7 _ rfl e7 s7 q7 h7⟩
end
end K0
end

section
set_option linter.all false
set_option maxRecDepth 100000
set_option maxHeartbeats 4000000
namespace K0
open PySem L2
/-- the heap without the draws' own two objects -/
def hide (H : Hp) (d l : Addr) : Hp := fun b => if b = d ∨ b = l then none else H b
theorem hide_get {H : Hp} {d l b : Addr} {o : HO} (h : H b = some o) (n1 : b ≠ d) (n2 : b ≠ l) : hide H d l b = some o := by
  unfold hide
  rw [if_neg (by rintro (e | e); exact n1 e; exact n2 e)]
  exact h
theorem After.hid {H H' : Hp} {d l : Addr} (A : After H H' d l) : Same (hide H d l) H' := fun b o e => by
  unfold hide at e
  split at e
  · cases e
  · rename_i n
    exact A.2 b o e (fun z => n (.inl z)) fun z => n (.inr z)
theorem Draw.same {H H' : Hp} {d l : Addr} (D : Draw H d l) (s : Same H H') : Draw H' d l := by
  obtain ⟨c, r, t, la, ce, hd, hl, hc, z1, z2, n⟩ := D
  exact ⟨c, r, t, la, ce, s _ _ hd, s _ _ hl, s _ _ hc, z1, z2, n⟩
theorem fresh_ne {H G : Hp} {d l a : Addr} (D : Draw H d l) (s : Same H G) (n : G a = none) : a ≠ d ∧ a ≠ l := D.ne (s.free n)
section
variable {P : Program} {w : World} {K : PySem.W.Frag} {mg : Str → Option Value} {base : Heap} {C : Nat → Addr}
theorem scA : FnScope ["draw", "some"] ["draw"] (defScope sAny) := ⟨rfl, rfl, rfl, by decide +kernel, rfl, by decide +kernel, by decide +kernel⟩
theorem ok_any {f fM fT fP : Addr} {fd fdP : FuncData} (F : Fun K "_law_any" "_law_any" sAny f fd) (T : Txt mg K fM fT fP) (GP : FnOk P w K mg base CX0 3 fP fdP ["draw", "some"] (spPick K)) (bP : Binds K fdP ["draw", "some"] []) :
    FnOk P w K mg base CX0 4 f fd ["draw"] spAny := by
  refine F.ok scA (fun vs H Q E h => ?_) (fun cdv A outer s H vs Q E hr h => ?_)
  · obtain ⟨d, l, rfl, _⟩ := h
    rfl
  · obtain ⟨d, l, rfl, D, k⟩ := h
    refine ⟨_, pss_cons (ps_set (i := 1) scA.nd rfl (Or.inl rfl) (pe_lst (pa_cons pe_non (pa_cons pe_bl (pa_cons (pe_un un_neg pe_int) (pa_cons (pe_op op_pow pe_int pe_int) (pa_cons pe_str (pa_cons pe_str (pa_cons pe_str
        (pa_cons (pe_lst pa_nil) (pa_cons (pe_lst (pa_cons (pe_tup (pa_cons pe_int (pa_cons pe_int pa_nil))) pa_nil)) (pa_cons (pe_tup pa_nil) (pa_cons (pe_tup (pa_cons pe_int pa_nil)) (pa_cons pe_dnewK
        (pa_cons (pe_disp (pps_cons pe_str (pe_tup (pa_cons pe_int pa_nil)) pps_nil) (by rfl) (by rfl) (fun z => by cases z) (by decide)) (pa_cons (pe_lst (pa_cons (pe_lst (pa_cons pe_non pa_nil)) pa_nil)) pa_nil))))))))))))))))
      (pss_one (ps_ret (pe_call GP hr rfl T.gP T.kP bP .nil pass0 (pa_cons (pv 0) (pa_cons (pv 1) pa_nil))))), ?_⟩
    refine ⟨_, rfl, _, _, rfl, rfl, ⟨by decide, by decide, by decide⟩, Nat.zero_le _, fun a1 n1 => ⟨(by show 2 ≤ sizeLine; decide), fun a2 n2 => ⟨(by show 1 ≤ sizeLine; decide), fun a3 n3 => ⟨Nat.zero_le _, fun a4 n4 => ⟨(by show 1 ≤ sizeLine; decide), fun a5 n5 =>
      fun a6 n6 => fun a7 n7 => ⟨(by show 1 ≤ sizeLine; decide), fun a8 n8 => ⟨?_, [(Sum.inr ("a" : Str), .ref a8)], rfl, (by show 1 ≤ 15; decide), (by show 1 ≤ sizeLine; decide), fun a9 n9 => ⟨(by show 1 ≤ sizeLine; decide), fun a10 n10 => ⟨(by show 14 ≤ sizeLine; decide), fun p np => ?_⟩⟩⟩⟩⟩⟩⟩⟩⟩
    · rw [upd_ne (fun e => by rw [← e, upd_same] at n8; cases n8), upd_same]
    · skip
      have s1 : Same H (upd H a1 (.lst [])) := same_up (Same.refl _) n1
      have g1 : (upd H a1 (.lst [])) a1 = some (.lst []) := upd_same
      have f1 : H a1 = none := n1
      generalize upd H a1 (.lst []) = G1 at s1 g1 n2 n3 n4 n5 n6 n7 n8 n9 n10 np ⊢
      have s2 : Same G1 (upd G1 a2 (.tup [V.int 0, V.int 2])) := same_up (Same.refl _) n2
      have g2 : (upd G1 a2 (.tup [V.int 0, V.int 2])) a2 = some (.tup [V.int 0, V.int 2]) := upd_same
      have f2 : G1 a2 = none := n2
      generalize upd G1 a2 (.tup [V.int 0, V.int 2]) = G2 at s2 g2 n3 n4 n5 n6 n7 n8 n9 n10 np ⊢
      have s3 : Same G2 (upd G2 a3 (.lst [V.ref a2])) := same_up (Same.refl _) n3
      have g3 : (upd G2 a3 (.lst [V.ref a2])) a3 = some (.lst [V.ref a2]) := upd_same
      have f3 : G2 a3 = none := n3
      generalize upd G2 a3 (.lst [V.ref a2]) = G3 at s3 g3 n4 n5 n6 n7 n8 n9 n10 np ⊢
      have s4 : Same G3 (upd G3 a4 (.tup [])) := same_up (Same.refl _) n4
      have g4 : (upd G3 a4 (.tup [])) a4 = some (.tup []) := upd_same
      have f4 : G3 a4 = none := n4
      generalize upd G3 a4 (.tup []) = G4 at s4 g4 n5 n6 n7 n8 n9 n10 np ⊢
      have s5 : Same G4 (upd G4 a5 (.tup [V.int 4])) := same_up (Same.refl _) n5
      have g5 : (upd G4 a5 (.tup [V.int 4])) a5 = some (.tup [V.int 4]) := upd_same
      have f5 : G4 a5 = none := n5
      generalize upd G4 a5 (.tup [V.int 4]) = G5 at s5 g5 n6 n7 n8 n9 n10 np ⊢
      have s6 : Same G5 (upd G5 a6 (.dK [])) := same_up (Same.refl _) n6
      have g6 : (upd G5 a6 (.dK [])) a6 = some (.dK []) := upd_same
      have f6 : G5 a6 = none := n6
      generalize upd G5 a6 (.dK []) = G6 at s6 g6 n7 n8 n9 n10 np ⊢
      have s9 : Same G6 (upd (upd (upd G6 a7 (.dK [])) a8 (.tup [V.int 1])) a7 (.dK (mergeK [] [(Sum.inr ("a" : Str), V.ref a8)]))) := fun b u e => by
        rw [upd_ne (ne_of_none e n7)]
        exact same_up (same_up (Same.refl _) n7) n8 b u e
      have n78 : a8 ≠ a7 := fun e => by rw [e, upd_same] at n8; cases n8
      have g7 : (upd (upd (upd G6 a7 (.dK [])) a8 (.tup [V.int 1])) a7 (.dK (mergeK [] [(Sum.inr ("a" : Str), V.ref a8)]))) a7 = some (.dK [(Sum.inr ("a" : Str), V.ref a8)]) := upd_same
      have g8 : (upd (upd (upd G6 a7 (.dK [])) a8 (.tup [V.int 1])) a7 (.dK (mergeK [] [(Sum.inr ("a" : Str), V.ref a8)]))) a8 = some (.tup [V.int 1]) := by rw [upd_ne n78, upd_same]
      have f8 : G6 a8 = none := by rw [upd_ne n78] at n8; exact n8
      generalize upd (upd (upd G6 a7 (.dK [])) a8 (.tup [V.int 1])) a7 (.dK (mergeK [] [(Sum.inr ("a" : Str), V.ref a8)])) = G9 at s9 g7 g8 n9 n10 np ⊢
      have s10 : Same G9 (upd G9 a9 (.lst [V.non])) := same_up (Same.refl _) n9
      have g9 : (upd G9 a9 (.lst [V.non])) a9 = some (.lst [V.non]) := upd_same
      generalize upd G9 a9 (.lst [V.non]) = G10 at s10 g9 n10 np ⊢
      have s11 : Same G10 (upd G10 a10 (.lst [V.ref a9])) := same_up (Same.refl _) n10
      have g10 : (upd G10 a10 (.lst [V.ref a9])) a10 = some (.lst [V.ref a9]) := upd_same
      generalize upd G10 a10 (.lst [V.ref a9]) = G11 at s11 g10 np ⊢
      -- back to the start: what is new lies apart from the draws
      have t1 := s1
      have t2 := t1.trans s2
      have t3 := t2.trans s3
      have t4 := t3.trans s4
      have t5 := t4.trans s5
      have t6 := t5.trans s6
      have t9 := t6.trans s9
      have t10 := t9.trans s10
      have t11 := t10.trans s11
      obtain ⟨d1, l1⟩ := fresh_ne D (Same.refl _) n1
      obtain ⟨d2, l2⟩ := fresh_ne D t1 n2
      obtain ⟨d3, l3⟩ := fresh_ne D t2 n3
      obtain ⟨d4, l4⟩ := fresh_ne D t3 n4
      obtain ⟨d5, l5⟩ := fresh_ne D t4 n5
      obtain ⟨d6, l6⟩ := fresh_ne D t5 n6
      obtain ⟨d7, l7⟩ := fresh_ne D t6 n7
      obtain ⟨d8, l8⟩ := fresh_ne D t6 f8
      obtain ⟨d9, l9⟩ := fresh_ne D t9 n9
      obtain ⟨d10, l10⟩ := fresh_ne D t10 n10
      obtain ⟨dp, lp⟩ := fresh_ne D t11 np
      have u11 : Same G10 G11 := s11
      have u10 := s10.trans u11
      have u9 := s9.trans u10
      have u6 := s6.trans u9
      have u5 := s5.trans u6
      have u4 := s4.trans u5
      have u3 := s3.trans u4
      have u2 := s2.trans u3
      have k1 := u2 _ _ g1
      have k2 := u3 _ _ g2
      have k3 := u4 _ _ g3
      have k4 := u5 _ _ g4
      have k5 := u6 _ _ g5
      have k6 := u9 _ _ g6
      have k7 := u10 _ _ g7
      have k8 := u10 _ _ g8
      have k9 := u11 _ _ g9
      have sp : Same G11 (upd G11 p (.lst [V.non, V.bl false, V.int (-5), V.int (10 ^ Int.toNat 45), V.str "", V.str "wide", V.str "two words", V.ref a1, V.ref a3, V.ref a4, V.ref a5, V.ref a6, V.ref a7, V.ref a10])) := same_up (Same.refl _) np
      have gp : (upd G11 p (.lst [V.non, V.bl false, V.int (-5), V.int (10 ^ Int.toNat 45), V.str "", V.str "wide", V.str "two words", V.ref a1, V.ref a3, V.ref a4, V.ref a5, V.ref a6, V.ref a7, V.ref a10])) p = some (.lst [V.non, V.bl false, V.int (-5), V.int (10 ^ Int.toNat 45), V.str "", V.str "wide", V.str "two words", V.ref a1, V.ref a3, V.ref a4, V.ref a5, V.ref a6, V.ref a7, V.ref a10]) := upd_same
      refine ⟨_, rfl, _, rfl, d, l, p, _, rfl, (D.same t11).same sp, SqL.of gp, dp, lp, (by show 0 < 14; decide), (by show 14 < 1073741824; decide), fun v H' hv A => ?_⟩
      have hid : Same (hide (upd G11 p (.lst [V.non, V.bl false, V.int (-5), V.int (10 ^ Int.toNat 45), V.str "", V.str "wide", V.str "two words", V.ref a1, V.ref a3, V.ref a4, V.ref a5, V.ref a6, V.ref a7, V.ref a10])) d l) H' := A.hid
      have w : ∀ {a : Addr} {o : HO}, G11 a = some o → a ≠ d → a ≠ l → H' a = some o := fun e m1 m2 => hid _ _ (hide_get (sp _ _ e) m1 m2)
      have back : After H H' d l := ⟨A.1, fun b o e m1 m2 => A.2 b o (sp _ _ (t11 _ _ e)) m1 m2⟩
      simp only [List.mem_cons, List.not_mem_nil, or_false] at hv
      rcases hv with rfl | rfl | rfl | rfl | rfl | rfl | rfl | rfl | rfl | rfl | rfl | rfl | rfl | rfl
      · exact k _ _ H' .non back
      · exact k _ _ H' .bl back
      · exact k _ _ H' (.int _ (by decide +kernel) (by decide +kernel)) back
      · exact k _ _ H' (.int _ (by decide +kernel) (by decide +kernel)) back
      · exact k _ _ H' (.str _ (by decide +kernel)) back
      · exact k _ _ H' (.str _ (by decide +kernel)) back
      · exact k _ _ H' (.str _ (by decide +kernel)) back
      · exact k _ _ H' (.l0 (w k1 d1 l1)) back
      · exact k _ _ H' (.l1 (w k3 d3 l3) (w k2 d2 l2)) back
      · exact k _ _ H' (.t0 (w k4 d4 l4)) back
      · exact k _ _ H' (.t1 (w k5 d5 l5)) back
      · exact k _ _ H' (.d0 (w k6 d6 l6)) back
      · exact k _ _ H' (.d1 (w k7 d7 l7) (w k8 d8 l8)) back
      · exact k _ _ H' (.l2 (w g10 d10 l10) (w k9 d9 l9)) back
end
end K0
end

section
set_option linter.all false
set_option maxRecDepth 100000
set_option maxHeartbeats 4000000
namespace K0
open PySem L2
theorem exo_lst {e C : Addr} {d : Option Addr} {xs : List V} : exo e C d ≠ .lst xs := fun z => by
  have z' : HO.ext _ = HO.lst xs := z
  cases z'
theorem exO_lst {e : Addr} {c : Value} {xs : List V} : ExO c e ≠ .lst xs := fun z => by
  have z' : HO.ext _ = HO.lst xs := z
  cases z'
theorem exd_lst {e : Addr} {fs : List (Str × V)} {xs : List V} : exd e fs ≠ .lst xs := fun z => by
  have z' : HO.ext _ = HO.lst xs := z
  cases z'
theorem ErrAt.put {H : Hp} {a C p : Addr} {xs : List V} {u : HO} (h : ErrAt H a C) (hp : H p = some (.lst xs)) : ErrAt (upd H p u) a C := by
  rcases h with h | ⟨d, fs, h1, h2⟩
  · exact .inl (by rw [upd_ne (ne_of h hp exO_lst)]; exact h)
  · exact .inr ⟨d, fs, by rw [upd_ne (ne_of h1 hp exo_lst)]; exact h1, by rw [upd_ne (ne_of h2 hp exd_lst)]; exact h2⟩
theorem Three.put {H : Hp} {C t p : Addr} {v : V} {xs : List V} {u : HO} (h : Three H C v t) (hp : H p = some (.lst xs)) : Three (upd H p u) C v t := by
  obtain ⟨e, h1, h2⟩ := h
  exact ⟨e, by rw [upd_ne (ne_of h1 hp (by intro z; cases z))]; exact h1, h2.put hp⟩
theorem Threes.put {H : Hp} {C : Nat → Addr} {j : Nat} {ts : List Addr} {p : Addr} {v : V} {xs : List V} {u : HO} (h : Threes H C v j ts) (hp : H p = some (.lst xs)) : Threes (upd H p u) C v j ts := fun k t e => (h k t e).put hp
theorem same_put {H H1 : Hp} {p : Addr} {u : HO} (s : Same H H1) (n : H p = none) : Same H (upd H1 p u) := fun b o e => by
  rw [upd_ne (ne_of_none e n)]
  exact s b o e
/-- a made exception, its heap -/
theorem err_made {H : Hp} {a d C : Addr} {f : Str} {v : V} (ne : d ≠ a) : ErrAt (upd (upd H d (exd d [(f, v)])) a (exo a C (some d))) a C := .inr ⟨d, _, upd_same, by rw [upd_ne ne, upd_same]⟩
theorem same_made {H : Hp} {a d C : Addr} {f : Str} {v : V} (na : H a = none) (nd : H d = none) : Same H (upd (upd H d (exd d [(f, v)])) a (exo a C (some d))) := fun b o e => by
  rw [upd_ne (ne_of_none e na), upd_ne (ne_of_none e nd)]
  exact e
section
variable {P : Program} {w : World} {K : PySem.W.Frag} {mg : Str → Option Value} {base : Heap} {C : Nat → Addr}
theorem scO : FnScope ["each", "found"] ["each"] (defScope sOf) := ⟨rfl, rfl, rfl, by decide +kernel, rfl, by decide +kernel, by decide +kernel⟩
theorem ok_of {f : Addr} {fd : FuncData} {f26 : Addr} {f27 : Addr} {f28 : Addr} {f29 : Addr} {f30 : Addr} {f31 : Addr} {f32 : Addr} {f33 : Addr} {f34 : Addr} (A26 : Atts P w K mg base (C 26) f26 "part") (A27 : Atts P w K mg base (C 27) f27 "part") (A28 : Atts P w K mg base (C 28) f28 "most") (A29 : Atts P w K mg base (C 29) f29 "at") (A30 : Atts P w K mg base (C 30) f30 "at") (A31 : Atts P w K mg base (C 31) f31 "name") (A32 : Atts P w K mg base (C 32) f32 "name") (A33 : Atts P w K mg base (C 33) f33 "part") (A34 : Atts P w K mg base (C 34) f34 "part") (F : Fun K "_law_errors_of" "_law_errors_of" sOf f fd) (T : Clss K mg C) : FnOk P w K mg base CX0 3 f fd ["each"] (spOf C) := by
  refine F.ok scO (fun vs H Q E h => ?_) (fun cdv A outer s H vs Q E hr h => ?_)
  · obtain ⟨v, rfl, _⟩ := h
    rfl
  · obtain ⟨v, rfl, k⟩ := h
    obtain ⟨fd26, F26, b26, kb26⟩ := A26.ok
    obtain ⟨fd27, F27, b27, kb27⟩ := A27.ok
    obtain ⟨fd28, F28, b28, kb28⟩ := A28.ok
    obtain ⟨fd29, F29, b29, kb29⟩ := A29.ok
    obtain ⟨fd30, F30, b30, kb30⟩ := A30.ok
    obtain ⟨fd31, F31, b31, kb31⟩ := A31.ok
    obtain ⟨fd32, F32, b32, kb32⟩ := A32.ok
    obtain ⟨fd33, F33, b33, kb33⟩ := A33.ok
    obtain ⟨fd34, F34, b34, kb34⟩ := A34.ok
    refine ⟨_, pss_cons (ps_set (i := 1) scO.nd rfl (Or.inl rfl) (pe_lst pa_nil))
      (pss_cons (ps_expr (pe_bm PySem.F.plainAttrs_list PySem.F.slot_list_append PySem.F.type_list_append mt_append (pv 1) (pa_cons (pe_tup (pa_cons (pe_mkv A26.o A26.iC A26.tI F26 hr b26 (by rfl) (T.g 26 (by decide)) (pa_cons (pv 0) pa_nil)) (pa_cons (pe_fldv (pe_mkv A26.o A26.iC A26.tI F26 hr b26 (by rfl) (T.g 26 (by decide)) (pa_cons (pv 0) pa_nil))) (pa_cons (pe_fldv (pe_mkk A26.o A26.iC A26.tI F26 hr kb26 (by rfl) (T.g 26 (by decide)) (pv 0))) pa_nil)))) pa_nil)))
      (pss_cons (ps_expr (pe_bm PySem.F.plainAttrs_list PySem.F.slot_list_append PySem.F.type_list_append mt_append (pv 1) (pa_cons (pe_tup (pa_cons (pe_mkv A27.o A27.iC A27.tI F27 hr b27 (by rfl) (T.g 27 (by decide)) (pa_cons (pv 0) pa_nil)) (pa_cons (pe_fldv (pe_mkv A27.o A27.iC A27.tI F27 hr b27 (by rfl) (T.g 27 (by decide)) (pa_cons (pv 0) pa_nil))) (pa_cons (pe_fldv (pe_mkk A27.o A27.iC A27.tI F27 hr kb27 (by rfl) (T.g 27 (by decide)) (pv 0))) pa_nil)))) pa_nil)))
      (pss_cons (ps_expr (pe_bm PySem.F.plainAttrs_list PySem.F.slot_list_append PySem.F.type_list_append mt_append (pv 1) (pa_cons (pe_tup (pa_cons (pe_mkv A28.o A28.iC A28.tI F28 hr b28 (by rfl) (T.g 28 (by decide)) (pa_cons (pv 0) pa_nil)) (pa_cons (pe_fldv (pe_mkv A28.o A28.iC A28.tI F28 hr b28 (by rfl) (T.g 28 (by decide)) (pa_cons (pv 0) pa_nil))) (pa_cons (pe_fldv (pe_mkk A28.o A28.iC A28.tI F28 hr kb28 (by rfl) (T.g 28 (by decide)) (pv 0))) pa_nil)))) pa_nil)))
      (pss_cons (ps_expr (pe_bm PySem.F.plainAttrs_list PySem.F.slot_list_append PySem.F.type_list_append mt_append (pv 1) (pa_cons (pe_tup (pa_cons (pe_mkv A29.o A29.iC A29.tI F29 hr b29 (by rfl) (T.g 29 (by decide)) (pa_cons (pv 0) pa_nil)) (pa_cons (pe_fldv (pe_mkv A29.o A29.iC A29.tI F29 hr b29 (by rfl) (T.g 29 (by decide)) (pa_cons (pv 0) pa_nil))) (pa_cons (pe_fldv (pe_mkk A29.o A29.iC A29.tI F29 hr kb29 (by rfl) (T.g 29 (by decide)) (pv 0))) pa_nil)))) pa_nil)))
      (pss_cons (ps_expr (pe_bm PySem.F.plainAttrs_list PySem.F.slot_list_append PySem.F.type_list_append mt_append (pv 1) (pa_cons (pe_tup (pa_cons (pe_mkv A30.o A30.iC A30.tI F30 hr b30 (by rfl) (T.g 30 (by decide)) (pa_cons (pv 0) pa_nil)) (pa_cons (pe_fldv (pe_mkv A30.o A30.iC A30.tI F30 hr b30 (by rfl) (T.g 30 (by decide)) (pa_cons (pv 0) pa_nil))) (pa_cons (pe_fldv (pe_mkk A30.o A30.iC A30.tI F30 hr kb30 (by rfl) (T.g 30 (by decide)) (pv 0))) pa_nil)))) pa_nil)))
      (pss_cons (ps_expr (pe_bm PySem.F.plainAttrs_list PySem.F.slot_list_append PySem.F.type_list_append mt_append (pv 1) (pa_cons (pe_tup (pa_cons (pe_mkv A31.o A31.iC A31.tI F31 hr b31 (by rfl) (T.g 31 (by decide)) (pa_cons (pv 0) pa_nil)) (pa_cons (pe_fldv (pe_mkv A31.o A31.iC A31.tI F31 hr b31 (by rfl) (T.g 31 (by decide)) (pa_cons (pv 0) pa_nil))) (pa_cons (pe_fldv (pe_mkk A31.o A31.iC A31.tI F31 hr kb31 (by rfl) (T.g 31 (by decide)) (pv 0))) pa_nil)))) pa_nil)))
      (pss_cons (ps_expr (pe_bm PySem.F.plainAttrs_list PySem.F.slot_list_append PySem.F.type_list_append mt_append (pv 1) (pa_cons (pe_tup (pa_cons (pe_mkv A32.o A32.iC A32.tI F32 hr b32 (by rfl) (T.g 32 (by decide)) (pa_cons (pv 0) pa_nil)) (pa_cons (pe_fldv (pe_mkv A32.o A32.iC A32.tI F32 hr b32 (by rfl) (T.g 32 (by decide)) (pa_cons (pv 0) pa_nil))) (pa_cons (pe_fldv (pe_mkk A32.o A32.iC A32.tI F32 hr kb32 (by rfl) (T.g 32 (by decide)) (pv 0))) pa_nil)))) pa_nil)))
      (pss_cons (ps_expr (pe_bm PySem.F.plainAttrs_list PySem.F.slot_list_append PySem.F.type_list_append mt_append (pv 1) (pa_cons (pe_tup (pa_cons (pe_mkv A33.o A33.iC A33.tI F33 hr b33 (by rfl) (T.g 33 (by decide)) (pa_cons (pv 0) pa_nil)) (pa_cons (pe_fldv (pe_mkv A33.o A33.iC A33.tI F33 hr b33 (by rfl) (T.g 33 (by decide)) (pa_cons (pv 0) pa_nil))) (pa_cons (pe_fldv (pe_mkk A33.o A33.iC A33.tI F33 hr kb33 (by rfl) (T.g 33 (by decide)) (pv 0))) pa_nil)))) pa_nil)))
      (pss_cons (ps_expr (pe_bm PySem.F.plainAttrs_list PySem.F.slot_list_append PySem.F.type_list_append mt_append (pv 1) (pa_cons (pe_tup (pa_cons (pe_mkv A34.o A34.iC A34.tI F34 hr b34 (by rfl) (T.g 34 (by decide)) (pa_cons (pv 0) pa_nil)) (pa_cons (pe_fldv (pe_mkv A34.o A34.iC A34.tI F34 hr b34 (by rfl) (T.g 34 (by decide)) (pa_cons (pv 0) pa_nil))) (pa_cons (pe_fldv (pe_mkk A34.o A34.iC A34.tI F34 hr kb34 (by rfl) (T.g 34 (by decide)) (pv 0))) pa_nil)))) pa_nil)))
      (pss_one (ps_ret (pv 1)))))))))))), ?_⟩
    refine ⟨Nat.zero_le _, fun p n0 => ?_⟩
    have s0 : Same H (upd H p (.lst [])) := same_up (Same.refl H) n0
    have h0 : (upd H p (.lst [])) p = some (.lst (([] : List Addr).map V.ref)) := upd_same
    have z0 : Threes (upd H p (.lst [])) C v 26 [] := Threes.nil
    generalize upd H p (.lst []) = H0 at s0 h0 z0 ⊢
    refine ⟨_, rfl, .inl ⟨rfl, _, SqL.of h0⟩, _, rfl, _, rfl, fun a d na nd ne => ?_⟩
    have e1 := err_made (H := H0) (C := C 26) (f := "part") (v := v) ne
    have q1 : Same H0 _ := same_made (C := C 26) (f := "part") (v := v) na nd
    generalize upd (upd H0 d (exd d [(("part" : Str), v)])) a (exo a (C 26) (some d)) = B1 at e1 q1 ⊢
    refine ⟨_, rfl, _, rfl, fun a2 d2 na2 nd2 ne2 => ⟨a2, C 26, d2, v, rfl, upd_same, (by rw [upd_ne ne2, upd_same]), T.e 26 (by decide), A26.hd, A26.no, ?_⟩⟩
    have q2 : Same B1 _ := same_made (C := C 26) (f := "part") (v := v) na2 nd2
    generalize upd (upd B1 d2 (exd d2 [(("part" : Str), v)])) a2 (exo a2 (C 26) (some d2)) = B2 at q2 ⊢
    refine ⟨_, rfl, _, rfl, fun a3 d3 na3 nd3 ne3 => ⟨a3, C 26, d3, v, rfl, upd_same, (by rw [upd_ne ne3, upd_same]), T.e 26 (by decide), A26.hd, A26.no, ?_⟩⟩
    have q3 : Same B2 _ := same_made (C := C 26) (f := "part") (v := v) na3 nd3
    generalize upd (upd B2 d3 (exd d3 [(("part" : Str), v)])) a3 (exo a3 (C 26) (some d3)) = B3 at q3 ⊢
    have q := (q1.trans q2).trans q3
    refine ⟨(by show 3 ≤ sizeLine; decide), fun t26 nt => ?_⟩
    have q4 : Same B3 (upd B3 t26 (.tup [.ref a, v, v])) := same_up (Same.refl _) nt
    have w3 : Three (upd B3 t26 (.tup [.ref a, v, v])) (C 26) v t26 := ⟨a, upd_same, ((e1.same q2).same q3).same q4⟩
    generalize upd B3 t26 (.tup [.ref a, v, v]) = B4 at q4 w3 ⊢
    have r := q.trans q4
    have hp := r _ _ h0
    refine ⟨p, _, _, rfl, rfl, hp, (by show 0 < sizeLine; decide), ?_⟩
    have s1 : Same H (upd B4 p (.lst ((([] : List Addr).map V.ref) ++ [V.ref t26]))) := same_put (s0.trans r) n0
    have h1 : (upd B4 p (.lst ((([] : List Addr).map V.ref) ++ [V.ref t26]))) p = some (.lst (([t26] : List Addr).map V.ref)) := upd_same
    have z1 : Threes (upd B4 p (.lst ((([] : List Addr).map V.ref) ++ [V.ref t26]))) C v 26 [t26] := ((z0.same r).snoc (t := t26) w3).put hp
    clear q q1 q2 q3 q4 e1 w3 r na nd ne na2 nd2 ne2 na3 nd3 ne3 nt
    generalize upd B4 p (.lst ((([] : List Addr).map V.ref) ++ [V.ref t26])) = H1 at s1 h1 z1 ⊢
    clear hp s0 h0 z0
    refine ⟨_, rfl, .inl ⟨rfl, _, SqL.of h1⟩, _, rfl, _, rfl, fun a d na nd ne => ?_⟩
    have e1 := err_made (H := H1) (C := C 27) (f := "part") (v := v) ne
    have q1 : Same H1 _ := same_made (C := C 27) (f := "part") (v := v) na nd
    generalize upd (upd H1 d (exd d [(("part" : Str), v)])) a (exo a (C 27) (some d)) = B1 at e1 q1 ⊢
    refine ⟨_, rfl, _, rfl, fun a2 d2 na2 nd2 ne2 => ⟨a2, C 27, d2, v, rfl, upd_same, (by rw [upd_ne ne2, upd_same]), T.e 27 (by decide), A27.hd, A27.no, ?_⟩⟩
    have q2 : Same B1 _ := same_made (C := C 27) (f := "part") (v := v) na2 nd2
    generalize upd (upd B1 d2 (exd d2 [(("part" : Str), v)])) a2 (exo a2 (C 27) (some d2)) = B2 at q2 ⊢
    refine ⟨_, rfl, _, rfl, fun a3 d3 na3 nd3 ne3 => ⟨a3, C 27, d3, v, rfl, upd_same, (by rw [upd_ne ne3, upd_same]), T.e 27 (by decide), A27.hd, A27.no, ?_⟩⟩
    have q3 : Same B2 _ := same_made (C := C 27) (f := "part") (v := v) na3 nd3
    generalize upd (upd B2 d3 (exd d3 [(("part" : Str), v)])) a3 (exo a3 (C 27) (some d3)) = B3 at q3 ⊢
    have q := (q1.trans q2).trans q3
    refine ⟨(by show 3 ≤ sizeLine; decide), fun t27 nt => ?_⟩
    have q4 : Same B3 (upd B3 t27 (.tup [.ref a, v, v])) := same_up (Same.refl _) nt
    have w3 : Three (upd B3 t27 (.tup [.ref a, v, v])) (C 27) v t27 := ⟨a, upd_same, ((e1.same q2).same q3).same q4⟩
    generalize upd B3 t27 (.tup [.ref a, v, v]) = B4 at q4 w3 ⊢
    have r := q.trans q4
    have hp := r _ _ h1
    refine ⟨p, _, _, rfl, rfl, hp, (by show 1 < sizeLine; decide), ?_⟩
    have s2 : Same H (upd B4 p (.lst ((([t26] : List Addr).map V.ref) ++ [V.ref t27]))) := same_put (s1.trans r) n0
    have h2 : (upd B4 p (.lst ((([t26] : List Addr).map V.ref) ++ [V.ref t27]))) p = some (.lst (([t26, t27] : List Addr).map V.ref)) := upd_same
    have z2 : Threes (upd B4 p (.lst ((([t26] : List Addr).map V.ref) ++ [V.ref t27]))) C v 26 [t26, t27] := ((z1.same r).snoc (t := t27) w3).put hp
    clear q q1 q2 q3 q4 e1 w3 r na nd ne na2 nd2 ne2 na3 nd3 ne3 nt
    generalize upd B4 p (.lst ((([t26] : List Addr).map V.ref) ++ [V.ref t27])) = H2 at s2 h2 z2 ⊢
    clear hp s1 h1 z1
    refine ⟨_, rfl, .inl ⟨rfl, _, SqL.of h2⟩, _, rfl, _, rfl, fun a d na nd ne => ?_⟩
    have e1 := err_made (H := H2) (C := C 28) (f := "most") (v := v) ne
    have q1 : Same H2 _ := same_made (C := C 28) (f := "most") (v := v) na nd
    generalize upd (upd H2 d (exd d [(("most" : Str), v)])) a (exo a (C 28) (some d)) = B1 at e1 q1 ⊢
    refine ⟨_, rfl, _, rfl, fun a2 d2 na2 nd2 ne2 => ⟨a2, C 28, d2, v, rfl, upd_same, (by rw [upd_ne ne2, upd_same]), T.e 28 (by decide), A28.hd, A28.no, ?_⟩⟩
    have q2 : Same B1 _ := same_made (C := C 28) (f := "most") (v := v) na2 nd2
    generalize upd (upd B1 d2 (exd d2 [(("most" : Str), v)])) a2 (exo a2 (C 28) (some d2)) = B2 at q2 ⊢
    refine ⟨_, rfl, _, rfl, fun a3 d3 na3 nd3 ne3 => ⟨a3, C 28, d3, v, rfl, upd_same, (by rw [upd_ne ne3, upd_same]), T.e 28 (by decide), A28.hd, A28.no, ?_⟩⟩
    have q3 : Same B2 _ := same_made (C := C 28) (f := "most") (v := v) na3 nd3
    generalize upd (upd B2 d3 (exd d3 [(("most" : Str), v)])) a3 (exo a3 (C 28) (some d3)) = B3 at q3 ⊢
    have q := (q1.trans q2).trans q3
    refine ⟨(by show 3 ≤ sizeLine; decide), fun t28 nt => ?_⟩
    have q4 : Same B3 (upd B3 t28 (.tup [.ref a, v, v])) := same_up (Same.refl _) nt
    have w3 : Three (upd B3 t28 (.tup [.ref a, v, v])) (C 28) v t28 := ⟨a, upd_same, ((e1.same q2).same q3).same q4⟩
    generalize upd B3 t28 (.tup [.ref a, v, v]) = B4 at q4 w3 ⊢
    have r := q.trans q4
    have hp := r _ _ h2
    refine ⟨p, _, _, rfl, rfl, hp, (by show 2 < sizeLine; decide), ?_⟩
    have s3 : Same H (upd B4 p (.lst ((([t26, t27] : List Addr).map V.ref) ++ [V.ref t28]))) := same_put (s2.trans r) n0
    have h3 : (upd B4 p (.lst ((([t26, t27] : List Addr).map V.ref) ++ [V.ref t28]))) p = some (.lst (([t26, t27, t28] : List Addr).map V.ref)) := upd_same
    have z3 : Threes (upd B4 p (.lst ((([t26, t27] : List Addr).map V.ref) ++ [V.ref t28]))) C v 26 [t26, t27, t28] := ((z2.same r).snoc (t := t28) w3).put hp
    clear q q1 q2 q3 q4 e1 w3 r na nd ne na2 nd2 ne2 na3 nd3 ne3 nt
    generalize upd B4 p (.lst ((([t26, t27] : List Addr).map V.ref) ++ [V.ref t28])) = H3 at s3 h3 z3 ⊢
    clear hp s2 h2 z2
    refine ⟨_, rfl, .inl ⟨rfl, _, SqL.of h3⟩, _, rfl, _, rfl, fun a d na nd ne => ?_⟩
    have e1 := err_made (H := H3) (C := C 29) (f := "at") (v := v) ne
    have q1 : Same H3 _ := same_made (C := C 29) (f := "at") (v := v) na nd
    generalize upd (upd H3 d (exd d [(("at" : Str), v)])) a (exo a (C 29) (some d)) = B1 at e1 q1 ⊢
    refine ⟨_, rfl, _, rfl, fun a2 d2 na2 nd2 ne2 => ⟨a2, C 29, d2, v, rfl, upd_same, (by rw [upd_ne ne2, upd_same]), T.e 29 (by decide), A29.hd, A29.no, ?_⟩⟩
    have q2 : Same B1 _ := same_made (C := C 29) (f := "at") (v := v) na2 nd2
    generalize upd (upd B1 d2 (exd d2 [(("at" : Str), v)])) a2 (exo a2 (C 29) (some d2)) = B2 at q2 ⊢
    refine ⟨_, rfl, _, rfl, fun a3 d3 na3 nd3 ne3 => ⟨a3, C 29, d3, v, rfl, upd_same, (by rw [upd_ne ne3, upd_same]), T.e 29 (by decide), A29.hd, A29.no, ?_⟩⟩
    have q3 : Same B2 _ := same_made (C := C 29) (f := "at") (v := v) na3 nd3
    generalize upd (upd B2 d3 (exd d3 [(("at" : Str), v)])) a3 (exo a3 (C 29) (some d3)) = B3 at q3 ⊢
    have q := (q1.trans q2).trans q3
    refine ⟨(by show 3 ≤ sizeLine; decide), fun t29 nt => ?_⟩
    have q4 : Same B3 (upd B3 t29 (.tup [.ref a, v, v])) := same_up (Same.refl _) nt
    have w3 : Three (upd B3 t29 (.tup [.ref a, v, v])) (C 29) v t29 := ⟨a, upd_same, ((e1.same q2).same q3).same q4⟩
    generalize upd B3 t29 (.tup [.ref a, v, v]) = B4 at q4 w3 ⊢
    have r := q.trans q4
    have hp := r _ _ h3
    refine ⟨p, _, _, rfl, rfl, hp, (by show 3 < sizeLine; decide), ?_⟩
    have s4 : Same H (upd B4 p (.lst ((([t26, t27, t28] : List Addr).map V.ref) ++ [V.ref t29]))) := same_put (s3.trans r) n0
    have h4 : (upd B4 p (.lst ((([t26, t27, t28] : List Addr).map V.ref) ++ [V.ref t29]))) p = some (.lst (([t26, t27, t28, t29] : List Addr).map V.ref)) := upd_same
    have z4 : Threes (upd B4 p (.lst ((([t26, t27, t28] : List Addr).map V.ref) ++ [V.ref t29]))) C v 26 [t26, t27, t28, t29] := ((z3.same r).snoc (t := t29) w3).put hp
    clear q q1 q2 q3 q4 e1 w3 r na nd ne na2 nd2 ne2 na3 nd3 ne3 nt
    generalize upd B4 p (.lst ((([t26, t27, t28] : List Addr).map V.ref) ++ [V.ref t29])) = H4 at s4 h4 z4 ⊢
    clear hp s3 h3 z3
    refine ⟨_, rfl, .inl ⟨rfl, _, SqL.of h4⟩, _, rfl, _, rfl, fun a d na nd ne => ?_⟩
    have e1 := err_made (H := H4) (C := C 30) (f := "at") (v := v) ne
    have q1 : Same H4 _ := same_made (C := C 30) (f := "at") (v := v) na nd
    generalize upd (upd H4 d (exd d [(("at" : Str), v)])) a (exo a (C 30) (some d)) = B1 at e1 q1 ⊢
    refine ⟨_, rfl, _, rfl, fun a2 d2 na2 nd2 ne2 => ⟨a2, C 30, d2, v, rfl, upd_same, (by rw [upd_ne ne2, upd_same]), T.e 30 (by decide), A30.hd, A30.no, ?_⟩⟩
    have q2 : Same B1 _ := same_made (C := C 30) (f := "at") (v := v) na2 nd2
    generalize upd (upd B1 d2 (exd d2 [(("at" : Str), v)])) a2 (exo a2 (C 30) (some d2)) = B2 at q2 ⊢
    refine ⟨_, rfl, _, rfl, fun a3 d3 na3 nd3 ne3 => ⟨a3, C 30, d3, v, rfl, upd_same, (by rw [upd_ne ne3, upd_same]), T.e 30 (by decide), A30.hd, A30.no, ?_⟩⟩
    have q3 : Same B2 _ := same_made (C := C 30) (f := "at") (v := v) na3 nd3
    generalize upd (upd B2 d3 (exd d3 [(("at" : Str), v)])) a3 (exo a3 (C 30) (some d3)) = B3 at q3 ⊢
    have q := (q1.trans q2).trans q3
    refine ⟨(by show 3 ≤ sizeLine; decide), fun t30 nt => ?_⟩
    have q4 : Same B3 (upd B3 t30 (.tup [.ref a, v, v])) := same_up (Same.refl _) nt
    have w3 : Three (upd B3 t30 (.tup [.ref a, v, v])) (C 30) v t30 := ⟨a, upd_same, ((e1.same q2).same q3).same q4⟩
    generalize upd B3 t30 (.tup [.ref a, v, v]) = B4 at q4 w3 ⊢
    have r := q.trans q4
    have hp := r _ _ h4
    refine ⟨p, _, _, rfl, rfl, hp, (by show 4 < sizeLine; decide), ?_⟩
    have s5 : Same H (upd B4 p (.lst ((([t26, t27, t28, t29] : List Addr).map V.ref) ++ [V.ref t30]))) := same_put (s4.trans r) n0
    have h5 : (upd B4 p (.lst ((([t26, t27, t28, t29] : List Addr).map V.ref) ++ [V.ref t30]))) p = some (.lst (([t26, t27, t28, t29, t30] : List Addr).map V.ref)) := upd_same
    have z5 : Threes (upd B4 p (.lst ((([t26, t27, t28, t29] : List Addr).map V.ref) ++ [V.ref t30]))) C v 26 [t26, t27, t28, t29, t30] := ((z4.same r).snoc (t := t30) w3).put hp
    clear q q1 q2 q3 q4 e1 w3 r na nd ne na2 nd2 ne2 na3 nd3 ne3 nt
    generalize upd B4 p (.lst ((([t26, t27, t28, t29] : List Addr).map V.ref) ++ [V.ref t30])) = H5 at s5 h5 z5 ⊢
    clear hp s4 h4 z4
    refine ⟨_, rfl, .inl ⟨rfl, _, SqL.of h5⟩, _, rfl, _, rfl, fun a d na nd ne => ?_⟩
    have e1 := err_made (H := H5) (C := C 31) (f := "name") (v := v) ne
    have q1 : Same H5 _ := same_made (C := C 31) (f := "name") (v := v) na nd
    generalize upd (upd H5 d (exd d [(("name" : Str), v)])) a (exo a (C 31) (some d)) = B1 at e1 q1 ⊢
    refine ⟨_, rfl, _, rfl, fun a2 d2 na2 nd2 ne2 => ⟨a2, C 31, d2, v, rfl, upd_same, (by rw [upd_ne ne2, upd_same]), T.e 31 (by decide), A31.hd, A31.no, ?_⟩⟩
    have q2 : Same B1 _ := same_made (C := C 31) (f := "name") (v := v) na2 nd2
    generalize upd (upd B1 d2 (exd d2 [(("name" : Str), v)])) a2 (exo a2 (C 31) (some d2)) = B2 at q2 ⊢
    refine ⟨_, rfl, _, rfl, fun a3 d3 na3 nd3 ne3 => ⟨a3, C 31, d3, v, rfl, upd_same, (by rw [upd_ne ne3, upd_same]), T.e 31 (by decide), A31.hd, A31.no, ?_⟩⟩
    have q3 : Same B2 _ := same_made (C := C 31) (f := "name") (v := v) na3 nd3
    generalize upd (upd B2 d3 (exd d3 [(("name" : Str), v)])) a3 (exo a3 (C 31) (some d3)) = B3 at q3 ⊢
    have q := (q1.trans q2).trans q3
    refine ⟨(by show 3 ≤ sizeLine; decide), fun t31 nt => ?_⟩
    have q4 : Same B3 (upd B3 t31 (.tup [.ref a, v, v])) := same_up (Same.refl _) nt
    have w3 : Three (upd B3 t31 (.tup [.ref a, v, v])) (C 31) v t31 := ⟨a, upd_same, ((e1.same q2).same q3).same q4⟩
    generalize upd B3 t31 (.tup [.ref a, v, v]) = B4 at q4 w3 ⊢
    have r := q.trans q4
    have hp := r _ _ h5
    refine ⟨p, _, _, rfl, rfl, hp, (by show 5 < sizeLine; decide), ?_⟩
    have s6 : Same H (upd B4 p (.lst ((([t26, t27, t28, t29, t30] : List Addr).map V.ref) ++ [V.ref t31]))) := same_put (s5.trans r) n0
    have h6 : (upd B4 p (.lst ((([t26, t27, t28, t29, t30] : List Addr).map V.ref) ++ [V.ref t31]))) p = some (.lst (([t26, t27, t28, t29, t30, t31] : List Addr).map V.ref)) := upd_same
    have z6 : Threes (upd B4 p (.lst ((([t26, t27, t28, t29, t30] : List Addr).map V.ref) ++ [V.ref t31]))) C v 26 [t26, t27, t28, t29, t30, t31] := ((z5.same r).snoc (t := t31) w3).put hp
    clear q q1 q2 q3 q4 e1 w3 r na nd ne na2 nd2 ne2 na3 nd3 ne3 nt
    generalize upd B4 p (.lst ((([t26, t27, t28, t29, t30] : List Addr).map V.ref) ++ [V.ref t31])) = H6 at s6 h6 z6 ⊢
    clear hp s5 h5 z5
    refine ⟨_, rfl, .inl ⟨rfl, _, SqL.of h6⟩, _, rfl, _, rfl, fun a d na nd ne => ?_⟩
    have e1 := err_made (H := H6) (C := C 32) (f := "name") (v := v) ne
    have q1 : Same H6 _ := same_made (C := C 32) (f := "name") (v := v) na nd
    generalize upd (upd H6 d (exd d [(("name" : Str), v)])) a (exo a (C 32) (some d)) = B1 at e1 q1 ⊢
    refine ⟨_, rfl, _, rfl, fun a2 d2 na2 nd2 ne2 => ⟨a2, C 32, d2, v, rfl, upd_same, (by rw [upd_ne ne2, upd_same]), T.e 32 (by decide), A32.hd, A32.no, ?_⟩⟩
    have q2 : Same B1 _ := same_made (C := C 32) (f := "name") (v := v) na2 nd2
    generalize upd (upd B1 d2 (exd d2 [(("name" : Str), v)])) a2 (exo a2 (C 32) (some d2)) = B2 at q2 ⊢
    refine ⟨_, rfl, _, rfl, fun a3 d3 na3 nd3 ne3 => ⟨a3, C 32, d3, v, rfl, upd_same, (by rw [upd_ne ne3, upd_same]), T.e 32 (by decide), A32.hd, A32.no, ?_⟩⟩
    have q3 : Same B2 _ := same_made (C := C 32) (f := "name") (v := v) na3 nd3
    generalize upd (upd B2 d3 (exd d3 [(("name" : Str), v)])) a3 (exo a3 (C 32) (some d3)) = B3 at q3 ⊢
    have q := (q1.trans q2).trans q3
    refine ⟨(by show 3 ≤ sizeLine; decide), fun t32 nt => ?_⟩
    have q4 : Same B3 (upd B3 t32 (.tup [.ref a, v, v])) := same_up (Same.refl _) nt
    have w3 : Three (upd B3 t32 (.tup [.ref a, v, v])) (C 32) v t32 := ⟨a, upd_same, ((e1.same q2).same q3).same q4⟩
    generalize upd B3 t32 (.tup [.ref a, v, v]) = B4 at q4 w3 ⊢
    have r := q.trans q4
    have hp := r _ _ h6
    refine ⟨p, _, _, rfl, rfl, hp, (by show 6 < sizeLine; decide), ?_⟩
    have s7 : Same H (upd B4 p (.lst ((([t26, t27, t28, t29, t30, t31] : List Addr).map V.ref) ++ [V.ref t32]))) := same_put (s6.trans r) n0
    have h7 : (upd B4 p (.lst ((([t26, t27, t28, t29, t30, t31] : List Addr).map V.ref) ++ [V.ref t32]))) p = some (.lst (([t26, t27, t28, t29, t30, t31, t32] : List Addr).map V.ref)) := upd_same
    have z7 : Threes (upd B4 p (.lst ((([t26, t27, t28, t29, t30, t31] : List Addr).map V.ref) ++ [V.ref t32]))) C v 26 [t26, t27, t28, t29, t30, t31, t32] := ((z6.same r).snoc (t := t32) w3).put hp
    clear q q1 q2 q3 q4 e1 w3 r na nd ne na2 nd2 ne2 na3 nd3 ne3 nt
    generalize upd B4 p (.lst ((([t26, t27, t28, t29, t30, t31] : List Addr).map V.ref) ++ [V.ref t32])) = H7 at s7 h7 z7 ⊢
    clear hp s6 h6 z6
    refine ⟨_, rfl, .inl ⟨rfl, _, SqL.of h7⟩, _, rfl, _, rfl, fun a d na nd ne => ?_⟩
    have e1 := err_made (H := H7) (C := C 33) (f := "part") (v := v) ne
    have q1 : Same H7 _ := same_made (C := C 33) (f := "part") (v := v) na nd
    generalize upd (upd H7 d (exd d [(("part" : Str), v)])) a (exo a (C 33) (some d)) = B1 at e1 q1 ⊢
    refine ⟨_, rfl, _, rfl, fun a2 d2 na2 nd2 ne2 => ⟨a2, C 33, d2, v, rfl, upd_same, (by rw [upd_ne ne2, upd_same]), T.e 33 (by decide), A33.hd, A33.no, ?_⟩⟩
    have q2 : Same B1 _ := same_made (C := C 33) (f := "part") (v := v) na2 nd2
    generalize upd (upd B1 d2 (exd d2 [(("part" : Str), v)])) a2 (exo a2 (C 33) (some d2)) = B2 at q2 ⊢
    refine ⟨_, rfl, _, rfl, fun a3 d3 na3 nd3 ne3 => ⟨a3, C 33, d3, v, rfl, upd_same, (by rw [upd_ne ne3, upd_same]), T.e 33 (by decide), A33.hd, A33.no, ?_⟩⟩
    have q3 : Same B2 _ := same_made (C := C 33) (f := "part") (v := v) na3 nd3
    generalize upd (upd B2 d3 (exd d3 [(("part" : Str), v)])) a3 (exo a3 (C 33) (some d3)) = B3 at q3 ⊢
    have q := (q1.trans q2).trans q3
    refine ⟨(by show 3 ≤ sizeLine; decide), fun t33 nt => ?_⟩
    have q4 : Same B3 (upd B3 t33 (.tup [.ref a, v, v])) := same_up (Same.refl _) nt
    have w3 : Three (upd B3 t33 (.tup [.ref a, v, v])) (C 33) v t33 := ⟨a, upd_same, ((e1.same q2).same q3).same q4⟩
    generalize upd B3 t33 (.tup [.ref a, v, v]) = B4 at q4 w3 ⊢
    have r := q.trans q4
    have hp := r _ _ h7
    refine ⟨p, _, _, rfl, rfl, hp, (by show 7 < sizeLine; decide), ?_⟩
    have s8 : Same H (upd B4 p (.lst ((([t26, t27, t28, t29, t30, t31, t32] : List Addr).map V.ref) ++ [V.ref t33]))) := same_put (s7.trans r) n0
    have h8 : (upd B4 p (.lst ((([t26, t27, t28, t29, t30, t31, t32] : List Addr).map V.ref) ++ [V.ref t33]))) p = some (.lst (([t26, t27, t28, t29, t30, t31, t32, t33] : List Addr).map V.ref)) := upd_same
    have z8 : Threes (upd B4 p (.lst ((([t26, t27, t28, t29, t30, t31, t32] : List Addr).map V.ref) ++ [V.ref t33]))) C v 26 [t26, t27, t28, t29, t30, t31, t32, t33] := ((z7.same r).snoc (t := t33) w3).put hp
    clear q q1 q2 q3 q4 e1 w3 r na nd ne na2 nd2 ne2 na3 nd3 ne3 nt
    generalize upd B4 p (.lst ((([t26, t27, t28, t29, t30, t31, t32] : List Addr).map V.ref) ++ [V.ref t33])) = H8 at s8 h8 z8 ⊢
    clear hp s7 h7 z7
    refine ⟨_, rfl, .inl ⟨rfl, _, SqL.of h8⟩, _, rfl, _, rfl, fun a d na nd ne => ?_⟩
    have e1 := err_made (H := H8) (C := C 34) (f := "part") (v := v) ne
    have q1 : Same H8 _ := same_made (C := C 34) (f := "part") (v := v) na nd
    generalize upd (upd H8 d (exd d [(("part" : Str), v)])) a (exo a (C 34) (some d)) = B1 at e1 q1 ⊢
    refine ⟨_, rfl, _, rfl, fun a2 d2 na2 nd2 ne2 => ⟨a2, C 34, d2, v, rfl, upd_same, (by rw [upd_ne ne2, upd_same]), T.e 34 (by decide), A34.hd, A34.no, ?_⟩⟩
    have q2 : Same B1 _ := same_made (C := C 34) (f := "part") (v := v) na2 nd2
    generalize upd (upd B1 d2 (exd d2 [(("part" : Str), v)])) a2 (exo a2 (C 34) (some d2)) = B2 at q2 ⊢
    refine ⟨_, rfl, _, rfl, fun a3 d3 na3 nd3 ne3 => ⟨a3, C 34, d3, v, rfl, upd_same, (by rw [upd_ne ne3, upd_same]), T.e 34 (by decide), A34.hd, A34.no, ?_⟩⟩
    have q3 : Same B2 _ := same_made (C := C 34) (f := "part") (v := v) na3 nd3
    generalize upd (upd B2 d3 (exd d3 [(("part" : Str), v)])) a3 (exo a3 (C 34) (some d3)) = B3 at q3 ⊢
    have q := (q1.trans q2).trans q3
    refine ⟨(by show 3 ≤ sizeLine; decide), fun t34 nt => ?_⟩
    have q4 : Same B3 (upd B3 t34 (.tup [.ref a, v, v])) := same_up (Same.refl _) nt
    have w3 : Three (upd B3 t34 (.tup [.ref a, v, v])) (C 34) v t34 := ⟨a, upd_same, ((e1.same q2).same q3).same q4⟩
    generalize upd B3 t34 (.tup [.ref a, v, v]) = B4 at q4 w3 ⊢
    have r := q.trans q4
    have hp := r _ _ h8
    refine ⟨p, _, _, rfl, rfl, hp, (by show 8 < sizeLine; decide), ?_⟩
    have s9 : Same H (upd B4 p (.lst ((([t26, t27, t28, t29, t30, t31, t32, t33] : List Addr).map V.ref) ++ [V.ref t34]))) := same_put (s8.trans r) n0
    have h9 : (upd B4 p (.lst ((([t26, t27, t28, t29, t30, t31, t32, t33] : List Addr).map V.ref) ++ [V.ref t34]))) p = some (.lst (([t26, t27, t28, t29, t30, t31, t32, t33, t34] : List Addr).map V.ref)) := upd_same
    have z9 : Threes (upd B4 p (.lst ((([t26, t27, t28, t29, t30, t31, t32, t33] : List Addr).map V.ref) ++ [V.ref t34]))) C v 26 [t26, t27, t28, t29, t30, t31, t32, t33, t34] := ((z8.same r).snoc (t := t34) w3).put hp
    clear q q1 q2 q3 q4 e1 w3 r na nd ne na2 nd2 ne2 na3 nd3 ne3 nt
    exact ⟨_, rfl, k [t26, t27, t28, t29, t30, t31, t32, t33, t34] p _ rfl z9 s9 n0 h9⟩
end
end K0
end

section
set_option linter.all false
set_option maxRecDepth 100000
set_option maxHeartbeats 4000000
/-! repr([v, v]) of a drawn value, where no repr is under way -/
namespace K0
open PySem L2
section
variable {P : Program} {w : World} {H : Hp} {h : Heap}
theorem at_lst {a : Addr} {xs : List V} (ok : HOk P w H h) (e : H a = some (.lst xs)) : ∃ (its : List Value) (n : Nat), Vals xs its ∧ h.get? a = some { cls := .type "list", data := .seq its.toArray n } := (ok a _ e).2
theorem at_tup {a : Addr} {xs : List V} (ok : HOk P w H h) (e : H a = some (.tup xs)) : ∃ (its : List Value) (o : Obj) (n : Nat), Vals xs its ∧ h.get? a = some o ∧ o.cls = .type "tuple" ∧ o.data = .seq its.toArray n := by
  obtain ⟨_, its, r, o, h1, h2, n, h3⟩ := (show ObjOk P w H h a (.tup xs) from ok a _ e)
  exact ⟨its, o, n, r, h1, h2, h3⟩
theorem is_int {i : Int} {u : Value} {as : List Addr} {d : Nat} (z : i.natAbs.log2 < 1920) (r : RelV (.int i) u) : ReprK P w as h d u (toString i) := by
  obtain ⟨t, rfl⟩ := r
  exact .of_is (ReprIs.int t z) _ _ _
theorem any_shw {v : V} {t : Str} {u : Value} (ok : HOk P w H h) (r : RelV v u) (A : AnyV H v t) : ∃ as, ReprK P w as h 3 u t ∧ t.length ≤ 200 ∧ ∀ b ∈ as, ∀ x y, H b ≠ some (.lst [x, y]) := by
  cases A with
  | non =>
    cases r
    exact ⟨[], .of_is ReprIs.none _ _ _, by decide +kernel, by simp⟩
  | bl =>
    cases r
    exact ⟨[], .of_is (ReprIs.bool false) _ _ _, by decide +kernel, by simp⟩
  | int i z z2 => exact ⟨[], is_int z r, by omega, by simp⟩
  | str x z =>
    obtain ⟨tk, rfl⟩ := r
    exact ⟨[], .of_is (ReprIs.str x tk (by rw [sizeLine_eq]; omega)) _ _ _, by omega, by simp⟩
  | @l0 a e =>
    cases r
    obtain ⟨its, n, rv, g⟩ := at_lst ok e
    cases rv
    exact ⟨[], .listEmpty g rfl rfl, by decide +kernel, by simp⟩
  | @l1 a t e et =>
    cases r
    obtain ⟨its, n, rv, g⟩ := at_lst ok e
    obtain ⟨its2, o2, n2, rv2, g2, c2, d2⟩ := at_tup ok et
    cases rv with
    | cons r1 rn =>
      cases rn
      cases r1
      cases rv2 with
      | cons q1 rv2 =>
        cases rv2 with
        | cons q2 rn =>
          cases rn
          have nat : a ≠ t := ne_of e et (by intro z; cases z)
          have k1 : ReprK P w [t] h 2 (.ref t) (tupleText [toString (0 : Int), toString (2 : Int)]) := .tuple (d := 1) g2 c2 d2 (by simp) (.cons (is_int (by decide) q1) (.cons (is_int (by decide) q2) .nil))
          refine ⟨[a, t], .list g rfl rfl (by simpa using nat) rfl (fun i y hy => ?_), by decide +kernel, fun b hb x y => ?_⟩
          · match i, hy with
            | 0, hy => exact ⟨_, rfl, by cases hy; exact k1⟩
          · rcases List.mem_cons.mp hb with rfl | hb
            · rw [e]; intro z; cases z
            · rw [List.mem_singleton.mp hb, et]; intro z; cases z
  | @t0 a e =>
    cases r
    obtain ⟨its, o, n, rv, g, c, dd⟩ := at_tup ok e
    cases rv
    refine ⟨[a], .tuple (d := 2) g c dd (by simp) .nil, by decide +kernel, fun b hb x y => ?_⟩
    rw [List.mem_singleton.mp hb, e]; intro z; cases z
  | @t1 a e =>
    cases r
    obtain ⟨its, o, n, rv, g, c, dd⟩ := at_tup ok e
    cases rv with
    | cons q1 rn =>
      cases rn
      refine ⟨[a], .tuple (d := 2) g c dd (by simp) (.cons (is_int (by decide) q1) .nil), by decide +kernel, fun b hb x y => ?_⟩
      rw [List.mem_singleton.mp hb, e]; intro z; cases z
  | @d0 a e =>
    cases r
    obtain ⟨_, sy, vs, rel, o, es, ep, g, ex, dd, _, pr, _⟩ := dk_of ok e
    cases rel
    have hes : es.toList = [] := by cases hq : es.toList with
      | nil => rfl
      | cons x l => rw [hq] at pr; cases pr
    refine ⟨[a], .dict (d := 2) (ps := []) g ex.1 dd sy (by simp) (by rw [hes]; exact .nil), by decide +kernel, fun b hb x y => ?_⟩
    rw [List.mem_singleton.mp hb, e]; intro z; cases z
  | @d1 a t e et =>
    cases r
    obtain ⟨_, sy, vs, rel, o, es, ep, g, ex, dd, _, pr, _⟩ := dk_of ok e
    obtain ⟨its2, o2, n2, rv2, g2, c2, d2⟩ := at_tup ok et
    have nat : a ≠ t := ne_of e et (by intro z; cases z)
    cases rv2 with
    | cons q1 rn =>
      cases rn
      have k1 : ReprK P w [t] h 2 (.ref t) (tupleText [toString (1 : Int)]) := .tuple (d := 1) g2 c2 d2 (by simp) (.cons (is_int (by decide) q1) .nil)
      cases rel with
      | @cons _ kv _ _ rk rn =>
        cases rn
        obtain ⟨ky, vl⟩ := kv
        obtain ⟨rk1, rk2⟩ := rk
        dsimp only at rk1 rk2
        subst rk1
        cases rk2
        cases hq : es.toList with
        | nil => rw [hq] at pr; cases pr
        | cons x l =>
          rw [hq] at pr
          cases pr with
          | cons hk hv pr2 =>
            cases pr2
            have hk' : keyIs (Sum.inr ("a" : Str)) x.key = true := hk
            have hx : ∃ tk, x.key = .str "a" tk := by
              obtain ⟨tk, z⟩ := Value.isStrOf_shape (x := ("a" : Str)) (v := x.key) hk'
              exact ⟨tk, z⟩
            obtain ⟨tk, hx⟩ := hx
            refine ⟨[a, t], .dict (d := 2) g ex.1 dd sy (by simpa using nat) (by
              rw [hq]
              refine .cons (k := reprText "a") (by rw [hx]; exact .of_is (ReprIs.str _ tk (by decide +kernel)) _ _ _) (by rw [hv]; exact k1) .nil), by decide +kernel, fun b hb x y => ?_⟩
            rcases List.mem_cons.mp hb with rfl | hb
            · rw [e]; intro z; cases z
            · rw [List.mem_singleton.mp hb, et]; intro z; cases z
  | @l2 a b e eb =>
    cases r
    obtain ⟨its, n, rv, g⟩ := at_lst ok e
    obtain ⟨its2, n2, rv2, g2⟩ := at_lst ok eb
    cases rv with
    | cons r1 rn =>
      cases rn
      cases r1
      cases rv2 with
      | cons q1 rn =>
        cases rn
        cases q1
        have nab : a ≠ b := ne_of e eb (by intro z; cases z)
        have k1 : ReprK P w [b] h 2 (.ref b) (listText ["None"]) := .list (d := 1) g2 rfl rfl (by simp) rfl (fun i y hy => by
          match i, hy with
          | 0, hy => exact ⟨_, rfl, by cases hy; exact .of_is ReprIs.none _ _ _⟩)
        refine ⟨[a, b], .list g rfl rfl (by simpa using nab) rfl (fun i y hy => ?_), by decide +kernel, fun c hc x y => ?_⟩
        · match i, hy with
          | 0, hy => exact ⟨_, rfl, by cases hy; exact k1⟩
        · rcases List.mem_cons.mp hc with rfl | hc
          · rw [e]; intro z; cases z
          · rw [List.mem_singleton.mp hc, eb]; intro z; cases z
end
theorem two_len (t : Str) : (listText [t, t]).length ≤ 2 * t.length + 8 := by
  have e : listText [t, t] = ("[" : Str) ++ t ++ ", " ++ t ++ "]" := by
    unfold listText textFrom textFrom textFrom
    rfl
  rw [e]
  simp only [strLen_append]
  have h1 : (("[" : Str)).length = 1 := rfl
  have h2 : ((", " : Str)).length = 2 := rfl
  have h3 : (("]" : Str)).length = 1 := rfl
  omega
/-- repr of a list that holds a drawn value twice -/
theorem call_reprV {X : Cx} (hg : X.A.guards = some []) (hu : X.A.units + 64 < cLine) : CallR X (.builtin "repr") (fun xs H Q => ∃ (p : Addr) (v : V) (t : Str), xs = [.ref p] ∧ H p = some (.lst [v, v]) ∧ AnyV H v t ∧ Q (.str (listText [t, t])) H) := by
  intro pins s σ H xs us Q I r h
  obtain ⟨p, v, t, rfl, hp, A, q⟩ := h
  obtain ⟨u, rfl, ru⟩ := vals1 r
  obtain rfl : u = Value.ref p := ru
  obtain ⟨its, n, rv, g⟩ := at_lst I.hok hp
  cases rv with
  | @cons _ u1 _ _ r1 rv =>
    cases rv with
    | @cons _ u2 _ _ r2 rn =>
      cases rn
      obtain ⟨as1, k1, z1, d1⟩ := any_shw I.hok r1 A
      obtain ⟨as2, k2, z2, d2⟩ := any_shw I.hok r2 A
      have hz : (listText [t, t]).length ≤ sizeLine := by
        have := two_len t
        rw [sizeLine_eq]
        omega
      refine call_repr_slot (by omega) ⟨_, g, rfl⟩ F.slot_list_repr.toG ?_
      refine call_list_reprK (as := as1 ++ as2) (d := 3) (h₀ := s.heap) (ts := [t, t]) g rfl rfl ?_ rfl (fun i y hy => ?_) (g := []) hg (fun b _ => Clear.nil b) (by show X.A.units + 1 + (3 + 1) < cLine; omega) (fun _ _ e => e) (fun h' uu tk hk => ?_) hz
      · intro hm
        rcases List.mem_append.mp hm with hm | hm
        · exact d1 p hm _ _ hp
        · exact d2 p hm _ _ hp
      · match i, hy with
        | 0, hy => exact ⟨t, rfl, by cases hy; exact k1.more fun b hb => List.mem_append_left _ hb⟩
        | 1, hy => exact ⟨t, rfl, by cases hy; exact k2.more fun b hb => List.mem_append_right _ hb⟩
      · exact ⟨_, _, rfl, .str (listText [t, t]), H, I.kept (t' := tk) hk, ⟨_, rfl⟩, q⟩
end K0
end

section
set_option linter.all false
set_option maxRecDepth 100000
set_option maxHeartbeats 4000000
namespace K0
open PySem L2
def spLaw (K : PySem.W.Frag) : Sp := fun vs H Q _ => ∃ (a : Addr) (ns : List Int), vs = [.ref a] ∧ SqL K H a (ns.map V.int) ∧ ns.length ≤ 63 ∧ ∀ H', Q (.bl true) H'
/-- names of the module that the law itself asks -/
structure LawT (mg : Str → Option Value) (K : PySem.W.Frag) (fB fP fA fO fL fK : Addr) : Prop where
  gB : mg "_law_begun" = some (.ref fB)
  kB : PySem.W.keepIn K (.ref fB) = true
  gP : mg "_law_pick" = some (.ref fP)
  kP : PySem.W.keepIn K (.ref fP) = true
  gA : mg "_law_any" = some (.ref fA)
  kA : PySem.W.keepIn K (.ref fA) = true
  gO : mg "_law_errors_of" = some (.ref fO)
  kO : PySem.W.keepIn K (.ref fO) = true
  gL : mg "_law_plain_errors" = some (.ref fL)
  kL : PySem.W.keepIn K (.ref fL) = true
  gK : mg "_law_kinds" = some (.ref fK)
  kK : PySem.W.keepIn K (.ref fK) = true
  isi : mg "isinstance" = none
  enu : mg "enumerate" = none
  rng : mg "range" = none
  rep : mg "repr" = none
  val : mg "ValueError" = none
section
variable {P : Program} {w : World} {K : PySem.W.Frag} {mg : Str → Option Value} {base : Heap} {C : Nat → Addr}
theorem for_enum {K : PySem.W.Frag} {a : Addr} {xs : List V} {g : TG} {tb : TS} {D : Ends} {σ : St} {H : Hp} (Pv : Nat → St → Hp → Prop) (h0 : Pv 0 σ H) (hl : ∀ i σ H, i ≤ xs.length → Pv i σ H → SqL K H a xs)
    (hs : ∀ i x T σ H, xs[i]? = some x → Pv i σ H → H T = none → g (.ref T) σ (upd H T (.tup [.int (i : Nat), x])) fun σ2 H2 => tb { D with nx := Pv (i + 1), ct := Pv (i + 1), bk := D.nx } σ2 H2) (hd : ∀ σ H, Pv xs.length σ H → D.nx σ H) :
    ∃ W : Nat → Nat → St → Hp → Prop, (∃ m, W 0 m σ H) ∧ ∀ i m σ H, W i m σ H →
      ((Ite K a).stop i H ∧ D.nx σ H) ∨ ((Ite K a).go i H ∧ ∃ N : St → Hp → Prop, (∀ σ' H', N σ' H' → ∃ m', m' < m ∧ W (i + 1) m' σ' H') ∧ ∀ x H', (Ite K a).yld i H x H' → g x σ H' fun σ2 H2 => tb { D with nx := N, ct := N, bk := D.nx } σ2 H2) := by
  refine ⟨fun i m σ H => m = xs.length - i ∧ i ≤ xs.length ∧ Pv i σ H, ⟨_, rfl, Nat.zero_le _, h0⟩, ?_⟩
  rintro i m σ H ⟨rfl, hi, p⟩
  have q := hl i σ H hi p
  rcases Nat.lt_or_ge i xs.length with z | z
  · refine .inr ⟨⟨xs, xs[i], q, List.getElem?_eq_getElem z⟩, Pv (i + 1), fun σ' H' p' => ⟨_, by omega, rfl, z, p'⟩, fun x H' y => ?_⟩
    obtain ⟨T, x0, rfl, hT, rfl, hx⟩ := y
    exact hs i x0 T σ H (hx xs q) p hT
  · have e : i = xs.length := by omega
    subst e
    exact .inl ⟨⟨xs, q, Nat.le_refl _⟩, hd σ H p⟩
theorem map_ref {ts : List Addr} {i : Nat} {y : V} (h : (ts.map V.ref)[i]? = some y) : ∃ t, ts[i]? = some t ∧ y = V.ref t := by
  rw [List.getElem?_map] at h
  cases e : ts[i]? with
  | none => rw [e] at h; cases h
  | some z => rw [e] at h; exact ⟨z, rfl, (Option.some.inj h).symm⟩
theorem dp_bls {K : PySem.W.Frag} {H : Hp} : ∀ l : List Bool, DpAll K H (l.map V.bl) (l.map PyData.bool)
  | [] => .nil
  | a :: l => .cons (.bl a) (dp_bls l)
theorem shaped_bls (l : List Bool) : SeqAt.shaped (.list (l.map PyData.bool)) = true := by
  induction l with
  | nil => decide +kernel
  | cons a l ih => exact ih
theorem lay_bls (l : List Bool) : (PyData.list (l.map PyData.bool)).canLay0 = true := by
  induction l with
  | nil => decide +kernel
  | cons a l ih => exact ih
theorem range_snoc {α : Type} (f : Nat → α) (n : Nat) : (List.range (n + 1)).map f = (List.range n).map f ++ [f n] := by rw [List.range_succ, List.map_append]; rfl
def krow (i : Nat) (n : Nat) : List Bool := (List.range n).map fun j => decide (i = j)
theorem krow_V (i n : Nat) : ((List.range n).map fun j => V.bl (decide (i = j))) = (krow i n).map V.bl := by unfold krow; rw [List.map_map]; rfl
theorem scL : FnScope ["script", "draw", "words_here", "each", "threes_here", "errors_here", "spot", "error", "base_here", "item", "k"] ["script"] (defScope sLaw) := ⟨rfl, rfl, rfl, by decide +kernel, rfl, by decide +kernel, by decide +kernel⟩
theorem body_law {f fB fP fA fO fL fK : Addr} {fdB fdP fdA fdO fdL fdK : FuncData} (T : LawT mg K fB fP fA fO fL fK) (CT : Clss K mg C)
    (GB : FnOk P w K mg base CX0 1 fB fdB ["script"] (spBegun K)) (bB : Binds K fdB ["script"] []) (GP : FnOk P w K mg base CX0 3 fP fdP ["draw", "some"] (spPick K)) (bP : Binds K fdP ["draw", "some"] [])
    (GA : FnOk P w K mg base CX0 4 fA fdA ["draw"] spAny) (bA : Binds K fdA ["draw"] []) (GO : FnOk P w K mg base CX0 3 fO fdO ["each"] (spOf C)) (bO : Binds K fdO ["each"] [])
    (GL : FnOk P w K mg base CX0 1 fL fdL ["words_here"] (spPlain C)) (bL : Binds K fdL ["words_here"] []) (GK : FnOk P w K mg base CX0 1 fK fdK ["error"] (spKinds C)) (bK : Binds K fdK ["error"] [])
    (cdv : Value) (A : Around) (outer : List Env) (s : Shared) (H : Hp) (vs : List V) (Q : VK) (E : XK) (hg : A.guards = some []) (hr : Room 4 (A.deeper (PyProof.Rows.envOfC "law" (defScope sLaw) s.heap.objs.size f cdv))) (h : spLaw K vs H Q E) :
    ∃ t, PSs (cxOf CX0 P w K mg base ["script", "draw", "words_here", "each", "threes_here", "errors_here", "spot", "error", "base_here", "item", "k"] "law" (defScope sLaw) f cdv A outer s H E).nox (defBody sLaw) t ∧
      t { nx := fun _ H' => Q .non H', rt := Q } (start ["script", "draw", "words_here", "each", "threes_here", "errors_here", "spot", "error", "base_here", "item", "k"] vs) H := by
  obtain ⟨a, ns, rfl, hS, hlen, k⟩ := h
  have hr1 : Room 1 _ := hr.mono (by decide)
  have hr3 : Room 3 _ := hr.mono (by decide)
  have hu := hr.units
  refine ⟨_, pss_cons (ps_set (i := 1) scL.nd rfl (Or.inl rfl) (pe_call GB hr1 rfl T.gB T.kB bB .nil pass0 (pa_cons (pv 0) pa_nil)))
    (pss_cons (ps_asg (pe_tup (pa_cons (pe_call GP hr3 rfl T.gP T.kP bP .nil pass0 (pa_cons (pv 1) (pa_cons (pe_lst (pa_cons pe_str (pa_cons pe_str (pa_cons pe_str pa_nil)))) pa_nil))) (pa_cons (pe_call GA hr rfl T.gA T.kA bA .nil pass0 (pa_cons (pv 1) pa_nil)) pa_nil)))
      (pg_tup rfl (pgs_cons (pg_name (i := 2) scL.nd rfl (Or.inl rfl)) (pgs_cons (pg_name (i := 3) scL.nd rfl (Or.inr rfl)) pgs_nil))))
    (pss_cons (ps_set (i := 4) scL.nd rfl (Or.inl rfl) (pe_call GO hr3 rfl T.gO T.kO bO .nil pass0 (pa_cons (pv 3) pa_nil)))
    (pss_cons (ps_set (i := 5) scL.nd rfl (Or.inl rfl) (pe_op op_cat (pe_call GL hr1 rfl T.gL T.kL bL .nil pass0 (pa_cons (pv 2) pa_nil))
      (pe_lc (own := [("item", 9)]) (g := gName 9) (tt := tYes) rfl scL.nd (pi_list (pv 4)) (blkOk_by (own := [("item", 9)]) (N := ["script", "draw", "words_here", "each", "threes_here", "errors_here", "spot", "error", "base_here", "item", "k"]) (sc := defScope sLaw) (by decide +kernel))
        (fun _ _ _ _ _ => pg_name (i := 9) scL.nd rfl (Or.inl rfl)) (fun _ _ _ _ _ => pts_nil) (fun _ _ _ _ _ => pe_ix (show IxR _ (rIxT K) from ix_tup) (pv 9) pe_int (fun _ _ => rfl)))))
    (pss_cons (ps_for PassesOwn.never rfl (pi_enum (by rfl) T.enu (pa_cons (pv 5) pa_nil)) (pg_tup rfl (pgs_cons (pg_name (i := 6) scL.nd rfl (Or.inr rfl)) (pgs_cons (pg_name (i := 7) scL.nd rfl (Or.inl rfl)) pgs_nil)))
      (pss_cons (ps_if (pt_cmpR (op_neD hu) (pe_call GK hr1 rfl T.gK T.kK bK .nil pass0 (pa_cons (pv 7) pa_nil))
          (pe_lc (own := [("k", 10)]) (g := gName 10) (tt := tYes) rfl scL.nd (pi_range1 rfl T.rng (pa_cons pe_int pa_nil)) (blkOk_by (own := [("k", 10)]) (N := ["script", "draw", "words_here", "each", "threes_here", "errors_here", "spot", "error", "base_here", "item", "k"]) (sc := defScope sLaw) (by decide +kernel))
            (fun _ _ _ _ _ => pg_name (i := 10) scL.nd rfl (Or.inl rfl)) (fun _ _ _ _ _ => pts_nil) (fun _ _ _ _ _ => pe_cmpR op_eq (pv 10) (pv 6) (nomark _))) (nomark _)) (pss_one (ps_ret pe_bl)) pss_nil)
      (pss_one (ps_if (PW.pt (pw_or (pt_not (pt_val (pe_callB call_isV (by rfl) T.isi (by decide +kernel) (pa_cons (pv 7) (pa_cons (pe_glob (v := V.ref (C 35)) (by rfl) (CT.g 35 (by decide)) rfl) pa_nil)))))
          (pw_or1 (pt_not (pt_val (pe_callB call_isV (by rfl) T.isi (by decide +kernel) (pa_cons (pv 7) (pa_cons (pe_bltn (v := V.ty "ValueError") (by rfl) T.val (by decide +kernel) rfl) pa_nil)))))))) (pss_one (ps_ret pe_bl)) pss_nil))))
    (pss_cons (ps_if (pt_cmpR (op_neD hu) (pe_lc (own := [("item", 9)]) (g := gName 9) rfl scL.nd (pi_list (pv 4)) (blkOk_by (own := [("item", 9)]) (N := ["script", "draw", "words_here", "each", "threes_here", "errors_here", "spot", "error", "base_here", "item", "k"]) (sc := defScope sLaw) (by decide +kernel))
        (fun _ _ _ _ _ => pg_name (i := 9) scL.nd rfl (Or.inl rfl)) (fun _ _ _ _ _ => pts_one (pt_cmpR op_ne
          (pe_callB (call_reprV hg hu) (by rfl) T.rep (by decide +kernel) (pa_cons (pe_lst (pa_cons (pe_ix (show IxR _ (rIxT K) from ix_tup) (pv 9) pe_int (fun _ _ => rfl)) (pa_cons (pe_ix (show IxR _ (rIxT K) from ix_tup) (pv 9) pe_int (fun _ _ => rfl)) pa_nil))) pa_nil))
          (pe_callB (call_reprV hg hu) (by rfl) T.rep (by decide +kernel) (pa_cons (pe_lst (pa_cons (pv 3) (pa_cons (pv 3) pa_nil))) pa_nil)) (nomark _))) (fun _ _ _ _ _ => pe_int)) (pe_lst pa_nil) (nomark _)) (pss_one (ps_ret pe_bl)) pss_nil)
    (pss_cons (ps_set (i := 8) scL.nd rfl (Or.inl rfl) (pe_exc1 PySem.F.excBase_ValueError (CT.x 35 (by decide)) (CT.g 35 (by decide)) (CT.k 35 (by decide)) (by rfl) pe_str))
    (pss_one (ps_ret (pe_and (pe_cmpR op_notIn_seq pe_bl (pe_call GK hr1 rfl T.gK T.kK bK .nil pass0 (pa_cons (pv 8) pa_nil)) (by rfl))
      (pe_one (pe_callB call_isV (by rfl) T.isi (by decide +kernel) (pa_cons (pv 8) (pa_cons (pe_bltn (v := V.ty "ValueError") (by rfl) T.val (by decide +kernel) rfl) pa_nil))))))))))))), ?_⟩
  refine ⟨_, rfl, a, ns, rfl, hS, hlen, fun d l H1 d0 l0 D1 s1 => ?_⟩
  -- the words, any value
  refine ⟨_, rfl, (by show 3 ≤ sizeLine; decide), fun p hp => ?_⟩
  have Dp1 : Draw (upd H1 p (.lst [.str "", .str "w", .str "nothing of the kind"])) d l := D1.same (same_up (Same.refl _) hp)
  refine ⟨d, l, p, _, rfl, Dp1, SqL.of upd_same, (D1.ne hp).1, (D1.ne hp).2, (by show 0 < 3; decide), (by show 3 < 1073741824; decide), fun wd H2 hwd A2 => ?_⟩
  refine ⟨_, rfl, d, l, rfl, A2.1, fun each tx H3 AV A3 => ?_⟩
  refine ⟨(by show 2 ≤ sizeLine; decide), fun tp ntp => ?_⟩
  have AV4 : AnyV (upd H3 tp (.tup [wd, each])) each tx := AV.same (same_up (Same.refl _) ntp)
  refine ⟨tp, _, rfl, SqT.of upd_same, rfl, _, _, rfl, _, _, rfl, rfl, ?_⟩
  generalize upd H3 tp (.tup [wd, each]) = H4 at AV4 ⊢
  clear AV A3 A2 hwd Dp1 D1 s1 hp ntp d0 l0
  -- the errors with what they keep
  refine ⟨_, rfl, each, rfl, fun ts p5 H5 lts th s5 n5 h5 => ?_⟩
  -- all errors
  refine ⟨_, rfl, wd, rfl, fun as p6 H6 las es s6 n6 h6 => ?_⟩
  have th6 := th.same s6
  have h56 := s6 _ _ h5
  have AV6 := (AV4.same s5).same s6
  refine ⟨_, rfl, p5, rfl, ⟨_, SqL.of h56⟩, fun D nD => ?_⟩
  refine lc_list (K := K) (a := p5) (xs := ts.map V.ref) (fun i H' => Same H6 H' ∧ ∃ bs : List Addr, H' D = some (.lst (bs.map V.ref)) ∧ bs.length = i ∧ Errs H6 C 26 bs)
    ⟨same_up (Same.refl _) nD, [], upd_same, rfl, Errs.nil⟩ (fun i H' _ q => q.1.seq (SqL.of h56)) ?_ ?_
  · rintro i x H' hx ⟨s7, bs, hb, lb, eb⟩
    obtain ⟨t, ht, rfl⟩ := map_ref hx
    obtain ⟨e, e1, e2⟩ := th6 i t ht
    have hi : i < 9 := by rw [← lts]; exact (List.getElem?_eq_some_iff.mp ht).1
    refine ⟨rfl, _, rfl, t, _, _, _, rfl, rfl, SqT.of (s7 _ _ e1), atI_nat (j := 0) rfl, _, hb, (by rw [List.length_map]; exact small1000 (by omega)), ?_, bs ++ [e], ?_, ?_, ?_⟩
    · intro b o eb'
      rw [upd_ne (ne_of_none eb' nD)]
      exact s7 b o eb'
    · rw [upd_same, List.map_append]
      rfl
    · rw [List.length_append, List.length_singleton, lb]
    · exact eb.snoc (by rw [lb]; exact e2)
  · rintro H7 ⟨s7, bs, hb, lb, eb⟩
    rw [List.length_map, lts] at lb
    have h67 := s7 _ _ h6
    refine ⟨p6, D, _, _, rfl, rfl, h67, hb, (by rw [List.length_map, List.length_map, las, lb]; show 35 ≤ sizeLine; decide), fun q nq => ?_⟩
    have s8 : Same H7 (upd H7 q (.lst (as.map V.ref ++ bs.map V.ref))) := same_up (Same.refl _) nq
    have hq : (upd H7 q (.lst (as.map V.ref ++ bs.map V.ref))) q = some (.lst ((as ++ bs).map V.ref)) := by rw [upd_same, List.map_append]
    have all : Errs (upd H7 q (.lst (as.map V.ref ++ bs.map V.ref))) C 0 (as ++ bs) := ((es.same s7).same s8).append (by rw [las]; exact (eb.same s7).same s8)
    have th8 := (th6.same s7).same s8
    have h58 := s8 _ _ (s7 _ _ h56)
    have AV8 := (AV6.same s7).same s8
    generalize upd H7 q (.lst (as.map V.ref ++ bs.map V.ref)) = H8 at hq all th8 h58 AV8 ⊢
    have lall : (as ++ bs).length = 35 := by rw [List.length_append, las, lb]
    generalize as ++ bs = er at hq all lall
    clear s8 nq h67 hb lb eb s7 AV6 h56 th6 n6 h6 es las n5 h5 th s5 AV4
    -- the loop over all of them
    refine ⟨_, rfl, q, _, rfl, SqL.of hq, ?_⟩
    refine for_enum (K := K) (a := q) (xs := er.map V.ref) (fun i σ H' => Same H8 H' ∧ ∃ x6 x7 : Option V, σ = [some (.ref a), some (.ref d), some wd, some each, some (.ref p5), some (.ref q), x6, x7, none, none, none])
      ⟨Same.refl _, none, none, rfl⟩ (fun i σ H' _ z => z.1.seq (SqL.of hq)) ?_ ?_
    · rintro i x T σ H' hx ⟨s9, x6, x7, rfl⟩ nT
      obtain ⟨e, he, rfl⟩ := map_ref hx
      have hi : i < 35 := by rw [← lall]; exact (List.getElem?_eq_some_iff.mp he).1
      have hi6 : i < 36 := by omega
      have er9 : ErrAt H' e (C i) := by
        have z := (all i e he).same s9
        rw [Nat.zero_add] at z
        exact z
      have sT : Same H' (upd H' T (.tup [.int (i : Nat), .ref e])) := same_up (Same.refl _) nT
      refine ⟨T, _, rfl, SqT.of upd_same, rfl, _, _, rfl, _, _, rfl, rfl, ?_⟩
      refine ⟨_, rfl, e, i, rfl, hi6, er9.same sT, fun pk Hk sk nk hk => ?_⟩
      refine ⟨35, rfl, by decide, by decide, fun D2 nD2 => ?_⟩
      refine lc_range (lo := 0) (n := 35) (fun m H'' => Same Hk H'' ∧ H'' D2 = some (.lst ((krow i m).map V.bl))) ⟨same_up (Same.refl _) nD2, upd_same⟩ ?_ ?_
      · rintro m H'' hm ⟨sm, hD2⟩
        refine ⟨rfl, _, rfl, _, rfl, rfl, _, hD2, (by unfold krow; rw [List.length_map, List.length_map, List.length_range]; exact small1000 (by omega)), ?_, ?_⟩
        · intro b o eb
          rw [upd_ne (ne_of_none eb nD2)]
          exact sm b o eb
        · rw [upd_same]
          have e1 : (decide (V.int (0 + (m : Int)) = V.int (i : Int))) = decide (i = m) := by
            by_cases z : i = m
            · subst z
              simp
            · rw [decide_eq_false z, decide_eq_false]
              intro y
              injection y with y
              omega
          show some (HO.lst ((krow i m).map V.bl ++ [V.bl (decide (V.int (0 + (m : Int)) = V.int (i : Int)))])) = _
          rw [e1]
          unfold krow
          rw [range_snoc, List.map_append]
          rfl
      · rintro H'' ⟨sm, hD2⟩
        rw [krow_V] at hk
        refine ⟨_, _, .lst (SqL.of (sm _ _ hk)) (dp_bls _), .lst (SqL.of hD2) (dp_bls _), shaped_bls _, shaped_bls _, _, rfl, ?_⟩
        rw [SeqAt.eqv_refl _ (lay_bls _)]
        have er' : ErrAt H'' e (C i) := ((er9.same sT).same sk).same sm
        refine iteF ?_
        refine ⟨_, rfl, e, C i, .ref (C 35), .ref (C 35), true, rfl, er', CT.e i hi6, .own _, CT.ir i hi6, _, rfl, ?_⟩
        refine iteF ?_
        refine ⟨_, rfl, e, C i, .ty "ValueError", .type "ValueError", true, rfl, er', CT.e i hi6, .ty _, CT.iv i hi6, _, rfl, ?_⟩
        refine iteF ?_
        exact ⟨((s9.trans sT).trans sk).trans sm, _, _, rfl⟩
    · rintro σ H9 ⟨s9, x6, x7, rfl⟩
      have th9 := th8.same s9
      have h59 := s9 _ _ h58
      have AV9 := AV8.same s9
      clear s9 th8 h58 AV8 hq all
      -- what they keep, by their texts
      refine ⟨_, rfl, p5, rfl, ⟨_, SqL.of h59⟩, fun D3 nD3 => ?_⟩
      refine lc_list (K := K) (a := p5) (xs := ts.map V.ref) (fun i H' => Same H9 H' ∧ H' D3 = some (.lst [])) ⟨same_up (Same.refl _) nD3, upd_same⟩ (fun i H' _ z => z.1.seq (SqL.of h59)) ?_ ?_
      · rintro i x H' hx ⟨sm, hD3⟩
        obtain ⟨t, ht, rfl⟩ := map_ref hx
        obtain ⟨e, e1, e2⟩ := th9 i t ht
        refine ⟨rfl, _, rfl, t, _, _, _, rfl, rfl, SqT.of (sm _ _ e1), atI_nat (j := 1) rfl, _, rfl, t, _, _, _, rfl, rfl, SqT.of (sm _ _ e1), atI_nat (j := 2) rfl, (by show 2 ≤ sizeLine; decide), fun r1 nr1 => ?_⟩
        have sr1 : Same H' (upd H' r1 (.lst [each, each])) := same_up (Same.refl _) nr1
        refine ⟨r1, each, tx, rfl, upd_same, (AV9.same sm).same sr1, _, rfl, _, rfl, (by show 2 ≤ sizeLine; decide), fun r2 nr2 => ?_⟩
        have sr2 := same_up (o := .lst [each, each]) (Same.refl _) nr2
        refine ⟨r2, each, tx, rfl, upd_same, ((AV9.same sm).same sr1).same sr2, rfl, _, rfl, ?_⟩
        rw [decide_eq_true (rfl : V.str (listText [tx, tx]) = V.str (listText [tx, tx]))]
        refine iteF ⟨(sm.trans sr1).trans sr2, sr2 _ _ (sr1 _ _ hD3)⟩
      · rintro H10 ⟨sm, hD3⟩
        refine ⟨Nat.zero_le _, fun r3 nr3 => ?_⟩
        refine ⟨.list [], .list [], .lst (SqL.of (same_up (Same.refl _) nr3 _ _ hD3)) .nil, .lst (SqL.of upd_same) .nil, by decide +kernel, by decide +kernel, _, rfl, ?_⟩
        rw [show PyData.eqv (.list []) (.list []) = true by decide +kernel]
        refine iteF ?_
        -- RingError itself
        intro b nb
        have eb : ErrAt (upd (upd H10 r3 (.lst [])) b (ExO (.ref (C 35)) b)) b (C 35) := .inl upd_same
        generalize upd (upd H10 r3 (.lst [])) b (ExO (.ref (C 35)) b) = H11 at eb ⊢
        refine ⟨_, rfl, b, 35, rfl, by decide, eb, fun pk Hk sk nk hk => ?_⟩
        refine ⟨pk, _, rfl, .inl (SqL.of hk), rfl, by decide +kernel, _, rfl, ?_⟩
        rw [show (!inV (.bl true) ((List.range 35).map fun j => V.bl (decide (35 = j)))) = true by decide +kernel]
        refine iteT ?_
        exact ⟨_, rfl, b, C 35, .ty "ValueError", .type "ValueError", true, rfl, eb.same sk, CT.e 35 (by decide), .ty _, CT.iv 35 (by decide), k Hk⟩
end
end K0
end

section
set_option linter.all false
set_option maxRecDepth 100000
set_option maxHeartbeats 4000000
namespace K0
open PySem L2
section
variable {P : Program} {w : World} {K : PySem.W.Frag} {mg : Str → Option Value} {base : Heap}
/-- a call of a def, its promise shown where it runs: nothing is asked of other places -/
theorem run_at {x qual : Str} {st : Stmt} {f : Addr} {fd : FuncData} {N ps : List Str} {k : Nat} {A : Around} {outer : List Env} {s : Shared} {H : Hp} {args : Args} {us : List Value} {vs : List V} {Q : VK} {E : XK} (F : Fun K x qual st f fd) (S : FnScope N ps (defScope st))
    (hr : Room (k + 1) A) (e0 : Env0 P w K mg base A outer s H) (hb : BindsTo s fd args (ps.zip us)) (r : Vals vs us) (hl : vs.length = ps.length)
    (body : ∀ cdv : Value, Room k (A.deeper (PyProof.Rows.envOfC qual (defScope st) s.heap.objs.size f cdv)) → ∃ t, PSs (cxOf CX0 P w K mg base N qual (defScope st) f cdv A outer s H E).nox (defBody st) t ∧ t { nx := fun _ H' => Q .non H', rt := Q } (start N vs) H) :
    codeAny (model P w) A (.call (.ref f) args) (CR CX0 outer P w H s Q E) s := by
  obtain ⟨oc, od, kV, doc, pm, an, cdv, ct, osl, rfl, lk, hcd⟩ := F.ex
  have Kin : K.In s.heap := e0.mod.kin.keeps fun b o e => (e0.bs b o e).1
  have noLim : s.heap.NoLimit := e0.mod.nolimit.keeps fun b o e => (e0.bs b o e).1
  refine codeAny_call_function hr.depth (Kin _ _ lk) rfl S.co S.gen rfl (PySem.W.codeRec_of Kin hcd) (hb _ _ _ _ ?_)
  refine wpAny_newFunctionEnv_cells S.kind (fun y hy => ?_) fun env he s1 z => ?_
  · rcases S.par y.1 (List.of_mem_zip (a := y.1) (b := y.2) hy).1 with q | q
    · exact Or.inl q
    · exact Or.inr ⟨q, PySem.W.cellsFrom_some _ _ _ (Or.inl q)⟩
  · subst he
    refine ⟨noLim.keeps z.toInCall.keep, codeAny_func ?_⟩
    obtain ⟨t, ht, q⟩ := body cdv (hr.deeper _)
    have I : Inv (cxOf CX0 P w K mg base N qual (defScope st) f cdv A outer s H E) [] (start N vs) H s1 := inv_start S hr.hd e0 hl r z
    refine wpAny_mono (ht.nox.run [] s1 (start N vs) H _ I q) (fun fl s' hs => ?_) fun _ _ hs => hs
    cases fl with
    | next =>
      obtain ⟨σ', H', J, q'⟩ := hs
      exact ⟨.non, H', J.os, J.bare, J.base, J.hok, rfl, q'⟩
    | ret u =>
      obtain ⟨v, σ', H', J, rv, q'⟩ := hs
      exact ⟨v, H', J.os, J.bare, J.base, J.hok, rv, q'⟩
    | brk =>
      obtain ⟨_, _, _, q'⟩ := hs
      exact q'.elim
    | cont =>
      obtain ⟨_, _, _, q'⟩ := hs
      exact q'.elim
end
end K0
namespace K0
open PySem L2
/-- the law's call behind the top, from a run of its def that is shown for the outermost place alone -/
theorem call_top {P : Program} {w : World} {K : PySem.W.Frag} {mg mb : Str → Option Value} {fa a : Addr} {sp : Sp} {s₁ : Shared} {vs : List Value} {ns : List Int}
    (KX : K.In s₁.heap) (hns : s₁.heap.Ns mainGlobals mg) (hb : s₁.heap.Ns builtinsNs mb) (hbb : ∀ x : Str, x ≠ "__name__" → mb x = bootBuiltins x) (hlim : s₁.heap.NoLimit) (hg : s₁.gens = #[])
    (ha : s₁.heap.get? a = some { cls := .type "list", data := .seq vs.toArray }) (hi : PyProof.Rows.IntsAre vs ns) (hl : ns.length ≤ sizeLine)
    (F : ∀ (base : Heap) (H : Hp) (Q : VK) (E : XK), Env0 P w K mg base PySem.callerA [] s₁ H → sp [.ref a] H Q E → codeAny (model P w) PySem.callerA (.call (.ref fa) ⟨[.ref a], []⟩) (CR CX0 [] P w H s₁ Q E) s₁)
    (hsp : ∀ H : Hp, SqL K H a (ns.map V.int) → sp [.ref a] H (fun v _ => v = .bl true) fun _ _ _ => False) :
    codeAny (model P w) PySem.callerA (.call (.ref fa) ⟨[.ref a], []⟩) (fun r s' => r = .ok (.ret (.bool true)) ∧ PySem.OldK s₁.heap s'.heap ∧ s'.os = s₁.os ∧ PyProof.Rows.AllBare s'.gens) s₁ := by
  have rel := vals_ints hi
  have same := hi.length
  let here : Obj := { cls := .type "list", data := .seq vs.toArray }
  -- from a heap in which nothing but the script is known
  suffices main : ∀ H : Hp, (∀ b, H b = none ∨ (b = a ∧ K.lookup a = none ∧ H b = some (.frz here (.lst (ns.map V.int))))) → SqL K H a (ns.map V.int) → HOk P w H s₁.heap →
      codeAny (model P w) PySem.callerA (.call (.ref fa) ⟨[.ref a], []⟩) (fun r s' => r = .ok (.ret (.bool true)) ∧ PySem.OldK s₁.heap s'.heap ∧ s'.os = s₁.os ∧ PyProof.Rows.AllBare s'.gens) s₁ by
    cases inK : K.lookup a with
    | some o =>
      have e := (KX a o inK).symm.trans ha
      cases e
      refine main (fun _ => none) (fun _ => .inl rfl) (.inr ⟨_, _, _, inK, rfl, rfl, rfl, ?_, by simpa using rel⟩) fun b u z => ?_
      · rw [List.size_toArray, same]; exact hl
      · have z' : (none : Option HO) = some u := z
        cases z'
    | none =>
      refine main (fun b => if b = a then some (.frz here (.lst (ns.map V.int))) else none) (fun b => ?_) (.inl (.inr ⟨here, if_pos rfl⟩)) fun b u z => ?_
      · by_cases hb : b = a
        · exact .inr ⟨hb, inK, if_pos hb⟩
        · exact .inl (if_neg hb)
      · by_cases hb : b = a
        · have z' := (if_pos hb).symm.trans z
          cases z'
          subst hb
          exact ⟨ha, by rw [List.length_map]; exact hl, vs, _, rel, ha⟩
        · have z' := (if_neg hb).symm.trans z
          cases z'
  intro H known hS ok
  have atA : ∀ {b : Addr} {u : HO}, H b = some u → b = a ∧ K.lookup a = none ∧ u = .frz here (.lst (ns.map V.int)) := fun {b u} e => by
    rcases known b with z | ⟨h1, h2, h3⟩
    · rw [z] at e; cases e
    · rw [h3] at e; cases e; exact ⟨h1, h2, rfl⟩
  have free : ∀ {b : Addr}, (∀ u, H b ≠ some u) → H b = none := fun {b} n => by
    cases e : H b with
    | none => rfl
    | some u => exact (n u e).elim
  have freeK : ∀ {b : Addr} {o : Obj}, K.lookup b = some o → H b = none := fun {b o} e => free fun u z => by
    obtain ⟨h1, h2, _⟩ := atA z
    rw [h1, h2] at e; cases e
  have freeD : ∀ {b : Addr} {o : Obj} {es : Array DictEntry} {n : Nat}, s₁.heap.get? b = some o → o.data = .dict es n → H b = none := fun {b o es n} e dd => free fun u z => by
    obtain ⟨h1, _, _⟩ := atA z
    rw [h1, ha] at e; cases e; cases dd
  have nsUp : ∀ {b : Addr} {m : Str → Option Value}, s₁.heap.Ns b m → (hidT s₁.heap H).Ns b m := fun {b m} ⟨o, es, ep, e, dd, r⟩ => ⟨o, es, ep, hidT_get e (freeD e dd), dd, r⟩
  have inB : K.In (hidT s₁.heap H) := fun b o e => hidT_get (KX b o e) (freeK e)
  have md : Mod K mg (hidT s₁.heap H) := ⟨inB, nsUp hns, ⟨mb, nsUp hb, hbb⟩, let ⟨mc, h1, h2⟩ := hlim; ⟨mc, nsUp h1, h2⟩⟩
  have e0 : Env0 P w K mg (hidT s₁.heap H) PySem.callerA [] s₁ H :=
    ⟨rfl, md, fun b o e => of_hidT e, Nat.le_of_eq (hidT_size _ _), trivial, fun b z => absurd (show b ∈ ([] : List Addr) from z) (by simp), ok, .of_eq hg⟩
  refine codeAny_mono (F _ H _ _ e0 (hsp H hS)) fun r s' z => ?_
  match r, z with
  | .ok (.ret u), ⟨v, H', os, bare, un, ok', rv, q⟩ =>
    have q' : v = .bl true := q
    subst q'
    obtain rfl : u = Value.bool true := rv
    refine ⟨rfl, PySem.OldK.of_keep fun b o e => ?_, os, bare⟩
    cases e2 : H b with
    | none => exact un.keep b o e e2 (by intro y; exact absurd (show b ∈ ([] : List Addr) from y) (by simp)) (by simp)
    | some u =>
      obtain ⟨h1, _, h3⟩ := atA e2
      subst h3
      obtain ⟨g1, _⟩ := ok b _ e2
      obtain ⟨g2, _⟩ := ok' b _ (un.frzs b _ _ e2)
      exact g2.trans (g1.symm.trans e)
end K0
end

section
set_option linter.all false
set_option maxRecDepth 100000
set_option maxHeartbeats 4000000
namespace K0
open PySem L2
/-- the classes, all of them at once -/
def bulk (K : PySem.W.Frag) (cs : List Addr) : Bool :=
  (List.range 36).all fun i => (let c := cs.getD i 0
    decide (PySem.W.nsIn K mainGlobals (nmOf i) = some (some (.ref c))) && (PySem.W.keepIn K (.ref c) && (excB K c && (decide (PySem.W.kitOne K (.ref c) (.type "ValueError") = some true) && decide (PySem.W.kitOne K (.ref c) (.ref (cs.getD 35 0)) = some true)))))
def bulkX (K : PySem.W.Frag) (cs : List Addr) : Bool := (List.range 36).all fun i => !(decide (i < 26) || decide (i = 35)) || PySem.W.excIn K (cs.getD i 0) bmV "ValueError.__new__"
def bulkI (K : PySem.W.Frag) (cs : List Addr) : Bool := (List.range 36).all fun i => (List.range 35).all fun j => decide (PySem.W.kitOne K (.ref (cs.getD i 0)) (.ref (cs.getD j 0)) = some (decide (i = j)))
theorem clss_of {K : PySem.W.Frag} {h : Heap} {mg : Str → Option Value} {cs : List Addr} (X : K.In h) (G : h.Ns mainGlobals mg) (b1 : bulk K cs = true) (b2 : bulkX K cs = true) (b3 : bulkI K cs = true) : Clss K mg fun i => cs.getD i 0 := by
  unfold bulk at b1
  unfold bulkX at b2
  unfold bulkI at b3
  simp only [List.all_eq_true, List.mem_range, Bool.and_eq_true, decide_eq_true_eq] at b1 b2 b3
  refine ⟨fun i hi => PySem.W.mg_of X G (b1 i hi).1, fun i hi => (b1 i hi).2.1, fun i hi => excB_ok (b1 i hi).2.2.1, fun i hi => ?_, fun i j hi hj => b3 i hi j hj, fun i hi => (b1 i hi).2.2.2.2, fun i hi => (b1 i hi).2.2.2.1⟩
  have z := b2 i (by omega)
  rcases hi with hi | hi
  · simpa [hi] using z
  · simpa [hi] using z

theorem all_mk {P : Program} {w : World} {K : PySem.W.Frag} {h : Heap} {mg : Str → Option Value} {fa : Addr} {cs : List Addr} (X : K.In h) (G : h.Ns mainGlobals mg) (hfa : mg "law" = some (.ref fa))
    (b1 : bulk K cs = true) (b2 : bulkX K cs = true) (b3 : bulkI K cs = true)
    (z_abs : PySem.W.nsIn K mainGlobals "abs" = some none)
    (z_int : PySem.W.nsIn K mainGlobals "int" = some none)
    (z_len : PySem.W.nsIn K mainGlobals "len" = some none)
    (z_isinstance : PySem.W.nsIn K mainGlobals "isinstance" = some none)
    (z_enumerate : PySem.W.nsIn K mainGlobals "enumerate" = some none)
    (z_range : PySem.W.nsIn K mainGlobals "range" = some none)
    (z_repr : PySem.W.nsIn K mainGlobals "repr" = some none)
    (z_ValueError : PySem.W.nsIn K mainGlobals "ValueError" = some none)
    {fB : Addr} {odB anB : Option Addr} {slB : Array (Option Value)} {ocB kVB dcB pmB cdB ctB : Value}
    (aB : PySem.W.nsIn K mainGlobals "_law_begun" = some (some (.ref fB))) (lB : K.lookup fB = some ⟨ocB, odB, .func (PySem.W.fnOf "_law_begun" "_law_begun" (defArgs sBegun) (defBody sBegun) (defScope sBegun) .none kVB dcB pmB anB cdB ctB), slB⟩) (cB : PySem.W.codeIn K cdB "_law_begun" = true) (kB : PySem.W.keepIn K (.ref fB) = true)
    {fM : Addr} {odM anM : Option Addr} {slM : Array (Option Value)} {ocM kVM dcM pmM cdM ctM : Value}
    (aM : PySem.W.nsIn K mainGlobals "_law_mixed" = some (some (.ref fM))) (lM : K.lookup fM = some ⟨ocM, odM, .func (PySem.W.fnOf "_law_mixed" "_law_mixed" (defArgs sMixed) (defBody sMixed) (defScope sMixed) .none kVM dcM pmM anM cdM ctM), slM⟩) (cM : PySem.W.codeIn K cdM "_law_mixed" = true) (kM : PySem.W.keepIn K (.ref fM) = true)
    {fT : Addr} {odT anT : Option Addr} {slT : Array (Option Value)} {ocT kVT dcT pmT cdT ctT : Value}
    (aT : PySem.W.nsIn K mainGlobals "_law_take" = some (some (.ref fT))) (lT : K.lookup fT = some ⟨ocT, odT, .func (PySem.W.fnOf "_law_take" "_law_take" (defArgs sTake) (defBody sTake) (defScope sTake) .none kVT dcT pmT anT cdT ctT), slT⟩) (cT : PySem.W.codeIn K cdT "_law_take" = true) (kT : PySem.W.keepIn K (.ref fT) = true)
    {fP : Addr} {odP anP : Option Addr} {slP : Array (Option Value)} {ocP kVP dcP pmP cdP ctP : Value}
    (aP : PySem.W.nsIn K mainGlobals "_law_pick" = some (some (.ref fP))) (lP : K.lookup fP = some ⟨ocP, odP, .func (PySem.W.fnOf "_law_pick" "_law_pick" (defArgs sPick) (defBody sPick) (defScope sPick) .none kVP dcP pmP anP cdP ctP), slP⟩) (cP : PySem.W.codeIn K cdP "_law_pick" = true) (kP : PySem.W.keepIn K (.ref fP) = true)
    {fA : Addr} {odA anA : Option Addr} {slA : Array (Option Value)} {ocA kVA dcA pmA cdA ctA : Value}
    (aA : PySem.W.nsIn K mainGlobals "_law_any" = some (some (.ref fA))) (lA : K.lookup fA = some ⟨ocA, odA, .func (PySem.W.fnOf "_law_any" "_law_any" (defArgs sAny) (defBody sAny) (defScope sAny) .none kVA dcA pmA anA cdA ctA), slA⟩) (cA : PySem.W.codeIn K cdA "_law_any" = true) (kA : PySem.W.keepIn K (.ref fA) = true)
    {fK : Addr} {odK anK : Option Addr} {slK : Array (Option Value)} {ocK kVK dcK pmK cdK ctK : Value}
    (aK : PySem.W.nsIn K mainGlobals "_law_kinds" = some (some (.ref fK))) (lK : K.lookup fK = some ⟨ocK, odK, .func (PySem.W.fnOf "_law_kinds" "_law_kinds" (defArgs sKinds) (defBody sKinds) (defScope sKinds) .none kVK dcK pmK anK cdK ctK), slK⟩) (cK : PySem.W.codeIn K cdK "_law_kinds" = true) (kK : PySem.W.keepIn K (.ref fK) = true)
    {fL : Addr} {odL anL : Option Addr} {slL : Array (Option Value)} {ocL kVL dcL pmL cdL ctL : Value}
    (aL : PySem.W.nsIn K mainGlobals "_law_plain_errors" = some (some (.ref fL))) (lL : K.lookup fL = some ⟨ocL, odL, .func (PySem.W.fnOf "_law_plain_errors" "_law_plain_errors" (defArgs sPlain) (defBody sPlain) (defScope sPlain) .none kVL dcL pmL anL cdL ctL), slL⟩) (cL : PySem.W.codeIn K cdL "_law_plain_errors" = true) (kL : PySem.W.keepIn K (.ref fL) = true)
    {fO : Addr} {odO anO : Option Addr} {slO : Array (Option Value)} {ocO kVO dcO pmO cdO ctO : Value}
    (aO : PySem.W.nsIn K mainGlobals "_law_errors_of" = some (some (.ref fO))) (lO : K.lookup fO = some ⟨ocO, odO, .func (PySem.W.fnOf "_law_errors_of" "_law_errors_of" (defArgs sOf) (defBody sOf) (defScope sOf) .none kVO dcO pmO anO cdO ctO), slO⟩) (cO : PySem.W.codeIn K cdO "_law_errors_of" = true) (kO : PySem.W.keepIn K (.ref fO) = true)
    {fW : Addr} {odW anW : Option Addr} {slW : Array (Option Value)} {ocW kVW dcW pmW cdW ctW : Value}
    (aW : PySem.W.nsIn K mainGlobals "law" = some (some (.ref fW))) (lW : K.lookup fW = some ⟨ocW, odW, .func (PySem.W.fnOf "law" "law" (defArgs sLaw) (defBody sLaw) (defScope sLaw) .none kVW dcW pmW anW cdW ctW), slW⟩) (cW : PySem.W.codeIn K cdW "law" = true) (kW : PySem.W.keepIn K (.ref fW) = true)
    {g26 N26 : Addr} {oe26 ae26 : Option Addr} {se26 : Array (Option Value)} {qc26 kE26 de26 pe26 ce26 te26 : Value} {nm26 q26 : Str} {bs26 : List Value} {bm26 : List Value} {sn26 : List Str} {sub26 : List Value} {ab26 : Bool} {col26 : Option Bool} {dd26 : Option Addr} {m026 m126 m226 m326 m526 : Option Value}
    (xL26 : K.lookup (cs.getD 26 0) = some (PySem.excClassObj nm26 q26 (cs.getD 26 0) N26 bs26 bm26 true sn26 sub26 ab26 col26 dd26 m026 m126 m226 m326 m526 "ValueError.__new__")) (xR26 : PySem.HandSPX.refsVE bm26 = true)
    (sa26 : PySem.W.findIn K (.ref (cs.getD 26 0)) "__setattr__" = some (some (.builtin "object.__setattr__"))) (tC26 : PySem.W.typeIn K (.ref (cs.getD 26 0)) = some (.type "type")) (hC26 : PySem.W.hasDictIn K (cs.getD 26 0) = true) (no26 : PySem.W.findIn K (.ref (cs.getD 26 0)) "part" = some none)
    (i26 : PySem.W.findIn K (.ref (cs.getD 26 0)) "__init__" = some (some (.ref g26))) (ti26 : PySem.W.typeIn K (.ref g26) = some (.type "function"))
    (li26 : K.lookup g26 = some ⟨qc26, oe26, .func (PySem.W.fnOf "__init__" "BadNumber.__init__" (defArgs sI26) (defBody sI26) (defScope sI26) .none kE26 de26 pe26 ae26 ce26 te26), se26⟩) (ci26 : PySem.W.codeIn K ce26 "BadNumber.__init__" = true) (ki26 : PySem.W.keepIn K (.ref g26) = true)
    {g27 N27 : Addr} {oe27 ae27 : Option Addr} {se27 : Array (Option Value)} {qc27 kE27 de27 pe27 ce27 te27 : Value} {nm27 q27 : Str} {bs27 : List Value} {bm27 : List Value} {sn27 : List Str} {sub27 : List Value} {ab27 : Bool} {col27 : Option Bool} {dd27 : Option Addr} {m027 m127 m227 m327 m527 : Option Value}
    (xL27 : K.lookup (cs.getD 27 0) = some (PySem.excClassObj nm27 q27 (cs.getD 27 0) N27 bs27 bm27 true sn27 sub27 ab27 col27 dd27 m027 m127 m227 m327 m527 "ValueError.__new__")) (xR27 : PySem.HandSPX.refsVE bm27 = true)
    (sa27 : PySem.W.findIn K (.ref (cs.getD 27 0)) "__setattr__" = some (some (.builtin "object.__setattr__"))) (tC27 : PySem.W.typeIn K (.ref (cs.getD 27 0)) = some (.type "type")) (hC27 : PySem.W.hasDictIn K (cs.getD 27 0) = true) (no27 : PySem.W.findIn K (.ref (cs.getD 27 0)) "part" = some none)
    (i27 : PySem.W.findIn K (.ref (cs.getD 27 0)) "__init__" = some (some (.ref g27))) (ti27 : PySem.W.typeIn K (.ref g27) = some (.type "function"))
    (li27 : K.lookup g27 = some ⟨qc27, oe27, .func (PySem.W.fnOf "__init__" "BadDrawing.__init__" (defArgs sI27) (defBody sI27) (defScope sI27) .none kE27 de27 pe27 ae27 ce27 te27), se27⟩) (ci27 : PySem.W.codeIn K ce27 "BadDrawing.__init__" = true) (ki27 : PySem.W.keepIn K (.ref g27) = true)
    {g28 N28 : Addr} {oe28 ae28 : Option Addr} {se28 : Array (Option Value)} {qc28 kE28 de28 pe28 ce28 te28 : Value} {nm28 q28 : Str} {bs28 : List Value} {bm28 : List Value} {sn28 : List Str} {sub28 : List Value} {ab28 : Bool} {col28 : Option Bool} {dd28 : Option Addr} {m028 m128 m228 m328 m528 : Option Value}
    (xL28 : K.lookup (cs.getD 28 0) = some (PySem.excClassObj nm28 q28 (cs.getD 28 0) N28 bs28 bm28 true sn28 sub28 ab28 col28 dd28 m028 m128 m228 m328 m528 "ValueError.__new__")) (xR28 : PySem.HandSPX.refsVE bm28 = true)
    (sa28 : PySem.W.findIn K (.ref (cs.getD 28 0)) "__setattr__" = some (some (.builtin "object.__setattr__"))) (tC28 : PySem.W.typeIn K (.ref (cs.getD 28 0)) = some (.type "type")) (hC28 : PySem.W.hasDictIn K (cs.getD 28 0) = true) (no28 : PySem.W.findIn K (.ref (cs.getD 28 0)) "most" = some none)
    (i28 : PySem.W.findIn K (.ref (cs.getD 28 0)) "__init__" = some (some (.ref g28))) (ti28 : PySem.W.typeIn K (.ref g28) = some (.type "function"))
    (li28 : K.lookup g28 = some ⟨qc28, oe28, .func (PySem.W.fnOf "__init__" "TooMany.__init__" (defArgs sI28) (defBody sI28) (defScope sI28) .none kE28 de28 pe28 ae28 ce28 te28), se28⟩) (ci28 : PySem.W.codeIn K ce28 "TooMany.__init__" = true) (ki28 : PySem.W.keepIn K (.ref g28) = true)
    {g29 N29 : Addr} {oe29 ae29 : Option Addr} {se29 : Array (Option Value)} {qc29 kE29 de29 pe29 ce29 te29 : Value} {nm29 q29 : Str} {bs29 : List Value} {bm29 : List Value} {sn29 : List Str} {sub29 : List Value} {ab29 : Bool} {col29 : Option Bool} {dd29 : Option Addr} {m029 m129 m229 m329 m529 : Option Value}
    (xL29 : K.lookup (cs.getD 29 0) = some (PySem.excClassObj nm29 q29 (cs.getD 29 0) N29 bs29 bm29 true sn29 sub29 ab29 col29 dd29 m029 m129 m229 m329 m529 "ValueError.__new__")) (xR29 : PySem.HandSPX.refsVE bm29 = true)
    (sa29 : PySem.W.findIn K (.ref (cs.getD 29 0)) "__setattr__" = some (some (.builtin "object.__setattr__"))) (tC29 : PySem.W.typeIn K (.ref (cs.getD 29 0)) = some (.type "type")) (hC29 : PySem.W.hasDictIn K (cs.getD 29 0) = true) (no29 : PySem.W.findIn K (.ref (cs.getD 29 0)) "at" = some none)
    (i29 : PySem.W.findIn K (.ref (cs.getD 29 0)) "__init__" = some (some (.ref g29))) (ti29 : PySem.W.typeIn K (.ref g29) = some (.type "function"))
    (li29 : K.lookup g29 = some ⟨qc29, oe29, .func (PySem.W.fnOf "__init__" "BadFilm.__init__" (defArgs sI29) (defBody sI29) (defScope sI29) .none kE29 de29 pe29 ae29 ce29 te29), se29⟩) (ci29 : PySem.W.codeIn K ce29 "BadFilm.__init__" = true) (ki29 : PySem.W.keepIn K (.ref g29) = true)
    {g30 N30 : Addr} {oe30 ae30 : Option Addr} {se30 : Array (Option Value)} {qc30 kE30 de30 pe30 ce30 te30 : Value} {nm30 q30 : Str} {bs30 : List Value} {bm30 : List Value} {sn30 : List Str} {sub30 : List Value} {ab30 : Bool} {col30 : Option Bool} {dd30 : Option Addr} {m030 m130 m230 m330 m530 : Option Value}
    (xL30 : K.lookup (cs.getD 30 0) = some (PySem.excClassObj nm30 q30 (cs.getD 30 0) N30 bs30 bm30 true sn30 sub30 ab30 col30 dd30 m030 m130 m230 m330 m530 "ValueError.__new__")) (xR30 : PySem.HandSPX.refsVE bm30 = true)
    (sa30 : PySem.W.findIn K (.ref (cs.getD 30 0)) "__setattr__" = some (some (.builtin "object.__setattr__"))) (tC30 : PySem.W.typeIn K (.ref (cs.getD 30 0)) = some (.type "type")) (hC30 : PySem.W.hasDictIn K (cs.getD 30 0) = true) (no30 : PySem.W.findIn K (.ref (cs.getD 30 0)) "at" = some none)
    (i30 : PySem.W.findIn K (.ref (cs.getD 30 0)) "__init__" = some (some (.ref g30))) (ti30 : PySem.W.typeIn K (.ref g30) = some (.type "function"))
    (li30 : K.lookup g30 = some ⟨qc30, oe30, .func (PySem.W.fnOf "__init__" "BadText.__init__" (defArgs sI30) (defBody sI30) (defScope sI30) .none kE30 de30 pe30 ae30 ce30 te30), se30⟩) (ci30 : PySem.W.codeIn K ce30 "BadText.__init__" = true) (ki30 : PySem.W.keepIn K (.ref g30) = true)
    {g31 N31 : Addr} {oe31 ae31 : Option Addr} {se31 : Array (Option Value)} {qc31 kE31 de31 pe31 ce31 te31 : Value} {nm31 q31 : Str} {bs31 : List Value} {bm31 : List Value} {sn31 : List Str} {sub31 : List Value} {ab31 : Bool} {col31 : Option Bool} {dd31 : Option Addr} {m031 m131 m231 m331 m531 : Option Value}
    (xL31 : K.lookup (cs.getD 31 0) = some (PySem.excClassObj nm31 q31 (cs.getD 31 0) N31 bs31 bm31 true sn31 sub31 ab31 col31 dd31 m031 m131 m231 m331 m531 "ValueError.__new__")) (xR31 : PySem.HandSPX.refsVE bm31 = true)
    (sa31 : PySem.W.findIn K (.ref (cs.getD 31 0)) "__setattr__" = some (some (.builtin "object.__setattr__"))) (tC31 : PySem.W.typeIn K (.ref (cs.getD 31 0)) = some (.type "type")) (hC31 : PySem.W.hasDictIn K (cs.getD 31 0) = true) (no31 : PySem.W.findIn K (.ref (cs.getD 31 0)) "name" = some none)
    (i31 : PySem.W.findIn K (.ref (cs.getD 31 0)) "__init__" = some (some (.ref g31))) (ti31 : PySem.W.typeIn K (.ref g31) = some (.type "function"))
    (li31 : K.lookup g31 = some ⟨qc31, oe31, .func (PySem.W.fnOf "__init__" "NoMark.__init__" (defArgs sI31) (defBody sI31) (defScope sI31) .none kE31 de31 pe31 ae31 ce31 te31), se31⟩) (ci31 : PySem.W.codeIn K ce31 "NoMark.__init__" = true) (ki31 : PySem.W.keepIn K (.ref g31) = true)
    {g32 N32 : Addr} {oe32 ae32 : Option Addr} {se32 : Array (Option Value)} {qc32 kE32 de32 pe32 ce32 te32 : Value} {nm32 q32 : Str} {bs32 : List Value} {bm32 : List Value} {sn32 : List Str} {sub32 : List Value} {ab32 : Bool} {col32 : Option Bool} {dd32 : Option Addr} {m032 m132 m232 m332 m532 : Option Value}
    (xL32 : K.lookup (cs.getD 32 0) = some (PySem.excClassObj nm32 q32 (cs.getD 32 0) N32 bs32 bm32 true sn32 sub32 ab32 col32 dd32 m032 m132 m232 m332 m532 "ValueError.__new__")) (xR32 : PySem.HandSPX.refsVE bm32 = true)
    (sa32 : PySem.W.findIn K (.ref (cs.getD 32 0)) "__setattr__" = some (some (.builtin "object.__setattr__"))) (tC32 : PySem.W.typeIn K (.ref (cs.getD 32 0)) = some (.type "type")) (hC32 : PySem.W.hasDictIn K (cs.getD 32 0) = true) (no32 : PySem.W.findIn K (.ref (cs.getD 32 0)) "name" = some none)
    (i32 : PySem.W.findIn K (.ref (cs.getD 32 0)) "__init__" = some (some (.ref g32))) (ti32 : PySem.W.typeIn K (.ref g32) = some (.type "function"))
    (li32 : K.lookup g32 = some ⟨qc32, oe32, .func (PySem.W.fnOf "__init__" "NoWatch.__init__" (defArgs sI32) (defBody sI32) (defScope sI32) .none kE32 de32 pe32 ae32 ce32 te32), se32⟩) (ci32 : PySem.W.codeIn K ce32 "NoWatch.__init__" = true) (ki32 : PySem.W.keepIn K (.ref g32) = true)
    {g33 N33 : Addr} {oe33 ae33 : Option Addr} {se33 : Array (Option Value)} {qc33 kE33 de33 pe33 ce33 te33 : Value} {nm33 q33 : Str} {bs33 : List Value} {bm33 : List Value} {sn33 : List Str} {sub33 : List Value} {ab33 : Bool} {col33 : Option Bool} {dd33 : Option Addr} {m033 m133 m233 m333 m533 : Option Value}
    (xL33 : K.lookup (cs.getD 33 0) = some (PySem.excClassObj nm33 q33 (cs.getD 33 0) N33 bs33 bm33 true sn33 sub33 ab33 col33 dd33 m033 m133 m233 m333 m533 "ValueError.__new__")) (xR33 : PySem.HandSPX.refsVE bm33 = true)
    (sa33 : PySem.W.findIn K (.ref (cs.getD 33 0)) "__setattr__" = some (some (.builtin "object.__setattr__"))) (tC33 : PySem.W.typeIn K (.ref (cs.getD 33 0)) = some (.type "type")) (hC33 : PySem.W.hasDictIn K (cs.getD 33 0) = true) (no33 : PySem.W.findIn K (.ref (cs.getD 33 0)) "part" = some none)
    (i33 : PySem.W.findIn K (.ref (cs.getD 33 0)) "__init__" = some (some (.ref g33))) (ti33 : PySem.W.typeIn K (.ref g33) = some (.type "function"))
    (li33 : K.lookup g33 = some ⟨qc33, oe33, .func (PySem.W.fnOf "__init__" "BadPatch.__init__" (defArgs sI33) (defBody sI33) (defScope sI33) .none kE33 de33 pe33 ae33 ce33 te33), se33⟩) (ci33 : PySem.W.codeIn K ce33 "BadPatch.__init__" = true) (ki33 : PySem.W.keepIn K (.ref g33) = true)
    {g34 N34 : Addr} {oe34 ae34 : Option Addr} {se34 : Array (Option Value)} {qc34 kE34 de34 pe34 ce34 te34 : Value} {nm34 q34 : Str} {bs34 : List Value} {bm34 : List Value} {sn34 : List Str} {sub34 : List Value} {ab34 : Bool} {col34 : Option Bool} {dd34 : Option Addr} {m034 m134 m234 m334 m534 : Option Value}
    (xL34 : K.lookup (cs.getD 34 0) = some (PySem.excClassObj nm34 q34 (cs.getD 34 0) N34 bs34 bm34 true sn34 sub34 ab34 col34 dd34 m034 m134 m234 m334 m534 "ValueError.__new__")) (xR34 : PySem.HandSPX.refsVE bm34 = true)
    (sa34 : PySem.W.findIn K (.ref (cs.getD 34 0)) "__setattr__" = some (some (.builtin "object.__setattr__"))) (tC34 : PySem.W.typeIn K (.ref (cs.getD 34 0)) = some (.type "type")) (hC34 : PySem.W.hasDictIn K (cs.getD 34 0) = true) (no34 : PySem.W.findIn K (.ref (cs.getD 34 0)) "part" = some none)
    (i34 : PySem.W.findIn K (.ref (cs.getD 34 0)) "__init__" = some (some (.ref g34))) (ti34 : PySem.W.typeIn K (.ref g34) = some (.type "function"))
    (li34 : K.lookup g34 = some ⟨qc34, oe34, .func (PySem.W.fnOf "__init__" "BadChain.__init__" (defArgs sI34) (defBody sI34) (defScope sI34) .none kE34 de34 pe34 ae34 ce34 te34), se34⟩) (ci34 : PySem.W.codeIn K ce34 "BadChain.__init__" = true) (ki34 : PySem.W.keepIn K (.ref g34) = true)
    : ∀ (s₁ : Shared) (a : Addr) (base : Heap) (H : Hp) (Q : VK) (E : XK), Env0 P w K mg base PySem.callerA [] s₁ H → spLaw K [.ref a] H Q E → codeAny (model P w) PySem.callerA (.call (.ref fa) ⟨[.ref a], []⟩) (CR CX0 [] P w H s₁ Q E) s₁ := by
  have e := hfa.symm.trans (PySem.W.mg_of X G aW)
  cases e
  have CT := clss_of X G b1 b2 b3
  have FB := fun_mk (st := sBegun) lB cB kB
  have FM := fun_mk (st := sMixed) lM cM kM
  have FT := fun_mk (st := sTake) lT cT kT
  have FP := fun_mk (st := sPick) lP cP kP
  have FA := fun_mk (st := sAny) lA cA kA
  have FK := fun_mk (st := sKinds) lK cK kK
  have FL := fun_mk (st := sPlain) lL cL kL
  have FO := fun_mk (st := sOf) lO cO kO
  have FW := fun_mk (st := sLaw) lW cW kW
  have bB := FB.binds (ps := ["script"]) fun _ _ _ _ _ _ us hl => match us, hl with | [_], _ => rfl
  have bM := FM.binds (ps := ["draw"]) fun _ _ _ _ _ _ us hl => match us, hl with | [_], _ => rfl
  have bT := FT.binds (ps := ["draw", "amount"]) fun _ _ _ _ _ _ us hl => match us, hl with | [_, _], _ => rfl
  have bP := FP.binds (ps := ["draw", "some"]) fun _ _ _ _ _ _ us hl => match us, hl with | [_, _], _ => rfl
  have bA := FA.binds (ps := ["draw"]) fun _ _ _ _ _ _ us hl => match us, hl with | [_], _ => rfl
  have bK := FK.binds (ps := ["error"]) fun _ _ _ _ _ _ us hl => match us, hl with | [_], _ => rfl
  have bL := FL.binds (ps := ["words_here"]) fun _ _ _ _ _ _ us hl => match us, hl with | [_], _ => rfl
  have bO := FO.binds (ps := ["each"]) fun _ _ _ _ _ _ us hl => match us, hl with | [_], _ => rfl
  have T : Txt mg K fM fT fP := ⟨PySem.W.mg_none_of X G z_abs, PySem.W.mg_none_of X G z_int, PySem.W.mg_none_of X G z_len, PySem.W.mg_of X G aM, kM, PySem.W.mg_of X G aT, kT, PySem.W.mg_of X G aP, kP⟩
  have LT : LawT mg K fB fP fA fO fL fK := ⟨PySem.W.mg_of X G aB, kB, PySem.W.mg_of X G aP, kP, PySem.W.mg_of X G aA, kA, PySem.W.mg_of X G aO, kO, PySem.W.mg_of X G aL, kL, PySem.W.mg_of X G aK, kK, PySem.W.mg_none_of X G z_isinstance, PySem.W.mg_none_of X G z_enumerate, PySem.W.mg_none_of X G z_range, PySem.W.mg_none_of X G z_repr, PySem.W.mg_none_of X G z_ValueError⟩
  intro s₁ a base H Q E e0 hsp
  obtain ⟨a', ns, ev, hS, hl, k⟩ := hsp
  cases ev
  have O26 : OexC K (cs.getD 26 0) := ⟨⟨_, _, _, _, _, _, _, _, _, _, _, _, _, _, _, xL26, xR26⟩, sa26, (CT.e 26 (by decide)).sb, tC26, CT.k 26 (by decide)⟩
  have J26 := fun_mk (st := sI26) li26 ci26 ki26
  have A26 : Atts P w K mg base (cs.getD 26 0) g26 "part" := ⟨O26, i26, ti26, hC26, no26, _, ok_I26 J26 O26 no26, J26.binds (ps := ["self", "part"]) fun _ _ _ _ _ _ us hl => match us, hl with | [_, _], _ => rfl, fun s a u => .of_eq rfl⟩
  have O27 : OexC K (cs.getD 27 0) := ⟨⟨_, _, _, _, _, _, _, _, _, _, _, _, _, _, _, xL27, xR27⟩, sa27, (CT.e 27 (by decide)).sb, tC27, CT.k 27 (by decide)⟩
  have J27 := fun_mk (st := sI27) li27 ci27 ki27
  have A27 : Atts P w K mg base (cs.getD 27 0) g27 "part" := ⟨O27, i27, ti27, hC27, no27, _, ok_I27 J27 O27 no27, J27.binds (ps := ["self", "part"]) fun _ _ _ _ _ _ us hl => match us, hl with | [_, _], _ => rfl, fun s a u => .of_eq rfl⟩
  have O28 : OexC K (cs.getD 28 0) := ⟨⟨_, _, _, _, _, _, _, _, _, _, _, _, _, _, _, xL28, xR28⟩, sa28, (CT.e 28 (by decide)).sb, tC28, CT.k 28 (by decide)⟩
  have J28 := fun_mk (st := sI28) li28 ci28 ki28
  have A28 : Atts P w K mg base (cs.getD 28 0) g28 "most" := ⟨O28, i28, ti28, hC28, no28, _, ok_I28 J28 O28 no28, J28.binds (ps := ["self", "most"]) fun _ _ _ _ _ _ us hl => match us, hl with | [_, _], _ => rfl, fun s a u => .of_eq rfl⟩
  have O29 : OexC K (cs.getD 29 0) := ⟨⟨_, _, _, _, _, _, _, _, _, _, _, _, _, _, _, xL29, xR29⟩, sa29, (CT.e 29 (by decide)).sb, tC29, CT.k 29 (by decide)⟩
  have J29 := fun_mk (st := sI29) li29 ci29 ki29
  have A29 : Atts P w K mg base (cs.getD 29 0) g29 "at" := ⟨O29, i29, ti29, hC29, no29, _, ok_I29 J29 O29 no29, J29.binds (ps := ["self", "at"]) fun _ _ _ _ _ _ us hl => match us, hl with | [_, _], _ => rfl, fun s a u => .of_eq rfl⟩
  have O30 : OexC K (cs.getD 30 0) := ⟨⟨_, _, _, _, _, _, _, _, _, _, _, _, _, _, _, xL30, xR30⟩, sa30, (CT.e 30 (by decide)).sb, tC30, CT.k 30 (by decide)⟩
  have J30 := fun_mk (st := sI30) li30 ci30 ki30
  have A30 : Atts P w K mg base (cs.getD 30 0) g30 "at" := ⟨O30, i30, ti30, hC30, no30, _, ok_I30 J30 O30 no30, J30.binds (ps := ["self", "at"]) fun _ _ _ _ _ _ us hl => match us, hl with | [_, _], _ => rfl, fun s a u => .of_eq rfl⟩
  have O31 : OexC K (cs.getD 31 0) := ⟨⟨_, _, _, _, _, _, _, _, _, _, _, _, _, _, _, xL31, xR31⟩, sa31, (CT.e 31 (by decide)).sb, tC31, CT.k 31 (by decide)⟩
  have J31 := fun_mk (st := sI31) li31 ci31 ki31
  have A31 : Atts P w K mg base (cs.getD 31 0) g31 "name" := ⟨O31, i31, ti31, hC31, no31, _, ok_I31 J31 O31 no31, J31.binds (ps := ["self", "name"]) fun _ _ _ _ _ _ us hl => match us, hl with | [_, _], _ => rfl, fun s a u => .of_eq rfl⟩
  have O32 : OexC K (cs.getD 32 0) := ⟨⟨_, _, _, _, _, _, _, _, _, _, _, _, _, _, _, xL32, xR32⟩, sa32, (CT.e 32 (by decide)).sb, tC32, CT.k 32 (by decide)⟩
  have J32 := fun_mk (st := sI32) li32 ci32 ki32
  have A32 : Atts P w K mg base (cs.getD 32 0) g32 "name" := ⟨O32, i32, ti32, hC32, no32, _, ok_I32 J32 O32 no32, J32.binds (ps := ["self", "name"]) fun _ _ _ _ _ _ us hl => match us, hl with | [_, _], _ => rfl, fun s a u => .of_eq rfl⟩
  have O33 : OexC K (cs.getD 33 0) := ⟨⟨_, _, _, _, _, _, _, _, _, _, _, _, _, _, _, xL33, xR33⟩, sa33, (CT.e 33 (by decide)).sb, tC33, CT.k 33 (by decide)⟩
  have J33 := fun_mk (st := sI33) li33 ci33 ki33
  have A33 : Atts P w K mg base (cs.getD 33 0) g33 "part" := ⟨O33, i33, ti33, hC33, no33, _, ok_I33 J33 O33 no33, J33.binds (ps := ["self", "part"]) fun _ _ _ _ _ _ us hl => match us, hl with | [_, _], _ => rfl, fun s a u => .of_eq rfl⟩
  have O34 : OexC K (cs.getD 34 0) := ⟨⟨_, _, _, _, _, _, _, _, _, _, _, _, _, _, _, xL34, xR34⟩, sa34, (CT.e 34 (by decide)).sb, tC34, CT.k 34 (by decide)⟩
  have J34 := fun_mk (st := sI34) li34 ci34 ki34
  have A34 : Atts P w K mg base (cs.getD 34 0) g34 "part" := ⟨O34, i34, ti34, hC34, no34, _, ok_I34 J34 O34 no34, J34.binds (ps := ["self", "part"]) fun _ _ _ _ _ _ us hl => match us, hl with | [_, _], _ => rfl, fun s a u => .of_eq rfl⟩
  have GT := ok_take (P := P) (w := w) (base := base) FT T FM bM
  have GP := ok_pick (P := P) (w := w) (base := base) FP T FM bM FT bT
  have GB := ok_begun (P := P) (w := w) (base := base) FB T
  have GA := ok_any (P := P) (w := w) (base := base) FA T GP bP
  have GK := ok_kinds (P := P) (w := w) (base := base) FK CT LT.isi
  have GL := ok_plain (P := P) (w := w) (base := base) FL CT
  have GO := ok_of (P := P) (w := w) (base := base) A26 A27 A28 A29 A30 A31 A32 A33 A34 FO CT
  exact run_at (k := 4) FW scL ⟨rfl, by decide, by decide⟩ e0 (us := [Value.ref a]) (vs := [V.ref a]) (.of_eq rfl) (.cons (show RelV (.ref a) _ from rfl) .nil) rfl fun cdv hr => body_law LT CT GB bB GP bP GA bA GO bO GL bL GK bK cdv _ _ _ _ _ _ _ rfl hr ⟨a, ns, rfl, hS, hl, k⟩
theorem walk {l : PySem.W.OpenLaw} {q : Program} {loose : List Str} {XP : (Str → Option Value) → Heap → Prop} {YP : World → Heap → Prop} {d : DefRec} {K : Params → PySem.W.Frag} (hn : l.most = some 63) (hdf : d.params.defaults = [])
    (hY : ∀ (w : World) (h : Heap), YP w h → (K w.params).In h)
    (F : ∀ (w : World) (mg : Str → Option Value) (fa : Addr) (h : Heap), (K w.params).In h → h.Ns mainGlobals mg → mg d.name = some (.ref fa) →
      ∀ (s₁ : Shared) (a : Addr) (base : Heap) (H : Hp) (Q : VK) (E : XK), Env0 l.prog w (K w.params) mg base PySem.callerA [] s₁ H → spLaw (K w.params) [.ref a] H Q E →
        codeAny (model l.prog w) PySem.callerA (.call (.ref fa) ⟨[.ref a], []⟩) (CR CX0 [] l.prog w H s₁ Q E) s₁) :
    PySem.W.WalkO q loose XP YP l.row.toRowW d [] (fun f vs => PySem.call f vs) := by
  refine Att.attach_call hn hdf fun w s₀ s₁ mg mb fa o pm cd doc a vs ns G Y ho hd hcd hmg hobj hints hlen hg => ?_
  have KX := hY w _ Y
  exact call_top (sp := spLaw (K w.params)) KX G.T.g G.T.b G.T.builtins G.T.nolimit hg hobj hints (Nat.le_trans hlen (by decide)) (fun base H Q E e0 h => F w mg fa _ KX G.T.g hmg s₁ a base H Q E e0 h)
    fun H hS => ⟨a, ns, rfl, hS, hlen, fun _ => rfl⟩
end K0
end

open PySem PySem.W PyProof.Rows in
set_option maxRecDepth 100000 in
set_option maxHeartbeats 0 in
open_top hd for PySem.Challenge.rw_ringcubes_k00_errors_of_all_parts

open PySem PySem.W PyProof.Rows
set_option maxRecDepth 100000 in
set_option maxHeartbeats 0 in
theorem PySem.Challenge.cw_ringcubes_k00_errors_of_all_parts_holds : PySem.Challenge.rw_ringcubes_k00_errors_of_all_parts.Holds := by
  refine hd ?_
  k_fill
  refine K0.walk (l := PySem.Challenge.rw_ringcubes_k00_errors_of_all_parts) rfl rfl (fun w h Y => PySem.W.kIn_of Y) ?F
  case F =>
    intro w mg fa h KX G hmg
    refine' K0.all_mk (cs := [300, 37, 403, 104, 257, 360, 92, 61, 465, 312, 336, 477, 147, 116, 190, 226, 324, 489, 415, 178, 391, 49, 214, 288, 202, 348, 245, 135, 508, 166, 379, 434, 453, 276, 80, 24]) KX G hmg ?b1 ?b2 ?b3 ?z_abs ?z_int ?z_len ?z_isinstance ?z_enumerate ?z_range ?z_repr ?z_ValueError ?aB ?lB ?cB ?kB ?aM ?lM ?cM ?kM ?aT ?lT ?cT ?kT ?aP ?lP ?cP ?kP ?aA ?lA ?cA ?kA ?aK ?lK ?cK ?kK ?aL ?lL ?cL ?kL ?aO ?lO ?cO ?kO ?aW ?lW ?cW ?kW ?xL26 ?xR26 ?sa26 ?tC26 ?hC26 ?no26 ?i26 ?ti26 ?li26 ?ci26 ?ki26 ?xL27 ?xR27 ?sa27 ?tC27 ?hC27 ?no27 ?i27 ?ti27 ?li27 ?ci27 ?ki27 ?xL28 ?xR28 ?sa28 ?tC28 ?hC28 ?no28 ?i28 ?ti28 ?li28 ?ci28 ?ki28 ?xL29 ?xR29 ?sa29 ?tC29 ?hC29 ?no29 ?i29 ?ti29 ?li29 ?ci29 ?ki29 ?xL30 ?xR30 ?sa30 ?tC30 ?hC30 ?no30 ?i30 ?ti30 ?li30 ?ci30 ?ki30 ?xL31 ?xR31 ?sa31 ?tC31 ?hC31 ?no31 ?i31 ?ti31 ?li31 ?ci31 ?ki31 ?xL32 ?xR32 ?sa32 ?tC32 ?hC32 ?no32 ?i32 ?ti32 ?li32 ?ci32 ?ki32 ?xL33 ?xR33 ?sa33 ?tC33 ?hC33 ?no33 ?i33 ?ti33 ?li33 ?ci33 ?ki33 ?xL34 ?xR34 ?sa34 ?tC34 ?hC34 ?no34 ?i34 ?ti34 ?li34 ?ci34 ?ki34
    (case b1 => kernel_rfl)
    (case b2 => kernel_rfl)
    (case b3 => kernel_rfl)
    (case z_abs => k_is)
    (case z_int => k_is)
    (case z_len => k_is)
    (case z_isinstance => k_is)
    (case z_enumerate => k_is)
    (case z_range => k_is)
    (case z_repr => k_is)
    (case z_ValueError => k_is)
    (case aB => k_is)
    (case lB => k_is)
    (case cB => k_is)
    (case kB => k_is)
    (case aM => k_is)
    (case lM => k_is)
    (case cM => k_is)
    (case kM => k_is)
    (case aT => k_is)
    (case lT => k_is)
    (case cT => k_is)
    (case kT => k_is)
    (case aP => k_is)
    (case lP => k_is)
    (case cP => k_is)
    (case kP => k_is)
    (case aA => k_is)
    (case lA => k_is)
    (case cA => k_is)
    (case kA => k_is)
    (case aK => k_is)
    (case lK => k_is)
    (case cK => k_is)
    (case kK => k_is)
    (case aL => k_is)
    (case lL => k_is)
    (case cL => k_is)
    (case kL => k_is)
    (case aO => k_is)
    (case lO => k_is)
    (case cO => k_is)
    (case kO => k_is)
    (case aW => k_is)
    (case lW => k_is)
    (case cW => k_is)
    (case kW => k_is)
    (case xL26 => k_is)
    (case xR26 => first | kernel_rfl | decide +kernel)
    (case sa26 => k_is)
    (case tC26 => k_is)
    (case hC26 => k_is)
    (case no26 => k_is)
    (case i26 => k_is)
    (case ti26 => k_is)
    (case li26 => k_is)
    (case ci26 => k_is)
    (case ki26 => k_is)
    (case xL27 => k_is)
    (case xR27 => first | kernel_rfl | decide +kernel)
    (case sa27 => k_is)
    (case tC27 => k_is)
    (case hC27 => k_is)
    (case no27 => k_is)
    (case i27 => k_is)
    (case ti27 => k_is)
    (case li27 => k_is)
    (case ci27 => k_is)
    (case ki27 => k_is)
    (case xL28 => k_is)
    (case xR28 => first | kernel_rfl | decide +kernel)
    (case sa28 => k_is)
    (case tC28 => k_is)
    (case hC28 => k_is)
    (case no28 => k_is)
    (case i28 => k_is)
    (case ti28 => k_is)
    (case li28 => k_is)
    (case ci28 => k_is)
    (case ki28 => k_is)
    (case xL29 => k_is)
    (case xR29 => first | kernel_rfl | decide +kernel)
    (case sa29 => k_is)
    (case tC29 => k_is)
    (case hC29 => k_is)
    (case no29 => k_is)
    (case i29 => k_is)
    (case ti29 => k_is)
    (case li29 => k_is)
    (case ci29 => k_is)
    (case ki29 => k_is)
    (case xL30 => k_is)
    (case xR30 => first | kernel_rfl | decide +kernel)
    (case sa30 => k_is)
    (case tC30 => k_is)
    (case hC30 => k_is)
    (case no30 => k_is)
    (case i30 => k_is)
    (case ti30 => k_is)
    (case li30 => k_is)
    (case ci30 => k_is)
    (case ki30 => k_is)
    (case xL31 => k_is)
    (case xR31 => first | kernel_rfl | decide +kernel)
    (case sa31 => k_is)
    (case tC31 => k_is)
    (case hC31 => k_is)
    (case no31 => k_is)
    (case i31 => k_is)
    (case ti31 => k_is)
    (case li31 => k_is)
    (case ci31 => k_is)
    (case ki31 => k_is)
    (case xL32 => k_is)
    (case xR32 => first | kernel_rfl | decide +kernel)
    (case sa32 => k_is)
    (case tC32 => k_is)
    (case hC32 => k_is)
    (case no32 => k_is)
    (case i32 => k_is)
    (case ti32 => k_is)
    (case li32 => k_is)
    (case ci32 => k_is)
    (case ki32 => k_is)
    (case xL33 => k_is)
    (case xR33 => first | kernel_rfl | decide +kernel)
    (case sa33 => k_is)
    (case tC33 => k_is)
    (case hC33 => k_is)
    (case no33 => k_is)
    (case i33 => k_is)
    (case ti33 => k_is)
    (case li33 => k_is)
    (case ci33 => k_is)
    (case ki33 => k_is)
    (case xL34 => k_is)
    (case xR34 => first | kernel_rfl | decide +kernel)
    (case sa34 => k_is)
    (case tC34 => k_is)
    (case hC34 => k_is)
    (case no34 => k_is)
    (case i34 => k_is)
    (case ti34 => k_is)
    (case li34 => k_is)
    (case ci34 => k_is)
    (case ki34 => k_is)
