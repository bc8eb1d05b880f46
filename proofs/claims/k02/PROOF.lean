import PyProof.Rows.All
import Wide.All
import OpenK.AllK
import Wide.FinOn
import PyProof.ReprReads
import PyProof.ReprRoads
import PyProof.Meets
import PyProof.FitsInt
import PyProof.WalkInts
import PyProof.MinMaxWalk
import HandS.ForMost
import HandS.EndBits
import HandS.SortKw
import KE.GoesEnum
import HandS.Iter
import HandS.Walk
import HandS.IsInst
import HandS.CallLocal
import HandS.TupMul
import HandS.WideBits
import HandS.Zip
import HandS.TupAny
import HandS.Star
import HandS.Defaults
import PySem.Challenge.RW_ridgespans_k02_what_is_a_table
import PyProof.ReprLen
import HandS.TryOnly
import PyProof.Rows.StrJoinRep
set_option Elab.async false
set_option linter.all false
set_option maxRecDepth 100000
set_option maxHeartbeats 4000000
namespace PySem
/-! repr of data whose ints have at most 12,900 bits, where the statics keep the usual limit -/

namespace RW
mutual
def wide : PyData → Bool
  | .none | .bool _ | .str _ => true
  | .int i => decide (i.natAbs.log2 < 12900)
  | .list xs | .tuple xs => wideAll xs
  | .dict _ => false
def wideAll : List PyData → Bool
  | [] => true
  | x :: xs => wide x && wideAll xs
end

def StatAt (h : Heap) : Prop := ∃ mc, h.Ns cStatics mc ∧ mc (Str.ofString "sys.int_max_str_digits") = none
theorem StatAt.keep {h h' : Heap} (S : StatAt h) (k : ∀ b o, h.get? b = some o → h'.get? b = some o) : StatAt h' := by
  obtain ⟨mc, n, e⟩ := S
  obtain ⟨o, es, ep, a, b⟩ := n
  exact ⟨mc, ⟨o, es, ep, k _ _ a, b⟩, e⟩

section
variable {prog : Program} {w : World} {A : Around} {E : Value → Shared → Prop} {s : Shared}

theorem odl_wide {M : Model} {a : Int} {Q : Option Nat → Shared → Prop} (S : StatAt s.heap) (ha : a.natAbs.log2 < 12900) (h : Q none s) : wpAny M A (Builtin.overDigitLimit? a) Q E s := by
  unfold Builtin.overDigitLimit?
  by_cases h1 : a.natAbs.log2 < 1920
  · rw [if_pos h1]
    exact wpAny_pure h
  · rw [if_neg h1]
    obtain ⟨mc, n, e⟩ := S
    have hn : wpAny M A Builtin.intMaxStrDigits (fun m s' => m = 4300 ∧ s' = s) E s := by
      unfold Builtin.intMaxStrDigits
      refine wpAny_bind (wpAny_nsGet n ?_)
      rw [show mc "sys.int_max_str_digits" = none from e]
      exact wpAny_pure ⟨rfl, rfl⟩
    refine wpAny_bind (wpAny_mono hn (fun m s' q => ?_) fun _ _ x => x)
    obtain ⟨rfl, rfl⟩ := q
    have h2 : ¬ (a.natAbs.log2 / 30 + 1 > 1000) := by omega
    simp only [if_neg h2]
    have h3 : ((4300 : Nat) == 0 || decide (a.natAbs.log2 < 3 * 4300)) = true := by
      rw [decide_eq_true (show a.natAbs.log2 < 3 * 4300 by omega)]
      rfl
    first
      | (rw [if_pos h3]; exact wpAny_pure h)
      | (simp only [h3]; exact wpAny_pure h)

theorem int_fits {a : Int} (ha : a.natAbs.log2 < 12900) : (Str.ofString (toString a)).length ≤ sizeLine := by
  have e := int_text_length_le (k := 12900) (by decide) ha
  rw [ofString_length, sizeLine_eq]; omega

theorem meets_int_repr (a : Int) (t : Tok) (ha : a.natAbs.log2 < 12900) : Meets (Builtin.«int.__repr__» ⟨[.int a t], []⟩) (fun _ R s => StatAt s.heap ∧ ∀ u, R (.ok (.ret (.str (toString a) u))) { s with toks := s.toks + 1 }) :=
  .of_wp fun prog w A R s h => by
    obtain ⟨S, h⟩ := h
    unfold Builtin.«int.__repr__»
    refine wpAny_bind (m := Builtin.Int.intSlot0 "__repr__" _) (wpAny_pure ?_)
    refine wpAny_bind (odl_wide S ha ?_)
    show wpAny _ _ (retStr _) _ _ _
    unfold retStr
    refine wpAny_bind (wpAny_mkStr ?_ (int_fits ha))
    exact wpAny_pure ⟨_, rfl, h _⟩
theorem reprObj_int {a : Int} {t : Tok} {Q : Value → Shared → Prop} (hu : A.units < cLine) (S : StatAt s.heap) (ha : a.natAbs.log2 < 12900) (h : ∀ u, Q (.str (toString a) u) { s with toks := s.toks + 1 }) : wpAny (model prog w) A (pyReprObj (.int a t)) Q E s :=
  wpAny_pyReprObj_slot hu (typeIs_int s a t) F.slot_int_repr.toG (call_meets F.slot_int_repr (typeIs_int s a t) F.entry_int_repr (F.args_int_repr_1 _) (meets_int_repr a t ha) ⟨S, fun u => ⟨_, _, rfl, h u⟩⟩)

theorem rk_int {h₀ : Heap} {a : Int} {t : Tok} (S : StatAt h₀) (ha : a.natAbs.log2 < 12900) (d : Nat) : ReprK prog w [] h₀ d (.int a t) (toString a) := by
  intro base hb A g E s Q hg hcl hu hk0 hQ
  have hb' : base ≤ sizeLine := by omega
  rw [pyReprUnder_leaf (v := .int a t) hb' (fun _ e => nomatch e)]
  unfold pyRepr
  exact wpAny_bind (reprObj_int (by omega) (S.keep hk0) ha fun u => wpAny_pure (hQ s.heap _ fun _ _ e => e))

mutual
theorem rk_of {h₀ : Heap} (S : StatAt h₀) : ∀ {v : Value} {d : PyData} {as : List Addr}, Reads h₀ v d as → wide d = true → d.shown.length ≤ sizeLine → ∃ bs, ReadAtMost h₀ d.depth bs ∧ ReprK prog w bs h₀ d.depth v d.shown
  | _, _, _, .none, _, _ => ⟨[], (fun _ h => nomatch h), by simp only [PyData.shown]; exact .of_is ReprIs.none _ _ _⟩
  | _, _, _, .bool b, _, _ => ⟨[], (fun _ h => nomatch h), by simp only [PyData.shown]; exact .of_is (ReprIs.bool b) _ _ _⟩
  | _, _, _, .int i t, hs, _ => ⟨[], (fun _ h => nomatch h), by simp only [PyData.shown]; exact rk_int S (by simpa [wide] using hs) _⟩
  | _, _, _, .str x t, _, hz => ⟨[], (fun _ h => nomatch h), by simp only [PyData.shown]; exact .of_is (ReprIs.str x t (by simpa only [PyData.shown] using hz)) _ _ _⟩
  | _, _, _, .list (a := a) (vs := vs) (xs := xs) h1 h2 h3 h4, hs, hz => by
    have z1 : (listText (PyData.shownAll xs)).length ≤ sizeLine := by simpa only [PyData.shown] using hz
    obtain ⟨bs, hb, hk⟩ := rkAll_of S h4 (by simpa [wide] using hs) (fun t ht => Nat.le_trans (listText_mem_le ht) z1)
    have r : Reads h₀ (.ref a) (.list xs) _ := .list h1 h2 h3 h4
    have hna : a ∉ bs := not_mem_of_deeper r (by simp only [PyData.depth]; omega) hb
    refine ⟨a :: bs, ReadAtMost.cons r (by simp only [PyData.depth]; omega) hb, ?_⟩
    simp only [PyData.depth, PyData.shown]
    obtain ⟨l⟩ := vs
    cases l with
    | nil =>
      have h5 : ReadsAll h₀ [] xs _ := h4
      cases h5
      simp only [PyData.shownAll, listText_nil]
      exact ReprK.listEmpty h1 h2 h3
    | cons x l => exact ReprK.list h1 h2 h3 hna (by simpa using hk.length_eq) (fun i y e => hk.item i y (by simpa using e))
  | _, _, _, .tuple (a := a) (xs := xs) h1 h2 h3 h4, hs, hz => by
    have z1 : (tupleText (PyData.shownAll xs)).length ≤ sizeLine := by simpa only [PyData.shown] using hz
    obtain ⟨bs, hb, hk⟩ := rkAll_of S h4 (by simpa [wide] using hs) (fun t ht => Nat.le_trans (tupleText_mem_le ht) z1)
    have r : Reads h₀ (.ref a) (.tuple xs) _ := .tuple h1 h2 h3 h4
    have hna : a ∉ bs := not_mem_of_deeper r (by simp only [PyData.depth]; omega) hb
    refine ⟨a :: bs, ReadAtMost.cons r (by simp only [PyData.depth]; omega) hb, ?_⟩
    simp only [PyData.depth, PyData.shown]
    exact ReprK.tuple h1 h2 h3 hna hk
  | _, _, _, .dict .., hs, _ => by simp [wide] at hs
theorem rkAll_of {h₀ : Heap} (S : StatAt h₀) : ∀ {vs : List Value} {ds : List PyData} {as : List Addr}, ReadsAll h₀ vs ds as → wideAll ds = true → (∀ t ∈ PyData.shownAll ds, t.length ≤ sizeLine) →
    ∃ bs, ReadAtMost h₀ (PyData.depthAll ds) bs ∧ ReprAllK prog w bs h₀ (PyData.depthAll ds) vs (PyData.shownAll ds)
  | _, _, _, .nil, _, _ => ⟨[], (fun _ h => nomatch h), by simp only [PyData.shownAll]; exact .nil⟩
  | _, _, _, .cons (d := d) (ds := ds) r rs, hs, hz => by
    have h2 : wide d = true ∧ wideAll ds = true := by simpa [wideAll] using hs
    obtain ⟨b1, hb1, k1⟩ := rk_of S r h2.1 (hz _ (by simp only [PyData.shownAll]; exact List.mem_cons_self ..))
    obtain ⟨b2, hb2, k2⟩ := rkAll_of S rs h2.2 (fun t ht => hz t (by simp only [PyData.shownAll]; exact List.mem_cons_of_mem _ ht))
    refine ⟨b1 ++ b2, (hb1.mono (by simp only [PyData.depthAll]; exact Nat.le_max_left _ _)).append (hb2.mono (by simp only [PyData.depthAll]; exact Nat.le_max_right _ _)), ?_⟩
    simp only [PyData.depthAll, PyData.shownAll]
    exact .cons ((k1.more fun b hb => List.mem_append_left _ hb).level_le (Nat.le_max_left _ _)) (k2.more_le (fun b hb => List.mem_append_right _ hb) (Nat.le_max_right _ _))
end

/-- repr(x) of a list -/
theorem repr_list {a : Addr} {xs : List PyData} {as : List Addr} {Q : Value → Shared → Prop} (S : StatAt s.heap) (r : Reads s.heap (.ref a) (.list xs) as) (hs : wide (.list xs) = true) (hz : (PyData.list xs).shown.length ≤ sizeLine) (hg : A.guards = some []) (hu : A.units + ((PyData.list xs).depth + 1) < cLine)
    (hQ : ∀ h' u tk, (∀ b o, s.heap.get? b = some o → h'.get? b = some o) → Q (.str (PyData.list xs).shown u) { s with heap := h', toks := tk }) : wpAny (model prog w) A (call (.builtin "repr") [.ref a]) Q E s := by
  cases r with
  | list h1 h2 h3 h4 =>
    rename_i o vs n bs0
    have z1 : (listText (PyData.shownAll xs)).length ≤ sizeLine := by simpa only [PyData.shown] using hz
    obtain ⟨bs, hb, hk⟩ := rkAll_of (prog := prog) (w := w) S h4 (by simpa [wide] using hs) (fun t ht => Nat.le_trans (listText_mem_le ht) z1)
    have hna : a ∉ bs := not_mem_of_deeper (.list h1 h2 h3 h4) (by simp only [PyData.depth]; omega) hb
    simp only [PyData.depth] at hu
    simp only [PyData.shown] at hQ
    refine call_repr_slot (by omega) ⟨o, h1, h2⟩ F.slot_list_repr.toG ?_
    obtain ⟨l⟩ := vs
    cases l with
    | nil =>
      have h5 : ReadsAll s.heap [] xs _ := h4
      cases h5
      simp only [PyData.shownAll, listText_nil] at hQ
      exact call_list_repr_empty ⟨o, h1, h2⟩ h1 h3 ⟨_, _, rfl, hQ s.heap _ _ fun _ _ e => e⟩
    | cons x l =>
      exact call_list_reprK h1 h2 h3 hna (by simpa using hk.length_eq) (fun i y e => hk.item i y (by simpa using e)) hg (fun b _ => Clear.nil b) (by show A.units + 1 + _ < _; omega) (fun _ _ e => e) (fun h' u tk hk => ⟨_, _, rfl, hQ h' u tk hk⟩) z1
/-- repr(x) of a tuple -/
theorem repr_tuple {a : Addr} {xs : List PyData} {as : List Addr} {Q : Value → Shared → Prop} (S : StatAt s.heap) (r : Reads s.heap (.ref a) (.tuple xs) as) (hs : wide (.tuple xs) = true) (hz : (PyData.tuple xs).shown.length ≤ sizeLine) (hg : A.guards = some []) (hu : A.units + ((PyData.tuple xs).depth + 1) < cLine)
    (hQ : ∀ h' u tk, (∀ b o, s.heap.get? b = some o → h'.get? b = some o) → Q (.str (PyData.tuple xs).shown u) { s with heap := h', toks := tk }) : wpAny (model prog w) A (call (.builtin "repr") [.ref a]) Q E s := by
  cases r with
  | tuple h1 h2 h3 h4 =>
    rename_i o vs n
    have z1 : (tupleText (PyData.shownAll xs)).length ≤ sizeLine := by simpa only [PyData.shown] using hz
    obtain ⟨bs, hb, hk⟩ := rkAll_of (prog := prog) (w := w) S h4 (by simpa [wide] using hs) (fun t ht => Nat.le_trans (tupleText_mem_le ht) z1)
    have hna : a ∉ bs := not_mem_of_deeper (.tuple h1 h2 h3 h4) (by simp only [PyData.depth]; omega) hb
    simp only [PyData.depth] at hu
    simp only [PyData.shown] at hQ
    refine call_repr_slot (by omega) ⟨o, h1, h2⟩ F.slot_tuple_repr ?_
    exact call_tuple_reprK h1 h2 h3 hna hk hg (fun b _ => Clear.nil b) (by show A.units + 1 + _ < _; omega) (fun _ _ e => e) (fun h' u tk hk => ⟨_, _, rfl, hQ h' u tk hk⟩) z1
end
end RW
end PySem

namespace PySem
section
variable {prog : Program} {w : World} {A : Around} {R : Result → Shared → Prop} {I : Addr} {fp wr : List Addr} {n : Nat} {P : Nat → Value → Prop} {St : Nat → Heap → Prop}

theorem k_max_loop_kw {kw : List (Str × Value)} (W : Walks prog w A.in1 I fp wr n P St) (bt : Nat → Nat → Bool) (hcmp : CmpOf prog w A.in1 .Gt P bt) (S : Addr) (hSf : S ∉ fp) :
    ∀ (k j : Nat) (s : Shared) (vb : Value) (c : Nat), n - (j + 1) = k → j + 1 ≤ n → St (j + 1) s.heap → P (argBest bt j) vb →
    s.heap.get? S = some { cls := .type "list", dict := none, data := .seq #[vb, vb] c, slots := #[] } →
    (∀ v h' tk, P (argBest bt (n - 1)) v → (∀ b o, b ∉ wr → b ≠ S → s.heap.get? b = some o → h'.get? b = some o) → R (.ok (.ret v)) { s with heap := h', toks := tk }) →
    codeAny (model prog w) A (.builtin "max.loop" ⟨[.ref I, .none, .ref S], kw⟩) R s := by
  have hSw : S ∉ wr := fun h => hSf (W.sub _ h)
  have hname : (toString "max" ++ toString ".loop" : String) = "max.loop" := by decide
  intro k
  induction k with
  | zero =>
    intro j s vb c hk hj hst hPb hS hR
    have hin : j + 1 = n := by omega
    refine codeAny_builtin F.entry_max_loop ?_
    rw [Around.under_plainId F.plain_max_loop _]
    show wpAny _ A.in1 (seqItems? (.ref S) >>= _) _ _ s
    refine wpAny_bind (wpAny_seqItems hS rfl ?_)
    show wpAny _ A.in1 (tryCatch (pyNext (.ref I)) _ >>= _) _ _ s
    refine wpAny_bind (wpAny_tryCatch (W.done s _ _ (hin ▸ hst) fun h' tk hk' => ?_))
    have hS' := hk' S _ hSw hS
    show wpAny _ A.in1 (updateSeq S (fun _ => #[]) >>= _) _ _ _
    refine wpAny_bind ?_
    refine wpAny_updateSeq hS' rfl (wpAny_bind (wpAny_letGo (wpAny_pure ?_)))
    refine hR vb _ tk (by rw [← hin]; exact hPb) fun b o hbw hbS e => (Heap.get?_update_other _ _ (Ne.symm hbS)).trans (hk' b o hbw e)
  | succ k ih =>
    intro j s vb c hk hj hst hPb hS hR
    have hlt : j + 1 < n := by omega
    refine codeAny_builtin F.entry_max_loop ?_
    rw [Around.under_plainId F.plain_max_loop _]
    show wpAny _ A.in1 (seqItems? (.ref S) >>= _) _ _ s
    refine wpAny_bind (wpAny_seqItems hS rfl ?_)
    show wpAny _ A.in1 (tryCatch (pyNext (.ref I)) _ >>= _) _ _ s
    refine wpAny_bind (wpAny_tryCatch (W.item (j + 1) s _ _ hlt hst fun v h' tk hP hst' hk' => ?_))
    have hS' := hk' S _ hSw hS
    show wpAny _ A.in1 (tryCatch (holding [v, v] (richCompare .Gt v vb >>= _)) _ >>= _) _ _ _
    refine wpAny_bind (wpAny_tryCatch (wpAny_holding (wpAny_bind (hcmp (j + 1) (argBest bt j) v vb _ _ _ hP hPb ?_))))
    refine wpAny_bind (wpAny_holding (wpAny_truthy_bool ?_))
    refine wpAny_bind (wpAny_letGo (wpAny_pure ?_))
    cases hb : bt (j + 1) (argBest bt j) with
    | true =>
      simp only [if_true]
      refine wpAny_bind ?_
      refine wpAny_updateSeq hS' rfl (wpAny_bind (wpAny_letGo ?_))
      rw [hname]
      refine wpAny_pure ⟨plainId_quiet F.plain_max_loop _, ih (j + 1) _ v _ (by omega) hlt (W.frame _ _ _ hst' fun b hbf o e => ?_) (by simp only [argBest, hb, if_true]; exact hP) (Heap.get?_update_self _ hS' rfl)
        fun v' h'' tk'' hP' hk'' => ?_⟩
      · exact (Heap.get?_update_other _ _ (fun h : S = b => hSf (by rw [h]; exact hbf))).trans e
      · exact hR v' h'' tk'' hP' fun b o hbw hbS e => hk'' b o hbw hbS ((Heap.get?_update_other _ _ (Ne.symm hbS)).trans (hk' b o hbw e))
    | false =>
      simp only [Bool.false_eq_true, if_false]
      refine wpAny_bind (wpAny_letGo ?_)
      rw [hname]
      refine wpAny_pure ⟨plainId_quiet F.plain_max_loop _, ih (j + 1) _ vb c (by omega) hlt hst' (by simp only [argBest, hb, Bool.false_eq_true, if_false]; exact hPb) hS' fun v' h'' tk'' hP' hk'' => ?_⟩
      exact hR v' h'' tk'' hP' fun b o hbw hbS e => hk'' b o hbw hbS (hk' b o hbw e)

theorem k_max_first_kw {kw : List (Str × Value)} (W : Walks prog w A.in1 I fp wr n P St) (bt : Nat → Nat → Bool) (hcmp : CmpOf prog w A.in1 .Gt P bt) (S : Addr) (hSf : S ∉ fp) (hn : 0 < n) {s : Shared} {c : Nat} (hst : St 0 s.heap)
    (hS : s.heap.get? S = some { cls := .type "list", dict := none, data := .seq #[] c, slots := #[] })
    (hR : ∀ v h' tk, P (argBest bt (n - 1)) v → (∀ b o, b ∉ wr → b ≠ S → s.heap.get? b = some o → h'.get? b = some o) → R (.ok (.ret v)) { s with heap := h', toks := tk }) :
    codeAny (model prog w) A (.builtin "max.loop" ⟨[.ref I, .none, .ref S], kw⟩) R s := by
  have hSw : S ∉ wr := fun h => hSf (W.sub _ h)
  have hname : (toString "max" ++ toString ".loop" : String) = "max.loop" := by decide
  refine codeAny_builtin F.entry_max_loop ?_
  rw [Around.under_plainId F.plain_max_loop _]
  show wpAny _ A.in1 (seqItems? (.ref S) >>= _) _ _ s
  refine wpAny_bind (wpAny_seqItems hS rfl ?_)
  show wpAny _ A.in1 (tryCatch (pyNext (.ref I)) _ >>= _) _ _ s
  refine wpAny_bind (wpAny_tryCatch (W.item 0 s _ _ hn hst fun v h' tk hP hst' hk' => ?_))
  have hS' := hk' S _ hSw hS
  show wpAny _ A.in1 (updateSeq S (fun _ => #[v, v]) >>= _) _ _ _
  refine wpAny_bind ?_
  refine wpAny_updateSeq hS' rfl ?_
  rw [hname]
  refine wpAny_pure ⟨plainId_quiet F.plain_max_loop _, k_max_loop_kw W bt hcmp S hSf _ 0 _ v _ rfl hn (W.frame _ _ _ hst' fun b hbf o e => ?_) hP (Heap.get?_update_self _ hS' rfl) fun v' h'' tk'' hP' hk'' => ?_⟩
  · exact (Heap.get?_update_other _ _ (fun h : S = b => hSf (by rw [h]; exact hbf))).trans e
  · exact hR v' h'' tk'' hP' fun b o hbw hbS e => hk'' b o hbw hbS ((Heap.get?_update_other _ _ (Ne.symm hbS)).trans (hk' b o hbw e))

/-- the empty one: the default -/
theorem k_max_empty_kw {x : Str} {d : Value} {kw : List (Str × Value)} (W : Walks prog w A.in1 I fp wr 0 P St) (S : Addr) (hSf : S ∉ fp) {s : Shared} {c : Nat} (hst : St 0 s.heap)
    (hS : s.heap.get? S = some { cls := .type "list", dict := none, data := .seq #[] c, slots := #[] })
    (hR : ∀ h' tk, (∀ b o, b ∉ wr → b ≠ S → s.heap.get? b = some o → h'.get? b = some o) → R (.ok (.ret d)) { s with heap := h', toks := tk }) :
    codeAny (model prog w) A (.builtin "max.loop" ⟨[.ref I, .none, .ref S], (x, d) :: kw⟩) R s := by
  have hSw : S ∉ wr := fun h => hSf (W.sub _ h)
  refine codeAny_builtin F.entry_max_loop ?_
  rw [Around.under_plainId F.plain_max_loop _]
  show wpAny _ A.in1 (seqItems? (.ref S) >>= _) _ _ s
  refine wpAny_bind (wpAny_seqItems hS rfl ?_)
  show wpAny _ A.in1 (tryCatch (pyNext (.ref I)) _ >>= _) _ _ s
  refine wpAny_bind (wpAny_tryCatch (W.done s _ _ hst fun h' tk hk' => ?_))
  show wpAny _ A.in1 (rule _ >>= _) _ _ _
  refine wpAny_bind (wpAny_rule ?_)
  exact wpAny_pure (hR h' tk fun b o hbw _ e => hk' b o hbw e)
end
namespace F
theorem args_max_default (a v : Value) : argsOk "max" ⟨[a], [(Str.ofString "default", v)]⟩ := by unfold argsOk; kernel_rfl
end F
section
variable {prog : Program} {w : World} {A : Around} {E : Value → Shared → Prop} {s : Shared}

theorem call_function_tree_kw {id : String} {b : Builtin} {args : List Value} {kw : List (Str × Value)} {Q : Value → Shared → Prop} (hk : builtinKind id = none) (hp : plainId id = true)
    (hb : entryFor table id = some b) (ha : argsOk id ⟨args, kw⟩)
    (hc : wpAny (model prog w) A.in1 (b ⟨args, kw⟩) (fun fin s' => match fin with
      | .done f => (match (Except.ok f : Result) with | .ok (.ret v) => Q v s' | .ok _ => False | .error e => E e s')
      | .again c' => c'.quiet = true ∧ codeAny (model prog w) A c' (fun r s' => match r with | .ok (.ret v) => Q v s' | .ok _ => False | .error e => E e s') s') E s) :
    wpAny (model prog w) A (call (.builtin id) args kw) Q E s := by
  refine wpAny_call (codeAny_call_builtin hp hb ?_)
  simp only [checkBuiltinCall, hk]
  cases hsig : Manifest.signature? id with
  | none => exact wpAny_pure hc
  | some sig =>
    simp only [argsOk, hsig] at ha
    have h2 : Bind.checkArgs id sig ⟨args, kw⟩ = pure () := ha
    show wpAny _ A.in1 (Bind.checkArgs id sig ⟨args, kw⟩) _ _ s
    rw [h2]; exact wpAny_pure hc

theorem call_max_default {x d : Value} {Q : Value → Shared → Prop}
    (h : wpAny (model prog w) A.in1 (pyIter x) (fun it s₂ => ∃ I fp wr n P St bt, it = .ref I ∧ Walks prog w A.in1 I fp wr n P St ∧ St 0 s₂.heap ∧ (∀ b ∈ fp, b < s₂.heap.objs.size) ∧ CmpOf prog w A.in1 .Gt P bt ∧
      ∀ v h' tk, (0 < n → P (argBest bt (n - 1)) v) → (n = 0 → v = d) → (∀ b o, b ∉ wr → s₂.heap.get? b = some o → h'.get? b = some o) → Q v { s₂ with heap := h', toks := tk }) E s) :
    wpAny (model prog w) A (call (.builtin "max") [x] [(Str.ofString "default", d)]) Q E s := by
  have hname : (toString "max" ++ toString ".loop" : String) = "max.loop" := by decide
  refine call_function_tree_kw F.kind_max F.plain_max F.entry_max (F.args_max_default _ _) ?_
  show wpAny _ A.in1 (Builtin.Builtins.bindParams "max" ["key", "default"] 0 ⟨[], [(Str.ofString "default", d)]⟩ >>= _) _ _ s
  refine wpAny_bind (wpAny_of_eq (show Builtin.Builtins.bindParams "max" ["key", "default"] 0 ⟨[], [(Str.ofString "default", d)]⟩ = pure [none, some d] from rfl) ?_)
  refine wpAny_bind (wpAny_pure ?_)
  refine wpAny_bind (wpAny_mono h (fun it s₂ h₂ => ?_) fun _ _ e => e)
  obtain ⟨I, fp, wr, n, P, St, bt, rfl, W, hst, hfp, hcmp, hQ⟩ := h₂
  refine wpAny_bind (wpAny_newObj_type ?_)
  have hSf : s₂.heap.objs.size ∉ fp := fun hm => Nat.lt_irrefl _ (hfp _ hm)
  rw [hname]
  cases n with
  | zero =>
    refine wpAny_pure ⟨plainId_quiet F.plain_max_loop _, k_max_empty_kw W s₂.heap.objs.size hSf (W.frame _ _ _ hst fun b _ o e => Heap.get?_push_of_some _ e) (Heap.get?_push_size _ rfl) fun h' tk hk => ?_⟩
    exact hQ d h' tk (fun q => absurd q (Nat.lt_irrefl _)) (fun _ => rfl) fun b o hbw e => hk b o hbw (Nat.ne_of_lt (Heap.lt_size e)) (Heap.get?_push_of_some _ e)
  | succ n =>
    refine wpAny_pure ⟨plainId_quiet F.plain_max_loop _, k_max_first_kw W bt hcmp s₂.heap.objs.size hSf (Nat.succ_pos n) (W.frame _ _ _ hst fun b _ o e => Heap.get?_push_of_some _ e) (Heap.get?_push_size _ rfl) fun v h' tk hP hk => ?_⟩
    exact hQ v h' tk (fun _ => hP) (fun q => Nat.noConfusion q) fun b o hbw e => hk b o hbw (Nat.ne_of_lt (Heap.lt_size e)) (Heap.get?_push_of_some _ e)

theorem max_default_intList {l : Addr} {xs : Array (Int × Tok)} {d : Value} {Q : Value → Shared → Prop} (hh : A.handled = none) (hl : s.heap.IsList l (intItems xs))
    (h : ∀ v h' tk, (0 < xs.size → (intItems xs)[argBest (fun i j => decide (numAt xs i > numAt xs j)) (xs.size - 1)]? = some v) → (xs.size = 0 → v = d) → (∀ b o, s.heap.get? b = some o → h'.get? b = some o) → Q v { s with heap := h', toks := tk }) :
    wpAny (model prog w) A (call (.builtin "max") [.ref l] [(Str.ofString "default", d)]) Q E s := by
  refine call_max_default (iter_intList hl fun s₂ e st hfp hlI => ?_)
  subst e
  refine ⟨_, _, _, _, _, _, _, rfl, Walks.list (A := A.in1) hh _ l hlI (intItems xs), st, hfp, CmpOf.ints_gt (numAt xs) (fun _ _ => intItems_at), fun v h' tk hP h0 hk => ?_⟩
  exact h v h' tk (fun q => by simpa [intItems] using hP (by simpa [intItems] using q)) (fun q => h0 (by simpa [intItems] using q)) (old_kept hk)
end
end PySem

/-! defs that show data by repr: nothing may be on its way to be shown around them -/
namespace RW
open PySem PySem.Spec PyProof.Rows L2 PySem.RW

theorem deeper_guards {A : Around} {env : Env} (h : A.guards = some []) : (A.deeper env).guards = some [] := by
  first | exact h | (simpa [Around.deeper] using h)

structure FnG (P : Program) (w : World) (K : PySem.W.Frag) (mg : Str → Option Value) (base : Heap) (k : Nat) (f : Addr) (fd : FuncData) (ps : List Str) (sp : Sp) : Prop where
  len : ∀ vs H Q E, sp vs H Q E → vs.length = ps.length
  run : ∀ (A : Around) (outer : List Env) (s : Shared) (H : Hp) (args : Args) (us : List Value) (vs : List V) (Q : VK) (E : XK), A.guards = some [] → Room k A → Env0 P w K mg base A outer s H → BindsTo s fd args (ps.zip us) → Vals vs us → sp vs H Q E →
    codeAny (model P w) A (.call (.ref f) args) (CR CX0 outer P w H s Q E) s

section
variable {P : Program} {w : World} {K : PySem.W.Frag} {mg : Str → Option Value} {base : Heap}
theorem fnG_of {x qual : Str} {st : Stmt} {f : Addr} {fd : FuncData} {N ps : List Str} {k : Nat} {sp : Sp} (F : Fun K x qual st f fd) (S : FnScope N ps (defScope st)) (len : ∀ vs H Q E, sp vs H Q E → vs.length = ps.length)
    (hbody : ∀ (cdv : Value) (A : Around) (outer : List Env) (s : Shared) (H : Hp) (vs : List V) (Q : VK) (E : XK), (A.deeper (envOfC qual (defScope st) s.heap.objs.size f cdv)).guards = some [] → Room k (A.deeper (envOfC qual (defScope st) s.heap.objs.size f cdv)) → sp vs H Q E →
      ∃ t, PSs (cxOf CX0 P w K mg base N qual (defScope st) f cdv A outer s H E).nox (defBody st) t ∧ t { nx := fun _ H' => Q .non H', rt := Q } (start N vs) H) : FnG P w K mg base (k + 1) f fd ps sp := by
  obtain ⟨oc, od, kV, doc, pm, an, cd, ct, osl, rfl, lk, hcd⟩ := F.ex
  refine ⟨len, fun A outer s H args us vs Q E hG hr e0 hb r hsp => ?_⟩
  have hl := len _ _ _ _ hsp
  have KX : K.In s.heap := e0.mod.kin.keeps fun b o e => (e0.bs b o e).1
  have lim : s.heap.NoLimit := e0.mod.nolimit.keeps fun b o e => (e0.bs b o e).1
  have hkind : ∀ y ∈ ps.zip us, (defScope st).names.lookup y.1 = some .local ∨ ((defScope st).names.lookup y.1 = some .cell ∧ ((cellsFrom (s.heap.objs.size + 1) (defScope st).names []).lookup y.1).isSome = true) := fun ⟨n, v⟩ hy => by
    rcases S.par n (List.of_mem_zip hy).1 with q | q
    · exact .inl q
    · exact .inr ⟨q, PySem.W.cellsFrom_some _ _ _ (.inl q)⟩
  refine codeAny_call_function hr.depth (KX _ _ lk) rfl S.co S.gen rfl (PySem.W.codeRec_of KX hcd) (hb _ _ _ _ ?_)
  refine wpAny_newFunctionEnv_cells S.kind hkind fun env he s1 x => ?_
  subst he
  refine ⟨lim.keeps x.toInCall.keep, codeAny_func ?_⟩
  obtain ⟨t, ht0, hq⟩ := hbody cd A outer s H vs Q E (deeper_guards hG) (hr.deeper _) hsp
  have ht := ht0.nox
  have I : Inv (cxOf CX0 P w K mg base N qual (defScope st) f cd A outer s H E) [] (start N vs) H s1 := inv_start S hr.hd e0 hl r x
  refine wpAny_mono (ht.run [] s1 (start N vs) H _ I hq) (fun fl s' hs => ?_) fun e s' hs => hs
  have fin : ∀ {σ' : L2.St} {H' : Hp} {v : V} {u : Value}, Inv (cxOf CX0 P w K mg base N qual (defScope st) f cd A outer s H E) [] σ' H' s' → RelV v u → Q v H' → CE outer P w H s Q u s' :=
    fun {σ' H' v u} J rv q => ⟨v, H', J.os, J.bare, J.base, J.hok, rv, q⟩
  cases fl with
  | ret u =>
    obtain ⟨v, σ', H', J, rv, q⟩ := hs
    exact fin J rv q
  | next =>
    obtain ⟨σ', H', J, q⟩ := hs
    exact fin (v := V.non) (u := Value.none) J rfl q
  | brk =>
    obtain ⟨_, _, _, q⟩ := hs
    exact False.elim q
  | cont =>
    obtain ⟨_, _, _, q⟩ := hs
    exact False.elim q
end

section
variable {X : Cx} {k : Nat} {f : Addr} {fd : FuncData} {ps : List Str} {sp : Sp} {E : XK} {x : Str} {p pos : Pos} {e : Expr} {es : List Expr} {t : TA}
theorem runG {pins : List (Addr × Obj)} {σ : L2.St} {H : Hp} {s : Shared} {Q : VK} {us : List Value} {vs : List V} (F : FnG X.prog X.w X.K X.mg X.base k f fd ps sp) (hG : X.A.guards = some []) (hr : Room k X.A) (hb : Binds X.K fd ps [])
    (I : Inv X pins σ H s) (r : Vals vs us) (h : sp vs H Q E) : wpAny (model X.prog X.w) X.A (call (.ref f) us) (EP X pins σ Q) X.xe s := by
  have hl : (us ++ []).length = ps.length := by rw [List.append_nil, ← r.length]; exact F.len _ _ _ _ h
  have hbt := hb s us I.kIn hl
  rw [List.append_nil] at hbt
  refine wpAny_call (codeAny_mono (F.run X.A X.stack s H ⟨us, []⟩ us vs Q E hG hr I.env0 hbt r h) fun r s' hq => ?_)
  cases r with
  | error e => exact False.elim hq
  | ok fl =>
    cases fl with
    | ret u => exact I.after hq
    | next => exact False.elim hq
    | brk => exact False.elim hq
    | cont => exact False.elim hq
def tCallG (sp : Sp) (E : XK) (t : TA) : TE := fun σ H Q => t σ H fun vs H1 => sp vs H1 Q E
theorem pe_callG (F : FnG X.prog X.w X.K X.mg X.base k f fd ps sp) (hG : X.A.guards = some []) (hr : Room k X.A) (hg : Gl X x) (hm : X.mg x = some (.ref f)) (hk : PySem.W.keepIn X.K (.ref f) = true) (hb : Binds X.K fd ps [])
    (ha : PA X (e :: es) t) (hdb : (x == ("__debug__" : Str)) = false := by decide) (he : starEach (e :: es) X.env = (false, eval e X.env) :: starEach es X.env := by rfl) (hpl : (backTo pos (starEach es X.env)).any (·.1) = false := by rfl) :
    PE X (.Call (.Name x p) (e :: es) [] pos) (tCallG sp E t) := by
  refine ⟨fun pins s σ H Q I h => ?_⟩
  refine wpAny_Call_Name_kw (ld_glob I hg hm ?_ hdb)
  refine PySem.W.callWith_K (h₀ := X.base) I.ok.mod.kin hk (thn (ha.run pos pins s σ H _ I h) fun us s1 ⟨vs, H1, I1, r, q⟩ => ⟨I1.kIn, ?_⟩) he hpl
  exact runG F hG hr hb I1 r q

/-- repr(x) of a list -/
def rRepr (K : PySem.W.Frag) : List V → Hp → VK → Prop := fun vs H Q => ∃ (a : Addr) (ds : List PyData), vs = [.ref a] ∧ Dp K H (.ref a) (.list ds) ∧ wide (.list ds) = true ∧ (PyData.list ds).shown.length ≤ sizeLine ∧ (PyData.list ds).depth ≤ 50 ∧ Q (.str (PyData.list ds).shown) H
theorem call_reprW (hG : X.A.guards = some []) (hr : X.A.units + 64 < cLine) (S : StatAt X.base) : CallR X (.builtin "repr") (rRepr X.K) := by
  intro pins s σ H vs us Q I r h
  obtain ⟨a, ds, rfl, hd, hw, hz, hdp, q⟩ := h
  obtain ⟨u, rfl, rv⟩ := vals1 r
  obtain rfl : u = Value.ref a := rv
  obtain ⟨as, rd⟩ := Dp.reads I _ _ _ hd rfl
  exact repr_list (S.keep fun b o e => I.bk b o e) rd hw hz hG (by omega) fun h' u tk hk => ⟨.str _, H, I.kept hk, ⟨_, rfl⟩, q⟩

/-- max(xs, default=None) of ints -/
def rMaxD (K : PySem.W.Frag) : List V → List V → Hp → VK → Prop := fun vs zs H Q => ∃ (a : Addr) (ns : List Int) (d : V), vs = [.ref a] ∧ zs = [d] ∧ SqL K H a (ns.map V.int) ∧ (ns = [] → Q d H) ∧ (∀ m, m ∈ ns → (∀ y, y ∈ ns → y ≤ m) → Q (.int m) H)
end
section
variable {prog : Program} {w : World} {A : Around} {E : Value → Shared → Prop} {s : Shared}
theorem maxD_raw {l : Addr} {its : List Value} {ns : List Int} {d : Value} {Q : Value → Shared → Prop} (hh : A.handled = none) (hl : s.heap.IsList l its.toArray) (hi : IntsAre its ns)
    (h0 : ns = [] → ∀ h' tk, (∀ b o, s.heap.get? b = some o → h'.get? b = some o) → Q d { s with heap := h', toks := tk })
    (h : ∀ h' tk M t', (∀ b o, s.heap.get? b = some o → h'.get? b = some o) → M ∈ ns → (∀ a, a ∈ ns → a ≤ M) → Q (.int M t') { s with heap := h', toks := tk }) : wpAny (model prog w) A (call (.builtin "max") [.ref l] [(Str.ofString "default", d)]) Q E s := by
  obtain ⟨xs, e⟩ := hi.allInts.items
  have hn : numsOf (intItems xs).toList = ns := by rw [← e]; exact hi.numsOf
  rw [nums_intItems] at hn
  subst hn
  rw [e] at hl
  refine PySem.max_default_intList hh hl fun v h' tk hv hd hk => ?_
  by_cases hz : xs.size = 0
  · obtain rfl := hd hz
    exact h0 (List.map_eq_nil_iff.mpr (List.eq_nil_of_length_eq_zero (by simpa using hz))) h' tk hk
  · have hsz : 0 < xs.size := Nat.pos_of_ne_zero hz
    obtain ⟨t, rfl⟩ := intItems_at (hv hsz)
    obtain ⟨h1, h2⟩ := argBest_gt (numAt xs) (xs.size - 1)
    refine h h' tk _ t hk ?_ fun a ha => ?_
    · rw [numAt_eq]; exact PySem.getD_mem (by rw [List.length_map, Array.length_toList]; omega)
    · obtain ⟨j, hj, rfl⟩ := mem_getD ha
      rw [List.length_map, Array.length_toList] at hj
      rw [← numAt_eq]; exact h2 j (by omega)
end
section
variable {X : Cx}
theorem call_maxD (hc : X.calm = true) : CallRK X (.builtin "max") [Str.ofString "default"] (rMaxD X.K) := by
  intro pins s σ H vs zs us ws Q I r rz h
  obtain ⟨a, ns, d, rfl, rfl, hs, q0, q⟩ := h
  obtain rfl := Vals.ref1 r
  obtain ⟨w1, rfl, e1⟩ := vals1 rz
  obtain ⟨its, rv, hl, _⟩ := I.list hs
  exact maxD_raw (I.ok.hd hc) hl.isList rv.ints (fun e h' tk hk => ⟨_, H, I.kept hk, e1, q0 e⟩) fun h' tk m t' hk h1 h2 => ⟨.int _, H, I.kept hk, ⟨_, rfl⟩, q m h1 h2⟩
end
end RW

namespace RW
open PySem PySem.Spec PyProof.Rows L2 PySem.RW
open PySem.W in
theorem ns_none_of {K : Frag} {h : Heap} {a : Addr} {m : Str → Option Value} {n : Str} (X : K.In h) (G : h.Ns a m) (e : nsIn K a n = some none) : m n = none := by
  obtain ⟨o, es, ep, ho, hd, _, hf⟩ := G
  unfold nsIn at e
  split at e
  · rename_i c d es' n' sl q
    have := X _ _ q
    rw [ho] at this
    cases this
    cases hd
    split at e
    · cases e
    · rename_i hn
      rw [← hf]
      split at e
      · cases e
      · unfold nsFind findBy
        rw [← Array.find?_toList, hn]
        rfl
  · cases e
theorem stat_of {K : PySem.W.Frag} {h : Heap} (X : K.In h) (G : h.NoLimit) (e : PySem.W.nsIn K cStatics "sys.int_max_str_digits" = some none) : StatAt h := by
  obtain ⟨mc, n, _⟩ := G
  exact ⟨mc, n, ns_none_of X n e⟩

/-- the law's def called with the script, where nothing is being shown -/
theorem law_callG {P : Program} {w : World} {K : PySem.W.Frag} {mg mb : Str → Option Value} {k : Nat} {fa a : Addr} {fd : FuncData} {x : Str} {sp : Sp} {s1 : Shared} {vs : List Value} {ns : List Int}
    (KX : K.In s1.heap) (hns : s1.heap.Ns mainGlobals mg) (hb : s1.heap.Ns builtinsNs mb) (hbb : ∀ x : Str, x ≠ "__name__" → mb x = bootBuiltins x) (hlim : s1.heap.NoLimit) (hg : s1.gens = #[])
    (ha : s1.heap.get? a = some { cls := .type "list", data := .seq vs.toArray }) (hi : IntsAre vs ns) (hl : ns.length ≤ sizeLine) (hr : Room k callerA)
    (F : ∀ base : Heap, Mod K mg base → FnG P w K mg base k fa fd [x] sp) (hbind : ∀ (s : Shared) (u : Value), BindsTo s fd ⟨[u], []⟩ [(x, u)])
    (hsp : ∀ H : Hp, Only H → SqL K H a (ns.map V.int) → sp [.ref a] H (fun v _ => v = .bl true) fun _ _ _ => False) :
    codeAny (model P w) callerA (.call (.ref fa) ⟨[.ref a], []⟩) (fun r s' => r = .ok (.ret (.bool true)) ∧ OldK s1.heap s'.heap ∧ s'.os = s1.os ∧ AllBare s'.gens) s1 := by
  have rv := vals_ints hi
  have lenV := hi.length
  have core : ∀ H : Hp, Only H → SqL K H a (ns.map V.int) → HOk P w H s1.heap → (∀ b, H b ≠ none → b = a) → (H a ≠ none → K.lookup a = none) →
      codeAny (model P w) callerA (.call (.ref fa) ⟨[.ref a], []⟩) (fun r s' => r = .ok (.ret (.bool true)) ∧ OldK s1.heap s'.heap ∧ s'.os = s1.os ∧ AllBare s'.gens) s1 := by
    intro H hO hS hok hA hK
    have keepB : ∀ {b : Addr} {o : Obj}, s1.heap.get? b = some o → H b = none → (hidT s1.heap H).get? b = some o := fun e n => hidT_get e n
    have noD : ∀ {b : Addr} {o : Obj} {es : Array DictEntry} {ep : Nat}, s1.heap.get? b = some o → o.data = .dict es ep → H b = none := fun {b o es ep} e d => by
      cases q : H b with
      | none => rfl
      | some u =>
        have e' : b = a := hA b (by rw [q]; simp)
        subst e'
        rw [ha] at e; cases e
        have d' : Data.seq vs.toArray _ = Data.dict es ep := d
        cases d'
    have nsK : ∀ {b : Addr} {m : Str → Option Value}, s1.heap.Ns b m → (hidT s1.heap H).Ns b m := fun {b m} ⟨o, es, ep, e, d, r⟩ => ⟨o, es, ep, keepB e (noD e d), d, r⟩
    have hKb : K.In (hidT s1.heap H) := fun b o e => keepB (KX b o e) (by
      cases q : H b with
      | none => rfl
      | some u =>
        have e' : b = a := hA b (by rw [q]; simp)
        subst e'
        rw [hK (by rw [q]; simp)] at e; cases e)
    have hM : Mod K mg (hidT s1.heap H) := ⟨hKb, nsK hns, ⟨mb, nsK hb, hbb⟩, let ⟨mc, h1, h2⟩ := hlim; ⟨mc, nsK h1, h2⟩⟩
    have e0 : Env0 P w K mg (hidT s1.heap H) callerA [] s1 H := ⟨rfl, hM, fun b o e => of_hidT e, Nat.le_of_eq (hidT_size _ _), trivial, fun b hb => absurd (show b ∈ ([] : List Addr) from hb) (by simp), hok, .of_eq hg⟩
    refine codeAny_mono ((F _ hM).run callerA [] s1 H ⟨[.ref a], []⟩ [.ref a] [.ref a] _ _ rfl hr e0 (hbind s1 (.ref a)) (.cons rfl .nil) (hsp H hO hS)) fun r s' h => ?_
    cases r with
    | error e => exact False.elim h
    | ok fl =>
      cases fl with
      | next => exact False.elim h
      | brk => exact False.elim h
      | cont => exact False.elim h
      | ret u =>
        obtain ⟨v, H', os, bare, un, hok', r', q⟩ := h
        have q' : v = .bl true := q
        subst q'
        obtain rfl : u = Value.bool true := r'
        refine ⟨rfl, OldK.of_keep fun b o e => ?_, os, bare⟩
        cases q : H b with
        | none => exact un.keep b o e q (by intro z; exact absurd (show b ∈ ([] : List Addr) from z) (by simp)) (by simp)
        | some u =>
          rcases hO b with z | ⟨ob, xs, z⟩
          · rw [q] at z; cases z
          · have z2 := un.frzs b ob _ z
            obtain ⟨e1, _⟩ := hok b _ z
            obtain ⟨e2, _⟩ := hok' b _ z2
            rw [e] at e1; cases e1
            exact e2
  cases hk : K.lookup a with
  | some o =>
    have e := KX a o hk
    rw [ha] at e
    cases e
    refine core (fun _ => none) (fun _ => .inl rfl) (.inr ⟨_, vs.toArray, _, hk, rfl, rfl, rfl, by rw [List.size_toArray, lenV]; exact hl, by simpa using rv⟩) (fun b u z => by have z' : (none : Option HO) = some u := z; cases z') (fun b z => absurd rfl z) fun z => absurd rfl z
  | none =>
    refine core (fun b => if b = a then some (.frz { cls := .type "list", data := .seq vs.toArray } (.lst (ns.map V.int))) else none) (fun b => ?_) (.inl (.inr ⟨{ cls := .type "list", data := .seq vs.toArray }, if_pos rfl⟩)) (fun b u z => ?_) (fun b z => ?_) fun _ => hk
    · by_cases hb : b = a
      · exact .inr ⟨_, _, if_pos hb⟩
      · exact .inl (if_neg hb)
    · by_cases hb : b = a
      · have z' := (if_pos hb).symm.trans z
        cases z'
        subst hb
        exact ⟨ha, by rw [List.length_map]; exact hl, vs, _, rv, ha⟩
      · have z' := (if_neg hb).symm.trans z
        cases z'
    · by_cases hb : b = a
      · exact hb
      · exact absurd (if_neg hb) z

theorem walk_G {l : PySem.W.OpenLaw} {n k : Nat} {q : Program} {loose : List Str} {XP : (Str → Option Value) → Heap → Prop} {YP : World → Heap → Prop} {d : DefRec} {K : Params → PySem.W.Frag} {sp : PySem.W.Frag → Sp} {x : Str}
    (hn : l.most = some n) (hn2 : n ≤ sizeLine) (hdf : d.params.defaults = []) (hr : Room k callerA)
    (hY : ∀ (w : World) (h : Heap), YP w h → (K w.params).In h)
    (F : ∀ (w : World) (mg : Str → Option Value) (fa : Addr) (h : Heap), (K w.params).In h → h.Ns mainGlobals mg → mg d.name = some (.ref fa) →
      ∃ fd : FuncData, (∀ (s : Shared) (u : Value), BindsTo s fd ⟨[u], []⟩ [(x, u)]) ∧
        ∀ base : Heap, Mod (K w.params) mg base → FnG l.prog w (K w.params) mg base k fa fd [x] (sp (K w.params)))
    (hsp : ∀ (K : PySem.W.Frag) (H : Hp) (a : Addr) (ns : List Int), ns.length ≤ n → (∀ z ∈ ns, Builtin.Int.intBits z ≤ 1048576) → Only H → SqL K H a (ns.map V.int) → sp K [.ref a] H (fun v _ => v = .bl true) fun _ _ _ => False) :
    PySem.W.WalkO q loose XP YP l.row.toRowW d [] (fun f vs => PySem.call f vs) := by
  refine Att.attach_callB hn hdf fun w s0 s1 mg mb fa o pm cd doc a vs ns G Y ho hd hcd hmg hobj hints hlen hbits hg => ?_
  have KX := hY w _ Y
  obtain ⟨fd, hb, hF⟩ := F w mg fa _ KX G.T.g hmg
  exact law_callG KX G.T.g G.T.b G.T.builtins G.T.nolimit hg hobj hints (Nat.le_trans hlen hn2) hr hF hb (fun H hO hS => hsp (K w.params) H a ns hlen hbits hO hS)
end RW

namespace RW
open PySem PySem.Spec PyProof.Rows L2 PySem.RW
/-- repr(x) of a tuple -/
def rReprT (K : PySem.W.Frag) : List V → Hp → VK → Prop := fun vs H Q => ∃ (a : Addr) (ds : List PyData), vs = [.ref a] ∧ Dp K H (.ref a) (.tuple ds) ∧ wide (.tuple ds) = true ∧ (PyData.tuple ds).shown.length ≤ sizeLine ∧ (PyData.tuple ds).depth ≤ 50 ∧ Q (.str (PyData.tuple ds).shown) H
theorem call_reprT {X : Cx} (hG : X.A.guards = some []) (hr : X.A.units + 64 < cLine) (S : StatAt X.base) : CallR X (.builtin "repr") (rReprT X.K) := by
  intro pins s σ H vs us Q I r h
  obtain ⟨a, ds, rfl, hd, hw, hz, hdp, q⟩ := h
  obtain ⟨u, rfl, rv⟩ := vals1 r
  obtain rfl : u = Value.ref a := rv
  obtain ⟨as, rd⟩ := Dp.reads I _ _ _ hd rfl
  exact repr_tuple (S.keep fun b o e => I.bk b o e) rd hw hz hG (by omega) fun h' u tk hk => ⟨.str _, H, I.kept hk, ⟨_, rfl⟩, q⟩
end RW

/-! enumerate(t), t a tuple -/
namespace RZ
open PySem PySem.Spec
theorem meets_enum0 {v : Value} {o : Obj} {H : Heap → Prop} (B : Begins v o H) :
    Meets (Builtin.«enumerate.__new__» ⟨[.type "enumerate", v], []⟩) (fun _ R s => H s.heap ∧
      R (.ok (.ret (.ref (s.heap.push o).objs.size))) { s with heap := (s.heap.push o).push { cls := .type "enumerate", data := .fields #[.none, .bool false, .ref s.heap.objs.size, rawInt 0, .none, .none] } }) :=
  .of_wp fun prog w A R s h => by
    obtain ⟨hp, g, d, tk, os⟩ := s; obtain ⟨h1, h⟩ := h
    have hsub := sub_enumerate
    have q1 : ∀ {A' : Around} {E : Value → Shared → Prop} {Q : Value → Shared → Prop}, Q (.ref hp.objs.size) ⟨hp.push o, g, d, tk, os⟩ → wpAny (model prog w) A' (pyIter v) Q E ⟨hp, g, d, tk, os⟩ :=
      fun q => B.iter prog w _ _ ⟨hp, g, d, tk, os⟩ _ h1 q
    wp_walk using q1
    refine wpAny_stack_any fun st => wpAny_pure ?_
    split
    · rename_i c _ _ _ _ _
      cases (c == Value.type "enumerate")
      · wp_walk using q1
        exact ⟨_, rfl, h⟩
      · wp_walk using q1
        exact ⟨_, rfl, h⟩
    · wp_walk using q1
      exact ⟨_, rfl, h⟩
section
variable {prog : Program} {w : World} {A : Around} {E : Value → Shared → Prop} {s : Shared}
theorem enum_begins0 {v : Value} {o : Obj} {H : Heap → Prop} {Q : Value → Shared → Prop} (B : Begins v o H) (h1 : H s.heap)
    (h : ∀ h', IsEnum h' (s.heap.objs.size + 1) s.heap.objs.size 0 .none → h'.get? s.heap.objs.size = some o → h'.objs.size = s.heap.objs.size + 2 →
      (∀ b o, s.heap.get? b = some o → h'.get? b = some o) → Q (.ref (s.heap.objs.size + 1)) { s with heap := h' }) :
    wpAny (model prog w) A (call (.type "enumerate") [v]) Q E s := by
  refine callType_new F.called_enumerate (by decide) (F.typeCall_enumerate_1 _) (F.newCall_enumerate_1 _) (fun obj => F.args_object_init_2 obj _) F.entry_enumerate_new
    (meets_enum0 B) ⟨h1, ?_⟩
  have hz : (s.heap.push o).objs.size = s.heap.objs.size + 1 := Heap.size_push ..
  show _ ∧ _
  rw [hz]
  have he : IsEnum ((s.heap.push o).push { cls := .type "enumerate", data := .fields #[.none, .bool false, .ref s.heap.objs.size, rawInt 0, .none, .none] }) (s.heap.objs.size + 1) s.heap.objs.size 0 .none := by
    have := Heap.get?_push_size (s.heap.push o) (o := { cls := .type "enumerate", data := .fields #[.none, .bool false, .ref s.heap.objs.size, rawInt 0, .none, .none] }) rfl
    rw [hz] at this; exact this
  refine ⟨⟨_, he, rfl⟩, h _ he (Heap.get?_push_of_some _ (Heap.get?_push_size _ B.free)) (by rw [Heap.size_push, hz]) fun b o x => Heap.get?_push_of_some _ (Heap.get?_push_of_some _ x)⟩
end
open L2 PyProof.Rows
/-- the tuple at a, each item in a new pair -/
def IteT (K : PySem.W.Frag) (a : Addr) : It :=
  ⟨fun i H => ∃ (xs : List V) (x : V), SqT K H a xs ∧ xs[i]? = some x, fun i H v H' => ∃ T x, v = .ref T ∧ H T = none ∧ H' = upd H T (.tup [.int (i : Nat), x]) ∧ ∀ xs, SqT K H a xs → xs[i]? = some x, fun i H => ∃ xs : List V, SqT K H a xs ∧ xs.length ≤ i⟩
theorem turn_enumT {P : Program} {w : World} {K : PySem.W.Frag} {elts : List Expr} {kk : Nat} {tpos : Pos} {a e it : Addr} (hne : e ≠ it) (hea : e ≠ a) (hia : a ≠ it) :
    Turn P w K (.Tuple elts kk tpos) (IteT K a) [e, it] e (fun i h => (∃ old, IsEnum h e it ((i : Nat) : Int) old) ∧ h.IsTupleIter it a i) where
  mem := by simp
  obj := fun i h st b hb => by
    obtain ⟨⟨old, he⟩, ⟨o, ho, hc, hd⟩⟩ := st
    have e' : b = e ∨ b = it := by simpa using hb
    rcases e' with z | z
    · rw [z]; exact ⟨_, he, fun v q => nomatch q⟩
    · rw [z]; exact ⟨o, ho, fun v q => by rw [hd] at q; cases q⟩
  keep := fun i h h' st k => let ⟨⟨old, he⟩, hi⟩ := st; ⟨⟨old, k e (by simp) _ he⟩, hi.at fun o q => k it (by simp) o q⟩
  item := by
    intro X hP hw hK hc i pins s σ H E I hf st hg
    subst hP hw hK
    obtain ⟨⟨old, he⟩, hit⟩ := st
    obtain ⟨xs, x, hq, hx⟩ := hg
    obtain ⟨its, rv, p, hz⟩ := I.tuple hq
    obtain ⟨u, hu, ru⟩ := rv.get hx
    have hel : e < s.heap.objs.size := Heap.lt_size he
    have hil : it < s.heap.objs.size := by obtain ⟨_, q, _⟩ := hit; exact Heap.lt_size q
    have hlt : i < its.toArray.size := by
      have := (List.getElem?_eq_some_iff.mp hu).1
      simpa using this
    refine wpAny_pyNext_enum_itemD (Draws.tuple (A := X.A.in1) (show X.A.in1.handled = none from I.ok.hd hc) it a hia its.toArray) he ⟨hit, p⟩ hlt hne (by simp [hne, hea]) fun y h' tk hP ho hst' hT hsz hk => ?_
    obtain ⟨hit', p'⟩ := hst'
    have ey : y = u := by
      have : its.toArray[i]? = some u := by simpa using hu
      rw [this] at hP
      exact (Option.some.inj hP).symm
    subst ey
    refine ⟨_, rfl, wpAny_letOwnedTupleGo_enum (s := { s with heap := h', toks := tk + 1 }) ho fun h'' he' sb => ?_⟩
    have hT2 : h''.get? s.heap.objs.size = some { cls := .type "tuple", data := .seq #[.int i tk, y] } := (sb.2 _ (Nat.ne_of_gt hel)).trans hT
    have new : ObjOk X.prog X.w (upd H s.heap.objs.size (.tup [.int (i : Nat), x])) h'' s.heap.objs.size (.tup [.int (i : Nat), x]) :=
      ⟨by show 2 ≤ sizeLine; decide, [.int i tk, y], .cons ⟨_, rfl⟩ (.cons ru .nil), ⟨_, hT2, rfl, _, rfl⟩⟩
    have I1 : Inv X pins σ (upd H s.heap.objs.size (.tup [.int (i : Nat), x])) { s with heap := h'', toks := tk + 1 } :=
      I.turnedNew (t' := tk + 1) (ch := [e, it]) (fun b ob hb q => (sb.2 b (fun z => hb (by simp [z]))).trans (hk b ob (fun z => hb (by simp [z])) (fun z => hb (by simp [z])) q)) hf (Nat.le_refl _) new
    refine ⟨.ref s.heap.objs.size, _, I1, rfl, ⟨_, x, rfl, I.hok.fresh (Nat.le_refl _), rfl, fun ys hy => by rw [I.tuple_inj hy hq]; exact hx⟩, ⟨⟨y, ?_⟩, hit'.at fun o q => (sb.2 it (Ne.symm hne)).trans q⟩, fun b hb => ?_⟩
    · have e1 : ((i + 1 : Nat) : Int) = (i : Int) + 1 := by omega
      rw [e1]; exact he'
    · have hb' : b < s.heap.objs.size := by
        have e' : b = e ∨ b = it := by simpa using hb
        rcases e' with z | z
        · rw [z]; exact hel
        · rw [z]; exact hil
      rw [upd_ne (Nat.ne_of_lt hb')]
      exact (hf b hb).1
  done := by
    intro X hP hw hK hc i pins s σ H E I hf st hg
    subst hP hw hK
    obtain ⟨⟨old, he⟩, hit⟩ := st
    obtain ⟨xs, hq, hx⟩ := hg
    obtain ⟨its, rv, p, hz⟩ := I.tuple hq
    obtain ⟨f0, f1, f2, f3, f4, f5⟩ := hf it (by simp)
    have hl := rv.length
    have hT : s.TypeIs (.ref e) "enumerate" := ⟨_, he, rfl⟩
    unfold pyNext
    refine wpAny_bind (wpAny_attempt (wpAny_callSpecial?_slot (name := Str.ofString "__next__") hT F.slot_enumerate_next
      (wpAny_call_entry F.slot_enumerate_next hT F.entry_enumerate_next ?_ (F.args_enumerate_next_1 _))))
    show wpAny _ _ (field (.ref e) 2 >>= _) _ _ _
    refine wpAny_bind (wpAny_field he rfl (x := .ref it) rfl ?_)
    refine wpAny_bind (wpAny_nextOf_tuple_end (I.ok.hd hc) hit p (by simp; omega) fun h' x he' hx' => ?_)
    obtain ⟨o, ho, hc2⟩ := hx'
    refine wpAny_bind (wpAny_isInstance (T := "StopIteration") (b := true) ⟨o, ho, hc2⟩ isSubtype_stop ?_)
    exact wpAny_pure ⟨rfl, I.turned (t' := s.toks) (fun b o hb q => he' b o hb q) f0 f1 f3 f4 f5⟩
  self := fun A i s Q E st h => let ⟨⟨_, he⟩, _⟩ := st; wpAny_pyIter_enum he h
def iEnumT (K : PySem.W.Frag) (ta : TA) : TI := fun σ H R => ta σ H fun vs H1 => ∃ a xs, vs = [.ref a] ∧ SqT K H1 a xs ∧ R (IteT K a) H1
theorem pi_enumT {X : Cx} {e : Expr} {ta : TA} {p pos tpos : Pos} {elts : List Expr} {kk : Nat} (hg : Gl X "enumerate") (hm : X.mg "enumerate" = none) (ha : PA X [e] ta) (hs : starEach [e] X.env = [(false, eval e X.env)] := by rfl) :
    PI X (.Tuple elts kk tpos) (.Call (.Name "enumerate" p) [e] [] pos) (iEnumT X.K ta) := by
  refine ⟨fun pins s σ H R I h => ?_⟩
  refine Call_ (ld_blt I hg hm boot_enumerate (PyProof.Rows.callWith_type1 (thn (ha.run pos pins s σ H _ I h) fun us s1 ⟨vs, H1, I1, r1, q1⟩ => ?_) hs rfl))
  obtain ⟨a, xs, ex, hq, q⟩ := q1
  subst ex
  cases r1 with
  | cons r rr =>
    cases rr
    cases r
    obtain ⟨its, rv, p', hz⟩ := I1.tuple hq
    have hla : a < s1.heap.objs.size := by obtain ⟨_, q, _⟩ := p'; exact Heap.lt_size q
    refine enum_begins0 (begins_tuple a its.toArray) p' fun h' he hit hsz hk => wpAny_pyIter_enum he ?_
    have I2 : Inv X pins σ H1 { s1 with heap := h' } := I1.kept (t' := s1.toks) hk
    refine ⟨s1.heap.objs.size + 1, [s1.heap.objs.size + 1, s1.heap.objs.size], _, _, H1, rfl, I2, turn_enumT (Nat.succ_ne_self _) (Nat.ne_of_gt (Nat.lt_succ_of_lt hla)) (Nat.ne_of_lt hla), ⟨⟨.none, he⟩, ⟨_, hit, rfl, rfl⟩⟩, fun b hb => ?_, q⟩
    have e' : b = s1.heap.objs.size + 1 ∨ b = s1.heap.objs.size := by simpa using hb
    have hle : s1.heap.objs.size ≤ b := by
      rcases e' with z | z
      · rw [z]; exact Nat.le_add_right _ _
      · rw [z]; exact Nat.le_refl _
    exact I1.fpOk hle (I1.hok.fresh hle)
theorem walk_enumT {K : PySem.W.Frag} {a : Addr} {xs : List V} : Walk (IteT K a) xs.length (fun H => SqT K H a xs) (fun i H v H' => ∃ T x, v = .ref T ∧ H T = none ∧ H' = upd H T (.tup [.int (i : Nat), x]) ∧ xs[i]? = some x) := by
  refine ⟨fun i _ hi q => ⟨xs, xs[i], q, by simp [hi]⟩, fun _ q => ⟨xs, q, Nat.le_refl _⟩, fun i H v H' _ q y => ?_⟩
  obtain ⟨T, x, h1, h2, h3, h4⟩ := y
  exact ⟨T, x, h1, h2, h3, h4 xs q⟩
end RZ

/-! data of any kind, dicts with whole numbers for keys among them; u and d stand for two lists that may change -/
namespace RZ
open PySem PySem.Spec PyProof.Rows L2
/-- all stands but the urn's two lists that change -/
def Off (u d : Addr) (H H' : Hp) : Prop := ∀ b o, b ≠ u → b ≠ d → H b = some o → H' b = some o
theorem Off.refl {u d : Addr} (H : Hp) : Off u d H H := fun _ _ _ _ h => h
theorem Off.trans {u d : Addr} {H H1 H2 : Hp} (a : Off u d H H1) (b : Off u d H1 H2) : Off u d H H2 := fun c o h1 h2 h => b c o h1 h2 (a c o h1 h2 h)
theorem Same.off {u d : Addr} {H H' : Hp} (S : Same H H') : Off u d H H' := fun b o _ _ h => S b o h
mutual
inductive DX (u d : Addr) (H : Hp) : V → PyData → Prop
  | non : DX u d H .non .none
  | bl (b : Bool) : DX u d H (.bl b) (.bool b)
  | int (i : Int) : DX u d H (.int i) (.int i)
  | str (x : Str) : DX u d H (.str x) (.str x)
  | lst {a : Addr} {xs : List V} {qs : List PyData} : a ≠ u → a ≠ d → H a = some (.lst xs) → DXs u d H xs qs → DX u d H (.ref a) (.list qs)
  | tup {a : Addr} {xs : List V} {qs : List PyData} : a ≠ u → a ≠ d → H a = some (.tup xs) → DXs u d H xs qs → DX u d H (.ref a) (.tuple qs)
  | dic {a : Addr} {kvs : List (Key × V)} {qs : List (PyData × PyData)} : a ≠ u → a ≠ d → H a = some (.dK kvs) → DXk u d H kvs qs → DX u d H (.ref a) (.dict qs)
inductive DXs (u d : Addr) (H : Hp) : List V → List PyData → Prop
  | nil : DXs u d H [] []
  | cons {v : V} {vs : List V} {q : PyData} {qs : List PyData} : DX u d H v q → DXs u d H vs qs → DXs u d H (v :: vs) (q :: qs)
inductive DXk (u d : Addr) (H : Hp) : List (Key × V) → List (PyData × PyData) → Prop
  | nil : DXk u d H [] []
  | cons {i : Int} {v : V} {kvs : List (Key × V)} {q : PyData} {qs : List (PyData × PyData)} : DX u d H v q → DXk u d H kvs qs → DXk u d H ((.inl i, v) :: kvs) ((.int i, q) :: qs)
end
mutual
theorem DX.off {u d : Addr} {H H' : Hp} (O : Off u d H H') : ∀ {v : V} {q : PyData}, DX u d H v q → DX u d H' v q
  | _, _, .non => .non
  | _, _, .bl b => .bl b
  | _, _, .int i => .int i
  | _, _, .str x => .str x
  | _, _, .lst h1 h2 h3 h4 => .lst h1 h2 (O _ _ h1 h2 h3) (DXs.off O h4)
  | _, _, .tup h1 h2 h3 h4 => .tup h1 h2 (O _ _ h1 h2 h3) (DXs.off O h4)
  | _, _, .dic h1 h2 h3 h4 => .dic h1 h2 (O _ _ h1 h2 h3) (DXk.off O h4)
theorem DXs.off {u d : Addr} {H H' : Hp} (O : Off u d H H') : ∀ {v : List V} {q : List PyData}, DXs u d H v q → DXs u d H' v q
  | _, _, .nil => .nil
  | _, _, .cons h1 h2 => .cons (DX.off O h1) (DXs.off O h2)
theorem DXk.off {u d : Addr} {H H' : Hp} (O : Off u d H H') : ∀ {v : List (Key × V)} {q : List (PyData × PyData)}, DXk u d H v q → DXk u d H' v q
  | _, _, .nil => .nil
  | _, _, .cons h1 h2 => .cons (DX.off O h1) (DXk.off O h2)
end
theorem DX.same {u d : Addr} {H H' : Hp} {v : V} {q : PyData} (h : DX u d H v q) (S : Same H H') : DX u d H' v q := h.off (Same.off S)
theorem DXs.same {u d : Addr} {H H' : Hp} {v : List V} {q : List PyData} (h : DXs u d H v q) (S : Same H H') : DXs u d H' v q := h.off (Same.off S)
theorem DXs.length {u d : Addr} {H : Hp} : ∀ {vs : List V} {qs : List PyData}, DXs u d H vs qs → vs.length = qs.length
  | _, _, .nil => rfl
  | _, _, .cons _ h => by rw [List.length_cons, List.length_cons, DXs.length h]
theorem DXs.at {u d : Addr} {H : Hp} : ∀ {vs : List V} {qs : List PyData} {i : Nat} {v : V}, DXs u d H vs qs → vs[i]? = some v → ∃ q, qs[i]? = some q ∧ DX u d H v q
  | _, _, i, _, .nil, e => by simp at e
  | _, _, 0, _, .cons h _, e => by
    simp at e
    subst e
    exact ⟨_, rfl, h⟩
  | _, _, i + 1, _, .cons _ h, e => by
    obtain ⟨q, h1, h2⟩ := DXs.at (i := i) h (by simpa using e)
    exact ⟨q, by simpa using h1, h2⟩
theorem DXs.append {u d : Addr} {H : Hp} : ∀ {vs ws : List V} {qs rs : List PyData}, DXs u d H vs qs → DXs u d H ws rs → DXs u d H (vs ++ ws) (qs ++ rs)
  | _, _, _, _, .nil, s => s
  | _, _, _, _, .cons h r, s => .cons h (DXs.append r s)
theorem DXs.take {u d : Addr} {H : Hp} : ∀ {vs : List V} {qs : List PyData} (n : Nat), DXs u d H vs qs → DXs u d H (vs.take n) (qs.take n)
  | _, _, 0, _ => .nil
  | _, _, _ + 1, .nil => .nil
  | _, _, n + 1, .cons h r => .cons h (DXs.take n r)
theorem DXs.drop {u d : Addr} {H : Hp} : ∀ {vs : List V} {qs : List PyData} (n : Nat), DXs u d H vs qs → DXs u d H (vs.drop n) (qs.drop n)
  | _, _, 0, r => r
  | _, _, _ + 1, .nil => .nil
  | _, _, n + 1, .cons _ r => DXs.drop n r
theorem DXs.rep {u d : Addr} {H : Hp} {v : V} {q : PyData} (h : DX u d H v q) : ∀ n : Nat, DXs u d H (List.replicate n v) (List.replicate n q)
  | 0 => .nil
  | n + 1 => by rw [List.replicate_succ, List.replicate_succ]; exact .cons h (DXs.rep h n)
/-! ### repr -/
section
variable {X : Cx} {pins : List (Addr × Obj)} {σ : L2.St} {H : Hp} {s : Shared} {u d : Addr}
mutual
theorem rx_of (I : Inv X pins σ H s) : ∀ {v : V} {q : PyData} {x : Value}, DX u d H v q → RelV v x → q.showable = true → q.shown.length ≤ sizeLine →
    ∃ as bs, Reads s.heap x q as ∧ ReadAtMost s.heap q.depth bs ∧ ReprK X.prog X.w bs s.heap q.depth x q.shown
  | _, _, _, .non, r, _, _ => by
    cases r
    exact ⟨_, [], .none, (fun _ h => nomatch h), by simp only [PyData.shown]; exact .of_is ReprIs.none _ _ _⟩
  | _, _, _, .bl b, r, _, _ => by
    cases r
    exact ⟨_, [], .bool b, (fun _ h => nomatch h), by simp only [PyData.shown]; exact .of_is (ReprIs.bool b) _ _ _⟩
  | _, _, _, .int i, r, hs, _ => by
    obtain ⟨t, rfl⟩ := r
    exact ⟨_, [], .int i t, (fun _ h => nomatch h), by simp only [PyData.shown]; exact .of_is (ReprIs.int t (by simpa [PyData.showable] using hs)) _ _ _⟩
  | _, _, _, .str x, r, _, hz => by
    obtain ⟨t, rfl⟩ := r
    exact ⟨_, [], .str x t, (fun _ h => nomatch h), by simp only [PyData.shown]; exact .of_is (ReprIs.str x t (by simpa only [PyData.shown] using hz)) _ _ _⟩
  | _, _, _, .lst (a := a) (qs := qs) _ _ hl hd, r, hs, hz => by
    cases r
    have hz' : (listText (PyData.shownAll qs)).length ≤ sizeLine := by simpa only [PyData.shown] using hz
    obtain ⟨_, its, n, rv, h1⟩ := (show ObjOk X.prog X.w H s.heap a (.lst _) from I.hok a _ hl)
    obtain ⟨as, bs, hr, hb, hk⟩ := rxs_of I hd rv (by simpa [PyData.showable] using hs) (fun t ht => Nat.le_trans (listText_mem_le ht) hz')
    have rr : Reads s.heap (.ref a) (.list qs) _ := .list h1 rfl rfl hr
    have hna : a ∉ bs := not_mem_of_deeper rr (by simp only [PyData.depth]; omega) hb
    refine ⟨_, a :: bs, rr, ReadAtMost.cons rr (by simp only [PyData.depth]; omega) hb, ?_⟩
    simp only [PyData.depth, PyData.shown]
    cases its with
    | nil =>
      cases hr
      simp only [PyData.shownAll, listText_nil]
      exact ReprK.listEmpty h1 rfl rfl
    | cons x l => exact ReprK.list h1 rfl rfl hna (by simpa using hk.length_eq) (fun i y e => hk.item i y (by simpa using e))
  | _, _, _, .tup (a := a) (qs := qs) _ _ hl hd, r, hs, hz => by
    cases r
    have hz' : (tupleText (PyData.shownAll qs)).length ≤ sizeLine := by simpa only [PyData.shown] using hz
    obtain ⟨_, its, rv, o, h1, h2, n, h3⟩ := (show ObjOk X.prog X.w H s.heap a (.tup _) from I.hok a _ hl)
    obtain ⟨as, bs, hr, hb, hk⟩ := rxs_of I hd rv (by simpa [PyData.showable] using hs) (fun t ht => Nat.le_trans (tupleText_mem_le ht) hz')
    have rr : Reads s.heap (.ref a) (.tuple qs) _ := .tuple h1 h2 h3 hr
    have hna : a ∉ bs := not_mem_of_deeper rr (by simp only [PyData.depth]; omega) hb
    refine ⟨_, a :: bs, rr, ReadAtMost.cons rr (by simp only [PyData.depth]; omega) hb, ?_⟩
    simp only [PyData.depth, PyData.shown]
    exact ReprK.tuple h1 h2 h3 hna hk
  | _, _, _, .dic (a := a) (qs := qs) _ _ hl hd, r, hs, hz => by
    cases r
    have hz' : (dictText (PyData.shownKv qs)).length ≤ sizeLine := by simpa only [PyData.shown] using hz
    obtain ⟨_, hsys, ws, kv, o, es, ep, h1, h2, h3, h4, h5, h6⟩ := (show ObjOk X.prog X.w H s.heap a (.dK _) from I.hok a _ hl)
    obtain ⟨hs1, hs2⟩ := PyData.showableKv_split qs (by simpa [PyData.showable] using hs)
    obtain ⟨as, bs, b1, b2, r1, r2, hb1, hb2, k1, k2⟩ := rxk_of I hd kv h5 hs1 hs2 (fun t ht => let ⟨p, hp, hl⟩ := PyData.shownKv_key_le qs t ht; Nat.le_trans hl (Nat.le_trans (dictText_mem_le hp) hz'))
      (fun t ht => let ⟨p, hp, hl⟩ := PyData.shownKv_val_le qs t ht; Nat.le_trans hl (Nat.le_trans (dictText_mem_le hp) hz'))
    have rr : Reads s.heap (.ref a) (.dict qs) _ := .dict h1 h2.1 h3 r1 r2
    have hb : ReadAtMost s.heap (PyData.depthKv qs) (b1 ++ b2) := (hb1.mono (PyData.depthAll_keys_le qs)).append (hb2.mono (PyData.depthAll_vals_le qs))
    have hna : a ∉ b1 ++ b2 := not_mem_of_deeper rr (by simp only [PyData.depth]; omega) hb
    refine ⟨_, a :: (b1 ++ b2), rr, ReadAtMost.cons rr (by simp only [PyData.depth]; omega) hb, ?_⟩
    simp only [PyData.depth, PyData.shown, PyData.shownKv_eq]
    exact ReprK.dict h1 h2.1 h3 hsys hna (ReprEntriesK.of_two es.toList _ _
      (k1.more_le (fun b hb => List.mem_append_left _ hb) (PyData.depthAll_keys_le qs)) (k2.more_le (fun b hb => List.mem_append_right _ hb) (PyData.depthAll_vals_le qs)))
theorem rxs_of (I : Inv X pins σ H s) : ∀ {vs : List V} {qs : List PyData} {xs : List Value}, DXs u d H vs qs → Vals vs xs → PyData.showableAll qs = true → (∀ t ∈ PyData.shownAll qs, t.length ≤ sizeLine) →
    ∃ as bs, ReadsAll s.heap xs qs as ∧ ReadAtMost s.heap (PyData.depthAll qs) bs ∧ ReprAllK X.prog X.w bs s.heap (PyData.depthAll qs) xs (PyData.shownAll qs)
  | _, _, _, .nil, r, _, _ => by
    cases r
    exact ⟨_, [], .nil, (fun _ h => nomatch h), by simp only [PyData.shownAll]; exact .nil⟩
  | _, _, _, .cons (q := q) (qs := qs) h hr, r, hs, hz => by
    cases r with
    | cons r1 r2 =>
      have h2 : q.showable = true ∧ PyData.showableAll qs = true := by simpa [PyData.showableAll] using hs
      obtain ⟨a1, b1, q1, hb1, k1⟩ := rx_of I h r1 h2.1 (hz _ (by simp only [PyData.shownAll]; exact List.mem_cons_self ..))
      obtain ⟨a2, b2, q2, hb2, k2⟩ := rxs_of I hr r2 h2.2 (fun t ht => hz t (by simp only [PyData.shownAll]; exact List.mem_cons_of_mem _ ht))
      refine ⟨_, b1 ++ b2, .cons q1 q2, (hb1.mono (by simp only [PyData.depthAll]; exact Nat.le_max_left _ _)).append (hb2.mono (by simp only [PyData.depthAll]; exact Nat.le_max_right _ _)), ?_⟩
      simp only [PyData.depthAll, PyData.shownAll]
      exact .cons ((k1.more fun b hb => List.mem_append_left _ hb).level_le (Nat.le_max_left _ _)) (k2.more_le (fun b hb => List.mem_append_right _ hb) (Nat.le_max_right _ _))
theorem rxk_of (I : Inv X pins σ H s) : ∀ {kvs : List (Key × V)} {qs : List (PyData × PyData)} {ws : List (Key × Value)} {es : List DictEntry}, DXk u d H kvs qs → KV kvs ws → Pairs (mixKind X.prog X.w) es ws →
    PyData.showableAll (qs.map (·.1)) = true → PyData.showableAll (qs.map (·.2)) = true → (∀ t ∈ PyData.shownAll (qs.map (·.1)), t.length ≤ sizeLine) → (∀ t ∈ PyData.shownAll (qs.map (·.2)), t.length ≤ sizeLine) →
    ∃ as bs b1 b2, ReadsAll s.heap (es.map (·.key)) (qs.map (·.1)) as ∧ ReadsAll s.heap (es.map (·.val)) (qs.map (·.2)) bs ∧ ReadAtMost s.heap (PyData.depthAll (qs.map (·.1))) b1 ∧ ReadAtMost s.heap (PyData.depthAll (qs.map (·.2))) b2 ∧
      ReprAllK X.prog X.w b1 s.heap (PyData.depthAll (qs.map (·.1))) (es.map (·.key)) (PyData.shownAll (qs.map (·.1))) ∧ ReprAllK X.prog X.w b2 s.heap (PyData.depthAll (qs.map (·.2))) (es.map (·.val)) (PyData.shownAll (qs.map (·.2)))
  | _, _, _, _, .nil, r, p, _, _, _, _ => by
    cases r
    cases p
    exact ⟨_, _, [], [], .nil, .nil, (fun _ h => nomatch h), (fun _ h => nomatch h), by simp only [List.map_nil, PyData.shownAll]; exact .nil, by simp only [List.map_nil, PyData.shownAll]; exact .nil⟩
  | _, _, _, _, .cons (i := i) (q := q) (qs := qs) h hr, r, p, hs1, hs2, hz1, hz2 => by
    cases r with
    | cons r1 r2 =>
      cases p with
      | cons p1 p2 p3 =>
        rename_i kv ws e es
        obtain ⟨e1, e2⟩ := r1
        have p1' : keyIs kv.1 e.key = true := p1
        rw [← e1] at p1'
        obtain ⟨t, ht⟩ := Value.isInt_shape (k := i) (v := e.key) p1'
        rw [← p2] at e2
        simp only [List.map_cons] at hs1 hs2 hz1 hz2 ⊢
        have s1 : (PyData.int i).showable = true ∧ PyData.showableAll (qs.map (·.1)) = true := by simpa [PyData.showableAll] using hs1
        have s2 : q.showable = true ∧ PyData.showableAll (qs.map (·.2)) = true := by simpa [PyData.showableAll] using hs2
        obtain ⟨a1, b1, q1, hb1, k1⟩ := rx_of I h e2 s2.1 (hz2 _ (by simp only [PyData.shownAll]; exact List.mem_cons_self ..))
        obtain ⟨as, bs, c1, c2, x1, x2, x3, x4, x5, x6⟩ := rxk_of I hr r2 p3 s1.2 s2.2 (fun t ht => hz1 t (by simp only [PyData.shownAll]; exact List.mem_cons_of_mem _ ht)) (fun t ht => hz2 t (by simp only [PyData.shownAll]; exact List.mem_cons_of_mem _ ht))
        have ki : ReprK X.prog X.w c1 s.heap (PyData.int i).depth e.key (PyData.int i).shown := by
          rw [ht]
          simp only [PyData.shown]
          exact .of_is (ReprIs.int t (by simpa [PyData.showable] using s1.1)) _ _ _
        refine ⟨_, _, c1, b1 ++ c2, .cons (by rw [ht]; exact .int i t) x1, .cons q1 x2, x3.mono (by simp only [PyData.depthAll]; exact Nat.le_max_right _ _),
          (hb1.mono (by simp only [PyData.depthAll]; exact Nat.le_max_left _ _)).append (x4.mono (by simp only [PyData.depthAll]; exact Nat.le_max_right _ _)), ?_, ?_⟩
        · simp only [PyData.depthAll, PyData.shownAll]
          exact .cons (ki.level_le (Nat.le_max_left _ _)) (x5.more_le (fun b hb => hb) (Nat.le_max_right _ _))
        · simp only [PyData.depthAll, PyData.shownAll]
          exact .cons ((k1.more fun b hb => List.mem_append_left _ hb).level_le (Nat.le_max_left _ _)) (x6.more_le (fun b hb => List.mem_append_right _ hb) (Nat.le_max_right _ _))
end
end
/-- repr(x) of data of any kind -/
def rReprX : List V → Hp → VK → Prop := fun vs H Q => ∃ (v : V) (u d : Addr) (q : PyData), vs = [v] ∧ DX u d H v q ∧ q.showable = true ∧ q.shown.length ≤ sizeLine ∧ q.depth ≤ 50 ∧ Q (.str q.shown) H
theorem call_reprX {X : Cx} (hG : X.A.guards = some []) (hr : X.A.units + 64 < cLine) : CallR X (.builtin "repr") rReprX := by
  intro pins s σ H vs us Q I r h
  obtain ⟨v, u, d, q, rfl, hd, hs, hz, hdp, k⟩ := h
  obtain ⟨x, rfl, rv⟩ := vals1 r
  have fin : ∀ (h' : Heap) (t : Tok) (tk : Nat), (∀ b o, s.heap.get? b = some o → h'.get? b = some o) → EP X pins σ Q (.str q.shown t) { s with heap := h', toks := tk } := fun h' t tk hk => ⟨.str _, H, I.kept hk, ⟨_, rfl⟩, k⟩
  cases hd with
  | non =>
    cases rv
    refine PySem.P.repr_of_none ?_
    simp only [PyData.shown] at fin
    exact fin s.heap _ _ fun _ _ e => e
  | bl b =>
    cases rv
    refine PySem.P.repr_of_bool ?_
    simp only [PyData.shown] at fin
    exact fin s.heap _ _ fun _ _ e => e
  | int i =>
    obtain ⟨t, rfl⟩ := rv
    refine PySem.P.repr_of_int (by simpa [PyData.showable] using hs) ?_
    simp only [PyData.shown] at fin
    exact fin s.heap _ _ fun _ _ e => e
  | str y =>
    obtain ⟨t, rfl⟩ := rv
    simp only [PyData.shown] at fin hz
    exact PySem.P.repr_of_str (fin s.heap _ _ fun _ _ e => e) hz
  | @lst a xs qs _ _ hl hd =>
    cases rv
    have hz' : (listText (PyData.shownAll qs)).length ≤ sizeLine := by simpa only [PyData.shown] using hz
    obtain ⟨_, its, n, rv, h1⟩ := (show ObjOk X.prog X.w H s.heap a (.lst _) from I.hok a _ hl)
    obtain ⟨as, bs, hr', hb, hk⟩ := rxs_of I hd rv (by simpa [PyData.showable] using hs) (fun t ht => Nat.le_trans (listText_mem_le ht) hz')
    have rr : Reads s.heap (.ref a) (.list qs) _ := .list h1 rfl rfl hr'
    have hna : a ∉ bs := not_mem_of_deeper rr (by simp only [PyData.depth]; omega) hb
    simp only [PyData.depth] at hdp
    simp only [PyData.shown] at fin
    refine call_repr_slot (by omega) ⟨_, h1, rfl⟩ F.slot_list_repr.toG ?_
    cases its with
    | nil =>
      cases hr'
      simp only [PyData.shownAll, listText_nil] at fin
      exact call_list_repr_empty ⟨_, h1, rfl⟩ h1 rfl ⟨_, _, rfl, fin s.heap _ _ fun _ _ e => e⟩
    | cons x l =>
      exact call_list_reprK h1 rfl rfl hna (by simpa using hk.length_eq) (fun i y e => hk.item i y (by simpa using e)) hG (fun b _ => Clear.nil b) (by show X.A.units + 1 + _ < _; omega) (fun _ _ e => e) (fun h' u tk hk => ⟨_, _, rfl, fin h' u tk hk⟩) hz'
  | @tup a xs qs _ _ hl hd =>
    cases rv
    have hz' : (tupleText (PyData.shownAll qs)).length ≤ sizeLine := by simpa only [PyData.shown] using hz
    obtain ⟨_, its, rv, o, h1, h2, n, h3⟩ := (show ObjOk X.prog X.w H s.heap a (.tup _) from I.hok a _ hl)
    obtain ⟨as, bs, hr', hb, hk⟩ := rxs_of I hd rv (by simpa [PyData.showable] using hs) (fun t ht => Nat.le_trans (tupleText_mem_le ht) hz')
    have rr : Reads s.heap (.ref a) (.tuple qs) _ := .tuple h1 h2 h3 hr'
    have hna : a ∉ bs := not_mem_of_deeper rr (by simp only [PyData.depth]; omega) hb
    simp only [PyData.depth] at hdp
    simp only [PyData.shown] at fin
    refine call_repr_slot (by omega) ⟨o, h1, h2⟩ F.slot_tuple_repr ?_
    exact call_tuple_reprK h1 h2 h3 hna hk hG (fun b _ => Clear.nil b) (by show X.A.units + 1 + _ < _; omega) (fun _ _ e => e) (fun h' u tk hk => ⟨_, _, rfl, fin h' u tk hk⟩) hz'
  | @dic a kvs qs _ _ hl hd =>
    cases rv
    have hz' : (dictText (PyData.shownKv qs)).length ≤ sizeLine := by simpa only [PyData.shown] using hz
    obtain ⟨_, hsys, ws, kv, o, es, ep, h1, h2, h3, h4, h5, h6⟩ := (show ObjOk X.prog X.w H s.heap a (.dK _) from I.hok a _ hl)
    obtain ⟨hs1, hs2⟩ := PyData.showableKv_split qs (by simpa [PyData.showable] using hs)
    obtain ⟨as, bs, b1, b2, r1, r2, hb1, hb2, k1, k2⟩ := rxk_of I hd kv h5 hs1 hs2 (fun t ht => let ⟨p, hp, hl⟩ := PyData.shownKv_key_le qs t ht; Nat.le_trans hl (Nat.le_trans (dictText_mem_le hp) hz'))
      (fun t ht => let ⟨p, hp, hl⟩ := PyData.shownKv_val_le qs t ht; Nat.le_trans hl (Nat.le_trans (dictText_mem_le hp) hz'))
    have rr : Reads s.heap (.ref a) (.dict qs) _ := .dict h1 h2.1 h3 r1 r2
    have hb : ReadAtMost s.heap (PyData.depthKv qs) (b1 ++ b2) := (hb1.mono (PyData.depthAll_keys_le qs)).append (hb2.mono (PyData.depthAll_vals_le qs))
    have hna : a ∉ b1 ++ b2 := not_mem_of_deeper rr (by simp only [PyData.depth]; omega) hb
    simp only [PyData.depth] at hdp
    simp only [PyData.shown] at fin
    rw [PyData.shownKv_eq] at hz' fin
    refine call_repr_slot (by omega) ⟨o, h1, h2.1⟩ F.slot_dict_repr ?_
    exact call_dict_reprK h1 h2.1 h3 hsys hna (ReprEntriesK.of_two es.toList _ _
      (k1.more_le (fun b hb => List.mem_append_left _ hb) (PyData.depthAll_keys_le qs)) (k2.more_le (fun b hb => List.mem_append_right _ hb) (PyData.depthAll_vals_le qs))) hG (fun b _ => Clear.nil b) (by show X.A.units + 1 + _ < _; omega) (fun _ _ e => e) (fun h' u tk hk => ⟨_, _, rfl, fin h' u tk hk⟩) hz'
/-! ### isinstance -/
def isTupD : PyData → Bool
  | .tuple _ => true
  | _ => false
def isIntD : PyData → Bool
  | .int _ | .bool _ => true
  | _ => false
def isBlD : PyData → Bool
  | .bool _ => true
  | _ => false
def rIsX (T : String) (g : PyData → Bool) : List V → Hp → VK → Prop := fun vs H Q => ∃ (v : V) (u d : Addr) (q : PyData), vs = [v, .ty T] ∧ DX u d H v q ∧ Q (.bl (g q)) H
theorem call_isX {X : Cx} {T : String} {g : PyData → Bool} (hn : kitB "NoneType" T = some (g .none)) (hb : ∀ b, kitB "bool" T = some (g (.bool b))) (hi : ∀ i, kitB "int" T = some (g (.int i))) (hs : ∀ x, kitB "str" T = some (g (.str x)))
    (hl : ∀ x, kitB "list" T = some (g (.list x))) (ht : ∀ x, kitB "tuple" T = some (g (.tuple x))) (hd : ∀ x, kitB "dict" T = some (g (.dict x))) : CallR X (.builtin "isinstance") (rIsX T g) := by
  intro pins s σ H vs us Q I r h
  obtain ⟨v, u, d, q, rfl, hx, k⟩ := h
  refine call_isi pins s σ H _ us Q I r ?_
  cases hx with
  | non => exact ⟨_, _, _, _, _, rfl, .ty T, .base .non, kit_ty hn, k⟩
  | bl b => exact ⟨_, _, _, _, _, rfl, .ty T, .base (.bl b), kit_ty (hb b), k⟩
  | int i => exact ⟨_, _, _, _, _, rfl, .ty T, .base (.int i), kit_ty (hi i), k⟩
  | str x => exact ⟨_, _, _, _, _, rfl, .ty T, .base (.str x), kit_ty (hs x), k⟩
  | lst _ _ e _ => exact ⟨_, _, _, _, _, rfl, .ty T, .base (.lst e), kit_ty (hl _), k⟩
  | tup _ _ e _ => exact ⟨_, _, _, _, _, rfl, .ty T, .base (.tup e), kit_ty (ht _), k⟩
  | dic _ _ e _ => exact ⟨_, _, _, _, _, rfl, .ty T, .base (.dK e), kit_ty (hd _), k⟩
theorem call_isTup {X : Cx} : CallR X (.builtin "isinstance") (rIsX "tuple" isTupD) := call_isX (show kitB "NoneType" "tuple" = some false by decide +kernel) (fun _ => show kitB "bool" "tuple" = some false by decide +kernel) (fun _ => show kitB "int" "tuple" = some false by decide +kernel) (fun _ => show kitB "str" "tuple" = some false by decide +kernel) (fun _ => show kitB "list" "tuple" = some false by decide +kernel) (fun _ => show kitB "tuple" "tuple" = some true by decide +kernel) (fun _ => show kitB "dict" "tuple" = some false by decide +kernel)
theorem call_isInt {X : Cx} : CallR X (.builtin "isinstance") (rIsX "int" isIntD) := call_isX (show kitB "NoneType" "int" = some false by decide +kernel) (fun _ => show kitB "bool" "int" = some true by decide +kernel) (fun _ => show kitB "int" "int" = some true by decide +kernel) (fun _ => show kitB "str" "int" = some false by decide +kernel) (fun _ => show kitB "list" "int" = some false by decide +kernel) (fun _ => show kitB "tuple" "int" = some false by decide +kernel) (fun _ => show kitB "dict" "int" = some false by decide +kernel)
theorem call_isBl {X : Cx} : CallR X (.builtin "isinstance") (rIsX "bool" isBlD) := call_isX (show kitB "NoneType" "bool" = some false by decide +kernel) (fun _ => show kitB "bool" "bool" = some true by decide +kernel) (fun _ => show kitB "int" "bool" = some false by decide +kernel) (fun _ => show kitB "str" "bool" = some false by decide +kernel) (fun _ => show kitB "list" "bool" = some false by decide +kernel) (fun _ => show kitB "tuple" "bool" = some false by decide +kernel) (fun _ => show kitB "dict" "bool" = some false by decide +kernel)
end RZ

namespace RW
open PySem PySem.Spec PyProof.Rows L2
theorem tuple_mul_one (l : Addr) (items : Array Value) (n : Nat) (dd : Option Addr) (sl : Array (Option Value)) (u : Tok) :
    Meets (Builtin.«tuple.__mul__» ⟨[.ref l, .int 1 u], []⟩) (fun _ R s => s.heap.get? l = some { cls := .type "tuple", dict := dd, data := .seq items n, slots := sl } ∧ R (.ok (.ret (Value.ref l))) s) :=
  .of_wp fun prog w A R s h => by
    obtain ⟨hp, g, d, tk, os⟩ := s
    obtain ⟨hl, h⟩ := h
    have f1 := AutoSeq1.idx_int
    wp_walk using wpAny_loadPart' hl
    exact ⟨_, rfl, h⟩
section
variable {X : Cx}
theorem op_powW : OpR X (binaryOp .Pow) (rI (fun i j => 0 ≤ j ∧ (Builtin.Int.intBits i : Int) * j ≤ 2 ^ 27) fun i j => .int (i ^ j.toNat)) := opI fun _ _ _ _ _ _ _ hc q => pow_int hc.1 hc.2 q
/-- t * k, k from 1 on: t itself for 1 -/
def rRepA (K : PySem.W.Frag) : R2 := fun x y H Q => ∃ l k xs, x = .ref l ∧ y = .int k ∧ SqT K H l xs ∧ xs ≠ [] ∧ 1 ≤ k ∧ k ≤ 1000 ∧ xs.length ≤ 1000 ∧ (k = 1 → Q (.ref l) H) ∧ (k ≠ 1 → ∀ p, H p = none → Q (.ref p) (upd H p (.tup (List.replicate k.toNat xs).flatten)))
theorem op_repA : OpR X (binaryOp .Mult) (rRepA X.K) := by
  intro pins s σ H x y v u Q I rx ry h
  obtain ⟨l, k, xs, rfl, rfl, hT, hne, h1, h2, hz, q1, q2⟩ := h
  by_cases hk : k = 1
  · subst hk
    cases rx
    obtain ⟨t, rfl⟩ := ry
    obtain ⟨its, r, ⟨⟨cls, dd, data, sl⟩, ho, hc, n, hd⟩, hs⟩ := I.tuple hT
    simp only at hc hd
    subst hc hd
    exact wpAny_binaryOp_repeat_ref (T := "tuple") (U := "int") (by decide) ⟨_, ho, rfl⟩ (fun s' => typeIs_int s' 1 t) noFill_tuple_mul F.fills_int_mul F.slot_int_rmul repeat_tuple F.slot_int_index.lookup
      (call_meets F.slot_int_rmul (typeIs_int s 1 t) F.entry_int_rmul (F.args_int_rmul_2 _ _) (int_rmul_tuple 1 t l its.toArray n dd sl)
        ⟨ho, rfl, ⟨_, ho, rfl⟩, call_meets F.slot_tuple_mul ⟨_, ho, rfl⟩ F.entry_tuple_mul (F.args_tuple_mul_2 _ _) (tuple_mul_one l its.toArray n dd sl t) ⟨ho, ⟨.ref l, H, I, rfl, q1 rfl⟩⟩⟩)
  · exact op_repT pins s σ H _ _ v u Q I rx ry ⟨l, k, xs, rfl, rfl, hT, hne, by omega, h2, hz, q2 hk⟩
end
end RW

namespace K2
open PySem L2 RW RZ
def top (i : Nat) : Stmt := PySem.Challenge.pw_ridgespans_k02_what_is_a_table.main.body.getD i (.Pass ⟨0, 0, 0, 0⟩)
abbrev sLotE : Stmt := top 5
abbrev sTabE : Stmt := top 6
abbrev sIsRow : Stmt := top 7
abbrev sIsSide : Stmt := top 8
abbrev sForm : Stmt := top 9
abbrev sWhole : Stmt := top 10
abbrev sPlaces : Stmt := top 11
abbrev sBounded : Stmt := top 12
abbrev sInts : Stmt := top 13
abbrev sHas : Stmt := top 14
abbrev sAny : Stmt := top 15
abbrev sLotT : Stmt := top 17
abbrev sRowT : Stmt := top 18
abbrev sNumT : Stmt := top 19
abbrev sUrn : Stmt := top 21
abbrev sTake : Stmt := top 22
abbrev sOne : Stmt := top 23
abbrev sNumber : Stmt := top 24
abbrev sSide : Stmt := top 25
abbrev sAlone : Stmt := top 26
abbrev sOdd : Stmt := top 27
abbrev sSpoilt : Stmt := top 28
abbrev sLSide : Stmt := top 29
abbrev sJudged : Stmt := top 30
abbrev sRight : Stmt := top 31
abbrev sTold : Stmt := top 32
abbrev sMark : Stmt := top 33
abbrev sLaw : Stmt := top 34
/-! ### data -/
def nv : Option Int → V
  | none => .non
  | some i => .int i
theorem nv_none (o : Option Int) : decide (nv o = V.non) = o.isNone := by cases o <;> rfl
/-- what a comprehension keeps: all that stood, and the list at D -/
def LcI (H0 : Hp) (D : Addr) (out : Nat → List V) : Nat → Hp → Prop := fun i H => Same H0 H ∧ H D = some (.lst (out i))
theorem Same.fresh {H H' : Hp} {p : Addr} {o : HO} (S : Same H H') (h : H' p = none) : Same H (upd H' p o) := fun b u e => by
  have h1 := S b u e
  rw [upd_ne (ne_of_none h1 h)]
  exact h1
theorem lcI_start {H : Hp} {D : Addr} {out : Nat → List V} (hD : H D = none) (h : out 0 = []) : LcI H D out 0 (upd H D (.lst [])) := ⟨Same.fresh (Same.refl H) hD, by rw [h]; exact upd_same⟩
theorem LcI.put {H0 H : Hp} {D : Addr} {out : Nat → List V} {i : Nat} {y : V} (hD : H0 D = none) (I : LcI H0 D out i H) (h : out (i + 1) = out i ++ [y]) : LcI H0 D out (i + 1) (upd H D (.lst (out i ++ [y]))) :=
  ⟨fun b u e => by rw [upd_ne (ne_of_none e hD)]; exact I.1 b u e, by rw [h]; exact upd_same⟩
theorem LcI.skip {H0 H : Hp} {D : Addr} {out : Nat → List V} {i : Nat} (I : LcI H0 D out i H) (h : out (i + 1) = out i) : LcI H0 D out (i + 1) H := ⟨I.1, by rw [h]; exact I.2⟩
theorem take_one {α : Type} {l : List α} {i : Nat} {x : α} (h : l[i]? = some x) : l.take (i + 1) = l.take i ++ [x] := by
  obtain ⟨hi, e⟩ := List.getElem?_eq_some_iff.mp h
  rw [List.take_succ_eq_append_getElem hi, e]
theorem map_at {α : Type} {g : α → V} {xs : List α} {i : Nat} {v : V} (h : (xs.map g)[i]? = some v) : ∃ x, xs[i]? = some x ∧ v = g x := by
  rw [List.getElem?_map] at h
  cases e : xs[i]? with
  | none => rw [e] at h; cases h
  | some x => rw [e] at h; exact ⟨x, rfl, (Option.some.inj h).symm⟩
theorem Same.sqT {K : PySem.W.Frag} {H H' : Hp} {a : Addr} {xs : List V} (e : Same H H') (h : SqT K H a xs) : SqT K H' a xs := by
  rcases h with (h | ⟨o, h⟩) | h
  · exact .inl (.inl (e _ _ h))
  · exact .inl (.inr ⟨o, e _ _ h⟩)
  · exact .inr h
theorem LcI.go {H0 H H' : Hp} {D : Addr} {out : Nat → List V} {i : Nat} (I : LcI H0 D out i H) (S : Same H H') : LcI H0 D out i H' := ⟨I.1.trans S, S _ _ I.2⟩
theorem LcI.fin {H0 H : Hp} {D : Addr} {out : Nat → List V} {i : Nat} {l : List V} (I : LcI H0 D out i H) (h : out i = l) : H D = some (.lst l) := by rw [← h]; exact I.2
/-! ### what callers need of a def -/
structure Cal (P : Program) (w : World) (K : PySem.W.Frag) (mg : Str → Option Value) (base : Heap) (x : Str) (k : Nat) (ps : List Str) (sp : Sp) : Prop where
  ex : ∃ f fd, FnOk P w K mg base CX0 k f fd ps sp ∧ mg x = some (.ref f) ∧ PySem.W.keepIn K (.ref f) = true ∧ Binds K fd ps []
structure Bl (mg : Str → Option Value) : Prop where
  len : mg "len" = none
  tuple : mg "tuple" = none
  all_ : mg "all" = none
  isinstance : mg "isinstance" = none
  repr : mg "repr" = none
  list_ : mg "list" = none
  sum : mg "sum" = none
  abs : mg "abs" = none
  int_ : mg "int" = none
  range : mg "range" = none
  zip : mg "zip" = none
  enumerate : mg "enumerate" = none
  min : mg "min" = none
  max : mg "max" = none
  str_ : mg "str" = none
  bool_ : mg "bool" = none
theorem yes_ {σ : L2.St} {H : Hp} {A B : Hp → Prop} (h : A H) : tYes σ H (fun b H3 => if b = true then A H3 else B H3) := iteT (B := B H) h
theorem take_map {α β : Type} (g : α → β) {xs : List α} {i : Nat} {x : α} (h : xs[i]? = some x) : (xs.take (i + 1)).map g = (xs.take i).map g ++ [g x] := by rw [take_one h]; simp
/-! ### the urn -/
structure UrnAt (H : Hp) (u d m : Addr) : Prop where
  ex : ∃ (ds ms : List Int) (sm n : Int), H u = some (.lst [.ref d, .ref m, .int sm, .int n]) ∧ H d = some (.lst (ds.map V.int)) ∧ H m = some (.lst (ms.map V.int)) ∧ ms ≠ []
  dm : d ≠ m
theorem UrnAt.same {H H' : Hp} {u d m : Addr} (U : UrnAt H u d m) (S : Same H H') : UrnAt H' u d m := by
  obtain ⟨⟨ds, ms, sm, n, h1, h2, h3, h4⟩, h5⟩ := U
  exact ⟨⟨ds, ms, sm, n, S _ _ h1, S _ _ h2, S _ _ h3, h4⟩, h5⟩
theorem lst_ne {H : Hp} {u d m : Addr} {x y z : V} {ds : List Int} (h1 : H u = some (.lst [.ref d, x, y, z])) (h2 : H m = some (.lst (ds.map V.int))) : u ≠ m := fun e => by
  rw [e, h2] at h1
  cases ds with
  | nil => cases h1
  | cons a r => cases h1
/-! ### data -/
def pd : Option Int → PyData
  | none => .none
  | some i => .int i
theorem dpN {K : PySem.W.Frag} {H : Hp} : ∀ xs : List (Option Int), DpAll K H (xs.map nv) (xs.map pd)
  | [] => .nil
  | none :: r => .cons .non (dpN r)
  | some i :: r => .cons (.int i) (dpN r)
theorem dpI {K : PySem.W.Frag} {H : Hp} : ∀ xs : List Int, DpAll K H (xs.map V.int) (xs.map PyData.int)
  | [] => .nil
  | i :: r => .cons (.int i) (dpI r)
theorem layI : ∀ xs : List Int, PyData.canLayAll0 (xs.map PyData.int) = true ∧ PyData.depthAll (xs.map PyData.int) = 0
  | [] => ⟨by simp [PyData.canLayAll0], by simp [PyData.depthAll]⟩
  | i :: r => by
    obtain ⟨h1, h2⟩ := layI r
    exact ⟨by simp [PyData.canLayAll0, PyData.canLay0, h1], by simp [PyData.depthAll, PyData.depth, h2]⟩
theorem layN_ : ∀ xs : List (Option Int), PyData.canLayAll0 (xs.map pd) = true ∧ PyData.depthAll (xs.map pd) = 0
  | [] => ⟨by simp [PyData.canLayAll0], by simp [PyData.depthAll]⟩
  | none :: r => by
    obtain ⟨h1, h2⟩ := layN_ r
    exact ⟨by simp [PyData.canLayAll0, PyData.canLay0, pd, h1], by simp [PyData.depthAll, PyData.depth, pd, h2]⟩
  | some i :: r => by
    obtain ⟨h1, h2⟩ := layN_ r
    exact ⟨by simp [PyData.canLayAll0, PyData.canLay0, pd, h1], by simp [PyData.depthAll, PyData.depth, pd, h2]⟩
theorem shapedI (xs : List Int) : SeqAt.shaped (.list (xs.map PyData.int)) = true := by
  obtain ⟨h1, h2⟩ := layI xs
  simp [SeqAt.shaped, PyData.canLay0, PyData.depth, h1, h2]
theorem shapedT (xs : List (Option Int)) : SeqAt.shaped (.tuple (xs.map pd)) = true := by
  obtain ⟨h1, h2⟩ := layN_ xs
  simp [SeqAt.shaped, PyData.canLay0, PyData.depth, h1, h2]
theorem shapedL (xs : List (Option Int)) : SeqAt.shaped (.list (xs.map pd)) = true := by
  obtain ⟨h1, h2⟩ := layN_ xs
  simp [SeqAt.shaped, PyData.canLay0, PyData.depth, h1, h2]
theorem ix0 {n : Nat} (h : 0 < n) : ixN n 0 = some 0 := by
  unfold ixN
  rw [if_pos (Int.le_refl 0), if_pos (by omega)]
  rfl
theorem sx0 {n : Nat} (h : 0 < n) : seqIndex? 0 n = some 0 := (ixN_seq (ix0 h)).1
theorem fmod_ix {a : Int} {n : Nat} (h : 0 < n) : ∃ j : Nat, j < n ∧ a.fmod (n : Int) = (j : Int) := by
  rw [Int.fmod_eq_emod_of_nonneg _ (by omega)]
  have h1 := Int.emod_nonneg a (show (n : Int) ≠ 0 by omega)
  have h2 := Int.emod_lt_of_pos a (show (0 : Int) < n by omega)
  exact ⟨(a % (n : Int)).toNat, by omega, by omega⟩
theorem fmod_rng {a p : Int} (h : 0 < p) : 0 ≤ a.fmod p ∧ a.fmod p < p := by
  rw [Int.fmod_eq_emod_of_nonneg _ (by omega)]
  exact ⟨Int.emod_nonneg a (by omega), Int.emod_lt_of_pos a h⟩
theorem map_set {α β : Type} (g : α → β) (l : List α) (i : Nat) (y : α) : (l.map g).set i (g y) = (l.set i y).map g := by rw [List.map_set]
def spTake : Sp := fun vs H Q _ => ∃ (u d m : Addr) (size : Int), vs = [.ref u, .int size] ∧ 0 < size ∧ size < 1073741824 ∧ UrnAt H u d m ∧ ∀ H' r, 0 ≤ r → r < size → UrnAt H' u d m → Off u d H H' → Q (.int r) H'
section
variable {P : Program} {w : World} {K : PySem.W.Frag} {mg : Str → Option Value} {base : Heap}
theorem scTake : FnScope ["urn", "size", "rest", "step", "cell", "blend"] ["urn", "size"] (defScope sTake) := ⟨rfl, rfl, rfl, by decide +kernel, rfl, by decide +kernel, by decide +kernel⟩
theorem ok_take {f : Addr} {fd : FuncData} (F : Fun K "_law_take" "_law_take" sTake f fd) (B : Bl mg) : FnOk P w K mg base CX0 1 f fd ["urn", "size"] spTake := by
  refine F.ok scTake (fun vs H Q E h => ?_) (fun cdv A outer s H vs Q E hr h => ?_)
  · obtain ⟨u, d, m, z, rfl, _⟩ := h
    rfl
  · obtain ⟨u, d, m, z, rfl, z0, z1, U, k⟩ := h
    have hu : (A.deeper (PyProof.Rows.envOfC "_law_take" (defScope sTake) s.heap.objs.size f cdv)).units + 64 < cLine := by have := hr.un; omega
    obtain ⟨⟨ds, ms, sm, n, h1, h2, h3, h4⟩, hdm⟩ := id U
    have nud : u ≠ d := lst_ne h1 h2
    have num : u ≠ m := lst_ne h1 h3
    refine ⟨_, pss_cons (ps_if (pt_cmpR (op_neD hu) (pe_ix ix_list (pv 0) pe_int (fun _ _ => rfl)) (pe_lst pa_nil) (nomark _))
        (pss_cons (ps_set (i := 2) scTake.nd rfl (Or.inl rfl) (pe_ix ix_list (pe_ix ix_list (pv 0) pe_int (fun _ _ => rfl)) pe_int (fun _ _ => rfl)))
        (pss_cons (ps_asg (pe_op op_fdivN (pv 2) (pv 1)) (pg_sub (pe_ix ix_list (pv 0) pe_int (fun _ _ => rfl)) pe_int set_list))
        (pss_cons (ps_if (pt_cmpR op_lt (pv 2) (pv 1) (nomark _)) (pss_one (ps_expr (pe_bm PySem.F.plainAttrs_list PySem.F.slot_list_pop PySem.F.type_list_pop mt_popAt (pe_ix ix_list (pv 0) pe_int (fun _ _ => rfl)) (pa_cons pe_int pa_nil)))) pss_nil)
        (pss_one (ps_ret (pe_op op_modN (pe_callTy call_int1 (by rfl) B.int_ (by decide +kernel) (pa_cons (pv 2) pa_nil)) (pv 1))))))) pss_nil)
      (pss_cons (ps_asg (pe_op op_add (pe_ix ix_list (pv 0) pe_int (fun _ _ => rfl)) pe_int) (pg_sub (pv 0) pe_int set_list))
      (pss_cons (ps_set (i := 3) scTake.nd rfl (Or.inl rfl) (pe_ix ix_list (pv 0) pe_int (fun _ _ => rfl)))
      (pss_cons (ps_set (i := 4) scTake.nd rfl (Or.inl rfl) (pe_ix ix_list (pe_ix ix_list (pv 0) pe_int (fun _ _ => rfl)) (pe_op op_modN (pe_callTy call_int1 (by rfl) B.int_ (by decide +kernel) (pa_cons (pv 3) pa_nil)) (pe_callB call_len_seq (by rfl) B.len PySem.boot_len (pa_cons (pe_ix ix_list (pv 0) pe_int (fun _ _ => rfl)) pa_nil))) (fun _ _ => rfl)))
      (pss_cons (ps_set (i := 5) scTake.nd rfl (Or.inl rfl) (pe_op op_add (pe_op op_add (pe_op op_mul (pv 4) pe_int) (pe_op op_mul (pe_ix ix_list (pv 0) pe_int (fun _ _ => rfl)) pe_int)) (pe_op op_mul (pv 3) pe_int)))
      (pss_cons (ps_set (i := 5) scTake.nd rfl (Or.inl rfl) (pe_op op_modN (pe_callTy call_int1 (by rfl) B.int_ (by decide +kernel) (pa_cons (pv 5) pa_nil)) pe_int))
      (pss_cons (ps_set (i := 5) scTake.nd rfl (Or.inl rfl) (pe_op op_modN (pe_callTy call_int1 (by rfl) B.int_ (by decide +kernel) (pa_cons (pe_op op_add (pe_op op_add (pe_op op_mul (pv 5) (pv 5)) (pe_op op_mul (pv 3) pe_int)) pe_int) pa_nil)) pe_int))
      (pss_one (ps_ret (pe_op op_modN (pe_op op_fdivN (pe_op op_modN (pe_callTy call_int1 (by rfl) B.int_ (by decide +kernel) (pa_cons (pe_op op_add (pe_op op_mul (pv 5) (pv 5)) (pe_op op_mul pe_int (pv 5))) pa_nil)) pe_int) pe_int) (pv 1)))))))))), ?_⟩
    refine ⟨_, rfl, u, _, _, _, rfl, rfl, SqL.of h1, atI_nat (j := 0) rfl, (by show 0 ≤ sizeLine; decide), fun p hp => ?_⟩
    have S1 : Same H (upd H p (.lst [])) := Same.fresh (Same.refl _) hp
    have U1 := U.same S1
    refine ⟨.list (ds.map .int), .list [], .lst (SqL.of (S1 _ _ h2)) (dpI ds), .lst (SqL.of upd_same) .nil, shapedI ds, shapedI [], _, rfl, ?_⟩
    cases ds with
    | cons r0 ds =>
      refine iteT ?_
      generalize upd H p (.lst []) = G at S1 U1
      have g1 := S1 _ _ h1
      have g2 := S1 _ _ h2
      have g3 := S1 _ _ h3
      refine ⟨_, rfl, u, _, _, _, rfl, rfl, SqL.of g1, atI_nat (j := 0) rfl, d, _, _, _, rfl, rfl, SqL.of g2, atI_nat (j := 0) rfl, ?_⟩
      refine ⟨_, rfl, _, rfl, r0, z, rfl, rfl, ⟨by omega, by omega⟩, _, rfl, u, _, _, _, rfl, rfl, SqL.of g1, atI_nat (j := 0) rfl, d, _, _, 0, rfl, rfl, g2, ix0 (by simp), ?_⟩
      have e1 : ((V.int r0 :: ds.map V.int).set 0 (.int (r0.fdiv z))) = ((r0.fdiv z) :: ds).map V.int := rfl
      have i1 : upd G d (.lst ((V.int r0 :: ds.map V.int).set 0 (.int (r0.fdiv z)))) u = some (.lst [.ref d, .ref m, .int sm, .int n]) := by rw [upd_ne nud]; exact g1
      have i3 : upd G d (.lst ((V.int r0 :: ds.map V.int).set 0 (.int (r0.fdiv z)))) m = some (.lst (ms.map V.int)) := by rw [upd_ne hdm.symm]; exact g3
      have fin : ∀ (ds' : List Int) (H' : Hp), H' u = some (.lst [.ref d, .ref m, .int sm, .int n]) → H' d = some (.lst (ds'.map V.int)) → H' m = some (.lst (ms.map V.int)) → Off u d G H' → Q (.int (r0.fmod z)) H' := fun ds' H' a1 a2 a3 O => by
        refine k H' _ ?_ ?_ ⟨⟨ds', ms, sm, n, a1, a2, a3, h4⟩, hdm⟩ ((Same.off S1).trans O)
        · rw [Int.fmod_eq_emod_of_nonneg _ (by omega)]; exact Int.emod_nonneg _ (by omega)
        · rw [Int.fmod_eq_emod_of_nonneg _ (by omega)]; exact Int.emod_lt_of_pos _ (by omega)
      refine ⟨_, rfl, _, rfl, _, _, rfl, rfl, _, rfl, ?_⟩
      refine ite2 (fun _ => ?_) (fun _ => ?_)
      · refine ⟨_, rfl, u, _, _, _, rfl, rfl, SqL.of i1, atI_nat (j := 0) rfl, .inl ⟨rfl, _, SqL.of upd_same⟩, d, _, 0, 0, _, rfl, rfl, upd_same, by decide, by decide, sx0 (by simp), rfl, ?_⟩
        refine ⟨_, rfl, .inl ⟨_, rfl, _, rfl, _, _, rfl, rfl, (by omega), ?_⟩⟩
        refine fin ds _ ?_ ?_ ?_ ?_
        · rw [upd_ne nud]; exact i1
        · rw [upd_same]; rfl
        · rw [upd_ne hdm.symm]; exact i3
        · intro b o n1 n2 e
          rw [upd_ne n2, upd_ne n2]
          exact e
      · refine ⟨_, rfl, .inl ⟨_, rfl, _, rfl, _, _, rfl, rfl, (by omega), ?_⟩⟩
        refine fin (r0.fdiv z :: ds) _ i1 ?_ i3 ?_
        · rw [upd_same]; rfl
        · intro b o n1 n2 e
          rw [upd_ne n2]
          exact e
    | nil =>
      refine iteF ?_
      generalize upd H p (.lst []) = G at S1 U1
      have g1 := S1 _ _ h1
      have g2 := S1 _ _ h2
      have g3 := S1 _ _ h3
      refine ⟨_, rfl, u, _, _, _, rfl, rfl, SqL.of g1, atI_nat (j := 3) rfl, _, _, rfl, rfl, _, rfl, u, _, _, 3, rfl, rfl, g1, rfl, ?_⟩
      have i1 : upd G u (.lst ([V.ref d, .ref m, .int sm, .int n].set 3 (.int (n + 1)))) u = some (.lst [.ref d, .ref m, .int sm, .int (n + 1)]) := upd_same
      have i3 : upd G u (.lst ([V.ref d, .ref m, .int sm, .int n].set 3 (.int (n + 1)))) m = some (.lst (ms.map V.int)) := by rw [upd_ne num.symm]; exact g3
      have i2 : upd G u (.lst ([V.ref d, .ref m, .int sm, .int n].set 3 (.int (n + 1)))) d = some (.lst ((([] : List Int)).map V.int)) := by rw [upd_ne nud.symm]; exact g2
      have O : Off u d G (upd G u (.lst ([V.ref d, .ref m, .int sm, .int n].set 3 (.int (n + 1))))) := fun b o n1 n2 e => by rw [upd_ne n1]; exact e
      generalize upd G u (.lst ([V.ref d, .ref m, .int sm, .int n].set 3 (.int (n + 1)))) = G2 at i1 i2 i3 O
      have fin : ∀ r, 0 ≤ r → r < z → Q (.int r) G2 := fun r a b => k G2 r a b ⟨⟨[], ms, sm, n + 1, i1, i2, i3, h4⟩, hdm⟩ ((Same.off S1).trans O)
      refine ⟨_, rfl, u, _, _, _, rfl, rfl, SqL.of i1, atI_nat (j := 3) rfl, ?_⟩
      have hlen : 0 < (ms.map V.int).length := by rw [List.length_map]; exact List.length_pos_iff.mpr h4
      obtain ⟨j, hj, ej⟩ := fmod_ix (a := n + 1) hlen
      have hj2 : j < ms.length := by rw [List.length_map] at hj; exact hj
      refine ⟨_, rfl, u, _, _, _, rfl, rfl, SqL.of i1, atI_nat (j := 1) rfl, _, rfl, .inl ⟨_, rfl, _, rfl, u, _, _, _, rfl, rfl, SqL.of i1, atI_nat (j := 1) rfl, m, _, rfl, .inl (SqL.of i3), _, _, rfl, rfl, (by omega), ?_⟩⟩
      refine ⟨m, _, _, .int ms[j], rfl, rfl, SqL.of i3, at_of ej (by rw [List.getElem?_map, List.getElem?_eq_getElem hj2]; rfl), ?_⟩
      refine ⟨_, rfl, _, _, rfl, rfl, .inr (by decide), _, rfl, u, _, _, _, rfl, rfl, SqL.of i1, atI_nat (j := 2) rfl, _, _, rfl, rfl, .inr (by decide), _, _, rfl, rfl, _, rfl, _, _, rfl, rfl, .inr (by decide), _, _, rfl, rfl, ?_⟩
      refine ⟨_, rfl, .inl ⟨_, rfl, _, _, rfl, rfl, (by show (2305843009213693951 : Int) ≠ 0; decide), ?_⟩⟩
      have q1 := fmod_rng (a := ms[j] * 3935559000370003845 + sm * 2691343689449507681 + (n + 1) * 7664345821815920749) (p := 2305843009213693951) (by decide)
      refine ⟨_, rfl, _, rfl, _, _, rfl, rfl, .inl ⟨by omega, by omega⟩, _, rfl, _, _, rfl, rfl, .inr (by decide), _, _, rfl, rfl, _, _, rfl, rfl, .inl ⟨_, rfl, _, _, rfl, rfl, (by show (2305843009213693921 : Int) ≠ 0; decide), ?_⟩⟩
      generalize (ms[j] * 3935559000370003845 + sm * 2691343689449507681 + (n + 1) * 7664345821815920749).fmod 2305843009213693951 = b1
      have q2 := fmod_rng (a := b1 * b1 + (n + 1) * 1181783497276652981 + 977) (p := 2305843009213693921) (by decide)
      refine ⟨_, rfl, _, rfl, _, _, rfl, rfl, .inl ⟨by omega, by omega⟩, _, rfl, _, _, rfl, rfl, .inl (by decide), _, _, rfl, rfl, .inl ⟨_, rfl, _, _, rfl, rfl, (by show (2305843009213693951 : Int) ≠ 0; decide), _, _, rfl, rfl, (by show (1048576 : Int) ≠ 0 ∧ _; decide), _, rfl, _, _, rfl, rfl, (by omega), ?_⟩⟩
      exact fin _ (fmod_rng z0).1 (fmod_rng z0).2
end

/-- a comprehension that makes a list of ints -/
def LcZ (H0 : Hp) (D : Addr) : Nat → Hp → Prop := fun i H => Same H0 H ∧ ∃ ds : List Int, ds.length ≤ i ∧ H D = some (.lst (ds.map V.int))
theorem lcZ_start {H : Hp} {D : Addr} (hD : H D = none) : LcZ H D 0 (upd H D (.lst [])) := ⟨Same.fresh (Same.refl H) hD, [], Nat.le_refl _, upd_same⟩
theorem LcZ.put {H0 H : Hp} {D : Addr} {i : Nat} {ds : List Int} {y : Int} (hD : H0 D = none) (S : Same H0 H) (hl : ds.length ≤ i) : LcZ H0 D (i + 1) (upd H D (.lst (ds.map V.int ++ [.int y]))) :=
  ⟨fun b u e => by rw [upd_ne (ne_of_none e hD)]; exact S b u e, ds ++ [y], by simp; omega, by rw [upd_same, List.map_append]; rfl⟩
theorem LcZ.skip {H0 H : Hp} {D : Addr} {i : Nat} (I : LcZ H0 D i H) : LcZ H0 D (i + 1) H := ⟨I.1, let ⟨ds, h, e⟩ := I.2; ⟨ds, Nat.le_succ_of_le h, e⟩⟩
theorem cut63 (ns : List Int) : ∃ cs : List Int, cs.length ≤ 63 ∧ cutV (ns.map V.int) none (some 63) = cs.map V.int := by
  refine ⟨(ns.drop (HT.sIx (ns.map V.int).length 0 none)).take (HT.sIx (ns.map V.int).length (ns.map V.int).length (some 63) - HT.sIx (ns.map V.int).length 0 none), ?_, ?_⟩
  · rw [List.length_take]
    have : HT.sIx (ns.map V.int).length (ns.map V.int).length (some 63) = min 63 (ns.map V.int).length := HT.sIx_nat _ _ 63
    rw [this]
    omega
  · unfold cutV
    rw [List.map_take, List.map_drop]
def spUrn (K : PySem.W.Frag) : Sp := fun vs H Q _ => ∃ (a : Addr) (ns : List Int), vs = [.ref a] ∧ SqL K H a (ns.map V.int) ∧ ∀ H' u d m, Same H H' → UrnAt H' u d m → Q (.ref u) H'
section
variable {P : Program} {w : World} {K : PySem.W.Frag} {mg : Str → Option Value} {base : Heap}
theorem scUrn : FnScope ["script", "cells", "deep", "cell"] ["script"] (defScope sUrn) := ⟨rfl, rfl, rfl, by decide +kernel, rfl, by decide +kernel, by decide +kernel⟩
theorem ok_urn {f : Addr} {fd : FuncData} (F : Fun K "_law_urn" "_law_urn" sUrn f fd) (B : Bl mg) : FnOk P w K mg base CX0 1 f fd ["script"] (spUrn K) := by
  refine F.ok scUrn (fun vs H Q E h => ?_) (fun cdv A outer s H vs Q E hr h => ?_)
  · obtain ⟨a, ns, rfl, _⟩ := h
    rfl
  · obtain ⟨a, ns, rfl, hS, k⟩ := h
    refine ⟨_, pss_cons (ps_set (i := 1) scUrn.nd rfl (Or.inl rfl) (pe_slice sl_list (pv 0) po_none (po_some pe_int)))
      (pss_cons (ps_setLc (i := 2) (own := [("cell", 3)]) (g := gName 3) rfl scUrn.nd rfl rfl (sw_true rfl rfl rfl (by decide +kernel)) (pi_list (pv 1)) (blkOk_by (N := ["script", "cells", "deep", "cell"]) (sc := defScope sUrn) (by decide +kernel)) (fun _ _ _ _ _ => pg_name (i := 3) scUrn.nd rfl (Or.inl rfl))
        (fun _ _ _ _ _ => pts_one (pt_cmpR op_ge (pe_callB call_abs (by rfl) B.abs (by decide +kernel) (pa_cons (pv 3) pa_nil)) (pe_op op_pow pe_int pe_int) (nomark _))) (fun _ _ _ _ _ => pe_callB call_abs (by rfl) B.abs (by decide +kernel) (pa_cons (pv 3) pa_nil)))
      (pss_one (ps_ret (pe_lst (pa_cons (pv 2) (pa_cons (pe_op op_cat (pe_lc (own := [("cell", 3)]) (g := gName 3) rfl scUrn.nd (pi_list (pv 1)) (blkOk_by (N := ["script", "cells", "deep", "cell"]) (sc := defScope sUrn) (by decide +kernel)) (fun _ _ _ _ _ => pg_name (i := 3) scUrn.nd rfl (Or.inl rfl))
          (fun _ _ _ _ _ => pts_nil) (fun _ _ _ _ _ => pe_op op_add (pe_op op_mul pe_int (pe_callB call_abs (by rfl) B.abs (by decide +kernel) (pa_cons (pv 3) pa_nil))) (pe_callTy call_int1 (by rfl) B.int_ (by decide +kernel) (pa_cons (pe_cmpR op_lt (pv 3) pe_int (nomark _)) pa_nil))))
          (pe_lst (pa_cons (pe_op op_add pe_int (pe_callB call_len_seq (by rfl) B.len PySem.boot_len (pa_cons (pv 1) pa_nil))) pa_nil)))
        (pa_cons (pe_callB (cr_sum rfl) (by rfl) B.sum (by decide +kernel) (pa_cons (pv 1) pa_nil)) (pa_cons pe_int pa_nil)))))))), ?_⟩
    obtain ⟨cs, hc, ec⟩ := cut63 ns
    refine ⟨_, rfl, _, rfl, a, _, rfl, hS, fun c hc0 => ?_⟩
    rw [ec]
    have S1 : Same H (upd H c (.lst (cs.map V.int))) := Same.fresh (Same.refl _) hc0
    have hcs : upd H c (.lst (cs.map V.int)) c = some (.lst (cs.map V.int)) := upd_same
    generalize upd H c (.lst (cs.map V.int)) = G at S1 hcs
    refine ⟨_, rfl, c, rfl, ⟨_, SqL.of hcs⟩, fun D hD => lc_list (K := K) (a := c) (xs := cs.map V.int) (LcZ G D) (lcZ_start hD) (fun i H' _ I => SqL.of (I.1 _ _ hcs)) (fun i x H' hi I => ?_) (fun H' I => ?_)⟩
    · obtain ⟨n, hn, rfl⟩ := map_at hi
      have hi2 := (List.getElem?_eq_some_iff.mp hn).1
      obtain ⟨S, ds, hl, e⟩ := id I
      refine ⟨rfl, _, rfl, _, rfl, _, _, rfl, rfl, ⟨by decide, by decide, by decide⟩, _, _, rfl, rfl, _, rfl, ?_⟩
      refine ite2 (fun _ => ?_) (fun _ => I.skip)
      exact ⟨_, rfl, _, rfl, _, e, small1000 (by rw [List.length_map]; omega), LcZ.put hD S hl⟩
    · obtain ⟨S, ds, hl, e⟩ := id I
      have hc2 := S _ _ hcs
      refine ⟨_, rfl, _, rfl, c, rfl, ⟨_, SqL.of hc2⟩, fun D2 hD2 => lc_list (K := K) (a := c) (xs := cs.map V.int) (LcZ H' D2) (lcZ_start hD2) (fun i H2 _ I => SqL.of (I.1 _ _ hc2)) (fun i x H2 hi I2 => ?_) (fun H2 I2 => ?_)⟩
      · obtain ⟨n, hn, rfl⟩ := map_at hi
        have hi2 := (List.getElem?_eq_some_iff.mp hi).1
        obtain ⟨S3, ds2, hl2, e2⟩ := id I2
        refine ⟨rfl, yes_ ?_⟩
        refine ⟨_, rfl, _, rfl, _, _, rfl, rfl, .inl (by decide), _, rfl, _, _, rfl, rfl, .inr ⟨_, rfl, _, _, rfl, rfl, _, e2, small1000 (by rw [List.length_map]; rw [List.length_map] at hi2; omega), LcZ.put hD2 S3 hl2⟩⟩
      · obtain ⟨S3, ds2, hl2, e2⟩ := id I2
        have hc3 := S3 _ _ hc2
        have e3 := S3 _ _ e
        have l2 : ds2.length ≤ 63 := by rw [List.length_map] at hl2; omega
        have nDD : D ≠ D2 := ne_of_none e hD2
        refine ⟨_, rfl, c, _, rfl, .inl (SqL.of hc3), _, _, rfl, rfl, (by show 1 ≤ sizeLine; decide), fun p hp => ?_⟩
        have S4 : Same H2 (upd H2 p (.lst [V.int (9176 + ((cs.map V.int).length : Int))])) := Same.fresh (Same.refl _) hp
        have e4 : upd H2 p (.lst [V.int (9176 + ((cs.map V.int).length : Int))]) p = some (.lst ([9176 + ((cs.map V.int).length : Int)].map V.int)) := upd_same
        refine ⟨D2, p, _, _, rfl, rfl, S4 _ _ e2, e4, (by rw [List.length_map, List.length_map]; exact Nat.le_of_lt (small1000 (by show ds2.length + 1 ≤ 1000; omega))), fun q hq => ?_⟩
        generalize upd H2 p (.lst [V.int (9176 + ((cs.map V.int).length : Int))]) = H3 at S4 e4 hq
        have S5 : Same H3 (upd H3 q (.lst (ds2.map V.int ++ [9176 + ((cs.map V.int).length : Int)].map V.int))) := Same.fresh (Same.refl _) hq
        have e5 : upd H3 q (.lst (ds2.map V.int ++ [9176 + ((cs.map V.int).length : Int)].map V.int)) q = some (.lst ((ds2 ++ [9176 + ((cs.map V.int).length : Int)]).map V.int)) := by rw [upd_same, List.map_append]
        have nDq : D ≠ q := ne_of_none (S4 _ _ e3) hq
        generalize upd H3 q (.lst (ds2.map V.int ++ [9176 + ((cs.map V.int).length : Int)].map V.int)) = H4 at S5 e5
        refine ⟨_, rfl, c, cs, rfl, SqL.of (S5 _ _ (S4 _ _ hc3)), (by show 4 ≤ sizeLine; decide), fun u hu => ?_⟩
        have S6 : Same H4 (upd H4 u (.lst [V.ref D, .ref q, .int cs.sum, .int 0])) := Same.fresh (Same.refl _) hu
        exact k _ u D q (S1.trans (S.trans (S3.trans (S4.trans (S5.trans S6))))) ⟨⟨ds, _, cs.sum, 0, upd_same, S6 _ _ (S5 _ _ (S4 _ _ e3)), S6 _ _ e5, by simp⟩, nDq⟩
end

theorem tup_ne {H : Hp} {u d m p : Addr} {xs : List V} (U : UrnAt H u d m) (h : H p = some (.tup xs)) : p ≠ u ∧ p ≠ d := by
  obtain ⟨⟨ds, ms, sm, n, h1, h2, _⟩, _⟩ := U
  exact ⟨ne_of h h1 (by intro z; cases z), ne_of h h2 (by intro z; cases z)⟩
theorem Off.tup {H H' : Hp} {u d m p : Addr} {xs : List V} (O : Off u d H H') (U : UrnAt H u d m) (h : H p = some (.tup xs)) : H' p = some (.tup xs) := O _ _ (tup_ne U h).1 (tup_ne U h).2 h
theorem UrnAt.nfree {H : Hp} {u d m p : Addr} (U : UrnAt H u d m) (h : H p = none) : p ≠ u ∧ p ≠ d := by
  obtain ⟨⟨ds, ms, sm, n, h1, h2, _⟩, _⟩ := U
  exact ⟨fun e => (by rw [e, h1] at h; cases h), fun e => (by rw [e, h2] at h; cases h)⟩
theorem UrnAt.fresh {H : Hp} {u d m p : Addr} {o : HO} (U : UrnAt H u d m) (h : H p = none) : UrnAt (upd H p o) u d m := U.same (Same.fresh (Same.refl _) h)
theorem Off.fresh {H0 H : Hp} {u d p : Addr} {o : HO} (O : Off u d H0 H) (h : H p = none) : Off u d H0 (upd H p o) := O.trans (Same.off (Same.fresh (Same.refl _) h))
/-! ### _law_one -/
def spOne : Sp := fun vs H Q _ => ∃ (u d m l : Addr) (xs : List V), vs = [.ref u, .ref l] ∧ H l = some (.lst xs) ∧ l ≠ u ∧ l ≠ d ∧ 0 < xs.length ∧ xs.length < 1000 ∧ UrnAt H u d m ∧ ∀ H' v, v ∈ xs → UrnAt H' u d m → Off u d H H' → Q v H'
section
variable {P : Program} {w : World} {K : PySem.W.Frag} {mg : Str → Option Value} {base : Heap}
theorem scOne : FnScope ["urn", "items"] ["urn", "items"] (defScope sOne) := ⟨rfl, rfl, rfl, by decide +kernel, rfl, by decide +kernel, by decide +kernel⟩
theorem ok_one {f : Addr} {fd : FuncData} (F : Fun K "_law_one" "_law_one" sOne f fd) (B : Bl mg) (C1 : Cal P w K mg base "_law_take" 1 ["urn", "size"] spTake) : FnOk P w K mg base CX0 2 f fd ["urn", "items"] spOne := by
  obtain ⟨f1, fd1, G1, m1, k1, b1⟩ := C1.ex
  refine F.ok scOne (fun vs H Q E h => ?_) (fun cdv A outer s H vs Q E hr h => ?_)
  · obtain ⟨u, d, m, l, xs, rfl, _⟩ := h
    rfl
  · obtain ⟨u, d, m, l, xs, rfl, hl, nu, nd, x0, x1, U, k⟩ := h
    refine ⟨_, pss_one (ps_ret (pe_ix ix_list (pv 1) (pe_call G1 hr rfl m1 k1 b1 .nil pass0 (pa_cons (pv 0) (pa_cons (pe_callB call_len_seq (by rfl) B.len PySem.boot_len (pa_cons (pv 1) pa_nil)) pa_nil))) (fun _ _ => rfl))), ?_⟩
    refine ⟨_, rfl, _, rfl, _, rfl, l, _, rfl, .inl (SqL.of hl), u, d, m, _, rfl, (by omega), (by omega), U, fun H' r r0 r1 U' O => ?_⟩
    obtain ⟨j, rfl⟩ := Int.eq_ofNat_of_zero_le r0
    have hj : j < xs.length := by omega
    exact ⟨l, _, _, xs[j], rfl, rfl, SqL.of (O _ _ nu nd hl), atI_nat (List.getElem?_eq_getElem hj), k H' _ (List.getElem_mem hj) U' O⟩

end
theorem UrnAt.nfreeM {H : Hp} {u d m p : Addr} (U : UrnAt H u d m) (h : H p = none) : p ≠ m := by
  obtain ⟨⟨ds, ms, sm, n, h1, h2, h3, _⟩, _⟩ := U
  exact fun e => (by rw [e, h3] at h; cases h)
theorem cut_lo {xs : List V} {j : Nat} (h : j ≤ xs.length) : cutV xs none (some (j : Int)) = xs.take j := by
  unfold cutV
  rw [HT.sIx_none, HT.sIx_nat, Nat.min_eq_left h]
  rfl
theorem cut_hi {xs : List V} {j : Nat} (h : j < xs.length) : cutV xs (some ((j : Int) + 1)) none = xs.drop (j + 1) := by
  unfold cutV
  have e : HT.sIx xs.length 0 (some ((j : Int) + 1)) = j + 1 := by
    have := HT.sIx_nat xs.length 0 (j + 1)
    rw [show (((j + 1 : Nat) : Int)) = (j : Int) + 1 by omega] at this
    rw [this, Nat.min_eq_left (by omega)]
  rw [e, HT.sIx_none]
  apply List.take_of_length_le
  rw [List.length_drop]
  exact Nat.le_refl _
theorem pe_imp {X : Cx} {e : Expr} {t S : TE} (h : PE X e t) (hs : ∀ σ H Q, S σ H Q → t σ H Q) : PE X e S := ⟨fun pins s σ H Q I q => h.run pins s σ H Q I (hs σ H Q q)⟩
/-! ### calls by names alone -/
section
variable {X : Cx} {CX : CXT} {k : Nat} {f : Addr} {fd : FuncData} {ps ks : List Str} {sp : Sp} {E : XK} {x : Str} {p pos : Pos} {kws : List Keyword} {tk : TA} {g : List Value → List Value → List Value} {gV : List V → List V → List V}
theorem pe_callK0 (F : FnOk X.prog X.w X.K X.mg X.base CX k f fd ps sp) (hr : Room k X.A) (hg : Gl X x) (hm : X.mg x = some (.ref f)) (hk : PySem.W.keepIn X.K (.ref f) = true) (hb : KBinds X.K fd ps ks g gV) (hx : Passes CX X E)
    (hkw : PK X kws tk) (hall : (backToKw pos (keywordEach kws X.env)).all (·.1.isSome) = true := by rfl) (hks : (backToKw pos (keywordEach kws X.env)).filterMap (·.1) = ks := by rfl)
    (hdb : (x == ("__debug__" : Str)) = false := by decide)
    (hpl : ((backTo pos (starEach [] X.env)).any (·.1) || (backToKw pos (keywordEach kws X.env)).any (·.1.isNone)) = false := by rfl) :
    PE X (.Call (.Name x p) [] kws pos) (tCallK sp gV E tNil tk) := by
  refine ⟨fun pins s σ H Q I h => ?_⟩
  refine wpAny_Call_Name_kw (ld_glob I hg hm ?_ hdb)
  refine PySem.W.callWith_KW0 (h₀ := X.base) I.ok.mod.kin hk hall ?_ hpl
  refine thn (hkw.run pos pins s σ H _ I h) fun ws s2 ⟨zs, H2, I2, rz, q2⟩ => ⟨I2.kIn, ?_⟩
  rw [hks]
  exact run_fnk F hr hb hx I2 .nil rz q2
end
def g1 {α : Type} : List α → List α → List α
  | [], [a] => [a]
  | _, _ => []
def g2 {α : Type} : List α → List α → List α
  | [], [a, b] => [a, b]
  | _, _ => []
def g2s {α : Type} : List α → List α → List α
  | [], [a, b] => [b, a]
  | _, _ => []
structure CalK (P : Program) (w : World) (K : PySem.W.Frag) (mg : Str → Option Value) (base : Heap) (x : Str) (k : Nat) (ps ks : List Str) (g : List Value → List Value → List Value) (gV : List V → List V → List V) (sp : Sp) : Prop where
  ex : ∃ f fd, FnOk P w K mg base CX0 k f fd ps sp ∧ mg x = some (.ref f) ∧ PySem.W.keepIn K (.ref f) = true ∧ KBinds K fd ps ks g gV
theorem kb1 {K : PySem.W.Frag} {x qual a : Str} {st : Stmt} {f : Addr} {fd : FuncData} (F : Fun K x qual st f fd)
    (h : ∀ (kV doc pm : Value) (an : Option Addr) (cdv ct : Value) (u : Value), bindArgs (PySem.W.fnOf x qual (defArgs st) (defBody st) (defScope st) .none kV doc pm an cdv ct) ⟨[], [(a, u)]⟩ = pure [(a, u)]) : KBinds K fd [a] [a] g1 g1 := by
  obtain ⟨oc, od, kV, doc, pm, an, cdv, ct, osl, rfl, lk, hcd⟩ := F.ex
  refine ⟨fun s us ws _ hl => ?_, fun {vs us zs ws} r rz => ?_⟩
  · match us, ws, hl with
    | [], [u], _ => exact .of_eq (h kV doc pm an cdv ct u)
  · cases r with
    | nil =>
      cases rz with
      | nil => exact .nil
      | cons a b => cases b with
        | nil => exact .cons a .nil
        | cons c d => exact .nil
    | cons a b => exact .nil
theorem kb2 {K : PySem.W.Frag} {x qual a b : Str} {st : Stmt} {f : Addr} {fd : FuncData} (F : Fun K x qual st f fd)
    (h : ∀ (kV doc pm : Value) (an : Option Addr) (cdv ct : Value) (u v : Value), bindArgs (PySem.W.fnOf x qual (defArgs st) (defBody st) (defScope st) .none kV doc pm an cdv ct) ⟨[], [(a, u), (b, v)]⟩ = pure [(a, u), (b, v)]) : KBinds K fd [a, b] [a, b] g2 g2 := by
  obtain ⟨oc, od, kV, doc, pm, an, cdv, ct, osl, rfl, lk, hcd⟩ := F.ex
  refine ⟨fun s us ws _ hl => ?_, fun {vs us zs ws} r rz => ?_⟩
  · match us, ws, hl with
    | [], [u, v], _ => exact .of_eq (h kV doc pm an cdv ct u v)
  · cases r with
    | nil =>
      cases rz with
      | nil => exact .nil
      | cons a b => cases b with
        | nil => exact .nil
        | cons c d => cases d with
          | nil => exact .cons a (.cons c .nil)
          | cons e f => exact .nil
    | cons a b => exact .nil
theorem kb2s {K : PySem.W.Frag} {x qual a b : Str} {st : Stmt} {f : Addr} {fd : FuncData} (F : Fun K x qual st f fd)
    (h : ∀ (kV doc pm : Value) (an : Option Addr) (cdv ct : Value) (u v : Value), bindArgs (PySem.W.fnOf x qual (defArgs st) (defBody st) (defScope st) .none kV doc pm an cdv ct) ⟨[], [(b, u), (a, v)]⟩ = pure [(a, v), (b, u)]) : KBinds K fd [a, b] [b, a] g2s g2s := by
  obtain ⟨oc, od, kV, doc, pm, an, cdv, ct, osl, rfl, lk, hcd⟩ := F.ex
  refine ⟨fun s us ws _ hl => ?_, fun {vs us zs ws} r rz => ?_⟩
  · match us, ws, hl with
    | [], [u, v], _ => exact .of_eq (h kV doc pm an cdv ct u v)
  · cases r with
    | nil =>
      cases rz with
      | nil => exact .nil
      | cons a b => cases b with
        | nil => exact .nil
        | cons c d => cases d with
          | nil => exact .cons c (.cons a .nil)
          | cons e f => exact .nil
    | cons a b => exact .nil

end K2

namespace K2
open PySem L2 RW RZ
theorem small6 {n : Nat} (h : n ≤ 2000000) : n < sizeLine := by rw [sizeLine_eq]; omega
/-! ### mirrors -/
abbrev big : Int := 1000000000000000000000000000000
def wholeD : PyData → Bool
  | .int _ => true
  | _ => false
def placesD : PyData → Bool
  | .int i => decide (1 ≤ i) && decide (i ≤ 4)
  | _ => false
def boundD : PyData → Bool
  | .none => true
  | .int i => decide (-big ≤ i) && decide (i ≤ big)
  | _ => false
def sideD (n : Int) : PyData → Bool
  | .tuple qs => decide ((qs.length : Int) = n) && qs.all boundD
  | _ => false
theorem isInt_whole (q : PyData) : (isIntD q && !isBlD q) = wholeD q := by cases q <;> rfl
theorem ite_bool {α : Prop} {b : Bool} {x y : Prop} (h : if b = true then x else y) : (b = true → x) ∧ (b = false → y) := by cases b <;> simp_all
theorem iteB {b : Bool} {x y : Prop} (h1 : b = true → x) (h2 : b = false → y) : if b = true then x else y := by cases b <;> simp_all
section
variable {X : Cx} {x : Str} {pos : Pos}
theorem pe_ty (T : String) (hg : Gl X x) (hm : X.mg x = none) (hv : bootBuiltins x = some (.type T)) (hn : x ≠ "__name__" := by decide) (hd : (x == ("__debug__" : Str)) = false := by decide) : PE X (.Name x pos) (tC (.ty T)) := pe_bltn hg hm hv rfl hn hd
end
section
variable {P : Program} {w : World} {K : PySem.W.Frag} {mg : Str → Option Value} {base : Heap}
/-! ### is_whole, is_places, is_bounded -/
def spD (g : PyData → Bool) : Sp := fun vs H Q _ => ∃ (v : V) (u d : Addr) (q : PyData), vs = [v] ∧ DX u d H v q ∧ Q (.bl (g q)) H
theorem scWhole : FnScope ["value"] ["value"] (defScope sWhole) := ⟨rfl, rfl, rfl, by decide +kernel, rfl, by decide +kernel, by decide +kernel⟩
theorem ok_whole {f : Addr} {fd : FuncData} (F : Fun K "is_whole" "is_whole" sWhole f fd) (B : Bl mg) : FnOk P w K mg base CX0 1 f fd ["value"] (spD wholeD) := by
  refine F.ok scWhole (fun vs H Q E h => ?_) (fun cdv A outer s H vs Q E hr h => ?_)
  · obtain ⟨v, u, d, q, rfl, _⟩ := h
    rfl
  · obtain ⟨v, u, d, q, rfl, hd, k⟩ := h
    refine ⟨_, pss_one (ps_ret (pe_and (pe_callB call_isInt (by rfl) B.isinstance (by decide +kernel) (pa_cons (pv 0) (pa_cons (pe_ty "int" (by rfl) B.int_ (by decide +kernel)) pa_nil)))
      (pe_one (pe_not (pe_callB call_isBl (by rfl) B.isinstance (by decide +kernel) (pa_cons (pv 0) (pa_cons (pe_ty "bool" (by rfl) B.bool_ (by decide +kernel)) pa_nil))))))), ?_⟩
    have e := isInt_whole q
    refine ⟨_, rfl, v, u, d, q, rfl, hd, isIntD q, rfl, ?_⟩
    refine iteB (fun h1 => ⟨_, rfl, v, u, d, q, rfl, hd, isBlD q, rfl, ?_⟩) (fun h1 => ?_)
    · rw [h1, Bool.true_and] at e
      rw [e]
      exact k
    · rw [h1, Bool.false_and] at e
      rw [e]
      exact k
theorem scPlaces : FnScope ["value"] ["value"] (defScope sPlaces) := ⟨rfl, rfl, rfl, by decide +kernel, rfl, by decide +kernel, by decide +kernel⟩
theorem ok_places {f : Addr} {fd : FuncData} {tm : Tok} (F : Fun K "is_places" "is_places" sPlaces f fd) (mp : mg "MAX_PLACES" = some (.int 4 tm)) (C1 : Cal P w K mg base "is_whole" 1 ["value"] (spD wholeD)) : FnOk P w K mg base CX0 2 f fd ["value"] (spD placesD) := by
  obtain ⟨f1, fd1, G1, m1, k1, b1⟩ := C1.ex
  refine F.ok scPlaces (fun vs H Q E h => ?_) (fun cdv A outer s H vs Q E hr h => ?_)
  · obtain ⟨v, u, d, q, rfl, _⟩ := h
    rfl
  · obtain ⟨v, u, d, q, rfl, hd, k⟩ := h
    refine ⟨_, pss_one (ps_ret (pe_and (pe_call G1 hr rfl m1 k1 b1 .nil pass0 (pa_cons (pv 0) pa_nil)) (pe_one (pe_chain op_le op_le pe_int (pv 0) (pe_glob (v := .int 4) (by rfl) mp ⟨_, rfl⟩))))), ?_⟩
    refine ⟨_, rfl, v, u, d, q, rfl, hd, wholeD q, rfl, ?_⟩
    cases hd with
    | int i =>
      refine ⟨_, rfl, _, _, rfl, rfl, _, rfl, ?_⟩
      refine iteB (fun h1 => ⟨_, _, rfl, rfl, ?_⟩) (fun h1 => ?_)
      · have : placesD (.int i) = decide (i ≤ 4) := by show (decide (1 ≤ i) && decide (i ≤ 4)) = _; rw [h1, Bool.true_and]
        rw [this] at k
        exact k
      · have : placesD (.int i) = false := by show (decide (1 ≤ i) && decide (i ≤ 4)) = _; rw [h1, Bool.false_and]
        rw [this] at k
        exact k
    | non => exact k
    | bl b => exact k
    | str x => exact k
    | lst _ _ _ _ => exact k
    | tup _ _ _ _ => exact k
    | dic _ _ _ _ => exact k
theorem scBounded : FnScope ["value"] ["value"] (defScope sBounded) := ⟨rfl, rfl, rfl, by decide +kernel, rfl, by decide +kernel, by decide +kernel⟩
theorem ok_bounded {f : Addr} {fd : FuncData} {tm : Tok} (F : Fun K "is_bounded" "is_bounded" sBounded f fd) (mp : mg "MAX_NUMBER" = some (.int big tm)) (C1 : Cal P w K mg base "is_whole" 1 ["value"] (spD wholeD)) : FnOk P w K mg base CX0 2 f fd ["value"] (spD boundD) := by
  obtain ⟨f1, fd1, G1, m1, k1, b1⟩ := C1.ex
  refine F.ok scBounded (fun vs H Q E h => ?_) (fun cdv A outer s H vs Q E hr h => ?_)
  · obtain ⟨v, u, d, q, rfl, _⟩ := h
    rfl
  · obtain ⟨v, u, d, q, rfl, hd, k⟩ := h
    refine ⟨_, pss_one (ps_ret (pe_or (pe_cmpR op_isN (pv 0) pe_non (nomark _)) (pe_one (pe_and (pe_call G1 hr rfl m1 k1 b1 .nil pass0 (pa_cons (pv 0) pa_nil))
      (pe_one (pe_chain op_le op_le (pe_un un_neg (pe_glob (v := .int big) (by rfl) mp ⟨_, rfl⟩)) (pv 0) (pe_glob (v := .int big) (by rfl) mp ⟨_, rfl⟩))))))), ?_⟩
    refine ⟨_, rfl, rfl, _, rfl, ?_⟩
    cases hd with
    | non => exact k
    | int i =>
      refine iteF ⟨_, rfl, _, u, d, _, rfl, .int i, true, rfl, ?_⟩
      refine iteT ⟨_, rfl, _, rfl, _, _, rfl, rfl, _, rfl, ?_⟩
      refine iteB (fun h1 => ⟨_, _, rfl, rfl, ?_⟩) (fun h1 => ?_)
      · have : boundD (.int i) = decide (i ≤ big) := by show (decide (-big ≤ i) && decide (i ≤ big)) = _; rw [h1, Bool.true_and]
        rw [this] at k
        exact k
      · have : boundD (.int i) = false := by show (decide (-big ≤ i) && decide (i ≤ big)) = _; rw [h1, Bool.false_and]
        rw [this] at k
        exact k
    | bl b => exact iteF ⟨_, rfl, _, u, d, _, rfl, .bl b, false, rfl, k⟩
    | str x => exact iteF ⟨_, rfl, _, u, d, _, rfl, .str x, false, rfl, k⟩
    | lst h1 h2 h3 h4 => exact iteF ⟨_, rfl, _, u, d, _, rfl, .lst h1 h2 h3 h4, false, rfl, k⟩
    | tup h1 h2 h3 h4 => exact iteF ⟨_, rfl, _, u, d, _, rfl, .tup h1 h2 h3 h4, false, rfl, k⟩
    | dic h1 h2 h3 h4 => exact iteF ⟨_, rfl, _, u, d, _, rfl, .dic h1 h2 h3 h4, false, rfl, k⟩
/-! ### is_side -/
def lenD : PyData → Nat
  | .tuple qs => qs.length
  | .list qs => qs.length
  | _ => 0
def spPart (g : Int → PyData → Bool) : Sp := fun vs H Q _ => ∃ (v : V) (u d : Addr) (q : PyData) (n : Int), vs = [.int n, v] ∧ n ≤ 4 ∧ DX u d H v q ∧ lenD q ≤ 2000000 ∧ ∀ H', Same H H' → Q (.bl (g n q)) H'
theorem all_take {qs : List PyData} {i : Nat} {q : PyData} (h : qs[i]? = some q) : (qs.take (i + 1)).map boundD = (qs.take i).map boundD ++ [boundD q] := by rw [take_one h]; simp
def noneW : PyData → Bool
  | .none => true
  | q => wholeD q
def anyD (n : Int) : PyData → Bool
  | .tuple qs => decide ((qs.length : Int) = n) && qs.all noneW
  | _ => false
theorem all_takeN {qs : List PyData} {i : Nat} {q : PyData} (h : qs[i]? = some q) : (qs.take (i + 1)).map noneW = (qs.take i).map noneW ++ [noneW q] := by rw [take_one h]; simp
theorem scAny : FnScope ["places", "value", "item"] ["places", "value"] (defScope sAny) := ⟨rfl, rfl, rfl, by decide +kernel, rfl, by decide +kernel, by decide +kernel⟩
theorem ok_isAny {f : Addr} {fd : FuncData} (F : Fun K "is_any_side" "is_any_side" sAny f fd) (B : Bl mg) (C1 : Cal P w K mg base "is_whole" 1 ["value"] (spD wholeD)) : FnOk P w K mg base CX0 2 f fd ["places", "value"] (spPart anyD) := by
  obtain ⟨f1, fd1, G1, m1, k1, b1⟩ := C1.ex
  refine F.ok scAny (fun vs H Q E h => ?_) (fun cdv A outer s H vs Q E hr h => ?_)
  · obtain ⟨v, u, d, q, n, rfl, _⟩ := h
    rfl
  · obtain ⟨v, u, d, q, n, rfl, hn, hd, hz, k⟩ := h
    refine ⟨_, pss_cons (ps_if (PW.pt (pw_or (pt_not (pt_val (pe_callB call_isTup (by rfl) B.isinstance (by decide +kernel) (pa_cons (pv 1) (pa_cons (pe_ty "tuple" (by rfl) B.tuple (by decide +kernel)) pa_nil)))))
        (pw_or1 (pt_cmpR op_ne (pe_callB call_len_seq (by rfl) B.len PySem.boot_len (pa_cons (pv 1) pa_nil)) (pv 0) (nomark _))))) (pss_one (ps_ret pe_bl)) pss_nil)
      (pss_one (ps_ret (pe_callB (cr_all rfl) (by rfl) B.all_ (by decide +kernel) (pa_cons (pe_lc (own := [("item", 2)]) (g := gName 2) rfl scAny.nd (pi_tup (pv 1)) (blkOk_by (N := ["places", "value", "item"]) (sc := defScope sAny) (by decide +kernel)) (fun _ _ _ _ _ => pg_name (i := 2) scAny.nd rfl (Or.inl rfl))
        (fun _ _ _ _ _ => pts_nil) (fun _ _ _ _ _ => pe_or (pe_cmpR op_isN (pv 2) pe_non (nomark _)) (pe_one (pe_call G1 hr rfl m1 k1 b1 .nil pass0 (pa_cons (pv 2) pa_nil))))) pa_nil)))), ?_⟩
    refine ⟨_, rfl, v, u, d, q, rfl, hd, _, rfl, ?_⟩
    cases hd with
    | @tup a xs qs h1 h2 h3 h4 =>
      refine iteF ⟨_, rfl, _, _, rfl, .inr (SqT.of h3), _, rfl, rfl, _, rfl, ?_⟩
      have hlen := h4.length
      have hz' : qs.length ≤ 2000000 := hz
      refine ite2 (fun hne => ?_) (fun hne => ?_)
      · have e : anyD n (.tuple qs) = false := by
          have hne' : (xs.length : Int) ≠ n := by simpa using hne
          show (decide ((qs.length : Int) = n) && qs.all noneW) = false
          rw [← hlen, decide_eq_false hne', Bool.false_and]
        have := k H (Same.refl _)
        rw [e] at this
        exact this
      · have e : anyD n (.tuple qs) = qs.all noneW := by
          have hne' : (xs.length : Int) = n := by simpa using hne
          show (decide ((qs.length : Int) = n) && qs.all noneW) = _
          rw [← hlen, decide_eq_true hne', Bool.true_and]
        refine ⟨_, rfl, a, rfl, ⟨_, SqT.of h3⟩, fun D hD => lc_tup (K := K) (a := a) (xs := xs) (LcI H D fun i => ((qs.take i).map noneW).map V.bl) (lcI_start hD rfl) (fun i H' _ I => SqT.of (I.1 _ _ h3)) (fun i x H' hi I => ?_) (fun H' I => ?_)⟩
        · obtain ⟨y, hy, dy⟩ := h4.at hi
          have dz := dy.same I.1
          have pt := all_takeN hy
          have sm : (((qs.take i).map noneW).map V.bl).length ≤ 2000000 := by rw [List.length_map, List.length_map, List.length_take]; have := (List.getElem?_eq_some_iff.mp hy).1; omega
          have pe : ∀ b, noneW y = b → List.map V.bl ((qs.take (i + 1)).map noneW) = List.map V.bl ((qs.take i).map noneW) ++ [V.bl b] := fun b hb => by
            rw [pt, List.map_append, hb]
            rfl
          refine ⟨rfl, yes_ ?_⟩
          refine ⟨_, rfl, rfl, _, rfl, ?_⟩
          cases dz with
          | non => exact ⟨_, I.2, small6 sm, I.put hD (pe _ rfl)⟩
          | int i => exact iteF ⟨_, rfl, _, u, d, _, rfl, .int i, _, I.2, small6 sm, I.put hD (pe _ rfl)⟩
          | bl b => exact iteF ⟨_, rfl, _, u, d, _, rfl, .bl b, _, I.2, small6 sm, I.put hD (pe _ rfl)⟩
          | str x => exact iteF ⟨_, rfl, _, u, d, _, rfl, .str x, _, I.2, small6 sm, I.put hD (pe _ rfl)⟩
          | lst g1 g2 g3 g4 => exact iteF ⟨_, rfl, _, u, d, _, rfl, .lst g1 g2 g3 g4, _, I.2, small6 sm, I.put hD (pe _ rfl)⟩
          | tup g1 g2 g3 g4 => exact iteF ⟨_, rfl, _, u, d, _, rfl, .tup g1 g2 g3 g4, _, I.2, small6 sm, I.put hD (pe _ rfl)⟩
          | dic g1 g2 g3 g4 => exact iteF ⟨_, rfl, _, u, d, _, rfl, .dic g1 g2 g3 g4, _, I.2, small6 sm, I.put hD (pe _ rfl)⟩
        · refine ⟨D, _, rfl, SqL.of (I.fin rfl), ?_⟩
          have := k H' I.1
          rw [e] at this
          rw [hlen, List.take_length, List.all_map]
          exact this
    | non => exact iteT (k H (Same.refl _))
    | bl b => exact iteT (k H (Same.refl _))
    | int i => exact iteT (k H (Same.refl _))
    | str x => exact iteT (k H (Same.refl _))
    | lst _ _ _ _ => exact iteT (k H (Same.refl _))
    | dic _ _ _ _ => exact iteT (k H (Same.refl _))
theorem scIsSide : FnScope ["places", "value", "item"] ["places", "value"] (defScope sIsSide) := ⟨rfl, rfl, rfl, by decide +kernel, rfl, by decide +kernel, by decide +kernel⟩
theorem side_any {n : Int} {q : PyData} (h : anyD n q = false) : sideD n q = false := by
  cases q with
  | tuple qs =>
    rw [Bool.eq_false_iff] at h ⊢
    intro h2
    apply h
    have h' : (decide ((qs.length : Int) = n) && qs.all boundD) = true := h2
    simp only [Bool.and_eq_true] at h'
    show (decide ((qs.length : Int) = n) && qs.all noneW) = true
    rw [h'.1, Bool.true_and, List.all_eq_true]
    intro y hy
    have := List.all_eq_true.mp h'.2 y hy
    cases y with
    | none => rfl
    | int i => rfl
    | _ => cases this
  | _ => rfl
theorem ok_isSide {f : Addr} {fd : FuncData} (F : Fun K "is_side" "is_side" sIsSide f fd) (B : Bl mg) (C0 : Cal P w K mg base "is_any_side" 2 ["places", "value"] (spPart anyD)) (C1 : Cal P w K mg base "is_bounded" 2 ["value"] (spD boundD)) : FnOk P w K mg base CX0 3 f fd ["places", "value"] (spPart sideD) := by
  obtain ⟨f0, fd0, G0, m0, k0, b0⟩ := C0.ex
  obtain ⟨f1, fd1, G1, m1, k1, b1⟩ := C1.ex
  refine F.ok scIsSide (fun vs H Q E h => ?_) (fun cdv A outer s H vs Q E hr h => ?_)
  · obtain ⟨v, u, d, q, n, rfl, _⟩ := h
    rfl
  · obtain ⟨v, u, d, q, n, rfl, hn, hd, hz, k⟩ := h
    refine ⟨_, pss_one (ps_ret (pe_and (pe_call G0 hr rfl m0 k0 b0 .nil pass0 (pa_cons (pv 0) (pa_cons (pv 1) pa_nil)))
      (pe_one (pe_callB (cr_all rfl) (by rfl) B.all_ (by decide +kernel) (pa_cons (pe_lc (own := [("item", 2)]) (g := gName 2) rfl scIsSide.nd (pi_tup (pv 1)) (blkOk_by (N := ["places", "value", "item"]) (sc := defScope sIsSide) (by decide +kernel)) (fun _ _ _ _ _ => pg_name (i := 2) scIsSide.nd rfl (Or.inl rfl))
        (fun _ _ _ _ _ => pts_nil) (fun _ _ _ _ _ => pe_call G1 hr rfl m1 k1 b1 .nil pass0 (pa_cons (pv 2) pa_nil))) pa_nil))))), ?_⟩
    refine ⟨_, rfl, _, rfl, v, u, d, q, n, rfl, hn, hd, hz, fun H1 S1 => ?_⟩
    refine ⟨_, rfl, ?_⟩
    cases ha : anyD n q with
    | false =>
      have := k H1 S1
      rw [side_any ha] at this
      exact iteF this
    | true =>
      refine iteT ?_
      cases hd.same S1 with
      | @tup a xs qs h1 h2 h3 h4 =>
        have hlen := h4.length
        have hz' : qs.length ≤ 2000000 := hz
        have e : sideD n (.tuple qs) = qs.all boundD := by
          have ha' : (decide ((qs.length : Int) = n) && qs.all noneW) = true := ha
          simp only [Bool.and_eq_true] at ha'
          show (decide ((qs.length : Int) = n) && qs.all boundD) = _
          rw [ha'.1, Bool.true_and]
        refine ⟨_, rfl, a, rfl, ⟨_, SqT.of h3⟩, fun D hD => lc_tup (K := K) (a := a) (xs := xs) (LcI H1 D fun i => ((qs.take i).map boundD).map V.bl) (lcI_start hD rfl) (fun i H' _ I => SqT.of (I.1 _ _ h3)) (fun i x H' hi I => ?_) (fun H' I => ?_)⟩
        · obtain ⟨y, hy, dy⟩ := h4.at hi
          refine ⟨rfl, yes_ ?_⟩
          refine ⟨_, rfl, x, u, d, y, rfl, dy.same I.1, _, I.2, ?_, I.put hD ?_⟩
          · exact small6 (by rw [List.length_map, List.length_map, List.length_take]; have := (List.getElem?_eq_some_iff.mp hy).1; omega)
          · show List.map V.bl ((qs.take (i + 1)).map boundD) = _
            rw [all_take hy, List.map_append]
            rfl
        · refine ⟨D, _, rfl, SqL.of (I.fin rfl), ?_⟩
          have := k H' (S1.trans I.1)
          rw [e] at this
          rw [hlen, List.take_length, List.all_map]
          exact this
      | non => cases ha
      | bl b => cases ha
      | int i => cases ha
      | str x => cases ha
      | lst _ _ _ _ => cases ha
      | dic _ _ _ _ => cases ha
end
end K2

namespace K2
open PySem L2 RW RZ
mutual
/-- no less than the length of what is shown -/
def sz : PyData → Nat
  | .none | .bool _ => 6
  | .int _ => 2000
  | .str x => (reprText x).length + 6
  | .list qs | .tuple qs => 6 + szs qs
  | .dict kvs => 6 + szk kvs
def szs : List PyData → Nat
  | [] => 0
  | q :: qs => sz q + 6 + szs qs
def szk : List (PyData × PyData) → Nat
  | [] => 0
  | (k, v) :: r => sz k + sz v + 6 + szk r
end
theorem szs_append : ∀ a b : List PyData, szs (a ++ b) = szs a + szs b
  | [], b => by simp [szs]
  | x :: a, b => by simp only [List.cons_append, szs, szs_append a b]; omega
theorem szs_len : ∀ a : List PyData, 6 * a.length ≤ szs a
  | [] => by simp [szs]
  | x :: a => by simp only [List.length_cons, szs]; have := szs_len a; omega
theorem szs_mem : ∀ {a : List PyData} {q : PyData}, q ∈ a → sz q + 6 ≤ szs a
  | x :: a, q, h => by
    simp only [szs]
    rcases List.mem_cons.mp h with rfl | h
    · omega
    · have := szs_mem h
      omega
theorem szs_take (a : List PyData) (n : Nat) : szs (a.take n) ≤ szs a := by
  have := szs_append (a.take n) (a.drop n)
  rw [List.take_append_drop] at this
  omega
theorem szs_drop (a : List PyData) (n : Nat) : szs (a.drop n) ≤ szs a := by
  have := szs_append (a.take n) (a.drop n)
  rw [List.take_append_drop] at this
  omega
theorem szs_rep (q : PyData) : ∀ n : Nat, szs (List.replicate n q) = n * (sz q + 6)
  | 0 => by simp [szs]
  | n + 1 => by rw [List.replicate_succ, szs, szs_rep q n, Nat.succ_mul]; omega
theorem showA_append : ∀ a b : List PyData, PyData.showableAll (a ++ b) = (PyData.showableAll a && PyData.showableAll b)
  | [], b => by simp [PyData.showableAll]
  | x :: a, b => by simp only [List.cons_append, PyData.showableAll, showA_append a b, Bool.and_assoc]
theorem showA_mem : ∀ {a : List PyData} {q : PyData}, q ∈ a → PyData.showableAll a = true → q.showable = true
  | x :: a, q, h, s => by
    simp only [PyData.showableAll, Bool.and_eq_true] at s
    rcases List.mem_cons.mp h with rfl | h
    · exact s.1
    · exact showA_mem h s.2
theorem showA_of : ∀ {a : List PyData}, (∀ q ∈ a, q.showable = true) → PyData.showableAll a = true
  | [], _ => rfl
  | x :: a, h => by
    simp only [PyData.showableAll, h x (List.mem_cons_self ..), Bool.true_and]
    exact showA_of fun q hq => h q (List.mem_cons_of_mem _ hq)
theorem depA_mem : ∀ {a : List PyData} {q : PyData}, q ∈ a → q.depth ≤ PyData.depthAll a
  | x :: a, q, h => by
    simp only [PyData.depthAll]
    rcases List.mem_cons.mp h with rfl | h
    · exact Nat.le_max_left _ _
    · exact Nat.le_trans (depA_mem h) (Nat.le_max_right _ _)
theorem depA_of {n : Nat} : ∀ {a : List PyData}, (∀ q ∈ a, q.depth ≤ n) → PyData.depthAll a ≤ n
  | [], _ => by simp [PyData.depthAll]
  | x :: a, h => by
    simp only [PyData.depthAll]
    exact Nat.max_le.mpr ⟨h x (List.mem_cons_self ..), depA_of fun q hq => h q (List.mem_cons_of_mem _ hq)⟩
theorem join2_len : ∀ ps : List Str, (Str.join ", " ps).length ≤ (ps.map (·.length)).sum + 2 * ps.length
  | [] => by simp [Str.join]; decide
  | [x] => by simp [Str.join]
  | x :: y :: r => by
    have := join2_len (y :: r)
    show (x ++ ", " ++ Str.join ", " (y :: r)).length ≤ _
    rw [strLen_append, strLen_append]
    have e : (", " : Str).length = 2 := by decide +kernel
    rw [e]
    simp only [List.map_cons, List.sum_cons, List.length_cons] at this ⊢
    omega
mutual
theorem sz_shown : ∀ q : PyData, q.showable = true → q.shown.length ≤ sz q
  | .none, _ => by simp only [PyData.shown, sz]; decide
  | .bool b, _ => by cases b <;> simp only [PyData.shown, sz] <;> decide
  | .int i, h => by
    have := int_text_length_le (k := 1920) (by decide) (by simpa [PyData.showable] using h)
    simp only [PyData.shown, sz]
    show (Str.ofString (toString i)).length ≤ 2000
    rw [ofString_length]
    omega
  | .str x, _ => by simp only [PyData.shown, sz]; omega
  | .list qs, h => by
    have h1 := szs_shown qs (by simpa [PyData.showable] using h)
    have := listText_len_le (PyData.shownAll qs)
    simp only [PyData.shown, sz]
    omega
  | .tuple qs, h => by
    have h1 := szs_shown qs (by simpa [PyData.showable] using h)
    have := tupleText_len_le (PyData.shownAll qs)
    simp only [PyData.shown, sz]
    omega
  | .dict kvs, h => by
    have h1 := szk_shown kvs (by simpa [PyData.showable] using h)
    have h2 := join2_len (PyData.shownKv kvs)
    simp only [PyData.shown, sz]
    unfold dictText
    rw [strLen_append, strLen_append]
    have e1 : ("{" : Str).length = 1 := by decide +kernel
    have e2 : ("}" : Str).length = 1 := by decide +kernel
    rw [e1, e2]
    omega
theorem szs_shown : ∀ qs : List PyData, PyData.showableAll qs = true → ((PyData.shownAll qs).map (·.length)).sum + 2 * (PyData.shownAll qs).length ≤ szs qs
  | [], _ => by simp [PyData.shownAll, szs]
  | q :: qs, h => by
    simp only [PyData.showableAll, Bool.and_eq_true] at h
    have h1 := sz_shown q h.1
    have h2 := szs_shown qs h.2
    simp only [PyData.shownAll, List.map_cons, List.sum_cons, List.length_cons, szs]
    omega
theorem szk_shown : ∀ kvs : List (PyData × PyData), PyData.showableKv kvs = true → ((PyData.shownKv kvs).map (·.length)).sum + 2 * (PyData.shownKv kvs).length ≤ szk kvs
  | [], _ => by simp [PyData.shownKv, szk]
  | (k, v) :: r, h => by
    simp only [PyData.showableKv, Bool.and_eq_true] at h
    have h1 := sz_shown k h.1.1
    have h2 := sz_shown v h.1.2
    have h3 := szk_shown r h.2
    have e : (": " : Str).length = 2 := by decide +kernel
    simp only [PyData.shownKv, List.map_cons, List.sum_cons, List.length_cons, szk, strLen_append]
    rw [e]
    omega
end
/-- small enough to be shown -/
structure Sm (q : PyData) : Prop where
  sh : q.showable = true
  sz : sz q ≤ 2000000
  dp : q.depth ≤ 20
theorem Sm.len {q : PyData} (h : Sm q) : q.shown.length ≤ sizeLine := Nat.le_of_lt (small6 (Nat.le_trans (sz_shown q h.sh) h.sz))
theorem lenD_sz (q : PyData) : lenD q ≤ sz q := by
  cases q <;> simp only [lenD, sz] <;> try omega
  · rename_i qs; have := szs_len qs; omega
  · rename_i qs; have := szs_len qs; omega
theorem Sm.mem {qs : List PyData} {q : PyData} (h : Sm (.tuple qs)) (hq : q ∈ qs) : Sm q := by
  obtain ⟨h1, h2, h3⟩ := h
  have s1 := szs_mem hq
  have s2 := depA_mem hq
  simp only [PyData.showable] at h1
  simp only [PyData.depth] at h3
  simp only [K2.sz] at h2
  exact ⟨showA_mem hq h1, by omega, by omega⟩
end K2

namespace K2
open PySem L2 RW RZ
/-! ### sides -/
def Bo (xs : List (Option Int)) : Prop := ∀ i, some i ∈ xs → -big ≤ i ∧ i ≤ big
theorem bound_list : ∀ {qs : List PyData}, qs.all boundD = true → ∃ xs : List (Option Int), qs = xs.map pd ∧ Bo xs
  | [], _ => ⟨[], rfl, fun i h => by cases h⟩
  | q :: qs, h => by
    simp only [List.all_cons, Bool.and_eq_true] at h
    obtain ⟨xs, rfl, hb⟩ := bound_list h.2
    have h1 := h.1
    cases q with
    | none =>
      refine ⟨none :: xs, rfl, fun i hi => ?_⟩
      rcases List.mem_cons.mp hi with e | e
      · cases e
      · exact hb i e
    | int n =>
      refine ⟨some n :: xs, rfl, fun i hi => ?_⟩
      rcases List.mem_cons.mp hi with e | e
      · cases e
        have h2 : (decide (-big ≤ n) && decide (n ≤ big)) = true := h1
        simp only [Bool.and_eq_true, decide_eq_true_eq] at h2
        exact h2
      · exact hb i e
    | bool b => cases h1
    | str x => cases h1
    | list x => cases h1
    | tuple x => cases h1
    | dict x => cases h1
theorem bound_all {xs : List (Option Int)} (h : Bo xs) : (xs.map pd).all boundD = true := by
  rw [List.all_eq_true]
  intro q hq
  obtain ⟨o, ho, rfl⟩ := List.mem_map.mp hq
  cases o with
  | none => rfl
  | some i =>
    have := h i ho
    show (decide (-big ≤ i) && decide (i ≤ big)) = true
    rw [decide_eq_true this.1, decide_eq_true this.2]
    rfl
theorem dxs_nv {u d : Addr} {H : Hp} : ∀ {xs : List (Option Int)} {vs : List V}, DXs u d H vs (xs.map pd) → vs = xs.map nv
  | [], _, h => by cases h; rfl
  | none :: xs, _, h => by
    cases h with
    | cons h1 h2 =>
      cases h1
      rw [dxs_nv h2]
      rfl
  | some i :: xs, _, h => by
    cases h with
    | cons h1 h2 =>
      cases h1
      rw [dxs_nv h2]
      rfl
theorem dxs_pd {u d : Addr} {H : Hp} : ∀ xs : List (Option Int), DXs u d H (xs.map nv) (xs.map pd)
  | [] => .nil
  | none :: xs => .cons .non (dxs_pd xs)
  | some i :: xs => .cons (.int i) (dxs_pd xs)
theorem side_of {n : Int} {q : PyData} (h : sideD n q = true) : ∃ xs : List (Option Int), q = .tuple (xs.map pd) ∧ (xs.length : Int) = n ∧ Bo xs := by
  cases q with
  | tuple qs =>
    have h' : (decide ((qs.length : Int) = n) && qs.all boundD) = true := h
    simp only [Bool.and_eq_true, decide_eq_true_eq] at h'
    obtain ⟨xs, rfl, hb⟩ := bound_list h'.2
    exact ⟨xs, rfl, by simpa using h'.1, hb⟩
  | none => cases h
  | bool b => cases h
  | int i => cases h
  | str x => cases h
  | list x => cases h
  | dict x => cases h
theorem side_mk {n : Int} {xs : List (Option Int)} (h : (xs.length : Int) = n) (hb : Bo xs) : sideD n (.tuple (xs.map pd)) = true := by
  show (decide (((xs.map pd).length : Int) = n) && _) = true
  rw [List.length_map, decide_eq_true h, bound_all hb]
  rfl
theorem side_at {u d : Addr} {H : Hp} {v : V} {xs : List (Option Int)} (h : DX u d H v (.tuple (xs.map pd))) : ∃ a, v = .ref a ∧ a ≠ u ∧ a ≠ d ∧ H a = some (.tup (xs.map nv)) := by
  cases h with
  | tup h1 h2 h3 h4 =>
    rw [dxs_nv h4] at h3
    exact ⟨_, rfl, h1, h2, h3⟩
def isI : PyData → Bool
  | .int _ => true
  | _ => false
def hasD : PyData → Bool
  | .tuple qs => qs.any isI
  | _ => false
def rowD (n : Int) (q : PyData) : Bool := sideD n q && hasD q
theorem has_pd : ∀ xs : List (Option Int), hasD (.tuple (xs.map pd)) = xs.any Option.isSome
  | [] => rfl
  | none :: xs => by
    have := has_pd xs
    simp only [hasD, List.map_cons, List.any_cons] at this ⊢
    rw [this]
    rfl
  | some i :: xs => by
    simp only [hasD, List.map_cons, List.any_cons, Option.isSome]
    rfl
variable {P : Program} {w : World} {K : PySem.W.Frag} {mg : Str → Option Value} {base : Heap}
/-! ### integers_of -/
def intsOf (xs : List (Option Int)) : List Int := xs.filterMap id
/-- integers_of(numbers), numbers a list or a tuple -/
def spInts (K : PySem.W.Frag) : Sp := fun vs H Q _ => ∃ a xs, vs = [.ref a] ∧ (SqL K H a (xs.map nv) ∨ SqT K H a (xs.map nv)) ∧ xs.length ≤ 1000 ∧ ∀ H' p, Same H H' → H p = none → H' p = some (.lst ((intsOf xs).map V.int)) → Q (.ref p) H'
theorem scInts : FnScope ["numbers", "number"] ["numbers"] (defScope sInts) := ⟨rfl, rfl, rfl, by decide +kernel, rfl, by decide +kernel, by decide +kernel⟩
theorem ok_ints {f : Addr} {fd : FuncData} (F : Fun K "integers_of" "integers_of" sInts f fd) : FnOk P w K mg base CX0 1 f fd ["numbers"] (spInts K) := by
  refine F.ok scInts (fun vs H Q E h => ?_) (fun cdv A outer s H vs Q E hr h => ?_)
  · obtain ⟨a, b, rfl, _⟩ := h
    rfl
  · obtain ⟨a, xs, rfl, hS, hl, k⟩ := h
    rcases hS with hS | hS
    · refine ⟨_, pss_one (ps_ret (pe_lc (own := [("number", 1)]) (g := gName 1) rfl scInts.nd (pi_list (pv 0)) (blkOk_by (N := ["numbers", "number"]) (sc := defScope sInts) (by decide +kernel)) (fun _ _ _ _ _ => pg_name (i := 1) scInts.nd rfl (Or.inl rfl))
        (fun _ _ _ _ _ => pts_one (pt_cmpR op_notN (pv 1) pe_non (nomark _))) (fun _ _ _ _ _ => pv 1))), ?_⟩
      refine ⟨_, rfl, a, rfl, ⟨_, hS⟩, fun D hD => lc_list (K := K) (a := a) (xs := xs.map nv) (LcI H D fun i => (intsOf (xs.take i)).map V.int) (lcI_start hD rfl) (fun i H' _ I => I.1.seq hS) (fun i x H' hi I => ?_) (fun H' I => k _ _ I.1 hD ?_)⟩
      · obtain ⟨n, hn, rfl⟩ := map_at hi
        refine ⟨rfl, _, rfl, rfl, _, rfl, ?_⟩
        have et := take_one hn
        have hi2 := (List.getElem?_eq_some_iff.mp hn).1
        cases n with
        | none => exact iteF (I.skip (by show List.map V.int (intsOf (xs.take (i + 1))) = _; rw [et]; unfold intsOf; rw [List.filterMap_append]; simp))
        | some n =>
          refine iteT ⟨_, rfl, _, I.2, ?_, I.put hD ?_⟩
          · exact small1000 (by rw [List.length_map]; exact Nat.le_trans (List.length_filterMap_le _ _) (Nat.le_trans (List.length_take_le _ _) (by omega)))
          · show List.map V.int (intsOf (xs.take (i + 1))) = _
            rw [et]; unfold intsOf; rw [List.filterMap_append]; simp
            rfl
      · exact I.fin (by show List.map V.int (intsOf (xs.take _)) = _; rw [List.length_map, List.take_length])
    · refine ⟨_, pss_one (ps_ret (pe_lc (own := [("number", 1)]) (g := gName 1) rfl scInts.nd (pi_tup (pv 0)) (blkOk_by (N := ["numbers", "number"]) (sc := defScope sInts) (by decide +kernel)) (fun _ _ _ _ _ => pg_name (i := 1) scInts.nd rfl (Or.inl rfl))
        (fun _ _ _ _ _ => pts_one (pt_cmpR op_notN (pv 1) pe_non (nomark _))) (fun _ _ _ _ _ => pv 1))), ?_⟩
      refine ⟨_, rfl, a, rfl, ⟨_, hS⟩, fun D hD => lc_tup (K := K) (a := a) (xs := xs.map nv) (LcI H D fun i => (intsOf (xs.take i)).map V.int) (lcI_start hD rfl) (fun i H' _ I => Same.sqT I.1 hS) (fun i x H' hi I => ?_) (fun H' I => k _ _ I.1 hD ?_)⟩
      · obtain ⟨n, hn, rfl⟩ := map_at hi
        refine ⟨rfl, _, rfl, rfl, _, rfl, ?_⟩
        have et := take_one hn
        have hi2 := (List.getElem?_eq_some_iff.mp hn).1
        cases n with
        | none => exact iteF (I.skip (by show List.map V.int (intsOf (xs.take (i + 1))) = _; rw [et]; unfold intsOf; rw [List.filterMap_append]; simp))
        | some n =>
          refine iteT ⟨_, rfl, _, I.2, ?_, I.put hD ?_⟩
          · exact small1000 (by rw [List.length_map]; exact Nat.le_trans (List.length_filterMap_le _ _) (Nat.le_trans (List.length_take_le _ _) (by omega)))
          · show List.map V.int (intsOf (xs.take (i + 1))) = _
            rw [et]; unfold intsOf; rw [List.filterMap_append]; simp
            rfl
      · exact I.fin (by show List.map V.int (intsOf (xs.take _)) = _; rw [List.length_map, List.take_length])

/-! ### has_integer -/
theorem ints_any : ∀ xs : List (Option Int), decide (0 < ((intsOf xs).length : Int)) = xs.any Option.isSome
  | [] => rfl
  | none :: xs => by
    have := ints_any xs
    rw [List.any_cons]
    show decide (0 < ((intsOf xs).length : Int)) = _
    rw [this]
    rfl
  | some i :: xs => by
    rw [List.any_cons]
    show decide (0 < (((i :: intsOf xs).length : Nat) : Int)) = _
    rw [decide_eq_true (by rw [List.length_cons]; omega)]
    rfl
def spHas : Sp := fun vs H Q _ => ∃ (a : Addr) (xs : List (Option Int)), vs = [.ref a] ∧ H a = some (.tup (xs.map nv)) ∧ xs.length ≤ 1000 ∧ ∀ H', Same H H' → Q (.bl (xs.any Option.isSome)) H'
theorem scHas : FnScope ["side"] ["side"] (defScope sHas) := ⟨rfl, rfl, rfl, by decide +kernel, rfl, by decide +kernel, by decide +kernel⟩
theorem ok_has {f : Addr} {fd : FuncData} (F : Fun K "has_integer" "has_integer" sHas f fd) (B : Bl mg) (C1 : Cal P w K mg base "integers_of" 1 ["numbers"] (spInts K)) : FnOk P w K mg base CX0 2 f fd ["side"] spHas := by
  obtain ⟨f1, fd1, G1, m1, k1, b1⟩ := C1.ex
  refine F.ok scHas (fun vs H Q E h => ?_) (fun cdv A outer s H vs Q E hr h => ?_)
  · obtain ⟨a, xs, rfl, _⟩ := h
    rfl
  · obtain ⟨a, xs, rfl, hT, hl, k⟩ := h
    refine ⟨_, pss_one (ps_ret (pe_cmpR op_gt (pe_callB call_len_seq (by rfl) B.len PySem.boot_len (pa_cons (pe_call G1 hr rfl m1 k1 b1 .nil pass0 (pa_cons (pv 0) pa_nil)) pa_nil)) pe_int (nomark _))), ?_⟩
    refine ⟨_, rfl, a, xs, rfl, .inr (SqT.of hT), hl, fun H' p S hp e => ?_⟩
    refine ⟨p, _, rfl, .inl (SqL.of e), _, _, rfl, rfl, ?_⟩
    have := k H' S
    rw [← ints_any] at this
    rw [List.length_map]
    exact this
/-! ### is_row -/
theorem scIsRow : FnScope ["places", "value"] ["places", "value"] (defScope sIsRow) := ⟨rfl, rfl, rfl, by decide +kernel, rfl, by decide +kernel, by decide +kernel⟩
theorem ok_isRow {f : Addr} {fd : FuncData} (F : Fun K "is_row" "is_row" sIsRow f fd) (C1 : Cal P w K mg base "is_side" 3 ["places", "value"] (spPart sideD)) (C2 : Cal P w K mg base "has_integer" 2 ["side"] spHas) : FnOk P w K mg base CX0 4 f fd ["places", "value"] (spPart rowD) := by
  obtain ⟨f1, fd1, G1, m1, k1, b1⟩ := C1.ex
  obtain ⟨f2, fd2, G2, m2, k2, b2⟩ := C2.ex
  refine F.ok scIsRow (fun vs H Q E h => ?_) (fun cdv A outer s H vs Q E hr h => ?_)
  · obtain ⟨v, u, d, q, n, rfl, _⟩ := h
    rfl
  · obtain ⟨v, u, d, q, n, rfl, hn, hd, hz, k⟩ := h
    have hr2 : Room 2 _ := hr.mono (by decide)
    refine ⟨_, pss_one (ps_ret (pe_and (pe_call G1 hr rfl m1 k1 b1 .nil pass0 (pa_cons (pv 0) (pa_cons (pv 1) pa_nil))) (pe_one (pe_call G2 hr2 rfl m2 k2 b2 .nil pass0 (pa_cons (pv 1) pa_nil))))), ?_⟩
    refine ⟨_, rfl, _, rfl, v, u, d, q, n, rfl, hn, hd, hz, fun H1 S1 => ⟨_, rfl, ?_⟩⟩
    refine iteB (fun h1 => ?_) (fun h1 => ?_)
    · obtain ⟨xs, rfl, hl, hb⟩ := side_of h1
      obtain ⟨a, rfl, _, _, ha⟩ := side_at hd
      refine ⟨_, rfl, a, xs, rfl, S1 _ _ ha, by omega, fun H2 S2 => ?_⟩
      have := k H2 (S1.trans S2)
      rw [← has_pd]
      have e : rowD n (.tuple (xs.map pd)) = hasD (.tuple (xs.map pd)) := by unfold rowD; rw [h1, Bool.true_and]
      rw [e] at this
      exact this
    · have := k H1 S1
      have e : rowD n q = false := by unfold rowD; rw [h1, Bool.false_and]
      rw [e] at this
      exact this
end K2

namespace K2
open PySem L2 RW RZ
/-! ### what is told of a value -/
abbrev Told := Option (Option Nat × Str)
def plN : PyData → Int
  | .int i => i
  | _ => 0
def linesD (g : PyData → Bool) (pa pt : Str) (most : Int) : PyData → Told
  | .tuple ls => if (ls.length : Int) ≤ most then (ls.findIdx? fun z => !g z).map fun i => (some i, pt) else some (none, pa)
  | _ => some (none, pa)
def formD (g : Int → PyData → Bool) (wh pa pt : Str) (most : Int) : PyData → Told
  | .tuple [p, l] => if placesD p = true then linesD (g (plN p)) pa pt most l else some (none, "places")
  | _ => some (none, wh)
def ix1 : Option Nat → V
  | none => .non
  | some i => .int (i : Nat)
def ErrAt (H : Hp) (r : V) : Told → Prop
  | none => r = .non
  | some (i, x) => ∃ p, r = .ref p ∧ H p = some (.tup [ix1 i, .str x])
theorem ErrAt.same {H H' : Hp} {r : V} {e : Told} (h : ErrAt H r e) (S : Same H H') : ErrAt H' r e := by
  cases e with
  | none => exact h
  | some p => obtain ⟨a, h1, h2⟩ := h; exact ⟨a, h1, S _ _ h2⟩
theorem places_of {p : PyData} (h : placesD p = true) : ∃ n : Int, p = .int n ∧ 1 ≤ n ∧ n ≤ 4 := by
  cases p with
  | int i =>
    have h' : (decide (1 ≤ i) && decide (i ≤ 4)) = true := h
    simp only [Bool.and_eq_true, decide_eq_true_eq] at h'
    exact ⟨i, rfl, h'.1, h'.2⟩
  | none => cases h
  | bool b => cases h
  | str x => cases h
  | list x => cases h
  | tuple x => cases h
  | dict x => cases h
theorem find_go {g : PyData → Bool} {ls : List PyData} {i : Nat} {z : PyData} (hi : ls[i]? = some z) (h : (ls.take i).all g = true) (hz : g z = false) : ls.findIdx? (fun z => !g z) = some i := by
  rw [List.findIdx?_eq_some_iff_getElem]
  obtain ⟨hl, e⟩ := List.getElem?_eq_some_iff.mp hi
  refine ⟨hl, by rw [e, hz]; rfl, fun j hj => ?_⟩
  rw [List.all_eq_true] at h
  have hm : ls[j] ∈ ls.take i := by
    rw [List.mem_take_iff_getElem]
    exact ⟨j, by omega, rfl⟩
  rw [h _ hm]
  simp
theorem find_none {g : PyData → Bool} {ls : List PyData} (h : ls.all g = true) : ls.findIdx? (fun z => !g z) = none := by
  rw [List.findIdx?_eq_none_iff]
  intro x hx
  rw [List.all_eq_true] at h
  rw [h x hx]
  rfl
theorem all_snoc {g : PyData → Bool} {ls : List PyData} {i : Nat} {z : PyData} (hi : ls[i]? = some z) (h : (ls.take i).all g = true) (hz : g z = true) : (ls.take (i + 1)).all g = true := by
  rw [take_one hi, List.all_append, h, List.all_cons, hz]
  rfl
def spForm (P : Program) (w : World) (K : PySem.W.Frag) (mg : Str → Option Value) (base : Heap) : Sp := fun vs H Q _ => ∃ (v : V) (u d : Addr) (q : PyData) (wt f : Addr) (wh pa pt : Str) (most : Int) (g : Int → PyData → Bool) (fd : FuncData),
  vs = [v, .ref wt, .int most, .ref f] ∧ DX u d H v q ∧ Sm q ∧ H wt = some (.tup [.str wh, .str pa, .str pt]) ∧ FnOk P w K mg base CX0 4 f fd ["places", "value"] (spPart g) ∧ PySem.W.keepIn K (.ref f) = true ∧ Binds K fd ["places", "value"] [] ∧
  ∀ H' r, Same H H' → ErrAt H' r (formD g wh pa pt most q) → Q r H'
variable {P : Program} {w : World} {K : PySem.W.Frag} {mg : Str → Option Value} {base : Heap}
abbrev NF : List Str := ["value", "words", "most", "is_part", "whole", "parts", "part", "index", "item"]
theorem scForm : FnScope NF ["value", "words", "most", "is_part"] (defScope sForm) := ⟨rfl, rfl, rfl, by decide +kernel, rfl, by decide +kernel, by decide +kernel⟩
theorem ok_form {f : Addr} {fd : FuncData} (F : Fun K "form_error" "form_error" sForm f fd) (B : Bl mg) (C1 : Cal P w K mg base "is_places" 2 ["value"] (spD placesD)) : FnOk P w K mg base CX0 5 f fd ["value", "words", "most", "is_part"] (spForm P w K mg base) := by
  obtain ⟨f1, fd1, G1, m1, k1, b1⟩ := C1.ex
  refine F.ok scForm (fun vs H Q E h => ?_) (fun cdv A outer s H vs Q E hr h => ?_)
  · obtain ⟨v, u, d, q, wt, f2, wh, pa, pt, most, g, fd2, rfl, _⟩ := h
    rfl
  · obtain ⟨v, u, d, q, wt, f2, wh, pa, pt, most, g, fd2, rfl, hd, hs, hw, G2, k2, b2, k⟩ := h
    have hr2 : Room 2 _ := hr.mono (by decide)
    refine ⟨_, pss_cons (ps_asg (pv 1) (pg_tup rfl (pgs_cons (pg_name (i := 4) scForm.nd rfl (Or.inl rfl)) (pgs_cons (pg_name (i := 5) scForm.nd rfl (Or.inl rfl)) (pgs_cons (pg_name (i := 6) scForm.nd rfl (Or.inl rfl)) pgs_nil)))))
      (pss_cons (ps_if (PW.pt (pw_or (pt_not (pt_val (pe_callB call_isTup (by rfl) B.isinstance (by decide +kernel) (pa_cons (pv 0) (pa_cons (pe_ty "tuple" (by rfl) B.tuple (by decide +kernel)) pa_nil)))))
          (pw_or1 (pt_cmpR op_ne (pe_callB call_len_seq (by rfl) B.len PySem.boot_len (pa_cons (pv 0) pa_nil)) pe_int (nomark _))))) (pss_one (ps_ret (pe_tup (pa_cons pe_non (pa_cons (pv 4) pa_nil))))) pss_nil)
      (pss_cons (ps_if (pt_not (pt_val (pe_call G1 hr2 rfl m1 k1 b1 .nil pass0 (pa_cons (pe_ix ix_tup (pv 0) pe_int (fun _ _ => rfl)) pa_nil)))) (pss_one (ps_ret (pe_tup (pa_cons pe_non (pa_cons pe_str pa_nil))))) pss_nil)
      (pss_cons (ps_if (PW.pt (pw_or (pt_not (pt_val (pe_callB call_isTup (by rfl) B.isinstance (by decide +kernel) (pa_cons (pe_ix ix_tup (pv 0) pe_int (fun _ _ => rfl)) (pa_cons (pe_ty "tuple" (by rfl) B.tuple (by decide +kernel)) pa_nil)))))
          (pw_or1 (pt_cmpR op_gt (pe_callB call_len_seq (by rfl) B.len PySem.boot_len (pa_cons (pe_ix ix_tup (pv 0) pe_int (fun _ _ => rfl)) pa_nil)) (pv 2) (nomark _))))) (pss_one (ps_ret (pe_tup (pa_cons pe_non (pa_cons (pv 5) pa_nil))))) pss_nil)
      (pss_cons (ps_for PassesOwn.never rfl (pi_enumT (by rfl) B.enumerate (pa_cons (pe_ix ix_tup (pv 0) pe_int (fun _ _ => rfl)) pa_nil)) (pg_tup rfl (pgs_cons (pg_name (i := 7) scForm.nd rfl (Or.inl rfl)) (pgs_cons (pg_name (i := 8) scForm.nd rfl (Or.inl rfl)) pgs_nil)))
          (pss_one (ps_if (pt_not (pt_val (pe_callL (i := 3) (f := f2) (sp := spPart g) (dvs := []) G2 (hr.mono (by decide)) rfl (Or.inl rfl) k2 b2 .nil pass0 (pa_cons (pe_ix ix_tup (pv 0) pe_int (fun _ _ => rfl)) (pa_cons (pv 8) pa_nil))))) (pss_one (ps_ret (pe_tup (pa_cons (pv 7) (pa_cons (pv 6) pa_nil))))) pss_nil)))
      (pss_one (ps_ret pe_non)))))), ?_⟩
    have z2 : (2 : Nat) ≤ sizeLine := by decide
    have hk : ∀ (x : Str) (H1 : Hp), Same H H1 → formD g wh pa pt most q = some (none, x) → ∀ p, H1 p = none → Q (.ref p) (upd H1 p (.tup [.non, .str x])) := fun x H1 S e p hp => by
      refine k _ _ (Same.fresh S hp) ?_
      rw [e]
      exact ⟨p, rfl, upd_same⟩
    refine ⟨_, rfl, wt, _, rfl, SqT.of hw, rfl, _, _, rfl, _, _, rfl, _, _, rfl, rfl, ?_⟩
    refine ⟨_, rfl, v, u, d, q, rfl, hd, _, rfl, ?_⟩
    cases hd with
    | non => exact iteT ⟨_, rfl, z2, fun p hp => hk _ _ (Same.refl _) rfl p hp⟩
    | bl b => exact iteT ⟨_, rfl, z2, fun p hp => hk _ _ (Same.refl _) rfl p hp⟩
    | int i => exact iteT ⟨_, rfl, z2, fun p hp => hk _ _ (Same.refl _) rfl p hp⟩
    | str x => exact iteT ⟨_, rfl, z2, fun p hp => hk _ _ (Same.refl _) rfl p hp⟩
    | lst _ _ _ _ => exact iteT ⟨_, rfl, z2, fun p hp => hk _ _ (Same.refl _) rfl p hp⟩
    | dic _ _ _ _ => exact iteT ⟨_, rfl, z2, fun p hp => hk _ _ (Same.refl _) rfl p hp⟩
    | @tup a xs qs h1 h2 h3 h4 =>
      refine iteF ⟨_, rfl, _, _, rfl, .inr (SqT.of h3), rfl, _, rfl, ?_⟩
      have hlen := h4.length
      refine ite2 (fun hne => ?_) (fun hne => ?_)
      · refine ⟨_, rfl, z2, fun p hp => hk _ _ (Same.refl _) ?_ p hp⟩
        match qs, hlen with
        | [], _ => rfl
        | [_], _ => rfl
        | [_, _], hl => exact absurd (by rw [hl]; rfl) (show ¬ ((xs.length : Int) = 2) by simpa using hne)
        | _ :: _ :: _ :: _, _ => rfl
      · have h2l : (xs.length : Int) = 2 := by simpa using hne
        match xs, qs, h4, h2l with
        | [x1, x2], [q1, q2], .cons d1 (.cons d2 .nil), _ =>
        have at0 : atI [x1, x2] 0 = some x1 := atI_nat (j := 0) rfl
        have at1 : atI [x1, x2] 1 = some x2 := atI_nat (j := 1) rfl
        refine ⟨_, rfl, a, _, _, _, rfl, rfl, SqT.of h3, at0, x1, u, d, q1, rfl, d1, _, rfl, ?_⟩
        cases hp : placesD q1 with
        | false =>
          refine iteT ⟨z2, fun p hp2 => hk _ _ (Same.refl _) ?_ p hp2⟩
          show (if placesD q1 = true then _ else _) = _
          rw [hp]
          rfl
        | true =>
          obtain ⟨n, rfl, n1, n4⟩ := places_of hp
          cases d1
          refine iteF ?_
          have ef : ∀ q2', formD g wh pa pt most (.tuple [.int n, q2']) = linesD (g n) pa pt most q2' := fun q2' => by
            show (if placesD (.int n) = true then _ else _) = _
            rw [hp]
            rfl
          refine ⟨_, rfl, a, _, _, _, rfl, rfl, SqT.of h3, at1, x2, u, d, q2, rfl, d2, _, rfl, ?_⟩
          cases d2 with
          | non => exact iteT ⟨_, rfl, z2, fun p hp => hk _ _ (Same.refl _) (ef _) p hp⟩
          | bl b => exact iteT ⟨_, rfl, z2, fun p hp => hk _ _ (Same.refl _) (ef _) p hp⟩
          | int i => exact iteT ⟨_, rfl, z2, fun p hp => hk _ _ (Same.refl _) (ef _) p hp⟩
          | str x => exact iteT ⟨_, rfl, z2, fun p hp => hk _ _ (Same.refl _) (ef _) p hp⟩
          | lst _ _ _ _ => exact iteT ⟨_, rfl, z2, fun p hp => hk _ _ (Same.refl _) (ef _) p hp⟩
          | dic _ _ _ _ => exact iteT ⟨_, rfl, z2, fun p hp => hk _ _ (Same.refl _) (ef _) p hp⟩
          | @tup b ys ls j1 j2 j3 j4 =>
            have hll := j4.length
            refine iteF ⟨_, rfl, a, _, _, _, rfl, rfl, SqT.of h3, at1, _, _, rfl, .inr (SqT.of j3), _, rfl, _, _, rfl, rfl, _, rfl, ?_⟩
            refine ite2 (fun hm => ?_) (fun hm => ?_)
            · have hm' : most < (ys.length : Int) := by simpa using hm
              refine ⟨_, rfl, z2, fun p hp => hk _ _ (Same.refl _) ?_ p hp⟩
              rw [ef]
              show (if (ls.length : Int) ≤ most then _ else _) = _
              rw [if_neg (by omega)]
            · have hm' : ¬ most < (ys.length : Int) := by simpa using hm
              have el : formD g wh pa pt most (.tuple [.int n, .tuple ls]) = (ls.findIdx? fun z => !g n z).map fun i => (some i, pt) := by
                rw [ef]
                show (if (ls.length : Int) ≤ most then _ else _) = _
                rw [if_pos (by omega)]
              have s2 : Sm (.tuple ls) := hs.mem (by simp)
              refine ⟨_, rfl, a, _, _, _, rfl, rfl, SqT.of h3, at1, b, ys, rfl, SqT.of j3, ?_⟩
              refine for_it walk_enumT (fun i σ' H' => Same H H' ∧ (ls.take i).all (g n) = true ∧ ∃ o7 o8, σ' = [some (.ref a), some (.ref wt), some (.int most), some (.ref f2), some (.str wh), some (.str pa), some (.str pt), o7, o8]) ⟨Same.refl _, rfl, _, _, rfl⟩ (fun i σ' H' _ I => SqT.of (I.1 _ _ j3)) (fun i x σ' H1 H2 hi I Y => ?_) (fun σ' H' I => ?_)
              · obtain ⟨S1, ha, o7, o8, rfl⟩ := I
                obtain ⟨T, y, rfl, hT, rfl, hy⟩ := Y
                obtain ⟨z, hz, dz⟩ := j4.at hy
                have S2 : Same H (upd H1 T (.tup [.int (i : Nat), y])) := Same.fresh S1 hT
                have sz' := s2.mem (List.mem_of_getElem? hz)
                refine ⟨T, _, rfl, SqT.of upd_same, rfl, _, _, rfl, _, _, rfl, rfl, ?_⟩
                refine ⟨rfl, _, rfl, a, _, _, _, rfl, rfl, SqT.of (S2 _ _ h3), atI_nat (j := 0) rfl, _, rfl, y, u, d, z, n, rfl, n4, dz.same S2, Nat.le_trans (lenD_sz z) sz'.sz, fun H3 S3 => ⟨_, rfl, ?_⟩⟩
                cases hg : g n z with
                | true => exact iteF ⟨S2.trans S3, all_snoc hz ha hg, _, _, rfl⟩
                | false =>
                  refine iteT ⟨_, rfl, _, rfl, z2, fun p hp => ?_⟩
                  refine k _ _ (Same.fresh (S2.trans S3) hp) ?_
                  rw [el, find_go hz ha hg]
                  exact ⟨p, rfl, upd_same⟩
              · obtain ⟨S1, ha, o7, o8, rfl⟩ := I
                refine k _ _ S1 ?_
                rw [hll, List.take_length] at ha
                rw [el, find_none ha]
                exact rfl
/-! ### table_error, lot_error -/
def tabD : PyData → Told := formD sideD "table" "lines" "line" 6
def lotD : PyData → Told := formD rowD "lot" "rows" "row" 40
def spErr (e : PyData → Told) : Sp := fun vs H Q _ => ∃ (v : V) (u d : Addr) (q : PyData), vs = [v] ∧ DX u d H v q ∧ Sm q ∧ ∀ H' r, Same H H' → ErrAt H' r (e q) → Q r H'
theorem scTabE : FnScope ["value"] ["value"] (defScope sTabE) := ⟨rfl, rfl, rfl, by decide +kernel, rfl, by decide +kernel, by decide +kernel⟩
theorem ok_tabE {f f2 : Addr} {fd fd2 : FuncData} {tm : Tok} (F : Fun K "table_error" "table_error" sTabE f fd) (ml : mg "MAX_LINES" = some (.int 6 tm)) (C1 : Cal P w K mg base "form_error" 5 ["value", "words", "most", "is_part"] (spForm P w K mg base))
    (G2 : FnOk P w K mg base CX0 4 f2 fd2 ["places", "value"] (spPart sideD)) (m2 : mg "is_side" = some (.ref f2)) (k2 : PySem.W.keepIn K (.ref f2) = true) (b2 : Binds K fd2 ["places", "value"] []) : FnOk P w K mg base CX0 6 f fd ["value"] (spErr tabD) := by
  obtain ⟨f1, fd1, G1, m1, k1, b1⟩ := C1.ex
  refine F.ok scTabE (fun vs H Q E h => ?_) (fun cdv A outer s H vs Q E hr h => ?_)
  · obtain ⟨v, u, d, q, rfl, _⟩ := h
    rfl
  · obtain ⟨v, u, d, q, rfl, hd, hs, k⟩ := h
    refine ⟨_, pss_one (ps_ret (pe_call G1 hr rfl m1 k1 b1 .nil pass0 (pa_cons (pv 0) (pa_cons (pe_tup (pa_cons pe_str (pa_cons pe_str (pa_cons pe_str pa_nil)))) (pa_cons (pe_glob (v := .int 6) (by rfl) ml ⟨_, rfl⟩) (pa_cons (pe_glob (v := .ref f2) (by rfl) m2 rfl) pa_nil)))))), ?_⟩
    refine ⟨_, rfl, (by show 3 ≤ sizeLine; decide), fun wt hw => ?_⟩
    have S1 : Same H (upd H wt (.tup [.str "table", .str "lines", .str "line"])) := Same.fresh (Same.refl _) hw
    exact ⟨v, u, d, q, wt, f2, _, _, _, 6, sideD, fd2, rfl, hd.same S1, hs, upd_same, G2, k2, b2, fun H' r S2 e => k H' r (S1.trans S2) e⟩
theorem scLotE : FnScope ["value"] ["value"] (defScope sLotE) := ⟨rfl, rfl, rfl, by decide +kernel, rfl, by decide +kernel, by decide +kernel⟩
theorem ok_lotE {f f2 : Addr} {fd fd2 : FuncData} {tm : Tok} (F : Fun K "lot_error" "lot_error" sLotE f fd) (ml : mg "MAX_LOT" = some (.int 40 tm)) (C1 : Cal P w K mg base "form_error" 5 ["value", "words", "most", "is_part"] (spForm P w K mg base))
    (G2 : FnOk P w K mg base CX0 4 f2 fd2 ["places", "value"] (spPart rowD)) (m2 : mg "is_row" = some (.ref f2)) (k2 : PySem.W.keepIn K (.ref f2) = true) (b2 : Binds K fd2 ["places", "value"] []) : FnOk P w K mg base CX0 6 f fd ["value"] (spErr lotD) := by
  obtain ⟨f1, fd1, G1, m1, k1, b1⟩ := C1.ex
  refine F.ok scLotE (fun vs H Q E h => ?_) (fun cdv A outer s H vs Q E hr h => ?_)
  · obtain ⟨v, u, d, q, rfl, _⟩ := h
    rfl
  · obtain ⟨v, u, d, q, rfl, hd, hs, k⟩ := h
    refine ⟨_, pss_one (ps_ret (pe_call G1 hr rfl m1 k1 b1 .nil pass0 (pa_cons (pv 0) (pa_cons (pe_tup (pa_cons pe_str (pa_cons pe_str (pa_cons pe_str pa_nil)))) (pa_cons (pe_glob (v := .int 40) (by rfl) ml ⟨_, rfl⟩) (pa_cons (pe_glob (v := .ref f2) (by rfl) m2 rfl) pa_nil)))))), ?_⟩
    refine ⟨_, rfl, (by show 3 ≤ sizeLine; decide), fun wt hw => ?_⟩
    have S1 : Same H (upd H wt (.tup [.str "lot", .str "rows", .str "row"])) := Same.fresh (Same.refl _) hw
    exact ⟨v, u, d, q, wt, f2, _, _, _, 40, rowD, fd2, rfl, hd.same S1, hs, upd_same, G2, k2, b2, fun H' r S2 e => k H' r (S1.trans S2) e⟩
end K2

namespace K2
open PySem L2 RW RZ
/-! ### texts -/
def numT : Option Int → Str
  | none => "."
  | some i => toString i
theorem join_le (sep : Str) (ys : List Str) : (Txt.join sep ys).length ≤ (ys.map (·.length)).sum + ys.length * sep.length := by
  show (Builtin.Str.glued sep ys).length ≤ _
  rw [StrLaws.glued_eq_join]
  exact StrLaws.join_length_le sep ys
theorem bo_bits {i : Int} (h : -big ≤ i ∧ i ≤ big) : i.natAbs.log2 < 1920 := by
  have h2 : i.natAbs < 2 ^ 1920 := by
    have h3 : (1000000000000000000000000000000 : Nat) < 2 ^ 1920 := by decide +kernel
    have h4 : i.natAbs ≤ 1000000000000000000000000000000 := by have h5 : -1000000000000000000000000000000 ≤ i := h.1; have h6 : i ≤ 1000000000000000000000000000000 := h.2; omega
    omega
  exact PySem.Flt.log2_lt_of (by decide) h2
theorem numT_len {o : Option Int} (h : ∀ i, o = some i → -big ≤ i ∧ i ≤ big) : (numT o).length ≤ 1921 := by
  cases o with
  | none => show (1 : Nat) ≤ 1921; decide
  | some i =>
    have := int_text_length_le (k := 1920) (by decide) (bo_bits (h i rfl))
    show (Str.ofString (toString i)).length ≤ 1921
    rw [ofString_length]
    exact this
theorem sum_le {k : Nat} : ∀ {ys : List Str}, (∀ y ∈ ys, y.length ≤ k) → (ys.map (·.length)).sum ≤ k * ys.length
  | [], _ => by simp
  | y :: r, h => by
    have h1 := sum_le (ys := r) fun z hz => h z (List.mem_cons_of_mem _ hz)
    have h2 := h y (List.mem_cons_self ..)
    simp only [List.map_cons, List.sum_cons, List.length_cons, Nat.mul_succ]
    omega
def rowT (xs : List (Option Int)) : Str := Txt.join " " (xs.map numT)
theorem bo_num {xs : List (Option Int)} (h : Bo xs) : ∀ y ∈ xs.map numT, y.length ≤ 1921 := fun y hy => by
  obtain ⟨o, ho, rfl⟩ := List.mem_map.mp hy
  exact numT_len fun i e => h i (e ▸ ho)
theorem rowT_len {xs : List (Option Int)} (h : Bo xs) (hl : xs.length ≤ 4) : (rowT xs).length ≤ 8000 := by
  have h1 := join_le " " (xs.map numT)
  have h2 := sum_le (bo_num h)
  have e : (" " : Str).length = 1 := by decide +kernel
  rw [e] at h1
  rw [List.length_map] at h1 h2
  unfold rowT
  omega
def lotT (n : Int) (L : List (List (Option Int))) : Str := Txt.join "\n" (toString n :: L.map rowT)
section
variable {P : Program} {w : World} {K : PySem.W.Frag} {mg : Str → Option Value} {base : Heap}
def spNumT : Sp := fun vs H Q _ => ∃ o : Option Int, vs = [nv o] ∧ (∀ i, o = some i → -big ≤ i ∧ i ≤ big) ∧ Q (.str (numT o)) H
theorem scNumT : FnScope ["number"] ["number"] (defScope sNumT) := ⟨rfl, rfl, rfl, by decide +kernel, rfl, by decide +kernel, by decide +kernel⟩
theorem ok_numT {f : Addr} {fd : FuncData} (F : Fun K "number_text" "number_text" sNumT f fd) (B : Bl mg) : FnOk P w K mg base CX0 1 f fd ["number"] spNumT := by
  refine F.ok scNumT (fun vs H Q E h => ?_) (fun cdv A outer s H vs Q E hr h => ?_)
  · obtain ⟨o, rfl, _⟩ := h
    rfl
  · obtain ⟨o, rfl, ho, k⟩ := h
    refine ⟨_, pss_one (ps_ret (pe_ifExp (pt_cmpR op_isN (pv 0) pe_non (nomark _)) pe_str (pe_callTy call_str_int (by rfl) B.str_ (by decide +kernel) (pa_cons (pv 0) pa_nil)))), ?_⟩
    refine ⟨_, rfl, rfl, _, rfl, ?_⟩
    cases o with
    | none => exact iteT k
    | some i => exact iteF ⟨_, rfl, i, rfl, bo_bits (ho i rfl), k⟩
def spRowT : Sp := fun vs H Q _ => ∃ (a : Addr) (xs : List (Option Int)), vs = [.ref a] ∧ H a = some (.tup (xs.map nv)) ∧ xs.length ≤ 4 ∧ Bo xs ∧ ∀ H', Same H H' → Q (.str (rowT xs)) H'
theorem scRowT : FnScope ["row", "number"] ["row"] (defScope sRowT) := ⟨rfl, rfl, rfl, by decide +kernel, rfl, by decide +kernel, by decide +kernel⟩
theorem ok_rowT {f : Addr} {fd : FuncData} (F : Fun K "row_text" "row_text" sRowT f fd) (B : Bl mg) (C1 : Cal P w K mg base "number_text" 1 ["number"] spNumT) : FnOk P w K mg base CX0 2 f fd ["row"] spRowT := by
  obtain ⟨f1, fd1, G1, m1, k1, b1⟩ := C1.ex
  refine F.ok scRowT (fun vs H Q E h => ?_) (fun cdv A outer s H vs Q E hr h => ?_)
  · obtain ⟨a, xs, rfl, _⟩ := h
    rfl
  · obtain ⟨a, xs, rfl, hT, hl, hb, k⟩ := h
    refine ⟨_, pss_one (ps_ret (pe_join pe_str (pe_lc (own := [("number", 1)]) (g := gName 1) rfl scRowT.nd (pi_tup (pv 0)) (blkOk_by (N := ["row", "number"]) (sc := defScope sRowT) (by decide +kernel)) (fun _ _ _ _ _ => pg_name (i := 1) scRowT.nd rfl (Or.inl rfl))
        (fun _ _ _ _ _ => pts_nil) (fun _ _ _ _ _ => pe_call G1 hr rfl m1 k1 b1 .nil pass0 (pa_cons (pv 1) pa_nil))))), ?_⟩
    refine ⟨⟨_, rfl⟩, _, rfl, a, rfl, ⟨_, SqT.of hT⟩, fun D hD => lc_tup (K := K) (a := a) (xs := xs.map nv) (LcI H D fun i => ((xs.take i).map numT).map V.str) (lcI_start hD rfl) (fun i H' _ I => SqT.of (I.1 _ _ hT)) (fun i x H' hi I => ?_) (fun H' I => ?_)⟩
    · obtain ⟨o, hn, rfl⟩ := map_at hi
      refine ⟨rfl, yes_ ?_⟩
      refine ⟨_, rfl, o, rfl, fun i e => hb i (e ▸ List.mem_of_getElem? hn), _, I.2, ?_, I.put hD ?_⟩
      · exact small1000 (by rw [List.length_map, List.length_map, List.length_take]; omega)
      · show List.map V.str ((xs.take (i + 1)).map numT) = _
        rw [take_map _ hn, List.map_append]
        rfl
    · refine ⟨_, D, xs.map numT, rfl, rfl, .inl (SqL.of (I.fin ?_)), ?_, k H' I.1⟩
      · rw [List.length_map, List.take_length]
      · have h2 := sum_le (bo_num hb)
        have e : (" " : Str).length = 1 := by decide +kernel
        rw [e]
        rw [List.length_map] at h2 ⊢
        omega
def spLotT : Sp := fun vs H Q _ => ∃ (a b : Addr) (n : Int) (ps : List Addr) (L : List (List (Option Int))), vs = [.ref a] ∧ H a = some (.tup [.int n, .ref b]) ∧ H b = some (.tup (ps.map V.ref)) ∧ n.natAbs.log2 < 1920 ∧ L.length ≤ 6 ∧
  Paired (fun p xs => H p = some (.tup (xs.map nv)) ∧ xs.length ≤ 4 ∧ Bo xs) ps L ∧ ∀ H', Same H H' → Q (.str (lotT n L)) H'
theorem paired_at {α β : Type} {R : α → β → Prop} : ∀ {xs : List α} {ys : List β} {i : Nat} {x : α}, Paired R xs ys → xs[i]? = some x → ∃ y, ys[i]? = some y ∧ R x y
  | _, _, i, _, .nil, e => by simp at e
  | _, _, 0, _, .cons r _, e => by simp at e; subst e; exact ⟨_, rfl, r⟩
  | _, _, i + 1, _, .cons _ t, e => by
    obtain ⟨y, h1, h2⟩ := paired_at (i := i) t (by simpa using e)
    exact ⟨y, by simpa using h1, h2⟩
theorem scLotT : FnScope ["lot", "places", "rows", "row"] ["lot"] (defScope sLotT) := ⟨rfl, rfl, rfl, by decide +kernel, rfl, by decide +kernel, by decide +kernel⟩
theorem ok_lotT {f : Addr} {fd : FuncData} (F : Fun K "lot_text" "lot_text" sLotT f fd) (B : Bl mg) (C1 : Cal P w K mg base "row_text" 2 ["row"] spRowT) : FnOk P w K mg base CX0 3 f fd ["lot"] spLotT := by
  obtain ⟨f1, fd1, G1, m1, k1, b1⟩ := C1.ex
  refine F.ok scLotT (fun vs H Q E h => ?_) (fun cdv A outer s H vs Q E hr h => ?_)
  · obtain ⟨a, b, n, ps, L, rfl, _⟩ := h
    rfl
  · obtain ⟨a, b, n, ps, L, rfl, ha, hb, hn, hl, hp, k⟩ := h
    refine ⟨_, pss_cons (ps_asg (pv 0) (pg_tup rfl (pgs_cons (pg_name (i := 1) scLotT.nd rfl (Or.inl rfl)) (pgs_cons (pg_name (i := 2) scLotT.nd rfl (Or.inl rfl)) pgs_nil))))
      (pss_one (ps_ret (pe_join pe_str (pe_lst (pa_cons (pe_callTy call_str_int (by rfl) B.str_ (by decide +kernel) (pa_cons (pv 1) pa_nil)) (StX.pa_star (pe_lc (own := [("row", 3)]) (g := gName 3) rfl scLotT.nd (pi_tup (pv 2)) (blkOk_by (N := ["lot", "places", "rows", "row"]) (sc := defScope sLotT) (by decide +kernel)) (fun _ _ _ _ _ => pg_name (i := 3) scLotT.nd rfl (Or.inl rfl))
        (fun _ _ _ _ _ => pts_nil) (fun _ _ _ _ _ => pe_call G1 hr rfl m1 k1 b1 .nil pass0 (pa_cons (pv 3) pa_nil))) pa_nil)))))), ?_⟩
    have hlp : ps.length = L.length := hp.length
    refine ⟨_, rfl, a, _, rfl, SqT.of ha, rfl, _, _, rfl, _, _, rfl, rfl, ?_⟩
    refine ⟨⟨_, rfl⟩, _, rfl, n, rfl, hn, _, rfl, b, rfl, ⟨_, SqT.of hb⟩, fun D hD => lc_tup (K := K) (a := b) (xs := ps.map V.ref) (LcI H D fun i => ((L.take i).map rowT).map V.str) (lcI_start hD rfl) (fun i H' _ I => SqT.of (I.1 _ _ hb)) (fun i x H' hi I => ?_) (fun H' I => ?_)⟩
    · obtain ⟨p, hpi, rfl⟩ := map_at hi
      obtain ⟨xs, hx, r1, r2, r3⟩ := paired_at hp hpi
      refine ⟨rfl, yes_ ?_⟩
      refine ⟨_, rfl, p, xs, rfl, I.1 _ _ r1, r2, r3, fun H2 S2 => ?_⟩
      have I2 := I.go S2
      refine ⟨_, I2.2, ?_, I2.put hD ?_⟩
      · exact small1000 (by rw [List.length_map, List.length_map, List.length_take]; omega)
      · show List.map V.str ((L.take (i + 1)).map rowT) = _
        rw [take_map _ hx, List.map_append]
        rfl
    · have eL : H' D = some (.lst ((L.map rowT).map V.str)) := I.fin (by rw [List.length_map, hlp, List.take_length])
      refine ⟨D, _, rfl, .inr (SqL.of eL), ?_⟩
      refine ⟨?_, fun q hq => ⟨_, q, toString n :: L.map rowT, rfl, rfl, .inl (SqL.of (by rw [upd_same, List.append_nil]; rfl)), ?_, k _ (Same.fresh I.1 hq)⟩⟩
      · exact Nat.le_of_lt (small1000 (by simp; omega))
      · have h1 : ∀ y ∈ L.map rowT, y.length ≤ 8000 := fun y hy => by
          obtain ⟨xs, hxs, rfl⟩ := List.mem_map.mp hy
          obtain ⟨i, hi⟩ := List.getElem?_of_mem hxs
          obtain ⟨p, hpi⟩ : ∃ p, ps[i]? = some p := ⟨ps[i]'(by have := (List.getElem?_eq_some_iff.mp hi).1; omega), List.getElem?_eq_getElem _⟩
          obtain ⟨xs', hx', _, r2, r3⟩ := paired_at hp hpi
          rw [hi] at hx'
          cases hx'
          exact rowT_len r3 r2
        have h2 := sum_le h1
        have h3 := int_text_length_le (k := 1920) (by decide) hn
        have e : ("\n" : Str).length = 1 := by decide +kernel
        have e3 : ((toString n : String) : Str).length ≤ 1921 := by
          show (Str.ofString (toString n)).length ≤ 1921
          rw [ofString_length]
          exact h3
        rw [e]
        simp only [List.map_cons, List.sum_cons, List.length_cons, List.length_map] at h2 ⊢
        omega
end
end K2

namespace K2
open PySem L2 RW RZ
/-! ### x != [], t != () -/
section
variable {X : Cx}
theorem op_neL0 (hu : X.A.units + 64 < cLine) : OpR X (compareOp .NotEq) (fun x y H Q => ∃ a b xs, x = .ref a ∧ y = .ref b ∧ SqL X.K H a xs ∧ SqL X.K H b [] ∧ Q (.bl (!xs.isEmpty)) H) := by
  intro pins s σ H x y v u Q I rx ry h
  obtain ⟨a, b, xs, rfl, rfl, ha, hb, q⟩ := h
  cases rx
  cases ry
  obtain ⟨its, r, pl, _⟩ := I.list ha
  obtain ⟨its2, r2, pl2, _⟩ := I.list hb
  cases r2
  cases xs with
  | nil =>
    cases r
    exact SeqAt.RcNeAt.lists (e := fun _ => true) pl.isList pl2.isList rfl (by omega) (fun j h1 _ => absurd h1 (by simp)) X.prog X.w _ _ ⟨.bl _, H, I, rfl, q⟩
  | cons x xs =>
    cases r with
    | cons r1 r2 => exact SeqAt.RcNeAt.lists_lengths pl.isList pl2.isList (by simp) (by omega) X.prog X.w _ _ ⟨.bl _, H, I, rfl, q⟩
theorem op_neT0 (hu : X.A.units + 64 < cLine) : OpR X (compareOp .NotEq) (fun x y H Q => ∃ a b xs, x = .ref a ∧ y = .ref b ∧ SqT X.K H a xs ∧ SqT X.K H b [] ∧ Q (.bl (!xs.isEmpty)) H) := by
  intro pins s σ H x y v u Q I rx ry h
  obtain ⟨a, b, xs, rfl, rfl, ha, hb, q⟩ := h
  cases rx
  cases ry
  obtain ⟨its, r, pl, _⟩ := I.tuple ha
  obtain ⟨its2, r2, pl2, _⟩ := I.tuple hb
  cases r2
  have h1 : (!((List.range (min its.toArray.size ([] : List Value).toArray.size)).all (fun _ => true) && its.toArray.size == ([] : List Value).toArray.size)) = !xs.isEmpty := by
    cases r with
    | nil => rfl
    | cons a b => simp
  refine SeqAt.RcNeAt.tuples (e := fun _ => true) pl pl2 (by omega) (fun j _ h2 => absurd h2 (by simp)) X.prog X.w _ _ ?_
  rw [h1]
  exact ⟨.bl _, H, I, rfl, q⟩
end
/-! ### what a comprehension makes of data -/
def LcX (u d : Addr) (H0 : Hp) (D : Addr) (out : Nat → List PyData) : Nat → Hp → Prop := fun i H => Same H0 H ∧ ∃ vs, H D = some (.lst vs) ∧ DXs u d H0 vs (out i)
theorem lcX_start {u d : Addr} {H : Hp} {D : Addr} {out : Nat → List PyData} (hD : H D = none) (h : out 0 = []) : LcX u d H D out 0 (upd H D (.lst [])) := ⟨Same.fresh (Same.refl H) hD, [], upd_same, by rw [h]; exact .nil⟩
theorem LcX.skip {u d : Addr} {H0 H : Hp} {D : Addr} {out : Nat → List PyData} {i : Nat} (I : LcX u d H0 D out i H) (h : out (i + 1) = out i) : LcX u d H0 D out (i + 1) H := ⟨I.1, by rw [h]; exact I.2⟩
def notN : PyData → Bool
  | .none => false
  | _ => true
theorem filt_all : ∀ qs : List PyData, qs.all boundD = (qs.filter notN).all boundD
  | [] => rfl
  | q :: qs => by
    have := filt_all qs
    by_cases h : notN q = true
    · rw [List.filter_cons_of_pos h, List.all_cons, List.all_cons, this]
    · rw [List.filter_cons_of_neg h, List.all_cons, ← this]
      cases q with
      | none => exact Bool.true_and _
      | bool b => exact absurd rfl h
      | int b => exact absurd rfl h
      | str b => exact absurd rfl h
      | list b => exact absurd rfl h
      | tuple b => exact absurd rfl h
      | dict b => exact absurd rfl h
theorem filt_put {f : PyData → Bool} {qs : List PyData} {i : Nat} {q : PyData} (h : qs[i]? = some q) (hf : f q = true) : (qs.take (i + 1)).filter f = (qs.take i).filter f ++ [q] := by
  rw [take_one h, List.filter_append, List.filter_cons_of_pos hf]
  rfl
theorem filt_skip {f : PyData → Bool} {qs : List PyData} {i : Nat} {q : PyData} (h : qs[i]? = some q) (hf : f q = false) : (qs.take (i + 1)).filter f = (qs.take i).filter f := by
  rw [take_one h, List.filter_append, List.filter_cons_of_neg (by rw [hf]; exact Bool.false_ne_true), List.filter_nil, List.append_nil]
theorem LcX.put {u d : Addr} {H0 H : Hp} {D : Addr} {out : Nat → List PyData} {i : Nat} {x : V} {q : PyData} (hD : H0 D = none) (I : LcX u d H0 D out i H) (hx : DX u d H0 x q) (h : out (i + 1) = out i ++ [q]) (hz : (out i).length ≤ 2000000) :
    ∃ acc, H D = some (.lst acc) ∧ acc.length < sizeLine ∧ LcX u d H0 D out (i + 1) (upd H D (.lst (acc ++ [x]))) := by
  obtain ⟨S, vs, e, dx⟩ := I
  refine ⟨vs, e, small6 (by rw [dx.length]; exact hz), fun b u e => by rw [upd_ne (ne_of_none e hD)]; exact S b u e, vs ++ [x], upd_same, ?_⟩
  rw [h]
  exact dx.append (.cons hx .nil)
theorem LcX.fin {u d : Addr} {H0 H : Hp} {D : Addr} {out : Nat → List PyData} {i : Nat} {l : List PyData} (I : LcX u d H0 D out i H) (h : out i = l) : ∃ vs, H D = some (.lst vs) ∧ DXs u d H0 vs l := by rw [← h]; exact I.2
theorem bad_empty : ∀ {qs : List PyData}, qs.filter (fun q => !wholeD q) = [] → ∃ ns : List Int, qs = ns.map PyData.int
  | [], _ => ⟨[], rfl⟩
  | q :: qs, h => by
    cases q with
    | int i =>
      obtain ⟨ns, e⟩ := bad_empty (qs := qs) (by simpa [List.filter_cons, wholeD] using h)
      exact ⟨i :: ns, by rw [e]; rfl⟩
    | none => simp [List.filter_cons, wholeD] at h
    | bool b => simp [List.filter_cons, wholeD] at h
    | str b => simp [List.filter_cons, wholeD] at h
    | list b => simp [List.filter_cons, wholeD] at h
    | tuple b => simp [List.filter_cons, wholeD] at h
    | dict b => simp [List.filter_cons, wholeD] at h
theorem bad_some : ∀ {qs : List PyData}, (qs.filter notN).filter (fun q => !wholeD q) ≠ [] → qs.all boundD = false
  | [], h => absurd rfl h
  | q :: qs, h => by
    cases q with
    | none =>
      have := bad_some (qs := qs) (by simpa [List.filter_cons, notN] using h)
      rw [List.all_cons, this, Bool.and_false]
    | int i =>
      have := bad_some (qs := qs) (by simpa [List.filter_cons, wholeD, notN] using h)
      rw [List.all_cons, this, Bool.and_false]
    | bool b => rfl
    | str b => rfl
    | list b => rfl
    | tuple b => rfl
    | dict b => rfl
theorem dxs_int {u d : Addr} {H : Hp} : ∀ {ns : List Int} {vs : List V}, DXs u d H vs (ns.map PyData.int) → vs = ns.map V.int
  | [], _, h => by cases h; rfl
  | n :: ns, _, h => by
    cases h with
    | cons h1 h2 => cases h1; rw [dxs_int h2]; rfl
theorem eqv_ints (ns : List Int) : PyData.eqv (.list (ns.map .int)) (.list []) = ns.isEmpty := by
  cases ns <;> rfl
theorem all_min {ns : List Int} {m b : Int} (h1 : m ∈ ns) (h2 : ∀ y ∈ ns, m ≤ y) : decide (b ≤ m) = ns.all fun y => decide (b ≤ y) := by
  rw [Bool.eq_iff_iff, decide_eq_true_eq, List.all_eq_true]
  constructor
  · intro h y hy
    exact decide_eq_true (Int.le_trans h (h2 y hy))
  · intro h
    exact of_decide_eq_true (h m h1)
theorem all_max {ns : List Int} {m b : Int} (h1 : m ∈ ns) (h2 : ∀ y ∈ ns, y ≤ m) : decide (m ≤ b) = ns.all fun y => decide (y ≤ b) := by
  rw [Bool.eq_iff_iff, decide_eq_true_eq, List.all_eq_true]
  constructor
  · intro h y hy
    exact decide_eq_true (Int.le_trans (h2 y hy) h)
  · intro h
    exact of_decide_eq_true (h m h1)
theorem all_two (ns : List Int) : (ns.map PyData.int).all boundD = ((ns.all fun y => decide (-big ≤ y)) && ns.all fun y => decide (y ≤ big)) := by
  rw [Bool.eq_iff_iff, Bool.and_eq_true, List.all_eq_true, List.all_eq_true, List.all_eq_true]
  constructor
  · intro h
    have h2 : ∀ y ∈ ns, (decide (-big ≤ y) && decide (y ≤ big)) = true := fun y hy => h (.int y) (List.mem_map.mpr ⟨y, hy, rfl⟩)
    exact ⟨fun y hy => (Bool.and_eq_true _ _ ▸ h2 y hy).1, fun y hy => (Bool.and_eq_true _ _ ▸ h2 y hy).2⟩
  · rintro ⟨h1, h2⟩ q hq
    obtain ⟨y, hy, rfl⟩ := List.mem_map.mp hq
    show (decide (-big ≤ y) && decide (y ≤ big)) = true
    rw [h1 y hy, h2 y hy]
    rfl
section
variable {P : Program} {w : World} {K : PySem.W.Frag} {mg : Str → Option Value} {base : Heap}
theorem scLSide : FnScope ["wide", "thing", "some", "own"] ["wide", "thing"] (defScope sLSide) := ⟨rfl, rfl, rfl, by decide +kernel, rfl, by decide +kernel, by decide +kernel⟩
theorem ok_lSide {f : Addr} {fd : FuncData} (F : Fun K "_law_is_side" "_law_is_side" sLSide f fd) (B : Bl mg) : FnOk P w K mg base CX0 1 f fd ["wide", "thing"] (spPart sideD) := by
  refine F.ok scLSide (fun vs H Q E h => ?_) (fun cdv A outer s H vs Q E hr h => ?_)
  · obtain ⟨v, u, d, q, n, rfl, _⟩ := h
    rfl
  · obtain ⟨v, u, d, q, n, rfl, hn, hd, hz, k⟩ := h
    have hu : (A.deeper (PyProof.Rows.envOfC "_law_is_side" (defScope sLSide) s.heap.objs.size f cdv)).units + 64 < cLine := by have := hr.un; omega
    refine ⟨_, pss_cons (ps_if (PW.pt (pw_or (pt_not (pt_val (pe_callB call_isTup (by rfl) B.isinstance (by decide +kernel) (pa_cons (pv 1) (pa_cons (pe_ty "tuple" (by rfl) B.tuple (by decide +kernel)) pa_nil)))))
        (pw_or1 (pt_cmpR op_ne (pe_callB call_len_seq (by rfl) B.len PySem.boot_len (pa_cons (pv 1) pa_nil)) (pv 0) (nomark _))))) (pss_one (ps_ret pe_bl)) pss_nil)
      (pss_cons (ps_setLc (i := 2) (own := [("own", 3)]) (g := gName 3) rfl scLSide.nd rfl rfl (sw_true rfl rfl rfl (by decide +kernel)) (pi_tup (pv 1)) (blkOk_by (N := ["wide", "thing", "some", "own"]) (sc := defScope sLSide) (by decide +kernel)) (fun _ _ _ _ _ => pg_name (i := 3) scLSide.nd rfl (Or.inl rfl))
        (fun _ _ _ _ _ => pts_one (pt_cmpR op_notN (pv 3) pe_non (nomark _))) (fun _ _ _ _ _ => pv 3))
      (pss_cons (ps_if (pt_cmpR (op_neL0 hu) (pe_lc (own := [("own", 3)]) (g := gName 3) rfl scLSide.nd (pi_list (pv 2)) (blkOk_by (N := ["wide", "thing", "some", "own"]) (sc := defScope sLSide) (by decide +kernel)) (fun _ _ _ _ _ => pg_name (i := 3) scLSide.nd rfl (Or.inl rfl))
          (fun _ _ _ _ _ => pts_one (PW.pt (pw_or (pt_not (pt_val (pe_callB call_isInt (by rfl) B.isinstance (by decide +kernel) (pa_cons (pv 3) (pa_cons (pe_ty "int" (by rfl) B.int_ (by decide +kernel)) pa_nil)))))
            (pw_or1 (pt_val (pe_callB call_isBl (by rfl) B.isinstance (by decide +kernel) (pa_cons (pv 3) (pa_cons (pe_ty "bool" (by rfl) B.bool_ (by decide +kernel)) pa_nil)))))))) (fun _ _ _ _ _ => pv 3)) (pe_lst pa_nil) (nomark _)) (pss_one (ps_ret pe_bl)) pss_nil)
      (pss_one (ps_ret (pe_or (pe_cmpR (op_eqD hu) (pv 2) (pe_lst pa_nil) (nomark _)) (pe_one (pe_and (pe_cmpR op_le (pe_un un_neg (pe_op op_powW pe_int pe_int)) (pe_callB (cr_min rfl) (by rfl) B.min (by decide +kernel) (pa_cons (pv 2) pa_nil)) (nomark _))
        (pe_one (pe_cmpR op_le (pe_callB (cr_max rfl) (by rfl) B.max (by decide +kernel) (pa_cons (pv 2) pa_nil)) (pe_op op_powW pe_int pe_int) (nomark _)))))))))), ?_⟩
    refine ⟨_, rfl, v, u, d, q, rfl, hd, _, rfl, ?_⟩
    cases hd with
    | non => exact iteT (k H (Same.refl _))
    | bl b => exact iteT (k H (Same.refl _))
    | int i => exact iteT (k H (Same.refl _))
    | str x => exact iteT (k H (Same.refl _))
    | lst _ _ _ _ => exact iteT (k H (Same.refl _))
    | dic _ _ _ _ => exact iteT (k H (Same.refl _))
    | @tup a xs qs h1 h2 h3 h4 =>
      refine iteF ⟨_, rfl, _, _, rfl, .inr (SqT.of h3), _, rfl, rfl, _, rfl, ?_⟩
      have hlen := h4.length
      have hz' : qs.length ≤ 2000000 := hz
      refine ite2 (fun hne => ?_) (fun hne => ?_)
      · have e : sideD n (.tuple qs) = false := by
          have hne' : (xs.length : Int) ≠ n := by simpa using hne
          show (decide ((qs.length : Int) = n) && qs.all boundD) = false
          rw [← hlen, decide_eq_false hne', Bool.false_and]
        have := k H (Same.refl _)
        rw [e] at this
        exact this
      · have e : sideD n (.tuple qs) = (qs.filter notN).all boundD := by
          have hne' : (xs.length : Int) = n := by simpa using hne
          show (decide ((qs.length : Int) = n) && qs.all boundD) = _
          rw [← hlen, decide_eq_true hne', Bool.true_and, filt_all]
        refine ⟨_, rfl, a, rfl, ⟨_, SqT.of h3⟩, fun D hD => lc_tup (K := K) (a := a) (xs := xs) (LcX u d H D fun i => (qs.take i).filter notN) (lcX_start hD rfl) (fun i H' _ I => SqT.of (I.1 _ _ h3)) (fun i x H' hi I => ?_) (fun H' I => ?_)⟩
        · obtain ⟨y, hy, dy⟩ := h4.at hi
          have hi2 := (List.getElem?_eq_some_iff.mp hy).1
          have hzz : ((qs.take i).filter notN).length ≤ 2000000 := Nat.le_trans (List.length_filter_le _ _) (by rw [List.length_take]; omega)
          refine ⟨rfl, _, rfl, rfl, _, rfl, ?_⟩
          cases dy with
          | non => exact iteF (I.skip (filt_skip hy rfl))
          | bl b => exact iteT ⟨_, rfl, I.put hD (.bl b) (filt_put hy rfl) hzz⟩
          | int b => exact iteT ⟨_, rfl, I.put hD (.int b) (filt_put hy rfl) hzz⟩
          | str b => exact iteT ⟨_, rfl, I.put hD (.str b) (filt_put hy rfl) hzz⟩
          | lst a1 a2 a3 a4 => exact iteT ⟨_, rfl, I.put hD (.lst a1 a2 a3 a4) (filt_put hy rfl) hzz⟩
          | tup a1 a2 a3 a4 => exact iteT ⟨_, rfl, I.put hD (.tup a1 a2 a3 a4) (filt_put hy rfl) hzz⟩
          | dic a1 a2 a3 a4 => exact iteT ⟨_, rfl, I.put hD (.dic a1 a2 a3 a4) (filt_put hy rfl) hzz⟩
        · obtain ⟨vs, eD, dx⟩ := I.fin (l := qs.filter notN) (by show List.filter notN (qs.take xs.length) = _; rw [hlen, List.take_length])
          have S1 := I.1
          have hvl := dx.length
          have hzz : (qs.filter notN).length ≤ 2000000 := Nat.le_trans (List.length_filter_le _ _) hz'
          refine ⟨_, rfl, D, rfl, ⟨_, SqL.of eD⟩, fun D2 hD2 => lc_list (K := K) (a := D) (xs := vs) (LcX u d H' D2 fun i => ((qs.filter notN).take i).filter fun q => !wholeD q) (lcX_start hD2 rfl) (fun i H2 _ I => SqL.of (I.1 _ _ eD)) (fun i x H2 hi I => ?_) (fun H2 I => ?_)⟩
          · obtain ⟨y, hy, dy⟩ := dx.at hi
            have hzz2 : (((qs.filter notN).take i).filter fun q => !wholeD q).length ≤ 2000000 := Nat.le_trans (List.length_filter_le _ _) (by rw [List.length_take]; omega)
            have dy1 := dy.same S1
            have dy2 := dy1.same I.1
            have hw := isInt_whole y
            refine ⟨rfl, _, rfl, x, u, d, y, rfl, dy2, _, rfl, ?_⟩
            cases hI : isIntD y with
            | false =>
              rw [hI, Bool.false_and] at hw
              exact iteT ⟨_, rfl, I.put hD2 dy1 (filt_put hy (by rw [← hw]; rfl)) hzz2⟩
            | true =>
              rw [hI, Bool.true_and] at hw
              refine iteF ⟨_, rfl, x, u, d, y, rfl, dy2, _, rfl, ?_⟩
              cases hB : isBlD y with
              | true => 
                rw [hB] at hw
                exact ⟨_, rfl, I.put hD2 dy1 (filt_put hy (by rw [← hw]; rfl)) hzz2⟩
              | false =>
                rw [hB] at hw
                exact I.skip (filt_skip hy (by rw [← hw]; rfl))
          · obtain ⟨ws, eD2, dx2⟩ := I.fin (l := (qs.filter notN).filter fun q => !wholeD q) (by show List.filter _ ((qs.filter notN).take vs.length) = _; rw [hvl, List.take_length])
            have S2 := I.1
            refine ⟨(by show 0 ≤ sizeLine; decide), fun p hp => ?_⟩
            have S3 : Same H' (upd H2 p (.lst [])) := Same.fresh S2 hp
            have S4 : Same H2 (upd H2 p (.lst [])) := Same.fresh (Same.refl _) hp
            refine ⟨D2, p, ws, rfl, rfl, SqL.of (S4 _ _ eD2), SqL.of upd_same, _, rfl, ?_⟩
            cases hwe : ws with
            | cons w0 ws0 =>
              refine iteT ?_
              have hne2 : (qs.filter notN).filter (fun q => !wholeD q) ≠ [] := fun e => by
                rw [e, hwe] at dx2
                cases dx2
              have := k _ (S1.trans S3)
              rw [e, ← filt_all, bad_some hne2] at this
              exact this
            | nil =>
              refine iteF ?_
              rw [hwe] at dx2
              have he2 : (qs.filter notN).filter (fun q => !wholeD q) = [] := by
                have := dx2.length
                exact List.eq_nil_of_length_eq_zero this.symm
              obtain ⟨ns, en⟩ := bad_empty he2
              rw [en] at dx hzz e
              have evs := dxs_int dx
              subst evs
              have eD3 := S3 _ _ eD
              generalize upd H2 p (.lst []) = H3 at S3 eD3
              refine ⟨_, rfl, (by show 0 ≤ sizeLine; decide), fun p2 hp2 => ?_⟩
              have S5 : Same H3 (upd H3 p2 (.lst [])) := Same.fresh (Same.refl _) hp2
              have eD5 := S5 _ _ eD3
              have fin := k _ (S1.trans (S3.trans S5))
              rw [e, all_two] at fin
              generalize hH5 : upd H3 p2 (.lst []) = H5 at eD5 fin
              refine ⟨.list (ns.map .int), .list [], .lst (SqL.of eD5) (dpI ns), .lst (SqL.of (by rw [← hH5]; exact upd_same)) .nil, shapedI ns, shapedI [], _, rfl, ?_⟩
              · rw [eqv_ints]
                cases ns with
                | nil => exact fin
                | cons n0 ns0 =>
                  refine iteF ⟨_, _, rfl, rfl, ⟨by decide, by decide +kernel⟩, _, rfl, _, rfl, D, n0 :: ns0, rfl, SqL.of eD5, by simp, fun m m1 m2 => ?_⟩
                  have e30 : ((10 : Int) ^ (30 : Int).toNat) = big := by decide +kernel
                  rw [e30]
                  refine ⟨_, _, rfl, rfl, _, rfl, ?_⟩
                  rw [all_min m1 m2]
                  refine iteB (fun hA => ?_) (fun hA => ?_)
                  · refine ⟨_, rfl, D, n0 :: ns0, rfl, SqL.of eD5, by simp, fun m' m3 m4 => ?_⟩
                    refine ⟨_, _, rfl, rfl, ⟨by decide, by decide +kernel⟩, _, _, rfl, rfl, ?_⟩
                    rw [e30]
                    rw [hA, Bool.true_and, ← all_max m3 m4] at fin
                    exact fin
                  · rw [hA, Bool.false_and] at fin
                    exact fin
end
end K2

namespace K2
open PySem L2 RW RZ
variable {P : Program} {w : World} {K : PySem.W.Frag} {mg : Str → Option Value} {base : Heap}
theorem scJudged : FnScope ["thing", "at", "own"] ["thing"] (defScope sJudged) := ⟨rfl, rfl, rfl, by decide +kernel, rfl, by decide +kernel, by decide +kernel⟩
theorem ok_judged {f : Addr} {fd : FuncData} (F : Fun K "_law_judged" "_law_judged" sJudged f fd) (B : Bl mg) (C1 : Cal P w K mg base "_law_is_side" 1 ["wide", "thing"] (spPart sideD)) : FnOk P w K mg base CX0 2 f fd ["thing"] (spErr tabD) := by
  obtain ⟨f1, fd1, G1, m1, k1, b1⟩ := C1.ex
  refine F.ok scJudged (fun vs H Q E h => ?_) (fun cdv A outer s H vs Q E hr h => ?_)
  · obtain ⟨v, u, d, q, rfl, _⟩ := h
    rfl
  · obtain ⟨v, u, d, q, rfl, hd, hs, k⟩ := h
    refine ⟨_, pss_cons (ps_if (PW.pt (pw_or (pt_not (pt_val (pe_callB call_isTup (by rfl) B.isinstance (by decide +kernel) (pa_cons (pv 0) (pa_cons (pe_ty "tuple" (by rfl) B.tuple (by decide +kernel)) pa_nil)))))
          (pw_or1 (pt_cmpR op_ne (pe_callB call_len_seq (by rfl) B.len PySem.boot_len (pa_cons (pv 0) pa_nil)) pe_int (nomark _))))) (pss_one (ps_ret (pe_tup (pa_cons pe_non (pa_cons pe_str pa_nil))))) pss_nil)
      (pss_cons (ps_if (PW.pt (pw_or (pt_not (pt_val (pe_callB call_isInt (by rfl) B.isinstance (by decide +kernel) (pa_cons (pe_ix ix_tup (pv 0) pe_int (fun _ _ => rfl)) (pa_cons (pe_ty "int" (by rfl) B.int_ (by decide +kernel)) pa_nil)))))
          (pw_or (pt_val (pe_callB call_isBl (by rfl) B.isinstance (by decide +kernel) (pa_cons (pe_ix ix_tup (pv 0) pe_int (fun _ _ => rfl)) (pa_cons (pe_ty "bool" (by rfl) B.bool_ (by decide +kernel)) pa_nil))))
          (pw_or (pt_cmpR op_lt (pe_ix ix_tup (pv 0) pe_int (fun _ _ => rfl)) pe_int (nomark _)) (pw_or1 (pt_cmpR op_gt (pe_ix ix_tup (pv 0) pe_int (fun _ _ => rfl)) pe_int (nomark _))))))) (pss_one (ps_ret (pe_tup (pa_cons pe_non (pa_cons pe_str pa_nil))))) pss_nil)
      (pss_cons (ps_if (PW.pt (pw_or (pt_not (pt_val (pe_callB call_isTup (by rfl) B.isinstance (by decide +kernel) (pa_cons (pe_ix ix_tup (pv 0) pe_int (fun _ _ => rfl)) (pa_cons (pe_ty "tuple" (by rfl) B.tuple (by decide +kernel)) pa_nil)))))
          (pw_or1 (pt_cmpR op_gt (pe_callB call_len_seq (by rfl) B.len PySem.boot_len (pa_cons (pe_ix ix_tup (pv 0) pe_int (fun _ _ => rfl)) pa_nil)) pe_int (nomark _))))) (pss_one (ps_ret (pe_tup (pa_cons pe_non (pa_cons pe_str pa_nil))))) pss_nil)
      (pss_cons (ps_for PassesOwn.never rfl (pi_enumT (by rfl) B.enumerate (pa_cons (pe_ix ix_tup (pv 0) pe_int (fun _ _ => rfl)) pa_nil)) (pg_tup rfl (pgs_cons (pg_name (i := 1) scJudged.nd rfl (Or.inl rfl)) (pgs_cons (pg_name (i := 2) scJudged.nd rfl (Or.inl rfl)) pgs_nil)))
          (pss_one (ps_if (pt_not (pt_val (pe_call G1 hr rfl m1 k1 b1 .nil pass0 (pa_cons (pe_ix ix_tup (pv 0) pe_int (fun _ _ => rfl)) (pa_cons (pv 2) pa_nil))))) (pss_one (ps_ret (pe_tup (pa_cons (pv 1) (pa_cons pe_str pa_nil))))) pss_nil)))
      (pss_one (ps_ret pe_non))))), ?_⟩
    have z2 : (2 : Nat) ≤ sizeLine := by decide
    have hk : ∀ (x : Str) (H1 : Hp), Same H H1 → tabD q = some (none, x) → ∀ p, H1 p = none → Q (.ref p) (upd H1 p (.tup [.non, .str x])) := fun x H1 S e p hp => by
      refine k _ _ (Same.fresh S hp) ?_
      rw [e]
      exact ⟨p, rfl, upd_same⟩
    refine ⟨_, rfl, v, u, d, q, rfl, hd, _, rfl, ?_⟩
    cases hd with
    | non => exact iteT ⟨z2, fun p hp => hk _ _ (Same.refl _) rfl p hp⟩
    | bl b => exact iteT ⟨z2, fun p hp => hk _ _ (Same.refl _) rfl p hp⟩
    | int i => exact iteT ⟨z2, fun p hp => hk _ _ (Same.refl _) rfl p hp⟩
    | str x => exact iteT ⟨z2, fun p hp => hk _ _ (Same.refl _) rfl p hp⟩
    | lst _ _ _ _ => exact iteT ⟨z2, fun p hp => hk _ _ (Same.refl _) rfl p hp⟩
    | dic _ _ _ _ => exact iteT ⟨z2, fun p hp => hk _ _ (Same.refl _) rfl p hp⟩
    | @tup a xs qs h1 h2 h3 h4 =>
      refine iteF ⟨_, rfl, _, _, rfl, .inr (SqT.of h3), rfl, _, rfl, ?_⟩
      have hlen := h4.length
      refine ite2 (fun hne => ?_) (fun hne => ?_)
      · refine ⟨z2, fun p hp => hk _ _ (Same.refl _) ?_ p hp⟩
        match qs, hlen with
        | [], _ => rfl
        | [_], _ => rfl
        | [_, _], hl => exact absurd (by rw [hl]; rfl) (show ¬ ((xs.length : Int) = 2) by simpa using hne)
        | _ :: _ :: _ :: _, _ => rfl
      · have h2l : (xs.length : Int) = 2 := by simpa using hne
        match xs, qs, h4, h2l with
        | [x1, x2], [q1, q2], .cons d1 (.cons d2 .nil), _ =>
        have at0 : atI [x1, x2] 0 = some x1 := atI_nat (j := 0) rfl
        have at1 : atI [x1, x2] 1 = some x2 := atI_nat (j := 1) rfl
        have bad : ∀ q1', placesD q1' = false → ∀ q2', tabD (.tuple [q1', q2']) = some (none, ("places" : Str)) := fun q1' h q2' => by
          show (if placesD q1' = true then _ else _) = _
          rw [h]
          rfl
        refine ⟨_, rfl, a, _, _, _, rfl, rfl, SqT.of h3, at0, x1, u, d, q1, rfl, d1, _, rfl, ?_⟩
        have nope : placesD q1 = false → ∀ p, H p = none → Q (.ref p) (upd H p (.tup [.non, .str "places"])) := fun h => hk _ _ (Same.refl _) (bad _ h _)
        cases d1 with
        | non => exact iteT ⟨z2, nope rfl⟩
        | str x => exact iteT ⟨z2, nope rfl⟩
        | lst _ _ _ _ => exact iteT ⟨z2, nope rfl⟩
        | tup _ _ _ _ => exact iteT ⟨z2, nope rfl⟩
        | dic _ _ _ _ => exact iteT ⟨z2, nope rfl⟩
        | bl b => exact iteF ⟨_, rfl, a, _, _, _, rfl, rfl, SqT.of h3, at0, _, u, d, _, rfl, .bl b, _, rfl, iteT ⟨z2, nope rfl⟩⟩
        | int n =>
        refine iteF ⟨_, rfl, a, _, _, _, rfl, rfl, SqT.of h3, at0, _, u, d, _, rfl, .int n, _, rfl, iteF ?_⟩
        refine ⟨_, rfl, a, _, _, _, rfl, rfl, SqT.of h3, at0, _, _, rfl, rfl, _, rfl, ite2 (fun c1 => ?_) (fun c1 => ?_)⟩
        · refine ⟨z2, nope ?_⟩
          have c1' : n < 1 := by simpa using c1
          show (decide (1 ≤ n) && decide (n ≤ 4)) = false
          rw [decide_eq_false (by omega), Bool.false_and]
        refine ⟨_, rfl, a, _, _, _, rfl, rfl, SqT.of h3, at0, _, _, rfl, rfl, _, rfl, ite2 (fun c2 => ?_) (fun c2 => ?_)⟩
        · refine ⟨z2, nope ?_⟩
          have c2' : 4 < n := by simpa using c2
          show (decide (1 ≤ n) && decide (n ≤ 4)) = false
          rw [decide_eq_false (show ¬ n ≤ 4 by omega), Bool.and_false]
        · have n1 : 1 ≤ n := by have : ¬ n < 1 := by simpa using c1
                                omega
          have n4 : n ≤ 4 := by have : ¬ 4 < n := by simpa using c2
                                omega
          have hp : placesD (.int n) = true := by
            show (decide (1 ≤ n) && decide (n ≤ 4)) = true
            rw [decide_eq_true n1, decide_eq_true n4]
            rfl
          have ef : ∀ q2', tabD (.tuple [.int n, q2']) = linesD (sideD n) "lines" "line" 6 q2' := fun q2' => by
            show (if placesD (.int n) = true then _ else _) = _
            rw [hp]
            rfl
          refine ⟨_, rfl, a, _, _, _, rfl, rfl, SqT.of h3, at1, x2, u, d, q2, rfl, d2, _, rfl, ?_⟩
          cases d2 with
          | non => exact iteT ⟨z2, fun p hp => hk _ _ (Same.refl _) (ef _) p hp⟩
          | bl b => exact iteT ⟨z2, fun p hp => hk _ _ (Same.refl _) (ef _) p hp⟩
          | int i => exact iteT ⟨z2, fun p hp => hk _ _ (Same.refl _) (ef _) p hp⟩
          | str x => exact iteT ⟨z2, fun p hp => hk _ _ (Same.refl _) (ef _) p hp⟩
          | lst _ _ _ _ => exact iteT ⟨z2, fun p hp => hk _ _ (Same.refl _) (ef _) p hp⟩
          | dic _ _ _ _ => exact iteT ⟨z2, fun p hp => hk _ _ (Same.refl _) (ef _) p hp⟩
          | @tup b ys ls j1 j2 j3 j4 =>
            have hll := j4.length
            refine iteF ⟨_, rfl, a, _, _, _, rfl, rfl, SqT.of h3, at1, _, _, rfl, .inr (SqT.of j3), _, _, rfl, rfl, _, rfl, ?_⟩
            refine ite2 (fun hm => ?_) (fun hm => ?_)
            · have hm' : 6 < (ys.length : Int) := by simpa using hm
              refine ⟨z2, fun p hp => hk _ _ (Same.refl _) ?_ p hp⟩
              rw [ef]
              show (if (ls.length : Int) ≤ 6 then _ else _) = _
              rw [if_neg (by omega)]
            · have hm' : ¬ 6 < (ys.length : Int) := by simpa using hm
              have el : tabD (.tuple [.int n, .tuple ls]) = (ls.findIdx? fun z => !sideD n z).map fun i => (some i, ("line" : Str)) := by
                rw [ef]
                show (if (ls.length : Int) ≤ 6 then _ else _) = _
                rw [if_pos (by omega)]
              have s2 : Sm (.tuple ls) := hs.mem (by simp)
              refine ⟨_, rfl, a, _, _, _, rfl, rfl, SqT.of h3, at1, b, ys, rfl, SqT.of j3, ?_⟩
              refine for_it walk_enumT (fun i σ' H' => Same H H' ∧ (ls.take i).all (sideD n) = true ∧ ∃ o7 o8, σ' = [some (.ref a), o7, o8]) ⟨Same.refl _, rfl, _, _, rfl⟩ (fun i σ' H' _ I => SqT.of (I.1 _ _ j3)) (fun i x σ' H1 H2 hi I Y => ?_) (fun σ' H' I => ?_)
              · obtain ⟨S1, ha, o7, o8, rfl⟩ := I
                obtain ⟨T, y, rfl, hT, rfl, hy⟩ := Y
                obtain ⟨z, hz, dz⟩ := j4.at hy
                have S2 : Same H (upd H1 T (.tup [.int (i : Nat), y])) := Same.fresh S1 hT
                have sz' := s2.mem (List.mem_of_getElem? hz)
                refine ⟨T, _, rfl, SqT.of upd_same, rfl, _, _, rfl, _, _, rfl, rfl, ?_⟩
                refine ⟨_, rfl, a, _, _, _, rfl, rfl, SqT.of (S2 _ _ h3), atI_nat (j := 0) rfl, _, rfl, y, u, d, z, n, rfl, n4, dz.same S2, Nat.le_trans (lenD_sz z) sz'.sz, fun H3 S3 => ⟨_, rfl, ?_⟩⟩
                cases hg : sideD n z with
                | true => exact iteF ⟨S2.trans S3, all_snoc hz ha hg, _, _, rfl⟩
                | false =>
                  refine iteT ⟨_, rfl, z2, fun p hp => ?_⟩
                  refine k _ _ (Same.fresh (S2.trans S3) hp) ?_
                  rw [el, find_go hz ha hg]
                  exact ⟨p, rfl, upd_same⟩
              · obtain ⟨S1, ha, o7, o8, rfl⟩ := I
                refine k _ _ S1 ?_
                rw [hll, List.take_length] at ha
                rw [el, find_none ha]
                exact rfl
end K2

namespace K2
open PySem L2 RW RZ
def BoO (o : Option Int) : Prop := ∀ i, o = some i → -big ≤ i ∧ i ≤ big
theorem bo_two {s t : Int} (hs : s = 1 ∨ s = -1) (t0 : 0 ≤ t) (t1 : t < 2) : BoO (some (s * (big - t))) := fun i e => by
  cases e
  rcases hs with rfl | rfl
  · have : (1 : Int) * (big - t) = big - t := Int.one_mul _
    rw [this]
    unfold big
    omega
  · have : (-1 : Int) * (big - t) = -(big - t) := by rw [Int.neg_mul, Int.one_mul]
    rw [this]
    unfold big
    omega
theorem bo_small {s t : Int} (hs : s = 1 ∨ s = -1 ∨ s = 1000000000 ∨ s = -1000000000) (t0 : 0 ≤ t) (t1 : t < 1000000) : BoO (some (t * s)) := fun i e => by
  cases e
  unfold big
  rcases hs with rfl | rfl | rfl | rfl <;> omega
def spNumber : Sp := fun vs H Q _ => ∃ (u d m : Addr), vs = [.ref u] ∧ UrnAt H u d m ∧ ∀ H' o, BoO o → UrnAt H' u d m → Off u d H H' → Q (nv o) H'
section
variable {P : Program} {w : World} {K : PySem.W.Frag} {mg : Str → Option Value} {base : Heap}
theorem scNumber : FnScope ["urn", "way"] ["urn"] (defScope sNumber) := ⟨rfl, rfl, rfl, by decide +kernel, rfl, by decide +kernel, by decide +kernel⟩
theorem ok_number {f : Addr} {fd : FuncData} (F : Fun K "_law_number" "_law_number" sNumber f fd) (C1 : Cal P w K mg base "_law_take" 1 ["urn", "size"] spTake) (C2 : Cal P w K mg base "_law_one" 2 ["urn", "items"] spOne) : FnOk P w K mg base CX0 3 f fd ["urn"] spNumber := by
  obtain ⟨f1, fd1, G1, m1, k1, b1⟩ := C1.ex
  obtain ⟨f2, fd2, G2, m2, k2, b2⟩ := C2.ex
  refine F.ok scNumber (fun vs H Q E h => ?_) (fun cdv A outer s H vs Q E hr h => ?_)
  · obtain ⟨u, d, m, rfl, _⟩ := h
    rfl
  · obtain ⟨u, d, m, rfl, U, k⟩ := h
    have hr1 : Room 1 _ := hr.mono (by decide)
    refine ⟨_, pss_cons (ps_set (i := 1) scNumber.nd rfl (Or.inl rfl) (pe_call G1 hr1 rfl m1 k1 b1 .nil pass0 (pa_cons (pv 0) (pa_cons pe_int pa_nil))))
      (pss_cons (ps_if (pt_cmpR op_lt (pv 1) pe_int (nomark _)) (pss_one (ps_ret pe_non)) pss_nil)
      (pss_cons (ps_if (pt_cmpR op_lt (pv 1) pe_int (nomark _)) (pss_one (ps_ret (pe_op op_sub (pe_call G1 hr1 rfl m1 k1 b1 .nil pass0 (pa_cons (pv 0) (pa_cons pe_int pa_nil))) pe_int))) pss_nil)
      (pss_cons (ps_if (pt_cmpR op_lt (pv 1) pe_int (nomark _)) (pss_one (ps_ret (pe_op op_mul (pe_call G2 hr rfl m2 k2 b2 .nil pass0 (pa_cons (pv 0) (pa_cons (pe_lst (pa_cons pe_int (pa_cons (pe_un un_neg pe_int) pa_nil))) pa_nil)))
          (pe_op op_sub (pe_op op_powW pe_int pe_int) (pe_call G1 hr1 rfl m1 k1 b1 .nil pass0 (pa_cons (pv 0) (pa_cons pe_int pa_nil))))))) pss_nil)
      (pss_one (ps_ret (pe_op op_mul (pe_call G1 hr1 rfl m1 k1 b1 .nil pass0 (pa_cons (pv 0) (pa_cons pe_int pa_nil))) (pe_call G2 hr rfl m2 k2 b2 .nil pass0 (pa_cons (pv 0) (pa_cons (pe_lst (pa_cons pe_int (pa_cons (pe_un un_neg pe_int) (pa_cons (pe_op op_powW pe_int pe_int) (pa_cons (pe_un un_neg (pe_op op_powW pe_int pe_int)) pa_nil))))) pa_nil))))))))), ?_⟩
    have e30 : ((10 : Int) ^ (30 : Int).toNat) = big := by decide +kernel
    have e9 : ((10 : Int) ^ (9 : Int).toNat) = 1000000000 := by decide +kernel
    refine ⟨_, rfl, u, d, m, 9, rfl, by decide, by decide, U, fun H1 r r0 r1 U1 O1 => ?_⟩
    refine ⟨_, rfl, _, _, rfl, rfl, _, rfl, ite2 (fun _ => k H1 none (fun i e => by cases e) U1 O1) (fun _ => ?_)⟩
    refine ⟨_, rfl, _, _, rfl, rfl, _, rfl, ite2 (fun _ => ?_) (fun _ => ?_)⟩
    · refine ⟨_, rfl, u, d, m, 3, rfl, by decide, by decide, U1, fun H2 t t0 t1 U2 O2 => ⟨_, _, rfl, rfl, ?_⟩⟩
      exact k H2 (some (t - 1)) (fun i e => by cases e; unfold big; omega) U2 (O1.trans O2)
    refine ⟨_, rfl, _, _, rfl, rfl, _, rfl, ite2 (fun _ => ?_) (fun _ => ?_)⟩
    · refine ⟨_, rfl, _, rfl, (by show 2 ≤ sizeLine; decide), fun l hl => ?_⟩
      refine ⟨u, d, m, l, _, rfl, upd_same, (U1.nfree hl).1, (U1.nfree hl).2, (by show 0 < 2; decide), (by show 2 < 1000; decide), U1.fresh hl, fun H2 v hv U2 O2 => ?_⟩
      obtain ⟨s', rfl, hs'⟩ : ∃ s' : Int, v = .int s' ∧ (s' = 1 ∨ s' = -1) := by
        simp only [List.mem_cons, List.not_mem_nil, or_false] at hv
        rcases hv with rfl | rfl
        · exact ⟨_, rfl, .inl rfl⟩
        · exact ⟨_, rfl, .inr rfl⟩
      have O2' := (Off.fresh (o := .lst [V.int 1, V.int (-1)]) O1 hl).trans O2
      refine ⟨_, _, rfl, rfl, ⟨by decide, by decide +kernel⟩, ?_⟩
      refine ⟨_, rfl, u, d, m, 2, rfl, by decide, by decide, U2, fun H3 t t0 t1 U3 O3 => ⟨_, _, rfl, rfl, _, _, rfl, rfl, ?_, ?_⟩⟩
      · exact .inl (by rcases hs' with rfl | rfl <;> decide)
      have := k H3 (some (s' * (big - t))) (bo_two hs' t0 t1) U3 (O2'.trans O3)
      rw [← e30] at this
      exact this
    · refine ⟨_, rfl, u, d, m, 1000000, rfl, by decide, by decide, U1, fun H2 t t0 t1 U2 O2 => ?_⟩
      refine ⟨_, rfl, _, rfl, _, _, rfl, rfl, ⟨by decide, by decide +kernel⟩, _, _, rfl, rfl, ⟨by decide, by decide +kernel⟩, _, rfl, (by show 4 ≤ sizeLine; decide), fun l hl => ?_⟩
      refine ⟨u, d, m, l, _, rfl, upd_same, (U2.nfree hl).1, (U2.nfree hl).2, (by show 0 < 4; decide), (by show 4 < 1000; decide), U2.fresh hl, fun H3 v hv U3 O3 => ?_⟩
      obtain ⟨s', rfl, hs'⟩ : ∃ s' : Int, v = .int s' ∧ (s' = 1 ∨ s' = -1 ∨ s' = 1000000000 ∨ s' = -1000000000) := by
        simp only [List.mem_cons, List.not_mem_nil, or_false] at hv
        rcases hv with rfl | rfl | rfl | rfl
        · exact ⟨_, rfl, .inl rfl⟩
        · exact ⟨_, rfl, .inr (.inl rfl)⟩
        · exact ⟨_, rfl, .inr (.inr (.inl e9))⟩
        · exact ⟨_, rfl, .inr (.inr (.inr (by show -((10 : Int) ^ (9 : Int).toNat) = _; rw [e9])))⟩
      exact ⟨_, _, rfl, rfl, (.inl ⟨by omega, by omega⟩), k H3 (some (t * s')) (bo_small hs' t0 t1) U3 ((Off.fresh (O1.trans O2) hl).trans O3)⟩
/-! ### _law_side -/
def spSide : Sp := fun vs H Q _ => ∃ (u d m : Addr) (wide : Int), vs = [.ref u, .int wide] ∧ 1 ≤ wide ∧ wide ≤ 4 ∧ UrnAt H u d m ∧
  ∀ H' p xs, (xs.length : Int) = wide → Bo xs → UrnAt H' u d m → Off u d H H' → H' p = some (.tup (xs.map nv)) → Q (.ref p) H'
def SdI (H0 : Hp) (u d m D : Addr) : Nat → Hp → Prop := fun i H => UrnAt H u d m ∧ Off u d H0 H ∧ ∃ xs : List (Option Int), xs.length = i ∧ Bo xs ∧ H D = some (.lst (xs.map nv))
theorem Bo.app {xs : List (Option Int)} {o : Option Int} (h : Bo xs) (ho : BoO o) : Bo (xs ++ [o]) := fun i hi => by
  rcases List.mem_append.mp hi with h1 | h1
  · exact h i h1
  · exact ho i (List.mem_singleton.mp h1).symm
theorem UrnAt.put {H : Hp} {u d m D : Addr} {o : HO} (U : UrnAt H u d m) (nu : D ≠ u) (nd : D ≠ d) (nm : D ≠ m) : UrnAt (upd H D o) u d m := by
  obtain ⟨⟨ds, ms, sm, n, h1, h2, h3, h4⟩, h5⟩ := U
  exact ⟨⟨ds, ms, sm, n, by rw [upd_ne nu.symm]; exact h1, by rw [upd_ne nd.symm]; exact h2, by rw [upd_ne nm.symm]; exact h3, h4⟩, h5⟩
theorem Off.put {H0 H : Hp} {u d D : Addr} {o : HO} (O : Off u d H0 H) (hD : H0 D = none) : Off u d H0 (upd H D o) := fun b v n1 n2 e => by
  rw [upd_ne (ne_of_none e hD)]
  exact O b v n1 n2 e
theorem SdI.put {H0 H : Hp} {u d m D : Addr} {i : Nat} {xs : List (Option Int)} {o : Option Int} (hD : H0 D = none) (nu : D ≠ u) (nd : D ≠ d) (nm : D ≠ m) (U : UrnAt H u d m) (O : Off u d H0 H) (hl : xs.length = i) (hb : Bo xs) (ho : BoO o) :
    SdI H0 u d m D (i + 1) (upd H D (.lst (xs.map nv ++ [nv o]))) :=
  ⟨U.put nu nd nm, Off.put O hD, xs ++ [o], by simp [hl], hb.app ho, by rw [upd_same, List.map_append]; rfl⟩
theorem rep_nv (n : Nat) : (List.replicate n [V.non]).flatten = (List.replicate n (none : Option Int)).map nv := by
  induction n with
  | zero => rfl
  | succ n ih => rw [List.replicate_succ, List.flatten_cons, ih, List.replicate_succ, List.map_cons]; rfl
theorem Bo.none (n : Nat) : Bo (List.replicate n none) := fun i hi => by cases (List.mem_replicate.mp hi).2
theorem scSide : FnScope ["urn", "wide", "turn"] ["urn", "wide"] (defScope sSide) := ⟨rfl, rfl, rfl, by decide +kernel, rfl, by decide +kernel, by decide +kernel⟩
theorem ok_side {f : Addr} {fd : FuncData} (F : Fun K "_law_side" "_law_side" sSide f fd) (B : Bl mg) (C1 : Cal P w K mg base "_law_take" 1 ["urn", "size"] spTake) (C3 : Cal P w K mg base "_law_number" 3 ["urn"] spNumber) :
    FnOk P w K mg base CX0 4 f fd ["urn", "wide"] spSide := by
  obtain ⟨f1, fd1, G1, m1, k1, b1⟩ := C1.ex
  obtain ⟨f3, fd3, G3, m3, k3, b3⟩ := C3.ex
  refine F.ok scSide (fun vs H Q E h => ?_) (fun cdv A outer s H vs Q E hr h => ?_)
  · obtain ⟨u, d, m, wide, rfl, _⟩ := h
    rfl
  · obtain ⟨u, d, m, wide, rfl, w1, w4, U, k⟩ := h
    have hr1 : Room 1 _ := hr.mono (by decide)
    refine ⟨_, pss_cons (ps_if (pt_cmpR op_eq (pe_call G1 hr1 rfl m1 k1 b1 .nil pass0 (pa_cons (pv 0) (pa_cons pe_int pa_nil))) pe_int (nomark _)) (pss_one (ps_ret (pe_op op_repA (pe_tup (pa_cons pe_non pa_nil)) (pv 1)))) pss_nil)
      (pss_one (ps_ret (pe_callTy call_tuple_of (by rfl) B.tuple (by decide +kernel) (pa_cons (pe_lc (own := [("turn", 2)]) (g := gName 2) rfl scSide.nd (pi_range1 rfl B.range (pa_cons (pv 1) pa_nil)) (blkOk_by (N := ["urn", "wide", "turn"]) (sc := defScope sSide) (by decide +kernel)) (fun _ _ _ _ _ => pg_name (i := 2) scSide.nd rfl (Or.inl rfl))
        (fun _ _ _ _ _ => pts_nil) (fun _ _ _ _ _ => pe_call G3 hr rfl m3 k3 b3 .nil pass0 (pa_cons (pv 0) pa_nil))) pa_nil)))), ?_⟩
    refine ⟨_, rfl, u, d, m, 6, rfl, by decide, by decide, U, fun H1 r r0 r1 U1 O1 => ⟨rfl, _, rfl, ite2 (fun _ => ?_) (fun _ => ?_)⟩⟩
    · refine ⟨(by show 1 ≤ sizeLine; decide), fun p hp => ?_⟩
      refine ⟨_, rfl, p, wide, _, rfl, rfl, SqT.of upd_same, (by simp), w1, (by omega), (by decide), fun e => ?_, fun e q hq => ?_⟩
      · refine k _ p [none] (by rw [e]; rfl) (Bo.none 1) (U1.fresh hp) (Off.fresh O1 hp) upd_same
      · refine k _ q (List.replicate wide.toNat none) (by simp; omega) (Bo.none _) ((U1.fresh hp).fresh hq) (Off.fresh (Off.fresh O1 hp) hq) ?_
        rw [upd_same, rep_nv]
    · refine ⟨_, rfl, wide, rfl, ⟨by omega, by omega, fun D hD => lc_range (SdI H1 u d m D) ?_ (fun i H2 hi I => ?_) (fun H2 I => ?_)⟩⟩
      · exact ⟨U1.fresh hD, Off.fresh (Off.refl H1) hD, [], rfl, (fun i hi => by cases hi), upd_same⟩
      · obtain ⟨U2, O2, xs, hxl, hxb, hx⟩ := I
        have nu := (U1.nfree hD).1
        have nd := (U1.nfree hD).2
        have nm := U1.nfreeM hD
        have hsz : (xs.map nv).length < sizeLine := small1000 (by rw [List.length_map]; omega)
        refine ⟨rfl, yes_ ?_⟩
        refine ⟨_, rfl, u, d, m, rfl, U2, fun H3 o ho U3 O3 => ?_⟩
        have hx3 := O3 _ _ nu nd hx
        exact ⟨_, hx3, hsz, SdI.put (o := o) hD nu nd nm U3 (O2.trans O3) hxl hxb ho⟩
      · obtain ⟨U2, O2, xs, hxl, hxb, hx⟩ := I
        refine ⟨D, _, rfl, .inl ⟨SqL.of hx, fun p hp => ?_⟩⟩
        exact k _ p xs (by rw [hxl]; omega) hxb (U2.fresh hp) (Off.fresh (O1.trans O2) hp) upd_same
end
end K2

namespace K2
open PySem L2 RW RZ
/-! ### expressions that make new data -/
abbrev CC := L2.St → Hp → Prop
structure LC (u d : Addr) (C : CC) : Prop where
  go : ∀ σ H H', Same H H' → C σ H → C σ H'
  nu : ∀ σ H, C σ H → H u ≠ none
  nd : ∀ σ H, C σ H → H d ≠ none
def tLit (C : CC) (u d : Addr) (q : PyData) : TE := fun σ H Q => C σ H ∧ ∀ v H', Same H H' → DX u d H' v q → Q v H'
def tLits (C : CC) (u d : Addr) (qs : List PyData) : TA := fun σ H Q => C σ H ∧ ∀ vs H', Same H H' → DXs u d H' vs qs → Q vs H'
theorem pa_imp {X : Cx} {es : List Expr} {t S : TA} (h : PA X es t) (hs : ∀ σ H Q, S σ H Q → t σ H Q) : PA X es S := ⟨fun pos pins s σ H Q I q => h.run pos pins s σ H Q I (hs σ H Q q)⟩
theorem ne_fresh {H : Hp} {u p : Addr} (h : H u ≠ none) (hp : H p = none) : p ≠ u := fun e => h (e ▸ hp)
section
variable {X : Cx} {C : CC} {u d : Addr} {pos : Pos} {e a b : Expr} {es : List Expr} {q : PyData} {qs rs : List PyData} {kk : Nat}
theorem lit_non {j} : PE X (.Constant .none j pos) (tLit C u d .none) := pe_imp pe_non fun σ H Q h => h.2 _ H (Same.refl _) .non
theorem lit_bl {b j} : PE X (.Constant (.bool b) j pos) (tLit C u d (.bool b)) := pe_imp pe_bl fun σ H Q h => h.2 _ H (Same.refl _) (.bl b)
theorem lit_int {i j} : PE X (.Constant (.int i) j pos) (tLit C u d (.int i)) := pe_imp pe_int fun σ H Q h => h.2 _ H (Same.refl _) (.int i)
theorem lit_str {x j} : PE X (.Constant (.str x) j pos) (tLit C u d (.str x)) := pe_imp pe_str fun σ H Q h => h.2 _ H (Same.refl _) (.str x)
theorem lits_nil : PA X [] (tLits C u d []) := pa_imp pa_nil fun σ H Q h => h.2 _ H (Same.refl _) .nil
theorem lits_cons (L : LC u d C) (he : PE X e (tLit C u d q)) (hr : PA X es (tLits C u d qs)) (hs : starEach (e :: es) X.env = (false, eval e X.env) :: starEach es X.env := by rfl) : PA X (e :: es) (tLits C u d (q :: qs)) :=
  pa_imp (pa_cons he hr hs) fun σ H Q ⟨c, h⟩ => ⟨c, fun v H1 S1 dx => ⟨L.go _ _ _ S1 c, fun vs H2 S2 dxs => h _ H2 (S1.trans S2) (.cons (dx.same S2) dxs)⟩⟩
theorem lit_tup (L : LC u d C) (h : PA X es (tLits C u d qs)) (hl : qs.length ≤ 1000) {k : Nat} : PE X (.Tuple es k pos) (tLit C u d (.tuple qs)) :=
  pe_imp (pe_tup h) fun σ H Q ⟨c, k⟩ => ⟨c, fun vs H1 S1 dx => ⟨by rw [dx.length]; exact Nat.le_of_lt (small1000 hl), fun p hp => by
    have c1 := L.go _ _ _ S1 c
    exact k _ _ (Same.fresh S1 hp) (.tup (ne_fresh (L.nu _ _ c1) hp) (ne_fresh (L.nd _ _ c1) hp) upd_same (dx.same (Same.fresh (Same.refl _) hp)))⟩⟩
theorem lit_lst (L : LC u d C) (h : PA X es (tLits C u d qs)) (hl : qs.length ≤ 1000) : PE X (.List es pos) (tLit C u d (.list qs)) :=
  pe_imp (pe_lst h) fun σ H Q ⟨c, k⟩ => ⟨c, fun vs H1 S1 dx => ⟨by rw [dx.length]; exact Nat.le_of_lt (small1000 hl), fun p hp => by
    have c1 := L.go _ _ _ S1 c
    exact k _ _ (Same.fresh S1 hp) (.lst (ne_fresh (L.nu _ _ c1) hp) (ne_fresh (L.nd _ _ c1) hp) upd_same (dx.same (Same.fresh (Same.refl _) hp)))⟩⟩
theorem lit_dnew (L : LC u d C) : PE X (.Dict [] [] pos) (tLit C u d (.dict [])) :=
  pe_imp pe_dnewK fun σ H Q ⟨c, k⟩ => fun p hp => k _ _ (Same.fresh (Same.refl _) hp) (.dic (ne_fresh (L.nu _ _ c) hp) (ne_fresh (L.nd _ _ c) hp) upd_same .nil)
/-- an int that is reckoned -/
theorem lit_num {i : Int} (h : ∀ σ H (Q : VK), C σ H → Q (.int i) H → ∃ t : TE, PE X e t ∧ t σ H Q) : PE X e (tLit C u d (.int i)) := by
  refine ⟨fun pins s σ H Q I hq => ?_⟩
  obtain ⟨t, ht, k⟩ := h σ H Q hq.1 (hq.2 _ H (Same.refl _) (.int i))
  exact ht.run pins s σ H Q I k
theorem lit_num2 {i : Int} {t : TE} (ht : PE X e t) (h : ∀ σ H (Q : VK), Q (.int i) H → t σ H Q) : PE X e (tLit C u d (.int i)) :=
  pe_imp ht fun σ H Q ⟨c, k⟩ => h σ H Q (k _ H (Same.refl _) (.int i))
/-- t + t' -/
theorem lit_cat (L : LC u d C) (ha : PE X a (tLit C u d (.tuple qs))) (hb : PE X b (tLit C u d (.tuple rs))) (hz : qs.length + rs.length ≤ 2000000) : PE X (.BinOp a .Add b pos) (tLit C u d (.tuple (qs ++ rs))) :=
  pe_imp (pe_op op_catA ha hb) fun σ H Q ⟨c, k⟩ => ⟨c, fun v H1 S1 dx => ⟨L.go _ _ _ S1 c, fun y H2 S2 dy => by
    have c2 := L.go _ _ _ (S1.trans S2) c
    have dx2 := dx.same S2
    cases dx2 with
    | @tup a xs _ a1 a2 a3 a4 =>
      cases dy with
      | @tup b ys _ b1 b2 b3 b4 =>
        refine ⟨a, b, xs, ys, rfl, rfl, SqT.of a3, SqT.of b3, ?_, fun e => ?_, fun _ e => ?_, fun _ _ p hp => ?_⟩
        · rw [a4.length, b4.length]; exact Nat.le_of_lt (small6 hz)
        · subst e
          cases a4
          exact k _ H2 (S1.trans S2) (.tup b1 b2 b3 b4)
        · subst e
          cases b4
          rw [List.append_nil] at k
          exact k _ H2 (S1.trans S2) (.tup a1 a2 a3 a4)
        · have S3 : Same H2 (upd H2 p (.tup (xs ++ ys))) := Same.fresh (Same.refl _) hp
          exact k _ _ ((S1.trans S2).trans S3) (.tup (ne_fresh (L.nu _ _ c2) hp) (ne_fresh (L.nd _ _ c2) hp) upd_same ((a4.same S3).append (b4.same S3)))⟩⟩
/-- x[n:m] -/
theorem lit_slice (L : LC u d C) {lo hi : Option Expr} {tl th : TO} {l m : Option Int} {pos2 : Pos} (ha : PE X a (tLit C u d (.tuple qs))) (hl : PO X lo tl) (hh : PO X hi th)
    (h1 : ∀ σ H (Q : Option Int → Hp → Prop), C σ H → Q l H → tl σ H Q) (h2 : ∀ σ H (Q : Option Int → Hp → Prop), C σ H → Q m H → th σ H Q) {cut : List PyData}
    (hc : ∀ {xs : List V} {H}, DXs u d H xs qs → DXs u d H (cutV xs l m) cut) (hw : HT.sIx qs.length 0 l = 0 ∧ HT.sIx qs.length qs.length m = qs.length → cut = qs) : PE X (.Subscript a (.Slice lo hi none pos2) pos) (tLit C u d (.tuple cut)) :=
  pe_imp (pe_slice sl_tupA ha hl hh) fun σ H Q ⟨c, k⟩ => ⟨c, fun v H1 S1 dx => h1 _ _ _ (L.go _ _ _ S1 c) (h2 _ _ _ (L.go _ _ _ S1 c) (by
    have c1 := L.go _ _ _ S1 c
    cases dx with
    | @tup a xs _ a1 a2 a3 a4 =>
      have hln := a4.length
      refine ⟨a, xs, rfl, SqT.of a3, fun w => ?_, fun _ p hp => ?_⟩
      · rw [hln] at w
        rw [hw w] at k
        exact k _ H1 S1 (.tup a1 a2 a3 a4)
      · have S3 : Same H1 (upd H1 p (.tup (cutV xs l m))) := Same.fresh (Same.refl _) hp
        exact k _ _ (S1.trans S3) (.tup (ne_fresh (L.nu _ _ c1) hp) (ne_fresh (L.nd _ _ c1) hp) upd_same ((hc a4).same S3))))⟩
/-- a name -/
theorem lit_var {i : Nat} {t : TE} (ht : PE X e t) (h : ∀ σ H (Q : VK), C σ H → (∀ v, DX u d H v q → Q v H) → t σ H Q) : PE X e (tLit C u d q) :=
  pe_imp ht fun σ H Q ⟨c, k⟩ => h σ H Q c fun v dx => k v H (Same.refl _) dx
end
end K2

namespace K2
open PySem L2 RW RZ
def C0 (u d : Addr) : CC := fun _ H => H u ≠ none ∧ H d ≠ none
theorem same_ne {H H' : Hp} {u : Addr} (S : Same H H') (h : H u ≠ none) : H' u ≠ none := by
  cases e : H u with
  | none => exact absurd e h
  | some o => rw [S _ _ e]; simp
theorem lc0 (u d : Addr) : LC u d (C0 u d) := ⟨fun σ H H' S h => ⟨same_ne S h.1, same_ne S h.2⟩, fun σ H h => h.1, fun σ H h => h.2⟩
theorem UrnAt.ne0 {H : Hp} {u d m : Addr} (U : UrnAt H u d m) : H u ≠ none ∧ H d ≠ none := by
  obtain ⟨⟨ds, ms, sm, n, h1, h2, _⟩, _⟩ := U
  exact ⟨by rw [h1]; simp, by rw [h2]; simp⟩
theorem DXs.mem {u d : Addr} {H : Hp} : ∀ {vs : List V} {qs : List PyData} {v : V}, DXs u d H vs qs → v ∈ vs → ∃ q, q ∈ qs ∧ DX u d H v q
  | _, _, _, .cons h r, hv => by
    rcases List.mem_cons.mp hv with rfl | hv
    · exact ⟨_, List.mem_cons_self .., h⟩
    · obtain ⟨q, h1, h2⟩ := DXs.mem r hv
      exact ⟨q, List.mem_cons_of_mem _ h1, h2⟩
section
variable {X : Cx} {C : CC} {u d : Addr} {pos : Pos}
theorem lit_d01 (L : LC u d C) {j1 j2 j3 p1 p2 p3 p4 k} : PE X (.Dict [some (.Constant (.int 0) j1 p1), some (.Constant (.int 1) j2 p2)] [.Constant (.int 1) j3 p3, .Tuple [] k p4] pos) (tLit C u d (.dict [(.int 0, .int 1), (.int 1, .tuple [])])) :=
  pe_imp (pe_disp (pps_cons pe_int pe_int (pps_cons pe_int (pe_tup pa_nil) pps_nil)) (by rfl) (by rfl) (fun z => by cases z) (Nat.le_of_ble_eq_true rfl)) fun σ H Q ⟨c, k⟩ => fun p hp => ⟨(by show 0 ≤ sizeLine; decide), fun p2 hp2 => ⟨(by
      rw [upd_ne (fun e => by rw [← e, upd_same] at hp2; cases hp2)]; exact upd_same), [(.inl 0, .int 1), (.inl 1, .ref p2)], rfl, (Nat.le_of_ble_eq_true rfl), by
    have npp : p2 ≠ p := fun e => by rw [e, upd_same] at hp2; cases hp2
    have hp2' : H p2 = none := by rw [upd_ne npp] at hp2; exact hp2
    refine k _ _ (fun b o e => ?_) (.dic (ne_fresh (L.nu _ _ c) hp) (ne_fresh (L.nd _ _ c) hp) upd_same (.cons (.int 1) (.cons (.tup (ne_fresh (L.nu _ _ c) hp2') (ne_fresh (L.nd _ _ c) hp2') (by rw [upd_ne npp, upd_same]) .nil) .nil)))
    rw [upd_ne (ne_of_none e hp), upd_ne (ne_of_none e hp2'), upd_ne (ne_of_none e hp)]
    exact e⟩⟩
theorem lit_d0 (L : LC u d C) {j1 j2 p1 p2} : PE X (.Dict [some (.Constant (.int 0) j1 p1)] [.Constant .none j2 p2] pos) (tLit C u d (.dict [(.int 0, .none)])) :=
  pe_imp (pe_disp (pps_cons pe_int pe_non pps_nil) (by rfl) (by rfl) (fun z => by cases z) (Nat.le_of_ble_eq_true rfl)) fun σ H Q ⟨c, k⟩ => fun p hp => ⟨upd_same, [(.inl 0, .non)], rfl, (Nat.le_of_ble_eq_true rfl), by
    refine k _ _ (fun b o e => ?_) (.dic (ne_fresh (L.nu _ _ c) hp) (ne_fresh (L.nd _ _ c) hp) upd_same (.cons .non .nil))
    rw [upd_ne (ne_of_none e hp), upd_ne (ne_of_none e hp)]
    exact e⟩
end
def al1 : List PyData := [.none, .bool true, .bool false, .int 0, .int 2, .str "", .str "ab", .tuple [], .tuple [.int 1], .list [], .list [.int 1, .tuple []], .dict [], .dict [(.int 0, .int 1), (.int 1, .tuple [])], .tuple [.int 1, .tuple [], .tuple []], .tuple [.tuple [], .int 1], .str "1\n."]
def al2 : List PyData := [.tuple [.int 1, .tuple [.tuple [.none]], .none], .list [.int 1, .tuple [.tuple [.int 0]]], .tuple [.tuple [.int 0], .tuple [.int 0]], .int (((10 : Int)) ^ ((30 : Int)).toNat), .int (-((((10 : Int)) ^ ((57 : Int)).toNat) ^ ((7 : Int)).toNat)), .tuple [.int 1, .list [.tuple [.int 0]]], .tuple [.int 0]]
theorem al_ok : (al1 ++ al2).all (fun q => q.showable && decide (sz q ≤ 2000000) && decide (q.depth ≤ 20)) = true := by decide +kernel
theorem al_sm {q : PyData} (h : q ∈ al1 ++ al2) : Sm q := by
  have := List.all_eq_true.mp al_ok q h
  simp only [Bool.and_eq_true, decide_eq_true_eq] at this
  exact ⟨this.1.1, this.1.2, this.2⟩
def spAlone : Sp := fun vs H Q _ => ∃ (u d m : Addr), vs = [.ref u] ∧ UrnAt H u d m ∧ ∀ H' v q, DX u d H' v q → Sm q → UrnAt H' u d m → Off u d H H' → Q v H'
section
variable {P : Program} {w : World} {K : PySem.W.Frag} {mg : Str → Option Value} {base : Heap}
theorem scAlone : FnScope ["urn", "some"] ["urn"] (defScope sAlone) := ⟨rfl, rfl, rfl, by decide +kernel, rfl, by decide +kernel, by decide +kernel⟩
theorem ok_alone {f : Addr} {fd : FuncData} (F : Fun K "_law_alone" "_law_alone" sAlone f fd) (C2 : Cal P w K mg base "_law_one" 2 ["urn", "items"] spOne) : FnOk P w K mg base CX0 3 f fd ["urn"] spAlone := by
  obtain ⟨f2, fd2, G2, m2, k2, b2⟩ := C2.ex
  refine F.ok scAlone (fun vs H Q E h => ?_) (fun cdv A outer s H vs Q E hr h => ?_)
  · obtain ⟨u, d, m, rfl, _⟩ := h
    rfl
  · obtain ⟨u, d, m, rfl, U, k⟩ := h
    have L := lc0 u d
    refine ⟨_, pss_cons (ps_set (i := 1) scAlone.nd rfl (Or.inl rfl) (show PE _ _ (tLit (C0 u d) u d (.list al1)) from lit_lst L (lits_cons L lit_non (lits_cons L lit_bl (lits_cons L lit_bl (lits_cons L lit_int (lits_cons L lit_int (lits_cons L lit_str (lits_cons L lit_str (lits_cons L (lit_tup L lits_nil (by decide)) (lits_cons L (lit_tup L (lits_cons L lit_int lits_nil) (by decide)) (lits_cons L (lit_lst L lits_nil (by decide)) (lits_cons L (lit_lst L (lits_cons L lit_int (lits_cons L (lit_tup L lits_nil (by decide)) lits_nil)) (by decide)) (lits_cons L (lit_dnew L) (lits_cons L (lit_d01 L) (lits_cons L (lit_tup L (lits_cons L lit_int (lits_cons L (lit_tup L lits_nil (by decide)) (lits_cons L (lit_tup L lits_nil (by decide)) lits_nil))) (by decide)) (lits_cons L (lit_tup L (lits_cons L (lit_tup L lits_nil (by decide)) (lits_cons L lit_int lits_nil)) (by decide)) (lits_cons L lit_str lits_nil)))))))))))))))) (by decide)))
      (pss_cons (ps_set (i := 1) scAlone.nd rfl (Or.inl rfl) (pe_op op_cat (pv 1) (show PE _ _ (tLit (C0 u d) u d (.list al2)) from lit_lst L (lits_cons L (lit_tup L (lits_cons L lit_int (lits_cons L (lit_tup L (lits_cons L (lit_tup L (lits_cons L lit_non lits_nil) (by decide)) lits_nil) (by decide)) (lits_cons L lit_non lits_nil))) (by decide)) (lits_cons L (lit_lst L (lits_cons L lit_int (lits_cons L (lit_tup L (lits_cons L (lit_tup L (lits_cons L lit_int lits_nil) (by decide)) lits_nil) (by decide)) lits_nil)) (by decide)) (lits_cons L (lit_tup L (lits_cons L (lit_tup L (lits_cons L lit_int lits_nil) (by decide)) (lits_cons L (lit_tup L (lits_cons L lit_int lits_nil) (by decide)) lits_nil)) (by decide)) (lits_cons L (lit_num2 (pe_op op_powW pe_int pe_int) (fun σ H Q h => ⟨_, _, rfl, rfl, ⟨by decide, by decide +kernel⟩, h⟩)) (lits_cons L (lit_num2 (pe_un un_neg (pe_op op_powW (pe_op op_powW pe_int pe_int) pe_int)) (fun σ H Q h => ⟨_, _, rfl, rfl, ⟨by decide, by decide +kernel⟩, ⟨_, _, rfl, rfl, ⟨by decide, by decide +kernel⟩, ⟨_, rfl, h⟩⟩⟩)) (lits_cons L (lit_tup L (lits_cons L lit_int (lits_cons L (lit_lst L (lits_cons L (lit_tup L (lits_cons L lit_int lits_nil) (by decide)) lits_nil) (by decide)) lits_nil)) (by decide)) (lits_cons L (lit_tup L (lits_cons L lit_int lits_nil) (by decide)) lits_nil))))))) (by decide))))
      (pss_one (ps_ret (pe_call G2 hr rfl m2 k2 b2 .nil pass0 (pa_cons (pv 0) (pa_cons (pv 1) pa_nil)))))), ?_⟩
    refine ⟨U.ne0, fun v1 H1 S1 dx1 => ?_⟩
    have U1 := U.same S1
    refine ⟨_, rfl, U1.ne0, fun v2 H2 S2 dx2 => ?_⟩
    have dx1' := dx1.same S2
    have U2 := U1.same S2
    cases dx1' with
    | @lst a xs _ a1 a2 a3 a4 =>
      cases dx2 with
      | @lst b ys _ b1 b2 b3 b4 =>
        have hlx : xs.length = 16 := a4.length
        have hly : ys.length = 7 := b4.length
        refine ⟨a, b, xs, ys, rfl, rfl, a3, b3, (by rw [hlx, hly]; decide), fun p hp => ?_⟩
        have S3 : Same H2 (upd H2 p (.lst (xs ++ ys))) := Same.fresh (Same.refl _) hp
        have dd := (a4.append b4).same S3
        refine ⟨_, rfl, _, rfl, u, d, m, p, _, rfl, upd_same, (U2.nfree hp).1, (U2.nfree hp).2, (by rw [List.length_append]; omega), (by rw [List.length_append]; omega), U2.fresh hp, fun H4 v hv U4 O4 => ?_⟩
        obtain ⟨q, hq, dq⟩ := DXs.mem (dd.off O4) hv
        exact k H4 v q dq (al_sm hq) U4 ((Same.off (S1.trans (S2.trans S3))).trans O4)
end
end K2

namespace K2
open PySem L2 RW RZ
section
variable {X : Cx}
theorem dot_ok {n : Int} (h0 : 0 ≤ n) (h1 : n ≤ 2000000) : MulOk (⟨#[46]⟩ : Str) n := by
  refine ⟨?_, fun a b => ?_, fun a b => ?_⟩
  · rw [decide_eq_false (by omega), decide_eq_false (by omega)]
    rfl
  · intro z
    have z' : (1 : Int) > (2 ^ 63 - 1) / n := z
    have hn : 0 < n := by omega
    have : 1 ≤ (2 ^ 63 - 1 : Int) / n := by
      rw [Int.le_ediv_iff_mul_le hn]
      omega
    omega
  · show Builtin.Str.tooLong (1 * n.toNat) = false
    unfold Builtin.Str.tooLong
    rw [sizeLine_eq]
    simp
    omega
theorem op_mulDot : OpR X (binaryOp .Mult) (fun x y H Q => ∃ n : Int, x = .str "." ∧ y = .int n ∧ 0 ≤ n ∧ n ≤ 2000000 ∧ Q (.str (Txt.mul ⟨#[46]⟩ n)) H) := by
  intro pins s σ H x y v u Q I rx ry h
  obtain ⟨n, rfl, rfl, h0, h1, q⟩ := h
  obtain ⟨t, rfl⟩ := rx
  obtain ⟨t2, rfl⟩ := ry
  exact SB.mul (x := ⟨#[46]⟩) (dot_ok h0 h1) fun t' k => ⟨.str _, H, I.tok _, ⟨_, rfl⟩, q⟩
theorem dot_len {n : Int} (h0 : 0 ≤ n) : (reprText (Txt.mul ⟨#[46]⟩ n)).length ≤ 10 * n.toNat + 2 := by
  have e := PyProof.Rows.mul_one_list 46 n
  have h1 := StrLaws.reprText_len (Txt.mul ⟨#[46]⟩ n) (fun c hc => by
    rw [e] at hc
    rw [(List.mem_replicate.mp hc).2]
    decide)
  have h2 : (Txt.mul ⟨#[46]⟩ n).length = n.toNat := by
    have : (Txt.mul ⟨#[46]⟩ n).cps.toList.length = n.toNat := by rw [e, List.length_replicate]
    rw [← this]
    simp [Str.length]
  rw [h2] at h1
  exact h1
end
section
variable {K : PySem.W.Frag} {u d : Addr} {H : Hp} {x y : V} {qs rs : List PyData} {Q : VK}
theorem catX (nu : H u ≠ none) (nd : H d ≠ none) (hx : DX u d H x (.tuple qs)) (hy : DX u d H y (.tuple rs)) (hz : qs.length + rs.length ≤ 2000000) (k : ∀ v H', Same H H' → DX u d H' v (.tuple (qs ++ rs)) → Q v H') : rCatA K x y H Q := by
  cases hx with
  | @tup a xs _ a1 a2 a3 a4 =>
    cases hy with
    | @tup b ys _ b1 b2 b3 b4 =>
      refine ⟨a, b, xs, ys, rfl, rfl, SqT.of a3, SqT.of b3, ?_, fun e => ?_, fun _ e => ?_, fun _ _ p hp => ?_⟩
      · rw [a4.length, b4.length]; exact Nat.le_of_lt (small6 hz)
      · subst e
        cases a4
        exact k _ H (Same.refl _) (.tup b1 b2 b3 b4)
      · subst e
        cases b4
        rw [List.append_nil] at k
        exact k _ H (Same.refl _) (.tup a1 a2 a3 a4)
      · have S3 : Same H (upd H p (.tup (xs ++ ys))) := Same.fresh (Same.refl _) hp
        exact k _ _ S3 (.tup (ne_fresh nu hp) (ne_fresh nd hp) upd_same ((a4.same S3).append (b4.same S3)))
theorem sliceX {l m : Option Int} {cut : List PyData} (nu : H u ≠ none) (nd : H d ≠ none) (hx : DX u d H x (.tuple qs)) (hc : ∀ {xs : List V}, DXs u d H xs qs → DXs u d H (cutV xs l m) cut) (hw : HT.sIx qs.length 0 l = 0 ∧ HT.sIx qs.length qs.length m = qs.length → cut = qs)
    (k : ∀ v H', Same H H' → DX u d H' v (.tuple cut) → Q v H') : rSlA K x l m H Q := by
  cases hx with
  | @tup a xs _ a1 a2 a3 a4 =>
    have hln := a4.length
    refine ⟨a, xs, rfl, SqT.of a3, fun w => ?_, fun _ p hp => ?_⟩
    · rw [hln] at w
      rw [hw w] at k
      exact k _ H (Same.refl _) (.tup a1 a2 a3 a4)
    · have S3 : Same H (upd H p (.tup (cutV xs l m))) := Same.fresh (Same.refl _) hp
      exact k _ _ S3 (.tup (ne_fresh nu hp) (ne_fresh nd hp) upd_same ((hc a4).same S3))
end
/-- x[:j], x[j + 1:] -/
theorem cut_loX {u d : Addr} {H : Hp} {xs : List V} {qs : List PyData} {j : Nat} (h : j ≤ qs.length) (hx : DXs u d H xs qs) : DXs u d H (cutV xs none (some (j : Int))) (qs.take j) := by
  rw [cut_lo (by rw [hx.length]; exact h)]
  exact hx.take j
theorem cut_hiX {u d : Addr} {H : Hp} {xs : List V} {qs : List PyData} {j : Nat} (h : j < qs.length) (hx : DXs u d H xs qs) : DXs u d H (cutV xs (some ((j : Int) + 1)) none) (qs.drop (j + 1)) := by
  rw [cut_hi (by rw [hx.length]; exact h)]
  exact hx.drop (j + 1)
theorem whole_lo {qs : List PyData} {j : Nat} (h : HT.sIx qs.length 0 none = 0 ∧ HT.sIx qs.length qs.length (some (j : Int)) = qs.length) : qs.take j = qs := by
  have := h.2
  rw [HT.sIx_nat] at this
  exact List.take_of_length_le (by omega)
theorem whole_hi {qs : List PyData} {j : Nat} (h : HT.sIx qs.length 0 (some ((j : Int) + 1)) = 0 ∧ HT.sIx qs.length qs.length none = qs.length) : qs.drop (j + 1) = qs := by
  have h1 := h.1
  have h2 := HT.sIx_nat qs.length 0 (j + 1)
  rw [show (((j + 1 : Nat) : Int)) = (j : Int) + 1 by omega] at h2
  rw [h2] at h1
  have : qs.length = 0 := by omega
  rw [List.eq_nil_of_length_eq_zero this]
  rfl
end K2

namespace K2
open PySem L2 RW RZ
theorem cut_lastX {u d : Addr} {H : Hp} {xs : List V} {qs : List PyData} (hx : DXs u d H xs qs) : DXs u d H (cutV xs none (some (-1))) (qs.take (qs.length - 1)) := by
  have e : cutV xs none (some (-1)) = xs.take (xs.length - 1) := by
    unfold cutV
    rw [HT.sIx_none, List.drop_zero]
    have : HT.sIx xs.length xs.length (some (-1)) = xs.length - 1 := by
      show (if (-1 : Int) < 0 then ((-1 : Int) + (xs.length : Int)).toNat else min (-1 : Int).toNat xs.length) = _
      rw [if_pos (by decide)]
      omega
    rw [this]
    rfl
  rw [e, hx.length]
  exact hx.take _
theorem whole_last {qs : List PyData} (h0 : 0 < qs.length) (h : HT.sIx qs.length 0 none = 0 ∧ HT.sIx qs.length qs.length (some (-1)) = qs.length) : qs.take (qs.length - 1) = qs := by
  have h2 : (if (-1 : Int) < 0 then ((-1 : Int) + (qs.length : Int)).toNat else min (-1 : Int).toNat qs.length) = qs.length := h.2
  rw [if_pos (by decide)] at h2
  omega
theorem one_go {C : CC} {u d m : Addr} {σ : L2.St} {H : Hp} {Q : VK} {E : XK} {qs : List PyData} (L : LC u d C) (c : C σ H) (hσ : σ[0]? = some (some (.ref u))) (U : UrnAt H u d m) (h0 : 0 < qs.length) (h1 : qs.length < 1000)
    (k : ∀ H' v q, q ∈ qs → DX u d H' v q → UrnAt H' u d m → Off u d H H' → Q v H') : tCall spOne [] E (tCons (tVar 0) (tCons (tLst (tLits C u d qs)) tNil)) σ H Q := by
  refine ⟨_, hσ, c, fun vs H1 S1 dx => ⟨?_, fun l hl => ?_⟩⟩
  · rw [dx.length]; exact Nat.le_of_lt (small1000 (by omega))
  · have U1 := U.same S1
    refine ⟨u, d, m, l, vs, rfl, upd_same, (U1.nfree hl).1, (U1.nfree hl).2, by rw [dx.length]; exact h0, by rw [dx.length]; exact h1, U1.fresh hl, fun H' v hv U' O => ?_⟩
    have S2 : Same H (upd H1 l (.lst vs)) := Same.fresh S1 hl
    obtain ⟨q, hq, dq⟩ := DXs.mem ((dx.same (Same.fresh (Same.refl _) hl)).off O) hv
    exact k H' v q hq dq U' ((Same.off S2).trans O)
/-- shown in so many signs, so deep -/
structure Sb (b t : Nat) (q : PyData) : Prop where
  sh : q.showable = true
  sz : sz q ≤ b
  dp : q.depth ≤ t
def C1 (u d a : Addr) (xs : List V) (qs : List PyData) : CC := fun σ H => (H u ≠ none ∧ H d ≠ none) ∧ σ[1]? = some (some (.ref a)) ∧ H a = some (.tup xs) ∧ DXs u d H xs qs
theorem lc1 (u d a : Addr) (xs : List V) (qs : List PyData) : LC u d (C1 u d a xs qs) := ⟨fun σ H H' S h => ⟨⟨same_ne S h.1.1, same_ne S h.1.2⟩, h.2.1, S _ _ h.2.2.1, h.2.2.2.same S⟩, fun σ H h => h.1.1, fun σ H h => h.1.2⟩
def od1 (qs : List PyData) : List PyData := [.tuple (qs ++ [.none]), .tuple (qs.drop 1), .tuple (qs ++ [.int 0]), .tuple (qs.take (qs.length - 1)), .tuple (qs ++ qs), .tuple []]
def od2 (qs : List PyData) : List PyData := [.none, .int 0, .bool true, .str "", .str (Txt.mul ⟨#[46]⟩ (qs.length : Int)), .dict [], .tuple [.tuple qs], .dict [(.int 0, .none)], .list (List.replicate qs.length .none)]
def od3 : List PyData := [.bool true, .bool false, .str "0", .str "", .str "None", .tuple [.none], .list [.int 0], .dict [], .tuple [], .int ((((10 : Int)) ^ ((30 : Int)).toNat) + ((1 : Int))), .int ((-(((10 : Int)) ^ ((30 : Int)).toNat)) - ((1 : Int))), .int ((((10 : Int)) ^ ((57 : Int)).toNat) ^ ((7 : Int)).toNat), .list [], .tuple [.str ""]]
theorem od3_ok : od3.all (fun q => q.showable && decide (sz q ≤ 2500) && decide (q.depth ≤ 1)) = true := by decide +kernel
theorem od3_sb {q : PyData} (h : q ∈ od3) : Sb 2500 1 q := by
  have := List.all_eq_true.mp od3_ok q h
  simp only [Bool.and_eq_true, decide_eq_true_eq] at this
  exact ⟨this.1.1, this.1.2, this.2⟩
theorem sb_tup {b t : Nat} {qs : List PyData} (h1 : PyData.showableAll qs = true) (h2 : szs qs + 6 ≤ b) (h3 : PyData.depthAll qs + 1 ≤ t) : Sb b t (.tuple qs) := ⟨by simpa only [PyData.showable] using h1, by simp only [sz]; omega, by simp only [PyData.depth]; exact h3⟩
theorem sb_items {b t : Nat} {qs : List PyData} (h : Sb b t (.tuple qs)) : PyData.showableAll qs = true ∧ szs qs + 6 ≤ b ∧ PyData.depthAll qs + 1 ≤ t := by
  obtain ⟨h1, h2, h3⟩ := h
  simp only [PyData.showable] at h1
  simp only [sz] at h2
  simp only [PyData.depth] at h3
  exact ⟨h1, by omega, h3⟩
theorem showA_take {qs : List PyData} (n : Nat) (h : PyData.showableAll qs = true) : PyData.showableAll (qs.take n) = true := showA_of fun q hq => showA_mem (List.mem_of_mem_take hq) h
theorem showA_drop {qs : List PyData} (n : Nat) (h : PyData.showableAll qs = true) : PyData.showableAll (qs.drop n) = true := showA_of fun q hq => showA_mem (List.mem_of_mem_drop hq) h
theorem depA_take {qs : List PyData} (n : Nat) : PyData.depthAll (qs.take n) ≤ PyData.depthAll qs := depA_of fun q hq => depA_mem (List.mem_of_mem_take hq)
theorem depA_drop {qs : List PyData} (n : Nat) : PyData.depthAll (qs.drop n) ≤ PyData.depthAll qs := depA_of fun q hq => depA_mem (List.mem_of_mem_drop hq)
theorem depA_append (a b : List PyData) {n : Nat} (ha : PyData.depthAll a ≤ n) (hb : PyData.depthAll b ≤ n) : PyData.depthAll (a ++ b) ≤ n := depA_of fun q hq => by
  rcases List.mem_append.mp hq with h | h
  · exact Nat.le_trans (depA_mem h) ha
  · exact Nat.le_trans (depA_mem h) hb
theorem od1_sb {b t : Nat} {qs : List PyData} (h : Sb b t (.tuple qs)) {q : PyData} (hq : q ∈ od1 qs) : Sb (2 * b + 3000) (t + 1) q := by
  obtain ⟨h1, h2, h3⟩ := sb_items h
  simp only [od1, List.mem_cons, List.not_mem_nil, or_false] at hq
  rcases hq with rfl | rfl | rfl | rfl | rfl | rfl
  · exact sb_tup (by rw [showA_append, h1]; rfl) (by rw [szs_append]; simp only [szs, sz]; omega) (by have := depA_append qs [.none] (Nat.le_refl _) (by simp [PyData.depthAll, PyData.depth]); omega)
  · exact sb_tup (showA_drop _ h1) (by have := szs_drop qs 1; omega) (by have := depA_drop (qs := qs) 1; omega)
  · exact sb_tup (by rw [showA_append, h1]; rfl) (by rw [szs_append]; simp only [szs, sz]; omega) (by have := depA_append qs [.int 0] (Nat.le_refl _) (by simp [PyData.depthAll, PyData.depth]); omega)
  · exact sb_tup (showA_take _ h1) (by have := szs_take qs (qs.length - 1); omega) (by have := depA_take (qs := qs) (qs.length - 1); omega)
  · exact sb_tup (by rw [showA_append, h1]; rfl) (by rw [szs_append]; omega) (by have := depA_append qs qs (Nat.le_refl _) (Nat.le_refl _); omega)
  · exact sb_tup rfl (by simp only [szs]; omega) (by simp only [PyData.depthAll]; omega)
theorem od2_sb {b t : Nat} {qs : List PyData} (h : Sb b t (.tuple qs)) {q : PyData} (hq : q ∈ od2 qs) : Sb (2 * b + 3000) (t + 1) q := by
  obtain ⟨h1, h2, h3⟩ := sb_items h
  have hl := szs_len qs
  simp only [od2, List.mem_cons, List.not_mem_nil, or_false] at hq
  rcases hq with rfl | rfl | rfl | rfl | rfl | rfl | rfl | rfl | rfl
  · exact ⟨rfl, by simp only [sz]; omega, by simp only [PyData.depth]; omega⟩
  · exact ⟨rfl, by simp only [sz]; omega, by simp only [PyData.depth]; omega⟩
  · exact ⟨rfl, by simp only [sz]; omega, by simp only [PyData.depth]; omega⟩
  · exact ⟨rfl, Nat.le_trans (show sz (.str "") ≤ 3000 by decide +kernel) (by omega), by simp only [PyData.depth]; omega⟩
  · refine ⟨rfl, ?_, by simp only [PyData.depth]; omega⟩
    have := dot_len (n := (qs.length : Int)) (by omega)
    simp only [sz]
    omega
  · exact ⟨rfl, by simp only [sz, szk]; omega, by simp only [PyData.depth, PyData.depthKv]; omega⟩
  · exact sb_tup (by simp only [PyData.showableAll, PyData.showable, h1]; rfl) (by simp only [szs, sz]; omega) (by simp only [PyData.depthAll, PyData.depth]; omega)
  · exact ⟨rfl, by simp only [sz, szk]; omega, by simp [PyData.depth, PyData.depthKv]⟩
  · refine ⟨?_, ?_, ?_⟩
    · simp only [PyData.showable]
      exact showA_of fun q hq => by rw [(List.mem_replicate.mp hq).2]; rfl
    · simp only [sz]
      rw [szs_rep]
      simp only [sz]
      omega
    · simp only [PyData.depth]
      have := depA_of (n := 0) (a := List.replicate qs.length PyData.none) fun q hq => by rw [(List.mem_replicate.mp hq).2]; simp [PyData.depth]
      omega
theorem od4_sb {b t j : Nat} {qs : List PyData} (h : Sb b t (.tuple qs)) {q : PyData} (hq : q ∈ od3) : Sb (2 * b + 3000) (t + 1) (.tuple (qs.take j ++ [q] ++ qs.drop (j + 1))) := by
  obtain ⟨h1, h2, h3⟩ := sb_items h
  obtain ⟨s1, s2, s3⟩ := od3_sb hq
  refine sb_tup ?_ ?_ ?_
  · rw [showA_append, showA_append, showA_take j h1, showA_drop _ h1]
    simp only [PyData.showableAll, s1]
    rfl
  · rw [szs_append, szs_append]
    have e1 := szs_take qs j
    have e2 := szs_drop qs (j + 1)
    simp only [szs]
    omega
  · have e1 := depA_take (qs := qs) j
    have e2 := depA_drop (qs := qs) (j + 1)
    have := depA_append (n := t) (qs.take j ++ [q]) (qs.drop (j + 1)) (depA_append _ _ (by omega) (by simp only [PyData.depthAll]; omega)) (by omega)
    omega
def spOdd : Sp := fun vs H Q _ => ∃ (u d m a : Addr) (xs : List V) (qs : List PyData) (b t : Nat), vs = [.ref u, .ref a] ∧ UrnAt H u d m ∧ H a = some (.tup xs) ∧ DXs u d H xs qs ∧ 0 < qs.length ∧ qs.length ≤ 10000 ∧ Sb b t (.tuple qs) ∧
  ∀ H' v q, DX u d H' v q → Sb (2 * b + 3000) (t + 1) q → UrnAt H' u d m → Off u d H H' → Q v H'
section
variable {P : Program} {w : World} {K : PySem.W.Frag} {mg : Str → Option Value} {base : Heap}
theorem scOdd : FnScope ["urn", "line", "way", "at", "odd"] ["urn", "line"] (defScope sOdd) := ⟨rfl, rfl, rfl, by decide +kernel, rfl, by decide +kernel, by decide +kernel⟩
theorem ok_odd {f : Addr} {fd : FuncData} (F : Fun K "_law_odd_side" "_law_odd_side" sOdd f fd) (B : Bl mg) (Ctk : Cal P w K mg base "_law_take" 1 ["urn", "size"] spTake) (C2 : Cal P w K mg base "_law_one" 2 ["urn", "items"] spOne) : FnOk P w K mg base CX0 3 f fd ["urn", "line"] spOdd := by
  obtain ⟨f1, fd1, G1, m1, k1, b1⟩ := Ctk.ex
  obtain ⟨f2, fd2, G2, m2, k2, b2⟩ := C2.ex
  refine F.ok scOdd (fun vs H Q E h => ?_) (fun cdv A outer s H vs Q E hr h => ?_)
  · obtain ⟨u, d, m, a, xs, qs, b, t, rfl, _⟩ := h
    rfl
  · obtain ⟨u, d, m, a, xs, qs, b, t, rfl, U, ha, dx, hq0, hq1, hs, k⟩ := h
    have hr1 : Room 1 _ := hr.mono (by decide)
    obtain ⟨nau, nad⟩ := tup_ne U ha
    have L := lc1 u d a xs qs
    have hlx := dx.length
    have lv : ∀ {p : Pos}, PE (cxOf CX0 P w K mg base ["urn", "line", "way", "at", "odd"] "_law_odd_side" (defScope sOdd) f cdv A outer s H E).nox (.Name "line" p) (tLit (C1 u d a xs qs) u d (.tuple qs)) := fun {p} =>
      pe_imp (pv (pos := p) 1) fun σ H' Q' ⟨c, q⟩ => ⟨_, c.2.1, q _ H' (Same.refl _) (.tup nau nad c.2.2.1 c.2.2.2)⟩
    have dotL : ∀ {p1 p2 p3 p4 p5 j}, PE (cxOf CX0 P w K mg base ["urn", "line", "way", "at", "odd"] "_law_odd_side" (defScope sOdd) f cdv A outer s H E).nox (.BinOp (.Constant (.str ".") j p1) .Mult (.Call (.Name "len" p2) [.Name "line" p3] [] p4) p5) (tLit (C1 u d a xs qs) u d (.str (Txt.mul ⟨#[46]⟩ (qs.length : Int)))) := fun {p1 p2 p3 p4 p5 j} =>
      pe_imp (pe_op op_mulDot pe_str (pe_callB call_len_seq (by rfl) B.len PySem.boot_len (pa_cons (pv 1) pa_nil))) fun σ H' Q' ⟨c, q⟩ => ⟨_, c.2.1, a, xs, rfl, .inr (SqT.of c.2.2.1), (xs.length : Int), rfl, rfl, by omega, by omega, by rw [hlx]; exact q _ H' (Same.refl _) (.str _)⟩
    have repL : ∀ {p1 p2 p3 p4 p5 p6 j}, PE (cxOf CX0 P w K mg base ["urn", "line", "way", "at", "odd"] "_law_odd_side" (defScope sOdd) f cdv A outer s H E).nox (.BinOp (.List [.Constant .none j p1] p6) .Mult (.Call (.Name "len" p2) [.Name "line" p3] [] p4) p5) (tLit (C1 u d a xs qs) u d (.list (List.replicate qs.length .none))) := fun {p1 p2 p3 p4 p5 p6 j} =>
      pe_imp (pe_op op_rep (pe_lst (pa_cons pe_non pa_nil)) (pe_callB call_len_seq (by rfl) B.len PySem.boot_len (pa_cons (pv 1) pa_nil))) fun σ H' Q' ⟨c, q⟩ => ⟨(by show 1 ≤ sizeLine; decide), fun l hl => by
        have S1 : Same H' (upd H' l (.lst [V.non])) := Same.fresh (Same.refl _) hl
        refine ⟨_, c.2.1, a, xs, rfl, .inr (SqT.of (S1 _ _ c.2.2.1)), l, (xs.length : Int), _, rfl, rfl, upd_same, by omega, by omega, (by show 1 * xs.length ≤ sizeLine; exact Nat.le_of_lt (small6 (by omega))), fun p hp => ?_⟩
        have S2 := Same.fresh (o := .lst (List.replicate ((xs.length : Int)).toNat [V.non]).flatten) S1 hp
        have c2 := L.go _ _ _ S1 c
        refine q _ _ S2 (.lst (ne_fresh c2.1.1 hp) (ne_fresh c2.1.2 hp) upd_same ?_)
        rw [rep_nv, Int.toNat_natCast, hlx]
        have e : ∀ n : Nat, (List.replicate n (none : Option Int)).map nv = List.replicate n V.non := fun n => by simp [nv]
        rw [e]
        exact DXs.rep .non _⟩
    refine ⟨_, pss_cons (ps_par (i := 2) (j := 3) rfl scOdd.nd rfl rfl (by decide) rfl rfl (pa_cons (pe_call G1 hr1 rfl m1 k1 b1 .nil pass0 (pa_cons (pv 0) (pa_cons pe_int pa_nil))) (pa_cons (pe_call G1 hr1 rfl m1 k1 b1 .nil pass0 (pa_cons (pv 0) (pa_cons (pe_callB call_len_seq (by rfl) B.len PySem.boot_len (pa_cons (pv 1) pa_nil)) pa_nil))) pa_nil)) (by rfl))
      (pss_cons (ps_if (pt_cmpR op_eq (pv 2) pe_int (nomark _)) (pss_one (ps_ret (pe_callTy call_list_of (by rfl) B.list_ (by decide +kernel) (pa_cons (pv 1) pa_nil)))) pss_nil)
      (pss_cons (ps_if (pt_cmpR op_eq (pv 2) pe_int (nomark _)) (pss_one (ps_ret (pe_call G2 hr rfl m2 k2 b2 .nil pass0 (pa_cons (pv 0) (pa_cons (pe_lst (show PA _ _ (tLits (C1 u d a xs qs) u d (od1 qs)) from (lits_cons L (lit_cat L lv (lit_tup L (lits_cons L lit_non lits_nil) (by decide)) (by simp; omega)) (lits_cons L (lit_slice L (l := some 1) (m := none) lv (po_some pe_int) po_none (fun σ H Q _ h => ⟨_, rfl, h⟩) (fun σ H Q _ h => h) (cut := qs.drop 1) (fun dx => cut_hiX (j := 0) hq0 dx) (fun w => whole_hi (j := 0) w)) (lits_cons L (lit_cat L lv (lit_tup L (lits_cons L lit_int lits_nil) (by decide)) (by simp; omega)) (lits_cons L (lit_slice L (l := none) (m := some (-1)) lv po_none (po_some (pe_un un_neg pe_int)) (fun σ H Q _ h => h) (fun σ H Q _ h => ⟨_, rfl, _, rfl, h⟩) (cut := qs.take (qs.length - 1)) (fun dx => cut_lastX dx) (fun w => whole_last hq0 w)) (lits_cons L (lit_cat L lv lv (by omega)) (lits_cons L (lit_tup L lits_nil (by decide)) lits_nil)))))))) pa_nil))))) pss_nil)
      (pss_cons (ps_if (pt_cmpR op_eq (pv 2) pe_int (nomark _)) (pss_one (ps_ret (pe_call G2 hr rfl m2 k2 b2 .nil pass0 (pa_cons (pv 0) (pa_cons (pe_lst (show PA _ _ (tLits (C1 u d a xs qs) u d (od2 qs)) from (lits_cons L lit_non (lits_cons L lit_int (lits_cons L lit_bl (lits_cons L lit_str (lits_cons L dotL (lits_cons L (lit_dnew L) (lits_cons L (lit_tup L (lits_cons L lv lits_nil) (Nat.le_of_ble_eq_true rfl)) (lits_cons L (lit_d0 L) (lits_cons L repL lits_nil))))))))))) pa_nil))))) pss_nil)
      (pss_cons (ps_set (i := 4) scOdd.nd rfl (Or.inl rfl) (pe_lst (show PA _ _ (tLits (C1 u d a xs qs) u d od3) from (lits_cons L lit_bl (lits_cons L lit_bl (lits_cons L lit_str (lits_cons L lit_str (lits_cons L lit_str (lits_cons L (lit_tup L (lits_cons L lit_non lits_nil) (by decide)) (lits_cons L (lit_lst L (lits_cons L lit_int lits_nil) (by decide)) (lits_cons L (lit_dnew L) (lits_cons L (lit_tup L lits_nil (by decide)) (lits_cons L (lit_num2 (pe_op op_add (pe_op op_powW pe_int pe_int) pe_int) (fun σ H Q h => ⟨_, _, rfl, rfl, ⟨by decide, by decide +kernel⟩, ⟨_, _, rfl, rfl, h⟩⟩)) (lits_cons L (lit_num2 (pe_op op_sub (pe_un un_neg (pe_op op_powW pe_int pe_int)) pe_int) (fun σ H Q h => ⟨_, _, rfl, rfl, ⟨by decide, by decide +kernel⟩, ⟨_, rfl, ⟨_, _, rfl, rfl, h⟩⟩⟩)) (lits_cons L (lit_num2 (pe_op op_powW (pe_op op_powW pe_int pe_int) pe_int) (fun σ H Q h => ⟨_, _, rfl, rfl, ⟨by decide, by decide +kernel⟩, ⟨_, _, rfl, rfl, ⟨by decide, by decide +kernel⟩, h⟩⟩)) (lits_cons L (lit_lst L lits_nil (by decide)) (lits_cons L (lit_tup L (lits_cons L lit_str lits_nil) (by decide)) lits_nil)))))))))))))))))
      (pss_one (ps_ret (pe_op op_catA (pe_op op_catA (pe_slice sl_tupA (pv 1) po_none (po_some (pv 3))) (pe_tup (pa_cons (pe_call G2 hr rfl m2 k2 b2 .nil pass0 (pa_cons (pv 0) (pa_cons (pv 4) pa_nil))) pa_nil)))
        (pe_slice sl_tupA (pv 1) (po_some (pe_op op_add (pv 3) pe_int)) po_none)))))))), ?_⟩
    refine ⟨_, rfl, u, d, m, 7, rfl, by decide, by decide, U, fun H1 r r0 r1 U1 O1 => ?_⟩
    have ha1 := O1 _ _ nau nad ha
    refine ⟨_, rfl, _, rfl, a, xs, rfl, .inr (SqT.of ha1), u, d, m, _, rfl, by omega, by omega, U1, fun H2 j j0 j1 U2 O2 => ?_⟩
    have O12 := O1.trans O2
    have ha2 := O12 _ _ nau nad ha
    have dx2 := dx.off O12
    obtain ⟨j, rfl⟩ := Int.eq_ofNat_of_zero_le j0
    have hj : j < qs.length := by omega
    refine ⟨_, _, rfl, ?_⟩
    refine ⟨_, rfl, rfl, _, rfl, ite2 (fun _ => ?_) (fun _ => ?_)⟩
    · refine ⟨_, rfl, a, xs, rfl, .inr (SqT.of ha2), fun l hl => ?_⟩
      obtain ⟨nu2, nd2⟩ := U2.ne0
      refine k _ _ (.list qs) (.lst (ne_fresh nu2 hl) (ne_fresh nd2 hl) upd_same (dx2.same (Same.fresh (Same.refl _) hl))) ?_ (U2.fresh hl) (Off.fresh O12 hl)
      obtain ⟨s1, s2, s3⟩ := sb_items hs
      exact ⟨by simpa only [PyData.showable] using s1, by simp only [sz]; omega, by simp only [PyData.depth]; omega⟩
    refine ⟨_, rfl, rfl, _, rfl, ite2 (fun _ => ?_) (fun _ => ?_)⟩
    · exact one_go L ⟨U2.ne0, rfl, ha2, dx2⟩ rfl U2 (by show 0 < 6; decide) (by show 6 < 1000; decide) fun H' v q hq dq U' O => k H' v q dq (od1_sb hs hq) U' (O12.trans O)
    refine ⟨_, rfl, rfl, _, rfl, ite2 (fun _ => ?_) (fun _ => ?_)⟩
    · exact one_go L ⟨U2.ne0, rfl, ha2, dx2⟩ rfl U2 (by show 0 < 9; decide) (by show 9 < 1000; decide) fun H' v q hq dq U' O => k H' v q dq (od2_sb hs hq) U' (O12.trans O)
    refine ⟨⟨U2.ne0, rfl, ha2, dx2⟩, fun vs H3 S3 d3 => ⟨(by rw [d3.length]; decide), fun l hl => ?_⟩⟩
    have S3' : Same H2 (upd H3 l (.lst vs)) := Same.fresh S3 hl
    have el : upd H3 l (.lst vs) l = some (.lst vs) := upd_same
    have d3' := d3.same (Same.fresh (o := .lst vs) (Same.refl _) hl)
    have nul := ne_fresh (same_ne S3 U2.ne0.1) hl
    have ndl := ne_fresh (same_ne S3 U2.ne0.2) hl
    generalize upd H3 l (.lst vs) = H4 at S3' el d3'
    have U4 := U2.same S3'
    have O4 := O12.trans (Same.off S3')
    have ha4 := S3' _ _ ha2
    have dx4 := dx2.same S3'
    refine ⟨_, rfl, _, rfl, _, rfl, sliceX U4.ne0.1 U4.ne0.2 (.tup nau nad ha4 dx4) (cut_loX (by omega)) whole_lo fun v5 H5 S5 d5 => ?_⟩
    have U5 := U4.same S5
    have O5 := O4.trans (Same.off S5)
    refine ⟨_, rfl, _, rfl, u, d, m, l, vs, rfl, S5 _ _ el, nul, ndl, (by rw [d3.length]; decide), (by rw [d3.length]; decide), U5, fun H6 v6 hv6 U6 O6 => ?_⟩
    obtain ⟨q6, hq6, dq6⟩ := DXs.mem ((d3'.same S5).off O6) hv6
    have d56 := d5.off O6
    have O6' := O5.trans O6
    refine ⟨(by show 1 ≤ sizeLine; decide), fun p hp => ?_⟩
    have S7 : Same H6 (upd H6 p (.tup [v6])) := Same.fresh (Same.refl _) hp
    have dq7 : DX u d (upd H6 p (.tup [v6])) (.ref p) (.tuple [q6]) := .tup (ne_fresh U6.ne0.1 hp) (ne_fresh U6.ne0.2 hp) upd_same (.cons (dq6.same S7) .nil)
    generalize upd H6 p (.tup [v6]) = H7 at S7 dq7
    have U7 := U6.same S7
    have O7 := O6'.trans (Same.off S7)
    refine catX U7.ne0.1 U7.ne0.2 (d56.same S7) dq7 (by rw [List.length_take]; show _ + 1 ≤ _; omega) fun v8 H8 S8 d8 => ?_
    have U8 := U7.same S8
    have O8 := O7.trans (Same.off S8)
    have ha8 := O8 _ _ nau nad ha
    refine ⟨_, rfl, _, rfl, _, _, rfl, rfl, _, rfl, ?_⟩
    simp only [tNoPart]
    refine sliceX U8.ne0.1 U8.ne0.2 (.tup nau nad ha8 (dx.off O8)) (cut_hiX hj) whole_hi fun v9 H9 S9 d9 => ?_
    have U9 := U8.same S9
    refine catX U9.ne0.1 U9.ne0.2 (d8.same S9) d9 (by rw [List.length_append, List.length_take, List.length_drop]; show _ + 1 + _ ≤ _; omega) fun v10 H10 S10 d10 => ?_
    exact k H10 v10 _ d10 (od4_sb hs hq6) (U9.same S10) (O8.trans (Same.off (S9.trans S10)))
end
end K2


namespace K2
open PySem L2 RW RZ
theorem ps_imp {X : Cx} {st : Stmt} {t S : TS} (h : PS X st t) (hs : ∀ D σ H, S D σ H → t D σ H) : PS X st S := ⟨fun pins s σ H D I q => h.run pins s σ H D I (hs D σ H q)⟩
theorem Sb.mono {b t b2 t2 : Nat} {q : PyData} (h : Sb b t q) (hb : b ≤ b2) (ht : t ≤ t2) : Sb b2 t2 q := ⟨h.sh, Nat.le_trans h.sz hb, Nat.le_trans h.dp ht⟩
theorem sb_all {b t n : Nat} {qs : List PyData} (h : ∀ q ∈ qs, Sb b t q) (hl : qs.length ≤ n) : PyData.showableAll qs = true ∧ szs qs ≤ n * (b + 6) ∧ PyData.depthAll qs ≤ t := by
  refine ⟨showA_of fun q hq => (h q hq).sh, ?_, depA_of fun q hq => (h q hq).dp⟩
  have : ∀ l : List PyData, (∀ q ∈ l, sz q ≤ b) → szs l ≤ l.length * (b + 6) := fun l => by
    induction l with
    | nil => intro _; simp [szs]
    | cons x l ih =>
      intro hh
      have h1 := hh x (List.mem_cons_self ..)
      have h2 := ih fun q hq => hh q (List.mem_cons_of_mem _ hq)
      simp only [szs, List.length_cons, Nat.succ_mul]
      omega
  exact Nat.le_trans (this qs fun q hq => (h q hq).sz) (Nat.mul_le_mul_right _ hl)
def sp1 (qs ms : List PyData) : List PyData := [.tuple ms, .tuple ms, .list qs, .none, .str "", .str "lines", .dict [], .int 0, .bool false, .tuple (ms ++ ms), .list [], .tuple (ms.take 6)]
def sp2 (wide : Int) : List PyData := [.int 0, .int 5, .int (-((1 : Int))), .bool true, .bool false, .none, .str "1", .tuple [.int 1], .int (wide + 1), .int (wide - 1), .int (((10 : Int)) ^ ((30 : Int)).toNat), .list [.int wide], .int 7]
def sp3 (qw ql : PyData) : List PyData := [.list [qw, ql], .tuple [qw], .tuple [qw, ql, ql], .tuple [ql], .dict [(.int 0, qw), (.int 1, ql)], .tuple [ql, qw]]
theorem sp1_sb {qs ms : List PyData} (hq : ∀ q ∈ qs, Sb 41120 3 q) (hl : qs.length ≤ 6) (hm : ∀ q ∈ ms, Sb 41120 3 q) (hml : ms.length ≤ 7) {q : PyData} (h : q ∈ sp1 qs ms) : Sb 576000 5 q := by
  obtain ⟨a1, a2, a3⟩ := sb_all hq hl
  obtain ⟨b1, b2, b3⟩ := sb_all hm hml
  have tms : Sb 576000 5 (.tuple ms) := sb_tup b1 (by omega) (by omega)
  simp only [sp1, List.mem_cons, List.not_mem_nil, or_false] at h
  rcases h with rfl | rfl | rfl | rfl | rfl | rfl | rfl | rfl | rfl | rfl | rfl | rfl
  · exact tms
  · exact tms
  · exact ⟨by simpa only [PyData.showable] using a1, by simp only [sz]; omega, by simp only [PyData.depth]; omega⟩
  · exact ⟨rfl, by simp only [sz]; omega, by simp only [PyData.depth]; omega⟩
  · exact ⟨rfl, Nat.le_trans (show sz (.str "") ≤ 3000 by decide +kernel) (by omega), by simp only [PyData.depth]; omega⟩
  · exact ⟨rfl, Nat.le_trans (show sz (.str "lines") ≤ 3000 by decide +kernel) (by omega), by simp only [PyData.depth]; omega⟩
  · exact ⟨rfl, by simp only [sz, szk]; omega, by simp only [PyData.depth, PyData.depthKv]; omega⟩
  · exact ⟨rfl, by simp only [sz]; omega, by simp only [PyData.depth]; omega⟩
  · exact ⟨rfl, by simp only [sz]; omega, by simp only [PyData.depth]; omega⟩
  · exact sb_tup (by rw [showA_append, b1]; rfl) (by rw [szs_append]; omega) (by have := depA_append ms ms b3 b3; omega)
  · exact ⟨rfl, by simp only [sz, szs]; omega, by simp only [PyData.depth, PyData.depthAll]; omega⟩
  · exact sb_tup (showA_take _ b1) (by have := szs_take ms 6; omega) (by have := depA_take (qs := ms) 6; omega)
theorem sp2_sb {wide : Int} (w1 : 1 ≤ wide) (w4 : wide ≤ 4) {q : PyData} (h : q ∈ sp2 wide) : Sb 2100 1 q := by
  have hw : wide = 1 ∨ wide = 2 ∨ wide = 3 ∨ wide = 4 := by omega
  have ok : (sp2 wide).all (fun q => q.showable && decide (sz q ≤ 2100) && decide (q.depth ≤ 1)) = true := by
    rcases hw with rfl | rfl | rfl | rfl <;> decide +kernel
  have := List.all_eq_true.mp ok q h
  simp only [Bool.and_eq_true, decide_eq_true_eq] at this
  exact ⟨this.1.1, this.1.2, this.2⟩
theorem sb_l2 {qw ql : PyData} (hw : Sb 2100 1 qw) (hl : Sb 576000 5 ql) : Sm (.tuple [qw, ql]) := by
  obtain ⟨a1, a2, a3⟩ := hw
  obtain ⟨b1, b2, b3⟩ := hl
  exact ⟨by simp only [PyData.showable, PyData.showableAll, a1, b1]; rfl, by simp only [sz, szs]; omega, by simp only [PyData.depth, PyData.depthAll]; omega⟩
theorem sp3_sm {qw ql : PyData} (hw : Sb 2100 1 qw) (hl : Sb 576000 5 ql) {q : PyData} (h : q ∈ sp3 qw ql) : Sm q := by
  obtain ⟨a1, a2, a3⟩ := hw
  obtain ⟨b1, b2, b3⟩ := hl
  simp only [sp3, List.mem_cons, List.not_mem_nil, or_false] at h
  rcases h with rfl | rfl | rfl | rfl | rfl | rfl
  · exact ⟨by simp only [PyData.showable, PyData.showableAll, a1, b1]; rfl, by simp only [sz, szs]; omega, by simp only [PyData.depth, PyData.depthAll]; omega⟩
  · exact ⟨by simp only [PyData.showable, PyData.showableAll, a1, b1]; rfl, by simp only [sz, szs]; omega, by simp only [PyData.depth, PyData.depthAll]; omega⟩
  · exact ⟨by simp only [PyData.showable, PyData.showableAll, a1, b1]; rfl, by simp only [sz, szs]; omega, by simp only [PyData.depth, PyData.depthAll]; omega⟩
  · exact ⟨by simp only [PyData.showable, PyData.showableAll, a1, b1]; rfl, by simp only [sz, szs]; omega, by simp only [PyData.depth, PyData.depthAll]; omega⟩
  · exact ⟨by simp only [PyData.showable, PyData.showableKv, a1, b1]; rfl, by simp only [sz, szk]; omega, by simp only [PyData.depth, PyData.depthKv]; omega⟩
  · exact ⟨by simp only [PyData.showable, PyData.showableAll, a1, b1]; rfl, by simp only [sz, szs]; omega, by simp only [PyData.depth, PyData.depthAll]; omega⟩
end K2

namespace K2
open PySem L2 RW RZ
/-- a statement by a state's own derivation -/
theorem ps_ex {X : Cx} {st : Stmt} {S : TS} (h : ∀ D σ H, S D σ H → ∃ t, PS X st t ∧ t D σ H) : PS X st S := ⟨fun pins s σ H D I q => let ⟨t, ht, k⟩ := h D σ H q; ht.run pins s σ H D I k⟩
def Stg (u d m : Addr) (H0 : Hp) (PW PL : PyData → Prop) : L2.St → Hp → Prop := fun σ H => UrnAt H u d m ∧ Off u d H0 H ∧ ∃ w l qw ql o3 o4 o5 o6, σ = [some (.ref u), some w, some l, o3, o4, o5, o6] ∧ DX u d H w qw ∧ DX u d H l ql ∧ PW qw ∧ PL ql
def LnB (b t : Nat) (q : PyData) : Prop := ∃ qs, q = .tuple qs ∧ qs.length ≤ 6 ∧ ∀ x ∈ qs, Sb b t x
theorem LnB.mono {b t b2 t2 : Nat} {q : PyData} (h : LnB b t q) (hb : b ≤ b2) (ht : t ≤ t2) : LnB b2 t2 q := by
  obtain ⟨qs, h1, h2, h3⟩ := h
  exact ⟨qs, h1, h2, fun x hx => (h3 x hx).mono hb ht⟩
def tGo (P R : L2.St → Hp → Prop) : TS := fun D σ H => P σ H ∧ ∀ σ' H', R σ' H' → D.nx σ' H'
theorem DXs.atq {u d : Addr} {H : Hp} : ∀ {vs : List V} {qs : List PyData} {i : Nat} {q : PyData}, DXs u d H vs qs → qs[i]? = some q → ∃ v, vs[i]? = some v ∧ DX u d H v q
  | _, _, i, _, .nil, e => by simp at e
  | _, _, 0, _, .cons h _, e => by
    simp at e
    subst e
    exact ⟨_, rfl, h⟩
  | _, _, i + 1, _, .cons _ h, e => by
    obtain ⟨q, h1, h2⟩ := DXs.atq (i := i) h (by simpa using e)
    exact ⟨q, by simpa using h1, h2⟩
/-- (None,) * n -/
theorem pe_nones {X : Cx} {e : Expr} {tw : TE} {j p1 k p2 p3} (ht : PE X e tw) : PE X (.BinOp (.Tuple [.Constant .none j p1] k p2) .Mult e p3) (fun σ H Q => ∀ p, H p = none → tw σ (upd H p (.tup [V.non])) fun x H1 => ∃ n : Int, x = .int n ∧ 1 ≤ n ∧ n ≤ 1000 ∧ H1 p = some (.tup [V.non]) ∧
    ∀ c H2, Same H1 H2 → H2 c = some (.tup (List.replicate n.toNat V.non)) → Q (.ref c) H2) := by
  have key : PE X e (fun σ H Q => ∃ R : VK, tw σ H R ∧ ∀ x H1, R x H1 → Q x H1) := ⟨fun pins s σ H Q I ⟨R, h1, h2⟩ => thn (ht.run pins s σ H R I h1) fun v s1 ⟨x, H1, I1, r1, q1⟩ => ⟨x, H1, I1, r1, h2 _ _ q1⟩⟩
  refine pe_imp (pe_op op_repA (pe_tup (pa_cons pe_non pa_nil)) key) fun σ H Q h => ⟨(by show 1 ≤ sizeLine; decide), fun p hp => ⟨_, h p hp, ?_⟩⟩
  rintro x H1 ⟨n, rfl, n1, n2, e, q⟩
  refine ⟨p, n, _, rfl, rfl, SqT.of e, by simp, n1, n2, by decide, fun e1 => ?_, fun e1 c hc => ?_⟩
  · refine q p H1 (Same.refl _) ?_
    rw [e1]
    exact e
  · refine q c _ (Same.fresh (Same.refl _) hc) ?_
    rw [upd_same]
    congr 2
    generalize n.toNat = m
    induction m with
    | zero => rfl
    | succ m ih => rw [List.replicate_succ, List.flatten_cons, ih, List.replicate_succ]; rfl
def spSpoilt : Sp := fun vs H Q _ => ∃ (u d m a : Addr) (wide : Int) (xs : List V) (qs : List PyData), vs = [.ref u, .int wide, .ref a] ∧ 1 ≤ wide ∧ wide ≤ 4 ∧ UrnAt H u d m ∧ H a = some (.tup xs) ∧ DXs u d H xs qs ∧ qs.length ≤ 6 ∧ (∀ q ∈ qs, Sb 8030 1 q) ∧
  ∀ H' v q, DX u d H' v q → Sm q → UrnAt H' u d m → Off u d H H' → Q v H'
theorem lnb_put {b t j : Nat} {qs : List PyData} {q : PyData} (hj : j < qs.length) (h : LnB b t (.tuple qs)) (hq : Sb (2 * b + 3000) (t + 1) q) : LnB (2 * b + 3000) (t + 1) (.tuple (qs.take j ++ [q] ++ qs.drop (j + 1))) := by
  obtain ⟨qs', e, h2, h3⟩ := h
  cases e
  refine ⟨_, rfl, ?_, fun x hx => ?_⟩
  · rw [List.length_append, List.length_append, List.length_take, List.length_drop]
    show min j qs.length + 1 + (qs.length - (j + 1)) ≤ 6
    omega
  · rcases List.mem_append.mp hx with hx | hx
    · rcases List.mem_append.mp hx with hx | hx
      · exact (h3 x (List.mem_of_mem_take hx)).mono (by omega) (by omega)
      · rw [List.mem_singleton.mp hx]; exact hq
    · exact (h3 x (List.mem_of_mem_drop hx)).mono (by omega) (by omega)
def bB : Nat → Nat
  | 0 => 8030
  | n + 1 => 2 * bB n + 3000
section
variable {P : Program} {w : World} {K : PySem.W.Frag} {mg : Str → Option Value} {base : Heap}
abbrev NSp : List Str := ["urn", "wide", "lines", "turn", "at", "odd", "more"]
theorem scSpoilt : FnScope NSp ["urn", "wide", "lines"] (defScope sSpoilt) := ⟨rfl, rfl, rfl, by decide +kernel, rfl, by decide +kernel, by decide +kernel⟩
theorem ok_spoilt {f : Addr} {fd : FuncData} (F : Fun K "_law_spoilt" "_law_spoilt" sSpoilt f fd) (B : Bl mg) (C1 : Cal P w K mg base "_law_take" 1 ["urn", "size"] spTake) (C2 : Cal P w K mg base "_law_one" 2 ["urn", "items"] spOne) (C3 : Cal P w K mg base "_law_odd_side" 3 ["urn", "line"] spOdd) :
    FnOk P w K mg base CX0 4 f fd ["urn", "wide", "lines"] spSpoilt := by
  obtain ⟨f1, fd1, G1, m1, k1, b1⟩ := C1.ex
  obtain ⟨f2, fd2, G2, m2, k2, b2⟩ := C2.ex
  obtain ⟨f3, fd3, G3, m3, k3, b3⟩ := C3.ex
  refine F.ok scSpoilt (fun vs H Q E h => ?_) (fun cdv A outer s H vs Q E hr h => ?_)
  · obtain ⟨u, d, m, a, wide, xs, qs, rfl, _⟩ := h
    rfl
  · obtain ⟨u, d, m, a, wide, xs, qs, rfl, w1, w4, U, ha, dx, hq6, hqs, k⟩ := h
    have hr1 : Room 1 _ := hr.mono (by decide)
    have hr2 : Room 2 _ := hr.mono (by decide)
    have hu : (A.deeper (PyProof.Rows.envOfC "_law_spoilt" (defScope sSpoilt) s.heap.objs.size f cdv)).units + 64 < cLine := by have := hr.un; omega
    obtain ⟨nau, nad⟩ := tup_ne U ha
    refine ⟨_, pss_cons (ps_imp (S := tGo (Stg u d m H (fun q => q = .int wide) (LnB 8030 1)) (Stg u d m H (fun q => q = .int wide) (LnB 41120 3)))
        (ps_for PassesOwn.never rfl (pi_range1 rfl B.range (pa_cons (pe_call G1 hr1 rfl m1 k1 b1 .nil pass0 (pa_cons (pv 0) (pa_cons pe_int pa_nil))) pa_nil)) (pg_name (i := 3) scSpoilt.nd rfl (Or.inl rfl))
          (pss_one (ps_if (pt_cmpR (op_neT0 hu) (pv 2) (pe_tup pa_nil) (nomark _))
            (pss_cons (ps_set (i := 4) scSpoilt.nd rfl (Or.inl rfl) (pe_call G1 hr1 rfl m1 k1 b1 .nil pass0 (pa_cons (pv 0) (pa_cons (pe_callB call_len_seq (by rfl) B.len PySem.boot_len (pa_cons (pv 2) pa_nil)) pa_nil))))
            (pss_cons (ps_set (i := 5) scSpoilt.nd rfl (Or.inl rfl) (pe_imp (S := fun σ H1 Q1 => ∃ (b t j : Nat) (a' : Addr) (xs' : List V) (qs' : List PyData) (q' : PyData), b ≤ 19060 ∧ σ[0]? = some (some (.ref u)) ∧ σ[2]? = some (some (.ref a')) ∧ σ[4]? = some (some (.int (j : Int))) ∧ UrnAt H1 u d m ∧ H1 a' = some (.tup xs') ∧ DXs u d H1 xs' qs' ∧ qs'[j]? = some q' ∧ Sb b t q' ∧
                ∀ H2 v2 q2, UrnAt H2 u d m → Off u d H1 H2 → DX u d H2 v2 q2 → Sb (2 * b + 3000) (t + 1) q2 → Q1 v2 H2)
              (pe_ifExp (PW.pt (pw_and (pt_val (pe_callB call_isTup (by rfl) B.isinstance (by decide +kernel) (pa_cons (pe_ix ix_tup (pv 2) (pv 4) (fun _ _ => rfl)) (pa_cons (pe_ty "tuple" (by rfl) B.tuple (by decide +kernel)) pa_nil)))) (pw_and1 (pt_cmpR (op_neT0 hu) (pe_ix ix_tup (pv 2) (pv 4) (fun _ _ => rfl)) (pe_tup pa_nil) (nomark _)))))
                (pe_call G3 hr rfl m3 k3 b3 .nil pass0 (pa_cons (pv 0) (pa_cons (pe_ix ix_tup (pv 2) (pv 4) (fun _ _ => rfl)) pa_nil))) (pe_ix ix_tup (pv 2) (pv 4) (fun _ _ => rfl))) ?odd))
            (pss_one (ps_set (i := 2) scSpoilt.nd rfl (Or.inl rfl) (pe_op op_catA (pe_op op_catA (pe_slice sl_tupA (pv 2) po_none (po_some (pv 4))) (pe_tup (pa_cons (pv 5) pa_nil))) (pe_slice sl_tupA (pv 2) (po_some (pe_op op_add (pv 4) pe_int)) po_none)))))) pss_nil))) ?s1)
      (pss_cons (ps_ex (S := tGo (Stg u d m H (fun q => q = .int wide) (LnB 41120 3)) (Stg u d m H (fun q => q = .int wide) (Sb 576000 5))) ?s2)
      (pss_cons (ps_ex (S := tGo (Stg u d m H (fun q => q = .int wide) (Sb 576000 5)) (Stg u d m H (Sb 2100 1) (Sb 576000 5))) ?s3)
      (pss_cons (ps_if (pt_cmpR op_gt (pe_call G1 hr1 rfl m1 k1 b1 .nil pass0 (pa_cons (pv 0) (pa_cons pe_int pa_nil))) pe_int (nomark _)) (pss_one (ps_ret (pe_tup (pa_cons (pv 1) (pa_cons (pv 2) pa_nil))))) pss_nil)
      (pss_one (ps_ex (S := fun D σ H1 => Stg u d m H (Sb 2100 1) (Sb 576000 5) σ H1 ∧ ∀ H' v q, DX u d H' v q → Sm q → UrnAt H' u d m → Off u d H H' → D.rt v H') ?s5))))), ?_⟩
    case odd =>
      rintro σ H1 Q1 ⟨b, t, j, a', xs', qs', q', hb, s0, s2, s4, U1, ha1, dx1, hq, hs, k1⟩
      obtain ⟨v, hv, dv⟩ := DXs.atq dx1 hq
      have els : ∀ H2, Same H1 H2 → tOp (rIxT K) (tVar 2) (tVar 4) σ H2 Q1 := fun H2 S2 => ⟨_, s2, _, s4, a', _, _, v, rfl, rfl, SqT.of (S2 _ _ ha1), atI_nat hv, k1 H2 v q' (U1.same S2) (Same.off S2) (dv.same S2) (hs.mono (by omega) (by omega))⟩
      refine ⟨_, s2, _, s4, a', _, _, v, rfl, rfl, SqT.of ha1, atI_nat hv, v, u, d, q', rfl, dv, _, rfl, ?_⟩
      cases dv with
      | non => exact iteF (els H1 (Same.refl _))
      | bl _ => exact iteF (els H1 (Same.refl _))
      | int _ => exact iteF (els H1 (Same.refl _))
      | str _ => exact iteF (els H1 (Same.refl _))
      | lst _ _ _ _ => exact iteF (els H1 (Same.refl _))
      | dic _ _ _ _ => exact iteF (els H1 (Same.refl _))
      | @tup a2 ys qs2 c1 c2 c3 c4 =>
        refine iteT ⟨_, s2, _, s4, a', _, _, _, rfl, rfl, SqT.of ha1, atI_nat hv, (by show 0 ≤ sizeLine; decide), fun p hp => ?_⟩
        have S2 : Same H1 (upd H1 p (.tup [])) := Same.fresh (Same.refl _) hp
        refine ⟨a2, p, ys, rfl, rfl, SqT.of (S2 _ _ c3), SqT.of upd_same, _, rfl, ?_⟩
        cases hy : ys with
        | nil => exact iteF (els _ S2)
        | cons y0 ys0 =>
          subst hy
          have hl := c4.length
          obtain ⟨z1, z2, z3⟩ := sb_items hs
          have z4 := szs_len qs2
          refine iteT ⟨_, s0, _, s2, _, s4, a', _, _, _, rfl, rfl, SqT.of (S2 _ _ ha1), atI_nat hv, u, d, m, a2, _, qs2, b, t, rfl, U1.same S2, S2 _ _ c3, c4.same S2, by rw [← hl]; simp, by omega, hs, fun H3 v3 q3 d3 e3 U3 O3 => ?_⟩
          exact k1 H3 v3 q3 U3 ((Same.off S2).trans O3) d3 e3
    case s1 =>
      rintro D σ H1 ⟨⟨U1, O1, w, l, qw, ql, o3, o4, o5, o6, rfl, dw, dl, rfl, hL⟩, kD⟩
      cases dw
      refine ⟨_, rfl, u, d, m, 3, rfl, by decide, by decide, U1, fun H2 r r0 r1 U2 O2 => ⟨r, rfl, by omega, by omega, ?_⟩⟩
      refine for_range (lo := 0) (n := r.toNat) (fun i σ' H' => Stg u d m H (fun q => q = .int wide) (LnB (bB i) (1 + i)) σ' H') ⟨U2, O1.trans O2, _, _, _, _, _, _, _, _, rfl, .int wide, dl.off O2, rfl, hL⟩ (fun i σ' H' hi I => ?_) (fun σ' H' I => ?_)
      · obtain ⟨U3, O3, w', l', qw', ql', o3', o4', o5', o6', rfl, dw', dl', rfl, qs', rfl, hl', hall'⟩ := I
        cases dw'
        cases dl' with
        | @tup a' xs' _ c1 c2 c3 c4 =>
        have hln := c4.length
        refine ⟨_, rfl, (by show 0 ≤ sizeLine; decide), fun p hp => ?_⟩
        have S4 : Same H' (upd H' p (.tup [])) := Same.fresh (Same.refl _) hp
        have U4 := U3.same S4
        have O4 := O3.trans (Same.off S4)
        have c3' := S4 _ _ c3
        have c4' := c4.same S4
        refine ⟨a', p, xs', rfl, rfl, SqT.of c3', SqT.of upd_same, _, rfl, ?_⟩
        generalize upd H' p (.tup []) = H4 at U4 O4 c3' c4'
        have hbi : bB i ≤ 19060 := by
          have : i = 0 ∨ i = 1 := by omega
          rcases this with rfl | rfl <;> decide
        cases hx : xs' with
        | nil =>
          subst hx
          cases c4'
          refine iteF ?_
          exact ⟨U4, O4, _, _, _, _, _, _, _, _, rfl, .int wide, .tup c1 c2 c3' .nil, rfl, [], rfl, by decide, fun x hx => by cases hx⟩
        | cons x0 xs0 =>
          subst hx
          have hpos : 0 < (x0 :: xs0).length := by simp
          refine iteT ?_
          refine ⟨_, rfl, _, rfl, a', _, rfl, .inr (SqT.of c3'), u, d, m, _, rfl, by omega, by omega, U4, fun H5 j j0 j1 U5 O5 => ?_⟩
          obtain ⟨j, rfl⟩ := Int.eq_ofNat_of_zero_le j0
          have hj : j < qs'.length := by omega
          have c35 := O5 _ _ c1 c2 c3'
          have c45 := c4'.off O5
          have hqj : qs'[j]? = some qs'[j] := List.getElem?_eq_getElem hj
          refine ⟨bB i, 1 + i, j, a', _, qs', qs'[j], hbi, rfl, rfl, rfl, U5, c35, c45, hqj, hall' _ (List.getElem_mem hj), fun H6 v6 q6 U6 O6 d6 s6 => ?_⟩
          have c36 := O6 _ _ c1 c2 c35
          have c46 := c45.off O6
          refine ⟨_, rfl, _, rfl, _, rfl, sliceX U6.ne0.1 U6.ne0.2 (.tup c1 c2 c36 c46) (cut_loX (by omega)) whole_lo fun v7 H7 S7 d7 => ?_⟩
          have U7 := U6.same S7
          refine ⟨_, rfl, (by show 1 ≤ sizeLine; decide), fun p8 hp8 => ?_⟩
          have S8 : Same H7 (upd H7 p8 (.tup [v6])) := Same.fresh (Same.refl _) hp8
          have d8 : DX u d (upd H7 p8 (.tup [v6])) (.ref p8) (.tuple [q6]) := .tup (ne_fresh U7.ne0.1 hp8) (ne_fresh U7.ne0.2 hp8) upd_same (.cons ((d6.same S7).same S8) .nil)
          generalize upd H7 p8 (.tup [v6]) = H8 at S8 d8
          have U8 := U7.same S8
          refine catX U8.ne0.1 U8.ne0.2 (d7.same S8) d8 (by rw [List.length_take]; show _ + 1 ≤ _; omega) fun v9 H9 S9 d9 => ?_
          have U9 := U8.same S9
          have S69 := S7.trans (S8.trans S9)
          refine ⟨_, rfl, _, rfl, _, _, rfl, rfl, _, rfl, ?_⟩
          simp only [tNoPart]
          refine sliceX U9.ne0.1 U9.ne0.2 (.tup c1 c2 (S69 _ _ c36) (c46.same S69)) (cut_hiX hj) whole_hi fun v10 H10 S10 d10 => ?_
          have U10 := U9.same S10
          refine catX U10.ne0.1 U10.ne0.2 (d9.same S10) d10 (by rw [List.length_append, List.length_take, List.length_drop]; show _ + 1 + _ ≤ _; omega) fun v11 H11 S11 d11 => ?_
          exact ⟨U10.same S11, O4.trans (O5.trans (O6.trans (Same.off (S69.trans (S10.trans S11))))), _, _, _, _, _, _, _, _, rfl, .int wide, d11, rfl, lnb_put hj ⟨qs', rfl, hl', hall'⟩ s6⟩
      · obtain ⟨U3, O3, w', l', qw', ql', o3', o4', o5', o6', rfl, dw', dl', rfl, hL'⟩ := I
        refine kD _ _ ⟨U3, O3, _, _, _, _, _, _, _, _, rfl, dw', dl', rfl, hL'.mono ?_ (by omega)⟩
        have : r.toNat = 0 ∨ r.toNat = 1 ∨ r.toNat = 2 := by omega
        rcases this with e | e | e <;> rw [e] <;> decide
    case s2 =>
      rintro D σ H1 ⟨⟨U1, O1, w', l, qw, ql, o3, o4, o5, o6, rfl, dw, dl, rfl, hL⟩, kD⟩
      cases dw
      obtain ⟨qs2, rfl, hl2, hall⟩ := hL
      cases dl with
      | @tup a' xs' _ c1 c2 c3 c4 =>
      obtain ⟨ms, hms⟩ : ∃ ms, ms = (qs2 ++ List.replicate 7 (PyData.tuple (List.replicate wide.toNat .none))).take 7 := ⟨_, rfl⟩
      have hml : ms.length = 7 := by rw [hms, List.length_take, List.length_append, List.length_replicate]; omega
      have hnone : Sb 41120 3 (PyData.tuple (List.replicate wide.toNat .none)) := by
        refine sb_tup (showA_of fun q hq => by rw [(List.mem_replicate.mp hq).2]; rfl) ?_ ?_
        · rw [szs_rep]; simp only [sz]; omega
        · have := depA_of (n := 0) (a := List.replicate wide.toNat PyData.none) fun q hq => by rw [(List.mem_replicate.mp hq).2]; simp [PyData.depth]
          omega
      have hmall : ∀ q ∈ ms, Sb 41120 3 q := fun q hq => by
        rw [hms] at hq
        rcases List.mem_append.mp (List.mem_of_mem_take hq) with h1 | h1
        · exact hall q h1
        · rw [(List.mem_replicate.mp h1).2]; exact hnone
      obtain ⟨CS, hCS⟩ : ∃ CS : CC, CS = fun σ H => (H u ≠ none ∧ H d ≠ none) ∧ (∃ v, σ[6]? = some (some v) ∧ DX u d H v (.tuple ms)) ∧ σ[2]? = some (some (.ref a')) ∧ H a' = some (.tup xs') ∧ DXs u d H xs' qs2 := ⟨_, rfl⟩
      have L2 : LC u d CS := by
        subst hCS
        exact ⟨fun σ H H' S h => ⟨⟨same_ne S h.1.1, same_ne S h.1.2⟩, let ⟨v, e, dv⟩ := h.2.1; ⟨v, e, dv.same S⟩, h.2.2.1, S _ _ h.2.2.2.1, h.2.2.2.2.same S⟩, fun σ H h => h.1.1, fun σ H h => h.1.2⟩
      have lmore : ∀ {p : Pos}, PE (cxOf CX0 P w K mg base NSp "_law_spoilt" (defScope sSpoilt) f cdv A outer s H E).nox (.Name "more" p) (tLit CS u d (.tuple ms)) := fun {p} =>
        pe_imp (pv (pos := p) 6) fun σ H' Q' ⟨c, q⟩ => by
          subst hCS
          obtain ⟨v, e, dv⟩ := c.2.1
          exact ⟨v, e, q v H' (Same.refl _) dv⟩
      have llist : ∀ {p1 p2 p3 : Pos}, PE (cxOf CX0 P w K mg base NSp "_law_spoilt" (defScope sSpoilt) f cdv A outer s H E).nox (.Call (.Name "list" p1) [.Name "lines" p2] [] p3) (tLit CS u d (.list qs2)) := fun {p1 p2 p3} =>
        pe_imp (pe_callTy call_list_of (by rfl) B.list_ (by decide +kernel) (pa_cons (pv 2) pa_nil)) fun σ H' Q' ⟨c, q⟩ => by
          have c' := c
          subst hCS
          exact ⟨_, c'.2.2.1, a', xs', rfl, .inr (SqT.of c'.2.2.2.1), fun l hl => q _ _ (Same.fresh (Same.refl _) hl) (.lst (ne_fresh c'.1.1 hl) (ne_fresh c'.1.2 hl) upd_same (c'.2.2.2.2.same (Same.fresh (Same.refl _) hl)))⟩
      refine ⟨_, ps_if (pt_cmpR op_eq (pe_call G1 hr1 rfl m1 k1 b1 .nil pass0 (pa_cons (pv 0) (pa_cons pe_int pa_nil))) pe_int (nomark _))
        (pss_cons (ps_set (i := 6) scSpoilt.nd rfl (Or.inl rfl) (pe_slice sl_tupA (pe_op op_catA (pv 2) (pe_op op_repT (pe_tup (pa_cons (pe_nones (pv 1)) pa_nil)) pe_int)) po_none (po_some pe_int)))
        (pss_one (ps_set (i := 2) scSpoilt.nd rfl (Or.inl rfl) (pe_call G2 hr2 rfl m2 k2 b2 .nil pass0 (pa_cons (pv 0) (pa_cons (pe_lst (show PA _ _ (tLits CS u d (sp1 qs2 ms)) from (lits_cons L2 lmore (lits_cons L2 lmore (lits_cons L2 llist (lits_cons L2 lit_non (lits_cons L2 lit_str (lits_cons L2 lit_str (lits_cons L2 (lit_dnew L2) (lits_cons L2 lit_int (lits_cons L2 lit_bl (lits_cons L2 (lit_cat L2 lmore lmore (by omega)) (lits_cons L2 (lit_lst L2 lits_nil (by decide)) (lits_cons L2 (lit_slice L2 (l := none) (m := some 6) lmore po_none (po_some pe_int) (fun σ H Q _ h => h) (fun σ H Q _ h => ⟨_, rfl, h⟩) (cut := ms.take 6) (fun dx => cut_loX (j := 6) (by omega) dx) (fun w => whole_lo (j := 6) w)) lits_nil)))))))))))))) pa_nil)))))) pss_nil, ?_⟩
      refine ⟨_, rfl, u, d, m, 4, rfl, by decide, by decide, U1, fun H2 r r0 r1 U2 O2 => ⟨rfl, _, rfl, ite2 (fun _ => ?_) (fun _ => ?_)⟩⟩
      · have c3' := O2 _ _ c1 c2 c3
        have c4' := c4.off O2
        refine ⟨_, rfl, fun p hp => ⟨_, rfl, wide, rfl, w1, by omega, upd_same, fun c H3 S3 ec => ⟨(by show 1 ≤ sizeLine; decide), fun p4 hp4 => ⟨p4, 7, _, rfl, rfl, SqT.of upd_same, by simp, by decide, by decide, (by show 1 ≤ 1000; decide), fun p5 hp5 => ?_⟩⟩⟩⟩
        have S13 : Same H2 H3 := (Same.fresh (Same.refl _) hp).trans S3
        have S35 : Same H3 (upd (upd H3 p4 (.tup [.ref c])) p5 (.tup (List.replicate (7 : Int).toNat [V.ref c]).flatten)) := Same.fresh (Same.fresh (Same.refl _) hp4) hp5
        have e5 : upd (upd H3 p4 (.tup [.ref c])) p5 (.tup (List.replicate (7 : Int).toNat [V.ref c]).flatten) p5 = some (.tup (List.replicate 7 (V.ref c))) := by rw [upd_same]; rfl
        generalize upd (upd H3 p4 (.tup [.ref c])) p5 (.tup (List.replicate (7 : Int).toNat [V.ref c]).flatten) = H5 at S35 e5
        have S25 := S13.trans S35
        have U5 := U2.same S25
        obtain ⟨ncu, ncd⟩ := tup_ne U5 (S35 _ _ ec)
        obtain ⟨n5u, n5d⟩ := tup_ne U5 e5
        have dc : DX u d H5 (.ref c) (.tuple (List.replicate wide.toNat .none)) := .tup ncu ncd (S35 _ _ ec) (DXs.rep .non _)
        refine catX (qs := qs2) (rs := List.replicate 7 (PyData.tuple (List.replicate wide.toNat .none))) U5.ne0.1 U5.ne0.2 (.tup c1 c2 (S25 _ _ c3') (c4'.same S25)) (.tup n5u n5d e5 (DXs.rep dc 7)) (by rw [List.length_replicate]; omega) fun v6 H6 S6 d6 => ?_
        have U6 := U5.same S6
        refine ⟨_, rfl, sliceX (cut := ms) U6.ne0.1 U6.ne0.2 d6 (fun dx => by rw [hms]; exact cut_loX (j := 7) (by rw [List.length_append, List.length_replicate]; omega) dx) (fun hh => by rw [hms]; exact whole_lo (j := 7) hh) fun v7 H7 S7 d7 => ?_⟩
        have U7 := U6.same S7
        have S27 := S25.trans (S6.trans S7)
        refine one_go L2 (by rw [hCS]; exact ⟨U7.ne0, ⟨v7, rfl, d7⟩, rfl, S27 _ _ c3', c4'.same S27⟩) rfl U7 (by show 0 < 12; decide) (by show 12 < 1000; decide) fun H8 v8 q8 hq8 d8 U8 O8 => ?_
        exact kD _ _ ⟨U8, O1.trans (O2.trans ((Same.off S27).trans O8)), _, _, _, _, _, _, _, _, rfl, .int wide, d8, rfl, sp1_sb hall hl2 hmall (by omega) hq8⟩
      · obtain ⟨z1, z2, z3⟩ := sb_all hall hl2
        exact kD _ _ ⟨U2, O1.trans O2, _, _, _, _, _, _, _, _, rfl, .int wide, (DX.tup c1 c2 c3 c4).off O2, rfl, sb_tup z1 (by omega) (by omega)⟩
    case s3 =>
      rintro D σ H1 ⟨⟨U1, O1, w', l, qw, ql, o3, o4, o5, o6, rfl, dw, dl, rfl, hL⟩, kD⟩
      cases dw
      obtain ⟨CS, hCS⟩ : ∃ CS : CC, CS = fun σ H => (H u ≠ none ∧ H d ≠ none) ∧ σ[1]? = some (some (.int wide)) := ⟨_, rfl⟩
      have L3 : LC u d CS := by
        subst hCS
        exact ⟨fun σ H H' S h => ⟨⟨same_ne S h.1.1, same_ne S h.1.2⟩, h.2⟩, fun σ H h => h.1.1, fun σ H h => h.1.2⟩
      have hw : ∀ σ H, CS σ H → σ[1]? = some (some (.int wide)) := fun σ H h => by subst hCS; exact h.2
      have lw0 : ∀ {p : Pos}, PE (cxOf CX0 P w K mg base NSp "_law_spoilt" (defScope sSpoilt) f cdv A outer s H E).nox (.Name "wide" p) (tLit CS u d (.int wide)) := fun {p} =>
        pe_imp (pv (pos := p) 1) fun σ H' Q' ⟨c, q⟩ => ⟨_, hw _ _ c, q _ H' (Same.refl _) (.int wide)⟩
      have lw1 : ∀ {p p2 p3 : Pos} {j}, PE (cxOf CX0 P w K mg base NSp "_law_spoilt" (defScope sSpoilt) f cdv A outer s H E).nox (.BinOp (.Name "wide" p) .Add (.Constant (.int 1) j p2) p3) (tLit CS u d (.int (wide + 1))) := fun {p p2 p3 j} =>
        pe_imp (pe_op op_add (pv (pos := p) 1) pe_int) fun σ H' Q' ⟨c, q⟩ => ⟨_, hw _ _ c, _, _, rfl, rfl, q _ H' (Same.refl _) (.int _)⟩
      have lw2 : ∀ {p p2 p3 : Pos} {j}, PE (cxOf CX0 P w K mg base NSp "_law_spoilt" (defScope sSpoilt) f cdv A outer s H E).nox (.BinOp (.Name "wide" p) .Sub (.Constant (.int 1) j p2) p3) (tLit CS u d (.int (wide - 1))) := fun {p p2 p3 j} =>
        pe_imp (pe_op op_sub (pv (pos := p) 1) pe_int) fun σ H' Q' ⟨c, q⟩ => ⟨_, hw _ _ c, _, _, rfl, rfl, q _ H' (Same.refl _) (.int _)⟩
      refine ⟨_, ps_if (pt_cmpR op_eq (pe_call G1 hr1 rfl m1 k1 b1 .nil pass0 (pa_cons (pv 0) (pa_cons pe_int pa_nil))) pe_int (nomark _))
        (pss_one (ps_set (i := 1) scSpoilt.nd rfl (Or.inl rfl) (pe_call G2 hr2 rfl m2 k2 b2 .nil pass0 (pa_cons (pv 0) (pa_cons (pe_lst (show PA _ _ (tLits CS u d (sp2 wide)) from (lits_cons L3 lit_int (lits_cons L3 lit_int (lits_cons L3 (lit_num2 (pe_un un_neg pe_int) (fun σ H Q h => ⟨_, rfl, h⟩)) (lits_cons L3 lit_bl (lits_cons L3 lit_bl (lits_cons L3 lit_non (lits_cons L3 lit_str (lits_cons L3 (lit_tup L3 (lits_cons L3 lit_int lits_nil) (by decide)) (lits_cons L3 lw1 (lits_cons L3 lw2 (lits_cons L3 (lit_num2 (pe_op op_powW pe_int pe_int) (fun σ H Q h => ⟨_, _, rfl, rfl, ⟨by decide, by decide +kernel⟩, h⟩)) (lits_cons L3 (lit_lst L3 (lits_cons L3 lw0 lits_nil) (Nat.le_of_ble_eq_true rfl)) (lits_cons L3 lit_int lits_nil))))))))))))))) pa_nil))))) pss_nil, ?_⟩
      refine ⟨_, rfl, u, d, m, 5, rfl, by decide, by decide, U1, fun H2 r r0 r1 U2 O2 => ⟨rfl, _, rfl, ite2 (fun _ => ?_) (fun _ => ?_)⟩⟩
      · refine one_go L3 (by rw [hCS]; exact ⟨U2.ne0, rfl⟩) rfl U2 (by show 0 < 13; decide) (by show 13 < 1000; decide) fun H8 v8 q8 hq8 d8 U8 O8 => ?_
        exact kD _ _ ⟨U8, O1.trans (O2.trans O8), _, _, _, _, _, _, _, _, rfl, d8, (dl.off O2).off O8, sp2_sb w1 w4 hq8, hL⟩
      · exact kD _ _ ⟨U2, O1.trans O2, _, _, _, _, _, _, _, _, rfl, .int wide, dl.off O2, ⟨by
          have : wide = 1 ∨ wide = 2 ∨ wide = 3 ∨ wide = 4 := by omega
          rcases this with rfl | rfl | rfl | rfl <;> decide +kernel, by simp only [sz]; omega, by simp only [PyData.depth]; omega⟩, hL⟩
    case s5 =>
      rintro D σ H1 ⟨⟨U1, O1, w', l, qw, ql, o3, o4, o5, o6, rfl, dw, dl, hw, hl⟩, kD⟩
      obtain ⟨CS, hCS⟩ : ∃ CS : CC, CS = fun σ H => (H u ≠ none ∧ H d ≠ none) ∧ (σ[1]? = some (some w') ∧ DX u d H w' qw) ∧ (σ[2]? = some (some l) ∧ DX u d H l ql) := ⟨_, rfl⟩
      have L4 : LC u d CS := by
        subst hCS
        exact ⟨fun σ H H' S h => ⟨⟨same_ne S h.1.1, same_ne S h.1.2⟩, ⟨h.2.1.1, h.2.1.2.same S⟩, ⟨h.2.2.1, h.2.2.2.same S⟩⟩, fun σ H h => h.1.1, fun σ H h => h.1.2⟩
      have cw : ∀ σ H, CS σ H → σ[1]? = some (some w') ∧ DX u d H w' qw := fun σ H h => by subst hCS; exact h.2.1
      have cl : ∀ σ H, CS σ H → σ[2]? = some (some l) ∧ DX u d H l ql := fun σ H h => by subst hCS; exact h.2.2
      have lvw : ∀ {p : Pos}, PE (cxOf CX0 P w K mg base NSp "_law_spoilt" (defScope sSpoilt) f cdv A outer s H E).nox (.Name "wide" p) (tLit CS u d qw) := fun {p} =>
        pe_imp (pv (pos := p) 1) fun σ H' Q' ⟨c, q⟩ => ⟨_, (cw _ _ c).1, q _ H' (Same.refl _) (cw _ _ c).2⟩
      have lvl : ∀ {p : Pos}, PE (cxOf CX0 P w K mg base NSp "_law_spoilt" (defScope sSpoilt) f cdv A outer s H E).nox (.Name "lines" p) (tLit CS u d ql) := fun {p} =>
        pe_imp (pv (pos := p) 2) fun σ H' Q' ⟨c, q⟩ => ⟨_, (cl _ _ c).1, q _ H' (Same.refl _) (cl _ _ c).2⟩
      have ld01 : ∀ {j1 j2 p1 p2 p3 p4 p5}, PE (cxOf CX0 P w K mg base NSp "_law_spoilt" (defScope sSpoilt) f cdv A outer s H E).nox (.Dict [some (.Constant (.int 0) j1 p1), some (.Constant (.int 1) j2 p2)] [.Name "wide" p3, .Name "lines" p4] p5) (tLit CS u d (.dict [(.int 0, qw), (.int 1, ql)])) := fun {j1 j2 p1 p2 p3 p4 p5} =>
        pe_imp (pe_disp (pps_cons pe_int (pv 1) (pps_cons pe_int (pv 2) pps_nil)) (by rfl) (by rfl) (fun z => by cases z) (Nat.le_of_ble_eq_true rfl)) fun σ H' Q' ⟨c, q⟩ => fun p hp => ⟨_, (cw _ _ c).1, _, (cl _ _ c).1, upd_same, [(.inl 0, w'), (.inl 1, l)], rfl, (Nat.le_of_ble_eq_true rfl), by
          have S : Same H' (upd (upd H' p (.dK [])) p (.dK (mergeK [] [(.inl 0, w'), (.inl 1, l)]))) := fun b o e => by
            rw [upd_ne (ne_of_none e hp), upd_ne (ne_of_none e hp)]
            exact e
          exact q _ _ S (.dic (ne_fresh (L4.nu _ _ c) hp) (ne_fresh (L4.nd _ _ c) hp) upd_same (.cons ((cw _ _ c).2.same S) (.cons ((cl _ _ c).2.same S) .nil)))⟩
      refine ⟨_, ps_ret (pe_call G2 hr2 rfl m2 k2 b2 .nil pass0 (pa_cons (pv 0) (pa_cons (pe_lst (show PA _ _ (tLits CS u d (sp3 qw ql)) from (lits_cons L4 (lit_lst L4 (lits_cons L4 lvw (lits_cons L4 lvl lits_nil)) (Nat.le_of_ble_eq_true rfl)) (lits_cons L4 (lit_tup L4 (lits_cons L4 lvw lits_nil) (Nat.le_of_ble_eq_true rfl)) (lits_cons L4 (lit_tup L4 (lits_cons L4 lvw (lits_cons L4 lvl (lits_cons L4 lvl lits_nil))) (Nat.le_of_ble_eq_true rfl)) (lits_cons L4 (lit_tup L4 (lits_cons L4 lvl lits_nil) (Nat.le_of_ble_eq_true rfl)) (lits_cons L4 ld01 (lits_cons L4 (lit_tup L4 (lits_cons L4 lvl (lits_cons L4 lvw lits_nil)) (Nat.le_of_ble_eq_true rfl)) lits_nil)))))))) pa_nil))), ?_⟩
      refine one_go L4 (by rw [hCS]; exact ⟨U1.ne0, ⟨rfl, dw⟩, ⟨rfl, dl⟩⟩) rfl U1 (by show 0 < 6; decide) (by show 6 < 1000; decide) fun H8 v8 q8 hq8 d8 U8 O8 => ?_
      exact kD H8 v8 q8 d8 (sp3_sm hw hl hq8) U8 (O1.trans O8)
    refine ⟨⟨U, Off.refl H, _, _, _, _, _, _, _, _, rfl, .int wide, .tup nau nad ha dx, rfl, qs, rfl, hq6, hqs⟩, fun σ1 H1 P1 => ⟨P1, fun σ2 H2 P2 => ⟨P2, fun σ3 H3 P3 => ?_⟩⟩⟩
    obtain ⟨U3, O3, w', l', qw', ql', o3', o4', o5', o6', rfl, dw', dl', hw', hl'⟩ := id P3
    refine ⟨_, rfl, u, d, m, 6, rfl, by decide, by decide, U3, fun H4 r r0 r1 U4 O4 => ⟨_, _, rfl, rfl, _, rfl, ite2 (fun _ => ?_) (fun _ => ?_)⟩⟩
    · refine ⟨_, rfl, _, rfl, (by show 2 ≤ sizeLine; decide), fun p hp => ?_⟩
      have S5 : Same H4 (upd H4 p (.tup [w', l'])) := Same.fresh (Same.refl _) hp
      exact k _ _ (.tuple [qw', ql']) (.tup (ne_fresh U4.ne0.1 hp) (ne_fresh U4.ne0.2 hp) upd_same (.cons ((dw'.off O4).same S5) (.cons ((dl'.off O4).same S5) .nil))) (sb_l2 hw' hl') (U4.same S5) ((O3.trans O4).trans (Same.off S5))
    · exact ⟨⟨U4, O3.trans O4, _, _, _, _, _, _, _, _, rfl, dw'.off O4, dl'.off O4, hw', hl'⟩, k⟩
end
end K2

namespace K2
open PySem L2 RW RZ PySem.RW
theorem eqs {x : Str} {Q : VK} {H : Hp} (h : Q (.bl true) H) : Q (.bl (decide (V.str x = V.str x))) H := by
  rw [show decide (V.str x = V.str x) = true from decide_eq_true rfl]
  exact h
structure RE (q : PyData) : Prop where
  wd : wide q = true
  sb : Sb 2200 1 q
theorem re_bool (b : Bool) : RE (.bool b) := ⟨rfl, rfl, by simp only [sz]; omega, by simp only [PyData.depth]; omega⟩
theorem wide_all : ∀ {ds : List PyData}, (∀ q ∈ ds, wide q = true) → wideAll ds = true
  | [], _ => rfl
  | x :: r, h => by
    simp only [wideAll, h x (List.mem_cons_self ..), Bool.true_and]
    exact wide_all fun q hq => h q (List.mem_cons_of_mem _ hq)
theorem repr_go {K : PySem.W.Frag} {H : Hp} {Q : VK} {a : Addr} {vs : List V} {ds : List PyData} (h : H a = some (.lst vs)) (hd : DpAll K H vs ds) (hr : ∀ q ∈ ds, RE q) (hl : ds.length ≤ 10) (k : Q (.str (PyData.list ds).shown) H) : rRepr K [.ref a] H Q := by
  obtain ⟨z1, z2, z3⟩ := sb_all (fun q hq => (hr q hq).sb) hl
  refine ⟨a, ds, rfl, .lst (SqL.of h) hd, ?_, ?_, ?_, k⟩
  · simp only [wide]
    exact wide_all fun q hq => (hr q hq).wd
  · have := sz_shown (.list ds) (by simpa only [PyData.showable] using z1)
    simp only [sz] at this
    exact Nat.le_of_lt (small6 (by omega))
  · simp only [PyData.depth]; omega
theorem eqv_nones : ∀ xs : List (Option Int), PyData.eqvAll (xs.map pd) ((List.replicate xs.length (none : Option Int)).map pd) = !(xs.any Option.isSome)
  | [] => rfl
  | none :: xs => by
    rw [List.length_cons, List.replicate_succ, List.map_cons, List.map_cons, List.any_cons]
    show (PyData.eqv .none .none && _) = _
    rw [eqv_nones xs]
    rfl
  | some i :: xs => by
    rw [List.length_cons, List.replicate_succ, List.map_cons, List.map_cons, List.any_cons]
    rfl
theorem eqv_row (xs : List (Option Int)) {n : Nat} (h : xs.length = n) : PyData.eqv (.tuple (xs.map pd)) (.tuple ((List.replicate n (none : Option Int)).map pd)) = !(xs.any Option.isSome) := by
  subst h
  exact eqv_nones xs
theorem rep_non (n : Nat) : List.replicate n V.non = (List.replicate n (none : Option Int)).map nv := by simp [nv]
def spTold : Sp := fun vs H Q _ => ∃ (v : V) (u d : Addr) (q : PyData) (n : Int), vs = [.int n, v] ∧ 1 ≤ n ∧ n ≤ 4 ∧ DX u d H v q ∧ Sm q ∧ ∀ H', Same H H' → Q (.bl true) H'
section
variable {P : Program} {w : World} {K : PySem.W.Frag} {mg : Str → Option Value} {base : Heap}
theorem scTold : FnScope ["wide", "thing", "is_one", "is_full", "found"] ["wide", "thing"] (defScope sTold) := ⟨rfl, rfl, rfl, by decide +kernel, rfl, by decide +kernel, by decide +kernel⟩
theorem ok_told {f : Addr} {fd : FuncData} (F : Fun K "_law_is_told" "_law_is_told" sTold f fd) (B : Bl mg) (St : StatAt base)
    (C1 : Cal P w K mg base "_law_is_side" 1 ["wide", "thing"] (spPart sideD)) (C2 : Cal P w K mg base "is_side" 3 ["places", "value"] (spPart sideD)) (D2 : CalK P w K mg base "is_side" 3 ["places", "value"] ["value", "places"] g2s g2s (spPart sideD))
    (C3 : Cal P w K mg base "is_row" 4 ["places", "value"] (spPart rowD)) : FnG P w K mg base 5 f fd ["wide", "thing"] spTold := by
  obtain ⟨f1, fd1, G1, m1, k1, b1⟩ := C1.ex
  obtain ⟨f2, fd2, G2, m2, k2, b2⟩ := C2.ex
  obtain ⟨f3, fd3, G3, m3, k3, b3⟩ := C3.ex
  obtain ⟨f4, fd4, G4, m4, k4, b4⟩ := D2.ex
  refine fnG_of F scTold (fun vs H Q E h => ?_) (fun cdv A outer s H vs Q E hG hr h => ?_)
  · obtain ⟨v, u, d, q, n, rfl, _⟩ := h
    rfl
  · obtain ⟨v, u, d, q, n, rfl, n1, n4, hd, hs, k⟩ := h
    have hr1 : Room 1 _ := hr.mono (by decide)
    have hr3 : Room 3 _ := hr.mono (by decide)
    have hu : (A.deeper (PyProof.Rows.envOfC "_law_is_told" (defScope sTold) s.heap.objs.size f cdv)).units + 64 < cLine := by have := hr.un; omega
    have hlen : lenD q ≤ 2000000 := Nat.le_trans (lenD_sz q) hs.sz
    refine ⟨_, pss_cons (ps_set (i := 2) scTold.nd rfl (Or.inl rfl) (pe_call G1 hr1 rfl m1 k1 b1 .nil pass0 (pa_cons (pv 0) (pa_cons (pv 1) pa_nil))))
      (pss_cons (ps_set (i := 3) scTold.nd rfl (Or.inl rfl) (pe_imp (S := fun σ H1 Q1 => σ[0]? = some (some (.int n)) ∧ σ[1]? = some (some v) ∧ σ[2]? = some (some (.bl (sideD n q))) ∧ DX u d H1 v q ∧ ∀ H', Same H1 H' → Q1 (.bl (rowD n q)) H')
        (pe_and (pv 2) (pe_one (pe_cmpR (op_neD hu) (pv 1) (pe_nones (pv 0)) (nomark _)))) ?full))
      (pss_cons (ps_set (i := 4) scTold.nd rfl (Or.inl rfl) (pe_lst (pa_cons (pe_call G2 hr3 rfl m2 k2 b2 .nil pass0 (pa_cons (pv 0) (pa_cons (pv 1) pa_nil))) (pa_cons (pe_callK0 G4 hr3 rfl m4 k4 b4 pass0 (pk_cons (pv 1) (pk_cons (pv 0) pk_nil)))
          (pa_cons (pe_call G3 hr rfl m3 k3 b3 .nil pass0 (pa_cons (pv 0) (pa_cons (pv 1) pa_nil))) (pa_cons (pe_call G2 hr3 rfl m2 k2 b2 .nil pass0 (pa_cons (pv 0) (pa_cons (pv 1) pa_nil))) pa_nil))))))
      (pss_one (ps_ret (pe_cmpR op_eq (pe_callB (call_reprW hG hu St) (by rfl) B.repr (by decide +kernel) (pa_cons (pv 4) pa_nil)) (pe_callB (call_reprW hG hu St) (by rfl) B.repr (by decide +kernel) (pa_cons (pe_lst (pa_cons (pv 2) (pa_cons (pv 2) (pa_cons (pv 3) (pa_cons (pv 2) pa_nil))))) pa_nil)) (nomark _)))))), ?_⟩
    case full =>
      rintro σ H1 Q1 ⟨s0, s1, s2, dx, k1⟩
      refine ⟨_, s2, _, rfl, iteB (fun h1 => ?_) (fun h1 => ?_)⟩
      · obtain ⟨xs, rfl, hl, hb⟩ := side_of h1
        obtain ⟨a, rfl, _, _, ha⟩ := side_at dx
        refine ⟨_, s1, fun p hp => ⟨_, s0, n, rfl, n1, by omega, upd_same, fun c H3 S3 ec => ?_⟩⟩
        have S13 : Same H1 H3 := (Same.fresh (Same.refl _) hp).trans S3
        rw [rep_non] at ec
        refine ⟨.tuple (xs.map pd), .tuple ((List.replicate n.toNat (none : Option Int)).map pd), .tup (SqT.of (S13 _ _ ha)) (dpN xs), .tup (SqT.of ec) (dpN _), shapedT xs, shapedT _, ?_⟩
        rw [eqv_row xs (by omega), Bool.not_not]
        have := k1 H3 S13
        unfold rowD at this
        rw [h1, Bool.true_and, has_pd] at this
        exact this
      · have := k1 H1 (Same.refl _)
        unfold rowD at this
        rw [h1, Bool.false_and] at this
        exact this
    refine ⟨_, rfl, _, rfl, v, u, d, q, n, rfl, n4, hd, hlen, fun H1 S1 => ?_⟩
    refine ⟨rfl, rfl, rfl, hd.same S1, fun H2 S2 => ?_⟩
    have S12 := S1.trans S2
    refine ⟨_, rfl, _, rfl, v, u, d, q, n, rfl, n4, hd.same S12, hlen, fun H3 S3 => ?_⟩
    have S13 := S12.trans S3
    refine ⟨_, rfl, _, rfl, v, u, d, q, n, rfl, n4, hd.same S13, hlen, fun H4 S4 => ?_⟩
    have S14 := S13.trans S4
    refine ⟨_, rfl, _, rfl, v, u, d, q, n, rfl, n4, hd.same S14, hlen, fun H5 S5 => ?_⟩
    have S15 := S14.trans S5
    refine ⟨_, rfl, _, rfl, v, u, d, q, n, rfl, n4, hd.same S15, hlen, fun H6 S6 => ⟨(by show 4 ≤ sizeLine; decide), fun q1 hq1 => ?_⟩⟩
    have S16 := Same.fresh (o := .lst [.bl (sideD n q), .bl (sideD n q), .bl (rowD n q), .bl (sideD n q)]) (S15.trans S6) hq1
    have e1 : upd H6 q1 (.lst [.bl (sideD n q), .bl (sideD n q), .bl (rowD n q), .bl (sideD n q)]) q1 = some (.lst [.bl (sideD n q), .bl (sideD n q), .bl (rowD n q), .bl (sideD n q)]) := upd_same
    generalize upd H6 q1 (.lst [.bl (sideD n q), .bl (sideD n q), .bl (rowD n q), .bl (sideD n q)]) = H7 at S16 e1
    have res : ∀ x ∈ [PyData.bool (sideD n q), .bool (sideD n q), .bool (rowD n q), .bool (sideD n q)], RE x := fun x hx => by
      simp only [List.mem_cons, List.not_mem_nil, or_false] at hx
      rcases hx with rfl | rfl | rfl | rfl <;> exact re_bool _
    have dp4 : ∀ H, DpAll K H [V.bl (sideD n q), .bl (sideD n q), .bl (rowD n q), .bl (sideD n q)] [PyData.bool (sideD n q), .bool (sideD n q), .bool (rowD n q), .bool (sideD n q)] := fun H => .cons (.bl _) (.cons (.bl _) (.cons (.bl _) (.cons (.bl _) .nil)))
    refine ⟨_, rfl, ?_⟩
    simp only [tNil]
    refine repr_go e1 (dp4 _) res (by show 4 ≤ 10; decide) ?_
    refine ⟨_, rfl, _, rfl, _, rfl, _, rfl, (by show 4 ≤ sizeLine; decide), fun q2 hq2 => ?_⟩
    simp only [tNil]
    refine repr_go upd_same (dp4 _) res (by show 4 ≤ 10; decide) ⟨rfl, eqs (k _ (Same.fresh S16 hq2))⟩
end
end K2

namespace RW
open PySem PySem.Spec PyProof.Rows L2
theorem tuple_mul_zero (l : Addr) (items : Array Value) (n : Nat) (dd : Option Addr) (sl : Array (Option Value)) (u : Tok) (c1 : (items.isEmpty || (0 : Int) == 1) = false) :
    Meets (Builtin.«tuple.__mul__» ⟨[.ref l, .int 0 u], []⟩) (fun _ R s => s.heap.get? l = some { cls := .type "tuple", dict := dd, data := .seq items n, slots := sl } ∧
      R (.ok (.ret (Value.ref s.heap.objs.size))) { s with heap := s.heap.push { cls := Value.type "tuple", data := Data.seq #[] }, toks := s.toks }) :=
  .of_wp fun prog w A R s h => by
    obtain ⟨hp, g, d, tk, os⟩ := s
    obtain ⟨hl, h⟩ := h
    have f1 := AutoSeq1.idx_int
    wp_walk using wpAny_loadPart' hl
    repeat (first
      | (refine wpAny_ite_false (decide_eq_false (by rw [c1]; exact Bool.false_ne_true)) ?_; wp_walk using wpAny_loadPart' hl))
    exact ⟨_, rfl, h⟩
section
variable {X : Cx}
/-- t * k, k from 0 on -/
def rRepX (K : PySem.W.Frag) : R2 := fun x y H Q => ∃ l k xs, x = .ref l ∧ y = .int k ∧ SqT K H l xs ∧ xs ≠ [] ∧ 0 ≤ k ∧ k ≤ 1000 ∧ xs.length ≤ 1000 ∧ (k = 1 → Q (.ref l) H) ∧ (k ≠ 1 → ∀ p, H p = none → Q (.ref p) (upd H p (.tup (List.replicate k.toNat xs).flatten)))
theorem op_repX : OpR X (binaryOp .Mult) (rRepX X.K) := by
  intro pins s σ H x y v u Q I rx ry h
  obtain ⟨l, k, xs, rfl, rfl, hT, hne, h1, h2, hz, q1, q2⟩ := h
  by_cases hk : k = 0
  · subst hk
    cases rx
    obtain ⟨t, rfl⟩ := ry
    obtain ⟨its, r, ⟨⟨cls, dd, data, sl⟩, ho, hc, n, hd⟩, hs⟩ := I.tuple hT
    simp only at hc hd
    subst hc hd
    have c1 : (its.toArray.isEmpty || (0 : Int) == 1) = false := by
      cases r with
      | nil => exact absurd rfl hne
      | cons a b => rfl
    refine wpAny_binaryOp_repeat_ref (T := "tuple") (U := "int") (by decide) ⟨_, ho, rfl⟩ (fun s' => typeIs_int s' 0 t) noFill_tuple_mul F.fills_int_mul F.slot_int_rmul repeat_tuple F.slot_int_index.lookup
      (call_meets F.slot_int_rmul (typeIs_int s 0 t) F.entry_int_rmul (F.args_int_rmul_2 _ _) (int_rmul_tuple 0 t l its.toArray n dd sl)
        ⟨ho, rfl, ⟨_, ho, rfl⟩, call_meets F.slot_tuple_mul ⟨_, ho, rfl⟩ F.entry_tuple_mul (F.args_tuple_mul_2 _ _) (tuple_mul_zero l its.toArray n dd sl t c1) ⟨ho, ?_⟩⟩)
    refine ⟨.ref s.heap.objs.size, _, I.laid (t' := s.toks) (o := .tup []) (fun b ob q => Heap.get?_push_of_some _ q) (Nat.le_refl _) ?_, rfl, q2 (by decide) _ (I.hok.fresh (Nat.le_refl _))⟩
    exact ⟨Nat.zero_le _, [], .nil, IsTup.new _ _⟩
  · exact op_repA pins s σ H _ _ v u Q I rx ry ⟨l, k, xs, rfl, rfl, hT, hne, by omega, h2, hz, q1, q2⟩
end
end RW

namespace K2
open PySem L2 RW RZ PySem.RW
theorem flat_rep {α : Type} (x : α) (n : Nat) : (List.replicate n [x]).flatten = List.replicate n x := by
  induction n with
  | zero => rfl
  | succ n ih => rw [List.replicate_succ, List.flatten_cons, ih, List.replicate_succ]; rfl
theorem repX {K : PySem.W.Frag} {u d : Addr} {H : Hp} {x : V} {q : PyData} {k : Int} {Q : VK} (nu : H u ≠ none) (nd : H d ≠ none) (hx : DX u d H x (.tuple [q])) (k0 : 0 ≤ k) (k1 : k ≤ 1000) (c : ∀ v H', Same H H' → DX u d H' v (.tuple (List.replicate k.toNat q)) → Q v H') : rRepX K x (.int k) H Q := by
  cases hx with
  | @tup a xs _ a1 a2 a3 a4 =>
    cases a4 with
    | @cons v vs _ _ b1 b2 =>
      cases b2
      refine ⟨a, k, _, rfl, rfl, SqT.of a3, by simp, k0, k1, (by show 1 ≤ 1000; decide), fun e => ?_, fun _ p hp => ?_⟩
      · subst e
        exact c _ H (Same.refl _) (.tup a1 a2 a3 (.cons b1 .nil))
      · rw [flat_rep]
        have S : Same H (upd H p (.tup (List.replicate k.toNat v))) := Same.fresh (Same.refl _) hp
        exact c _ _ S (.tup (ne_fresh nu hp) (ne_fresh nd hp) upd_same (DXs.rep (b1.same S) _))
theorem dxs_ints {u d : Addr} {H : Hp} : ∀ ns : List Int, DXs u d H (ns.map V.int) (ns.map PyData.int)
  | [] => .nil
  | n :: ns => .cons (.int n) (dxs_ints ns)
theorem sb_bit {n : Int} (h0 : 0 ≤ n) (h1 : n < 2) : Sb 2000 0 (.int n) := by
  have : n = 0 ∨ n = 1 := by omega
  refine ⟨?_, by simp only [sz]; omega, by simp only [PyData.depth]; omega⟩
  rcases this with rfl | rfl <;> decide +kernel
def MkI (H0 : Hp) (u d m D : Addr) : Nat → Hp → Prop := fun i H => UrnAt H u d m ∧ Off u d H0 H ∧ ∃ ns : List Int, ns.length = i ∧ (∀ x ∈ ns, 0 ≤ x ∧ x < 2) ∧ H D = some (.lst (ns.map V.int))
def spMark : Sp := fun vs H Q _ => ∃ (u d m : Addr), vs = [.ref u] ∧ UrnAt H u d m ∧
  ∀ H' l fv ov n fs qw os, UrnAt H' u d m → l ≠ u → l ≠ d → H' l = some (.lst [fv, ov]) → DX u d H' fv (.tuple [.int n, .tuple fs]) → DX u d H' ov (.tuple [qw, .tuple os]) → 1 ≤ n → n ≤ 4 → Sm (.tuple [.int n, .tuple fs]) → Sm (.tuple [qw, .tuple os]) → Q (.ref l) H'
section
variable {P : Program} {w : World} {K : PySem.W.Frag} {mg : Str → Option Value} {base : Heap}
abbrev NMk : List Str := ["urn", "wide", "many", "line", "k", "at", "to", "odd", "flat"]
theorem scMark : FnScope NMk ["urn"] (defScope sMark) := ⟨rfl, rfl, rfl, by decide +kernel, rfl, by decide +kernel, by decide +kernel⟩
theorem ok_mark {f : Addr} {fd : FuncData} (F : Fun K "_law_mark" "_law_mark" sMark f fd) (B : Bl mg) (C1 : Cal P w K mg base "_law_take" 1 ["urn", "size"] spTake) (C2 : Cal P w K mg base "_law_one" 2 ["urn", "items"] spOne) : FnOk P w K mg base CX0 3 f fd ["urn"] spMark := by
  obtain ⟨f1, fd1, G1, m1, k1, b1⟩ := C1.ex
  obtain ⟨f2, fd2, G2, m2, k2, b2⟩ := C2.ex
  refine F.ok scMark (fun vs H Q E h => ?_) (fun cdv A outer s H vs Q E hr h => ?_)
  · obtain ⟨u, d, m, rfl, _⟩ := h
    rfl
  · obtain ⟨u, d, m, rfl, U, k⟩ := h
    have hr1 : Room 1 _ := hr.mono (by decide)
    refine ⟨_, pss_cons (ps_par (i := 1) (j := 2) rfl scMark.nd rfl rfl (by decide) rfl rfl (pa_cons (pe_call G2 hr rfl m2 k2 b2 .nil pass0 (pa_cons (pv 0) (pa_cons (pe_lst (pa_cons pe_int (pa_cons pe_int (pa_cons pe_int (pa_cons pe_int (pa_cons pe_int pa_nil)))))) pa_nil))) (pa_cons (pe_op op_add pe_int (pe_call G1 hr1 rfl m1 k1 b1 .nil pass0 (pa_cons (pv 0) (pa_cons pe_int pa_nil)))) pa_nil)) (by rfl))
      (pss_cons (ps_set (i := 3) scMark.nd rfl (Or.inl rfl) (pe_callTy call_tuple_of (by rfl) B.tuple (by decide +kernel) (pa_cons (pe_lc (own := [("k", 4)]) (g := gName 4) rfl scMark.nd (pi_range1 rfl B.range (pa_cons (pv 1) pa_nil)) (blkOk_by (N := NMk) (sc := defScope sMark) (by decide +kernel)) (fun _ _ _ _ _ => pg_name (i := 4) scMark.nd rfl (Or.inl rfl))
        (fun _ _ _ _ _ => pts_nil) (fun _ _ _ _ _ => pe_call G1 hr1 rfl m1 k1 b1 .nil pass0 (pa_cons (pv 0) (pa_cons pe_int pa_nil)))) pa_nil)))
      (pss_cons (ps_par (i := 5) (j := 6) rfl scMark.nd rfl rfl (by decide) rfl rfl (pa_cons (pe_call G1 hr1 rfl m1 k1 b1 .nil pass0 (pa_cons (pv 0) (pa_cons (pv 2) pa_nil))) (pa_cons (pe_call G1 hr1 rfl m1 k1 b1 .nil pass0 (pa_cons (pv 0) (pa_cons (pv 1) pa_nil))) pa_nil)) (by rfl))
      (pss_cons (ps_set (i := 7) scMark.nd rfl (Or.inl rfl) (pe_op op_catA (pe_op op_catA (pe_slice sl_tupA (pv 3) po_none (po_some (pv 6))) (pe_tup (pa_cons (pe_cmpR op_eq (pe_ix ix_tup (pv 3) (pv 6) (fun _ _ => rfl)) pe_int (nomark _)) pa_nil))) (pe_slice sl_tupA (pv 3) (po_some (pe_op op_add (pv 6) pe_int)) po_none)))
      (pss_cons (ps_set (i := 8) scMark.nd rfl (Or.inl rfl) (pe_tup (pa_cons (pv 1) (pa_cons (pe_op op_repX (pe_tup (pa_cons (pv 3) pa_nil)) (pv 2)) pa_nil))))
      (pss_cons (ps_if (PW.pt (pw_and (pt_cmpR op_eq (pv 1) pe_int (nomark _)) (pw_and1 (pt_cmpR op_eq (pe_call G1 hr1 rfl m1 k1 b1 .nil pass0 (pa_cons (pv 0) (pa_cons pe_int pa_nil))) pe_int (nomark _)))))
          (pss_one (ps_ret (pe_lst (pa_cons (pv 8) (pa_cons (pe_tup (pa_cons pe_bl (pa_cons (pe_ix ix_tup (pv 8) pe_int (fun _ _ => rfl)) pa_nil))) pa_nil))))) pss_nil)
      (pss_one (ps_imp (S := fun D σ H15 => ∃ (o4 o6 : Option V) (n many at' : Int) (p vf vo : V) (ql qo : PyData), σ = [some (.ref u), some (.int n), some (.int many), some p, o4, some (.int at'), o6, some vo, some vf] ∧ UrnAt H15 u d m ∧ DX u d H15 p ql ∧ DX u d H15 vo qo ∧ 0 ≤ at' ∧ at' < many ∧ many ≤ 6 ∧
          ∀ H' l ov, UrnAt H' u d m → Off u d H15 H' → l ≠ u → l ≠ d → H' l = some (.lst [vf, ov]) → DX u d H' ov (.tuple [.int n, .tuple (List.replicate at'.toNat ql ++ [qo] ++ List.replicate (many - at' - 1).toNat ql)]) → D.rt (.ref l) H')
        (ps_ret (pe_lst (pa_cons (pv 8) (pa_cons (pe_tup (pa_cons (pv 1) (pa_cons (pe_op op_catA (pe_op op_catA (pe_op op_repX (pe_tup (pa_cons (pv 3) pa_nil)) (pv 5)) (pe_tup (pa_cons (pv 7) pa_nil))) (pe_op op_repX (pe_tup (pa_cons (pv 3) pa_nil)) (pe_op op_sub (pe_op op_sub (pv 2) (pv 5)) pe_int))) pa_nil))) pa_nil)))) ?s7))))))), ?_⟩
    case s7 =>
      rintro D σ H1 ⟨o4, o6, n, many, at', p, vf, vo, ql, qo, rfl, U1, dp, dq, t0, t1, m6, k1⟩
      refine ⟨_, rfl, _, rfl, _, rfl, (by show 1 ≤ sizeLine; decide), fun p2 hp2 => ?_⟩
      have S2 : Same H1 (upd H1 p2 (.tup [p])) := Same.fresh (Same.refl _) hp2
      have d2 : DX u d (upd H1 p2 (.tup [p])) (.ref p2) (.tuple [ql]) := .tup (ne_fresh U1.ne0.1 hp2) (ne_fresh U1.ne0.2 hp2) upd_same (.cons (dp.same S2) .nil)
      generalize upd H1 p2 (.tup [p]) = H2 at S2 d2
      have U2 := U1.same S2
      refine ⟨_, rfl, repX U2.ne0.1 U2.ne0.2 d2 t0 (by omega) fun v3 H3 S3 d3 => ⟨_, rfl, (by show 1 ≤ sizeLine; decide), fun p4 hp4 => ?_⟩⟩
      have U3 := U2.same S3
      have S4 : Same H3 (upd H3 p4 (.tup [vo])) := Same.fresh (Same.refl _) hp4
      have d4 : DX u d (upd H3 p4 (.tup [vo])) (.ref p4) (.tuple [qo]) := .tup (ne_fresh U3.ne0.1 hp4) (ne_fresh U3.ne0.2 hp4) upd_same (.cons (dq.same (S2.trans (S3.trans S4))) .nil)
      generalize upd H3 p4 (.tup [vo]) = H4 at S4 d4
      have U4 := U3.same S4
      refine catX U4.ne0.1 U4.ne0.2 (d3.same S4) d4 (by rw [List.length_replicate]; show _ + 1 ≤ _; omega) fun v5 H5 S5 d5 => ?_
      have U5 := U4.same S5
      refine ⟨_, rfl, (by show 1 ≤ sizeLine; decide), fun p6 hp6 => ?_⟩
      have S15 := S2.trans (S3.trans (S4.trans S5))
      have S6 : Same H5 (upd H5 p6 (.tup [p])) := Same.fresh (Same.refl _) hp6
      have d6 : DX u d (upd H5 p6 (.tup [p])) (.ref p6) (.tuple [ql]) := .tup (ne_fresh U5.ne0.1 hp6) (ne_fresh U5.ne0.2 hp6) upd_same (.cons (dp.same (S15.trans S6)) .nil)
      generalize upd H5 p6 (.tup [p]) = H6 at S6 d6
      have U6 := U5.same S6
      refine ⟨_, rfl, _, rfl, _, _, rfl, rfl, _, _, rfl, rfl, repX U6.ne0.1 U6.ne0.2 d6 (by omega) (by omega) fun v7 H7 S7 d7 => ?_⟩
      have U7 := U6.same S7
      refine catX U7.ne0.1 U7.ne0.2 (d5.same (S6.trans S7)) d7 (by rw [List.length_append, List.length_replicate, List.length_replicate]; show _ + 1 + _ ≤ _; omega) fun v8 H8 S8 d8 => ?_
      have U8 := U7.same S8
      refine ⟨(by show 2 ≤ sizeLine; decide), fun p9 hp9 => ?_⟩
      have S9 : Same H8 (upd H8 p9 (.tup [.int n, v8])) := Same.fresh (Same.refl _) hp9
      have d9 : DX u d (upd H8 p9 (.tup [.int n, v8])) (.ref p9) (.tuple [.int n, .tuple (List.replicate at'.toNat ql ++ [qo] ++ List.replicate (many - at' - 1).toNat ql)]) := .tup (ne_fresh U8.ne0.1 hp9) (ne_fresh U8.ne0.2 hp9) upd_same (.cons (.int n) (.cons (d8.same S9) .nil))
      generalize upd H8 p9 (.tup [.int n, v8]) = H9 at S9 d9
      have U9 := U8.same S9
      refine ⟨(by show 2 ≤ sizeLine; decide), fun l hl => ?_⟩
      have S10 : Same H9 (upd H9 l (.lst [vf, .ref p9])) := Same.fresh (Same.refl _) hl
      exact k1 _ l _ (U9.same S10) (Same.off (S15.trans (S6.trans (S7.trans (S8.trans (S9.trans S10)))))) (ne_fresh U9.ne0.1 hl) (ne_fresh U9.ne0.2 hl) upd_same (d9.same S10)
    refine ⟨_, rfl, (by show 5 ≤ sizeLine; decide), fun l hl => ?_⟩
    refine ⟨u, d, m, l, _, rfl, upd_same, (U.nfree hl).1, (U.nfree hl).2, (by show 0 < 5; decide), (by show 5 < 1000; decide), U.fresh hl, fun H1 v hv U1 O1 => ?_⟩
    obtain ⟨n, rfl, n1, n4⟩ : ∃ n : Int, v = .int n ∧ 1 ≤ n ∧ n ≤ 4 := by
      simp only [List.mem_cons, List.not_mem_nil, or_false] at hv
      rcases hv with rfl | rfl | rfl | rfl | rfl <;> exact ⟨_, rfl, by decide, by decide⟩
    refine ⟨_, rfl, u, d, m, 6, rfl, by decide, by decide, U1, fun H2 r r0 r1 U2 O2 => ⟨_, _, rfl, rfl, _, _, rfl, ?_⟩⟩
    refine ⟨_, rfl, n, rfl, ⟨by omega, by omega, fun D hD => lc_range (MkI H2 u d m D) ?_ (fun i H3 hi I => ?_) (fun H3 I => ?_)⟩⟩
    · exact ⟨U2.fresh hD, Off.fresh (Off.refl H2) hD, [], rfl, (fun i hi => by cases hi), upd_same⟩
    · obtain ⟨U3, O3, ns, hnl, hnb, hx⟩ := I
      have nu := (U2.nfree hD).1
      have nd := (U2.nfree hD).2
      have nm := U2.nfreeM hD
      refine ⟨rfl, yes_ ?_⟩
      refine ⟨_, rfl, u, d, m, 2, rfl, by decide, by decide, U3, fun H4 y y0 y1 U4 O4 => ?_⟩
      refine ⟨_, O4 _ _ nu nd hx, small1000 (by rw [List.length_map]; omega), U4.put nu nd nm, Off.put (O3.trans O4) hD, ns ++ [y], by simp [hnl], fun x hx => ?_, by rw [upd_same, List.map_append]; rfl⟩
      rcases List.mem_append.mp hx with h1 | h1
      · exact hnb x h1
      · rw [List.mem_singleton.mp h1]; exact ⟨y0, y1⟩
    · obtain ⟨U3, O3, ns, hnl, hnb, hx⟩ := I
      refine ⟨D, _, rfl, .inl ⟨SqL.of hx, fun p hp => ?_⟩⟩
      have U4 := U3.fresh (o := .tup (ns.map V.int)) hp
      have ep : upd H3 p (.tup (ns.map V.int)) p = some (.tup (ns.map V.int)) := upd_same
      generalize upd H3 p (.tup (ns.map V.int)) = H4 at U4 ep
      obtain ⟨npu, npd⟩ := tup_ne U4 ep
      refine ⟨_, rfl, _, rfl, u, d, m, _, rfl, by omega, by omega, U4, fun H5 at' t0 t1 U5 O5 => ?_⟩
      refine ⟨_, rfl, _, rfl, u, d, m, _, rfl, by omega, by omega, U5, fun H6 j j0 j1 U6 O6 => ⟨_, _, rfl, ?_⟩⟩
      have e6 := (O5.trans O6) _ _ npu npd ep
      obtain ⟨j, rfl⟩ := Int.eq_ofNat_of_zero_le j0
      have hj : j < ns.length := by omega
      have dl : ∀ {H}, H p = some (.tup (ns.map V.int)) → DX u d H (.ref p) (.tuple (ns.map PyData.int)) := fun e => .tup npu npd e (dxs_ints ns)
      have hjm : (ns.map V.int)[j]? = some (V.int ns[j]) := by rw [List.getElem?_map, List.getElem?_eq_getElem hj]; rfl
      refine ⟨_, rfl, _, rfl, _, rfl, sliceX U6.ne0.1 U6.ne0.2 (dl e6) (cut_loX (by rw [List.length_map]; omega)) whole_lo fun v7 H7 S7 d7 => ?_⟩
      have e7 := S7 _ _ e6
      have U7 := U6.same S7
      refine ⟨_, rfl, _, rfl, p, _, _, _, rfl, rfl, SqT.of e7, atI_nat hjm, rfl, (by show 1 ≤ sizeLine; decide), fun p8 hp8 => ?_⟩
      have hb : ∀ b : Bool, True := fun _ => trivial
      generalize decide (V.int ns[j] = V.int 1) = bt
      have S8 : Same H7 (upd H7 p8 (.tup [.bl bt])) := Same.fresh (Same.refl _) hp8
      have d8 : DX u d (upd H7 p8 (.tup [.bl bt])) (.ref p8) (.tuple [.bool bt]) := .tup (ne_fresh U7.ne0.1 hp8) (ne_fresh U7.ne0.2 hp8) upd_same (.cons (.bl bt) .nil)
      generalize upd H7 p8 (.tup [.bl bt]) = H8 at S8 d8
      have U8 := U7.same S8
      have e8 := S8 _ _ e7
      refine catX U8.ne0.1 U8.ne0.2 (d7.same S8) d8 (by rw [List.length_take, List.length_map]; show _ + 1 ≤ _; omega) fun v9 H9 S9 d9 => ?_
      have U9 := U8.same S9
      have e9 := S9 _ _ e8
      refine ⟨_, rfl, _, rfl, _, _, rfl, rfl, _, rfl, ?_⟩
      simp only [tNoPart]
      refine sliceX U9.ne0.1 U9.ne0.2 (dl e9) (cut_hiX (by rw [List.length_map]; exact hj)) whole_hi fun v10 H10 S10 d10 => ?_
      have U10 := U9.same S10
      refine catX U10.ne0.1 U10.ne0.2 (d9.same S10) d10 (by rw [List.length_append, List.length_take, List.length_drop, List.length_map]; show _ + 1 + _ ≤ _; omega) fun vo H11 S11 do_ => ?_
      have U11 := U10.same S11
      have e11 := S11 _ _ (S10 _ _ e9)
      -- sizes
      have sbi : ∀ q ∈ ns.map PyData.int, Sb 2000 0 q := fun q hq => by
        obtain ⟨y, hy, rfl⟩ := List.mem_map.mp hq
        exact sb_bit (hnb y hy).1 (hnb y hy).2
      have sbl : Sb 8030 1 (.tuple (ns.map PyData.int)) := by
        obtain ⟨z1, z2, z3⟩ := sb_all (n := 4) sbi (by rw [List.length_map]; omega)
        exact sb_tup z1 (by omega) (by omega)
      have sbo : Sb 8030 1 (.tuple ((ns.map PyData.int).take j ++ [.bool bt] ++ (ns.map PyData.int).drop (j + 1))) := by
        have hall : ∀ q ∈ (ns.map PyData.int).take j ++ [.bool bt] ++ (ns.map PyData.int).drop (j + 1), Sb 2000 0 q := fun q hq => by
          rcases List.mem_append.mp hq with hq | hq
          · rcases List.mem_append.mp hq with hq | hq
            · exact sbi q (List.mem_of_mem_take hq)
            · rw [List.mem_singleton.mp hq]; exact ⟨rfl, by simp only [sz]; omega, by simp only [PyData.depth]; omega⟩
          · exact sbi q (List.mem_of_mem_drop hq)
        obtain ⟨z1, z2, z3⟩ := sb_all (n := 4) hall (by rw [List.length_append, List.length_append, List.length_take, List.length_drop, List.length_map]; show min j ns.length + 1 + (ns.length - (j + 1)) ≤ 4; omega)
        exact sb_tup z1 (by omega) (by omega)
      generalize (ns.map PyData.int).take j ++ [.bool bt] ++ (ns.map PyData.int).drop (j + 1) = qo at do_ sbo
      have sblk : ∀ k : Nat, ∀ q ∈ List.replicate k (PyData.tuple (ns.map PyData.int)), Sb 8030 1 q := fun k q hq => by rw [(List.mem_replicate.mp hq).2]; exact sbl
      have smk : ∀ (qw : PyData) (fs : List PyData), Sb 2000 0 qw → (∀ q ∈ fs, Sb 8030 1 q) → fs.length ≤ 20 → Sm (.tuple [qw, .tuple fs]) := fun qw fs hw hf hl => by
        obtain ⟨z1, z2, z3⟩ := sb_all hf hl
        obtain ⟨y1, y2, y3⟩ := hw
        exact ⟨by simp only [PyData.showable, PyData.showableAll, y1, z1]; rfl, by simp only [sz, szs]; omega, by simp only [PyData.depth, PyData.depthAll]; omega⟩
      have sbn : Sb 2000 0 (.int n) := ⟨by
        have : n = 1 ∨ n = 2 ∨ n = 3 ∨ n = 4 := by omega
        rcases this with rfl | rfl | rfl | rfl <;> decide +kernel, by simp only [sz]; omega, by simp only [PyData.depth]; omega⟩
      -- flat
      refine ⟨_, rfl, _, rfl, (by show 1 ≤ sizeLine; decide), fun p12 hp12 => ?_⟩
      have S12 : Same H11 (upd H11 p12 (.tup [.ref p])) := Same.fresh (Same.refl _) hp12
      have d12 : DX u d (upd H11 p12 (.tup [.ref p])) (.ref p12) (.tuple [.tuple (ns.map PyData.int)]) := .tup (ne_fresh U11.ne0.1 hp12) (ne_fresh U11.ne0.2 hp12) upd_same (.cons ((dl e11).same S12) .nil)
      generalize upd H11 p12 (.tup [.ref p]) = H12 at S12 d12
      have U12 := U11.same S12
      refine ⟨_, rfl, repX U12.ne0.1 U12.ne0.2 d12 (by omega) (by omega) fun v13 H13 S13 d13 => ⟨(by show 2 ≤ sizeLine; decide), fun p14 hp14 => ?_⟩⟩
      have U13 := U12.same S13
      have S14 : Same H13 (upd H13 p14 (.tup [.int n, v13])) := Same.fresh (Same.refl _) hp14
      have e14 : upd H13 p14 (.tup [.int n, v13]) p14 = some (.tup [.int n, v13]) := upd_same
      generalize upd H13 p14 (.tup [.int n, v13]) = H14 at S14 e14
      have U14 := U13.same S14
      obtain ⟨nfu, nfd⟩ := tup_ne U14 e14
      have S11_14 := S12.trans (S13.trans S14)
      have eL := S11_14 _ _ e11
      have dO := do_.same S11_14
      have d13' := d13.same S14
      have dF : ∀ {H}, Off u d H14 H → DX u d H (.ref p14) (.tuple [.int n, .tuple (List.replicate (1 + r).toNat (.tuple (ns.map PyData.int)))]) := fun O => .tup nfu nfd (O _ _ nfu nfd e14) (.cons (.int n) (.cons (d13'.off O) .nil))
      have smF := smk (.int n) (List.replicate (1 + r).toNat (.tuple (ns.map PyData.int))) sbn (sblk _) (by rw [List.length_replicate]; omega)
      have dFl := dF (Off.refl H14)
      have rest : ∀ H15, UrnAt H15 u d m → Off u d H14 H15 → ∀ H' l ov, UrnAt H' u d m → Off u d H15 H' → l ≠ u → l ≠ d → H' l = some (.lst [.ref p14, ov]) → DX u d H' ov (.tuple [.int n, .tuple (List.replicate at'.toNat (.tuple (ns.map PyData.int)) ++ [.tuple qo] ++ List.replicate (1 + r - at' - 1).toNat (.tuple (ns.map PyData.int)))]) → Q (.ref l) H' := fun H15 U15 O15 H' l ov U' O' nlu nld el dov => by
        refine k H' l (.ref p14) ov n _ _ _ U' nlu nld el (dF (O15.trans O')) dov n1 n4 smF (smk (.int n) _ sbn (fun q hq => ?_) ?_)
        · rcases List.mem_append.mp hq with hq | hq
          · rcases List.mem_append.mp hq with hq | hq
            · exact sblk _ q hq
            · rw [List.mem_singleton.mp hq]; exact sbo
          · exact sblk _ q hq
        · rw [List.length_append, List.length_append, List.length_replicate, List.length_replicate]
          show _ + 1 + _ ≤ 20
          omega
      refine ⟨_, rfl, rfl, _, rfl, ite2 (fun _ => ?_) (fun _ => ?_)⟩
      · refine ⟨_, rfl, u, d, m, 2, rfl, by decide, by decide, U14, fun H15 y y0 y1 U15 O15 => ⟨rfl, _, rfl, ite2 (fun _ => ?_) (fun _ => ?_)⟩⟩
        · have e15 := O15 _ _ nfu nfd e14
          refine ⟨_, rfl, _, rfl, p14, _, _, v13, rfl, rfl, SqT.of e15, atI_nat (j := 1) rfl, (by show 2 ≤ sizeLine; decide), fun p16 hp16 => ⟨(by show 2 ≤ sizeLine; decide), fun l hl => ?_⟩⟩
          have S16 : Same H15 (upd H15 p16 (.tup [.bl true, v13])) := Same.fresh (Same.refl _) hp16
          have d16 : DX u d (upd H15 p16 (.tup [.bl true, v13])) (.ref p16) (.tuple [.bool true, .tuple (List.replicate (1 + r).toNat (.tuple (ns.map PyData.int)))]) := .tup (ne_fresh U15.ne0.1 hp16) (ne_fresh U15.ne0.2 hp16) upd_same (.cons (.bl true) (.cons ((d13'.off O15).same S16) .nil))
          generalize upd H15 p16 (.tup [.bl true, v13]) = H16 at S16 d16 hl
          have U16 := U15.same S16
          have S17 : Same H16 (upd H16 l (.lst [.ref p14, .ref p16])) := Same.fresh (Same.refl _) hl
          exact k _ l (.ref p14) (.ref p16) n _ _ _ (U16.same S17) (ne_fresh U16.ne0.1 hl) (ne_fresh U16.ne0.2 hl) upd_same (dF (O15.trans (Same.off (S16.trans S17)))) (d16.same S17) n1 n4 smF
            (smk (.bool true) _ ⟨rfl, by simp only [sz]; omega, by simp only [PyData.depth]; omega⟩ (sblk _) (by rw [List.length_replicate]; omega))
        · exact ⟨_, _, n, 1 + r, at', .ref p, .ref p14, vo, .tuple (ns.map PyData.int), .tuple qo, rfl, U15, (dl eL).off O15, dO.off O15, t0, by omega, by omega, rest H15 U15 O15⟩
      · exact ⟨_, _, n, 1 + r, at', .ref p, .ref p14, vo, .tuple (ns.map PyData.int), .tuple qo, rfl, U14, dl eL, dO, t0, by omega, by omega, rest H14 U14 (Off.refl _)⟩
end
end K2

namespace K2
open PySem L2 RW RZ PySem.RW
/-! ### what is told, as data -/
def errD : Told → PyData
  | none => .none
  | some (none, x) => .tuple [.none, .str x]
  | some (some i, x) => .tuple [.int (i : Nat), .str x]
theorem ErrAt.dp {K : PySem.W.Frag} {H : Hp} {r : V} : ∀ {e : Told}, ErrAt H r e → Dp K H r (errD e)
  | none, h => by
    have h' : r = .non := h
    subst h'
    exact .non
  | some (none, x), h => by
    obtain ⟨p, rfl, h2⟩ := h
    exact .tup (SqT.of h2) (.cons .non (.cons (.str x) .nil))
  | some (some i, x), h => by
    obtain ⟨p, rfl, h2⟩ := h
    exact .tup (SqT.of h2) (.cons (.int _) (.cons (.str x) .nil))
abbrev WOk (x : Str) : Prop := (reprText x).length ≤ 20
theorem re_non : RE .none := ⟨rfl, rfl, by simp only [sz]; omega, by simp only [PyData.depth]; omega⟩
theorem re_word {x : Str} (h : WOk x) : RE (.tuple [.none, .str x]) := by
  have h : (reprText x).length ≤ 20 := h
  exact ⟨rfl, rfl, by simp only [sz, szs]; omega, by simp only [PyData.depth, PyData.depthAll]; omega⟩
theorem re_at {x : Str} {i : Nat} (h : WOk x) (hi : i ≤ 100) : RE (.tuple [.int (i : Nat), .str x]) := by
  have h : (reprText x).length ≤ 20 := h
  have h1 : i < 2 ^ 1920 := by
    have : (100 : Nat) < 2 ^ 1920 := by decide +kernel
    omega
  have h2 : (i : Nat).log2 < 1920 := PySem.Flt.log2_lt_of (by decide) h1
  refine ⟨?_, ?_, by simp only [sz, szs]; omega, by simp only [PyData.depth, PyData.depthAll]; omega⟩
  · simp only [wide, wideAll, Int.natAbs_natCast]
    rw [decide_eq_true (show i.log2 < 12900 by omega)]
    rfl
  · simp only [PyData.showable, PyData.showableAll, Int.natAbs_natCast]
    rw [decide_eq_true h2]
    rfl
theorem re_lines {g : PyData → Bool} {pa pt : Str} {most : Int} (ha : WOk pa) (ht : WOk pt) (hm : most ≤ 100) (l : PyData) : RE (errD (linesD g pa pt most l)) := by
  cases l with
  | tuple ls =>
    show RE (errD (if (ls.length : Int) ≤ most then (ls.findIdx? fun z => !g z).map fun i => (some i, pt) else some (none, pa)))
    split
    · cases e : ls.findIdx? fun z => !g z with
      | none => exact re_non
      | some i =>
        have := (List.findIdx?_eq_some_iff_getElem.mp e).1
        exact re_at ht (by omega)
    · exact re_word ha
  | none => exact re_word ha
  | bool b => exact re_word ha
  | int b => exact re_word ha
  | str b => exact re_word ha
  | list b => exact re_word ha
  | dict b => exact re_word ha
theorem re_form {g : Int → PyData → Bool} {wh pa pt : Str} {most : Int} (hw : WOk wh) (ha : WOk pa) (ht : WOk pt) (hp : WOk "places") (hm : most ≤ 100) (q : PyData) : RE (errD (formD g wh pa pt most q)) := by
  cases q with
  | tuple qs =>
    match qs with
    | [] => exact re_word hw
    | [_] => exact re_word hw
    | [p, l] =>
      show RE (errD (if placesD p = true then linesD (g (plN p)) pa pt most l else some (none, "places")))
      split
      · exact re_lines ha ht hm l
      · exact re_word hp
    | _ :: _ :: _ :: _ => exact re_word hw
  | none => exact re_word hw
  | bool b => exact re_word hw
  | int b => exact re_word hw
  | str b => exact re_word hw
  | list b => exact re_word hw
  | dict b => exact re_word hw
theorem re_tab (q : PyData) : RE (errD (tabD q)) := re_form (by decide +kernel) (by decide +kernel) (by decide +kernel) (by decide +kernel) (by decide) q
theorem re_lot (q : PyData) : RE (errD (lotD q)) := re_form (by decide +kernel) (by decide +kernel) (by decide +kernel) (by decide +kernel) (by decide) q
/-! ### tables -/
def rowP (xs : List (Option Int)) : PyData := .tuple (xs.map pd)
theorem sides_of {n : Int} : ∀ {ls : List PyData}, ls.all (sideD n) = true → ∃ L : List (List (Option Int)), ls = L.map rowP ∧ ∀ xs ∈ L, (xs.length : Int) = n ∧ Bo xs
  | [], _ => ⟨[], rfl, fun _ h => by cases h⟩
  | l :: ls, h => by
    simp only [List.all_cons, Bool.and_eq_true] at h
    obtain ⟨xs, rfl, h1, h2⟩ := side_of h.1
    obtain ⟨L, rfl, hL⟩ := sides_of h.2
    refine ⟨xs :: L, rfl, fun ys hy => ?_⟩
    rcases List.mem_cons.mp hy with rfl | hy
    · exact ⟨h1, h2⟩
    · exact hL ys hy
theorem tab_none {q : PyData} (h : tabD q = none) : ∃ (n : Int) (L : List (List (Option Int))), q = .tuple [.int n, .tuple (L.map rowP)] ∧ 1 ≤ n ∧ n ≤ 4 ∧ L.length ≤ 6 ∧ ∀ xs ∈ L, (xs.length : Int) = n ∧ Bo xs := by
  cases q with
  | tuple qs =>
    match qs, h with
    | [], h => cases h
    | [_], h => cases h
    | _ :: _ :: _ :: _, h => cases h
    | [p, l], h =>
      have h' : (if placesD p = true then linesD (sideD (plN p)) "lines" "line" 6 l else some (none, ("places" : Str))) = none := h
      split at h'
      · rename_i hp
        obtain ⟨n, rfl, n1, n4⟩ := places_of hp
        cases l with
        | tuple ls =>
          have h2 : (if (ls.length : Int) ≤ 6 then (ls.findIdx? fun z => !sideD n z).map fun i => (some i, ("line" : Str)) else some (none, ("lines" : Str))) = none := h'
          split at h2
          · rename_i hl
            rw [Option.map_eq_none_iff, List.findIdx?_eq_none_iff] at h2
            obtain ⟨L, rfl, hL⟩ := sides_of (n := n) (ls := ls) (List.all_eq_true.mpr fun x hx => by simpa using h2 x hx)
            exact ⟨n, L, rfl, n1, n4, by rw [List.length_map] at hl; omega, hL⟩
          · cases h2
        | none => cases h'
        | bool b => cases h'
        | int b => cases h'
        | str b => cases h'
        | list b => cases h'
        | dict b => cases h'
      · cases h'
  | none => cases h
  | bool b => cases h
  | int b => cases h
  | str b => cases h
  | list b => cases h
  | dict b => cases h
theorem lot_tab {n : Int} {L : List (List (Option Int))} (n1 : 1 ≤ n) (n4 : n ≤ 4) (hl : L.length ≤ 6) : lotD (.tuple [.int n, .tuple (L.map rowP)]) = ((L.map rowP).findIdx? fun z => !rowD n z).map fun i => (some i, ("row" : Str)) := by
  have hp : placesD (.int n) = true := by
    show (decide (1 ≤ n) && decide (n ≤ 4)) = true
    rw [decide_eq_true n1, decide_eq_true n4]
    rfl
  show (if placesD (.int n) = true then linesD (rowD n) "rows" "row" 40 (.tuple (L.map rowP)) else _) = _
  rw [if_pos hp]
  show (if (((L.map rowP).length : Nat) : Int) ≤ 40 then _ else _) = _
  rw [if_pos (by rw [List.length_map]; omega)]
theorem row_is {n : Int} {xs : List (Option Int)} (h : (xs.length : Int) = n) (hb : Bo xs) : rowD n (rowP xs) = xs.any Option.isSome := by
  unfold rowD
  have := side_mk h hb
  show (sideD n (.tuple (xs.map pd)) && hasD (.tuple (xs.map pd))) = _
  rw [this, Bool.true_and, has_pd]
/-- the places of the lines of none alone, up to i -/
structure Em (L : List (List (Option Int))) (i : Nat) (js : List Nat) : Prop where
  len : js.length ≤ i
  no : js = [] → ∀ j xs, j < i → L[j]? = some xs → xs.any Option.isSome = true
  yes : ∀ j r, js = j :: r → j < i ∧ (∃ xs, L[j]? = some xs ∧ xs.any Option.isSome = false) ∧ ∀ k xs, k < j → L[k]? = some xs → xs.any Option.isSome = true
theorem Em.zero (L : List (List (Option Int))) : Em L 0 [] := ⟨Nat.le_refl _, fun _ j xs h => absurd h (by omega), fun j r h => by cases h⟩
theorem Em.skip {L : List (List (Option Int))} {i : Nat} {js : List Nat} {xs : List (Option Int)} (E : Em L i js) (h : L[i]? = some xs) (hx : xs.any Option.isSome = true) : Em L (i + 1) js := by
  refine ⟨Nat.le_succ_of_le E.len, fun e j ys hj hy => ?_, fun j r e => ?_⟩
  · by_cases hji : j = i
    · subst hji; rw [h] at hy; cases hy; exact hx
    · exact E.no e j ys (by omega) hy
  · obtain ⟨a, b, c⟩ := E.yes j r e
    exact ⟨by omega, b, c⟩
theorem Em.put {L : List (List (Option Int))} {i : Nat} {js : List Nat} {xs : List (Option Int)} (E : Em L i js) (h : L[i]? = some xs) (hx : xs.any Option.isSome = false) : Em L (i + 1) (js ++ [i]) := by
  refine ⟨by rw [List.length_append]; have := E.len; show _ + 1 ≤ _; omega, fun e => absurd e (by simp), fun j r e => ?_⟩
  cases hjs : js with
  | nil =>
    rw [hjs] at e
    cases e
    exact ⟨by omega, ⟨xs, h, hx⟩, fun k ys hk hy => E.no hjs k ys hk hy⟩
  | cons j0 r0 =>
    rw [hjs] at e
    cases e
    obtain ⟨a, b, c⟩ := E.yes j r0 hjs
    exact ⟨by omega, b, c⟩
def headT : List Nat → Told
  | [] => none
  | j :: _ => some (some j, ("row" : Str))
theorem em_told {n : Int} {L : List (List (Option Int))} {js : List Nat} (hL : ∀ xs ∈ L, (xs.length : Int) = n ∧ Bo xs) (E : Em L L.length js) :
    ((L.map rowP).findIdx? fun z => !rowD n z).map (fun i => (some i, ("row" : Str))) = headT js := by
  cases hjs : js with
  | nil =>
    rw [find_none]
    · rfl
    · rw [List.all_eq_true]
      intro q hq
      obtain ⟨xs, hx, rfl⟩ := List.mem_map.mp hq
      obtain ⟨i, hi⟩ := List.getElem?_of_mem hx
      rw [row_is (hL xs hx).1 (hL xs hx).2]
      exact E.no hjs i xs (List.getElem?_eq_some_iff.mp hi).1 hi
  | cons j r =>
    obtain ⟨a, ⟨xs, hx, hn⟩, c⟩ := E.yes j r hjs
    have hm := hL xs (List.mem_of_getElem? hx)
    rw [find_go (i := j) (z := rowP xs) (by rw [List.getElem?_map, hx]; rfl) ?_ (by rw [row_is hm.1 hm.2]; exact hn)]
    · rfl
    · rw [List.all_eq_true]
      intro q hq
      obtain ⟨k, hk⟩ := List.getElem?_of_mem hq
      rw [List.getElem?_take] at hk
      split at hk
      · rename_i hkj
        rw [List.getElem?_map] at hk
        cases e : L[k]? with
        | none => rw [e] at hk; cases hk
        | some ys =>
          rw [e] at hk
          cases hk
          have hy := hL ys (List.mem_of_getElem? e)
          rw [row_is hy.1 hy.2]
          exact c k ys hkj e
      · cases hk
end K2

namespace K2
open PySem L2 RW RZ PySem.RW
theorem eqn {x : Str} {A B : Prop} (h : B) : if (!decide (V.str x = V.str x)) = true then A else B := iteNS rfl h
section
variable {X : Cx} {K : PySem.W.Frag}
theorem ixT (h : X.K = K) : IxR X (rIxT K) := by subst h; exact ix_tup
theorem opEqD (h : X.K = K) (hu : X.A.units + 64 < cLine) : OpR X (compareOp .Eq) (rEqD K) := by subst h; exact op_eqD hu
theorem opNeD (h : X.K = K) (hu : X.A.units + 64 < cLine) : OpR X (compareOp .NotEq) (rNeD K) := by subst h; exact op_neD hu
end
def RowAt (u d : Addr) (H : Hp) (p : Addr) (xs : List (Option Int)) : Prop := p ≠ u ∧ p ≠ d ∧ H p = some (.tup (xs.map nv))
theorem lines_at {u d : Addr} {H : Hp} : ∀ {L : List (List (Option Int))} {ys : List V}, DXs u d H ys (L.map rowP) → ∃ ps : List Addr, ys = ps.map V.ref ∧ Paired (RowAt u d H) ps L
  | [], _, h => by cases h; exact ⟨[], rfl, .nil⟩
  | xs :: L, _, h => by
    cases h with
    | cons h1 h2 =>
      obtain ⟨a, rfl, n1, n2, e⟩ := side_at h1
      obtain ⟨ps, rfl, hp⟩ := lines_at h2
      exact ⟨a :: ps, rfl, .cons ⟨n1, n2, e⟩ hp⟩
theorem at_lines {u d : Addr} {H : Hp} : ∀ {ps : List Addr} {L : List (List (Option Int))}, Paired (RowAt u d H) ps L → DXs u d H (ps.map V.ref) (L.map rowP)
  | _, _, .nil => .nil
  | _, _, .cons h t => .cons (.tup h.1 h.2.1 h.2.2 (dxs_pd _)) (at_lines t)
theorem paired_same {u d : Addr} {H H' : Hp} (S : Same H H') : ∀ {ps : List Addr} {L : List (List (Option Int))}, Paired (RowAt u d H) ps L → Paired (RowAt u d H') ps L
  | _, _, .nil => .nil
  | _, _, .cons h t => .cons ⟨h.1, h.2.1, S _ _ h.2.2⟩ (paired_same S t)
theorem paired_snoc {α β : Type} {R : α → β → Prop} {x : α} {y : β} (h : R x y) : ∀ {xs : List α} {ys : List β}, Paired R xs ys → Paired R (xs ++ [x]) (ys ++ [y])
  | _, _, .nil => .cons h .nil
  | _, _, .cons r t => .cons r (paired_snoc h t)
abbrev someF : List (Option Int) → Bool := fun xs => xs.any Option.isSome
theorem lot_fine {n : Int} {L : List (List (Option Int))} (n1 : 1 ≤ n) (n4 : n ≤ 4) (hl : L.length ≤ 6) (hL : ∀ xs ∈ L, (xs.length : Int) = n ∧ Bo xs) : lotD (.tuple [.int n, .tuple ((L.filter someF).map rowP)]) = none := by
  rw [lot_tab n1 n4 (Nat.le_trans (List.length_filter_le _ _) hl), find_none]
  · rfl
  · rw [List.all_eq_true]
    intro q hq
    obtain ⟨xs, hx, rfl⟩ := List.mem_map.mp hq
    obtain ⟨h1, h2⟩ := List.mem_filter.mp hx
    rw [row_is (hL xs h1).1 (hL xs h1).2]
    exact h2
theorem sb_row {n : Int} {xs : List (Option Int)} (n4 : n ≤ 4) (h : (xs.length : Int) = n) (hb : Bo xs) : Sb 8030 1 (rowP xs) := by
  have hall : ∀ q ∈ xs.map pd, Sb 2000 0 q := fun q hq => by
    obtain ⟨o, ho, rfl⟩ := List.mem_map.mp hq
    cases o with
    | none => exact ⟨rfl, by simp only [pd, sz]; omega, by simp only [pd, PyData.depth]; omega⟩
    | some i => exact ⟨by simp only [pd, PyData.showable]; exact decide_eq_true (bo_bits (hb i ho)), by simp only [pd, sz]; omega, by simp only [pd, PyData.depth]; omega⟩
  obtain ⟨z1, z2, z3⟩ := sb_all (n := 4) hall (by rw [List.length_map]; omega)
  exact sb_tup z1 (by omega) (by omega)
theorem n_bits {n : Int} (n1 : 1 ≤ n) (n4 : n ≤ 4) : n.natAbs.log2 < 1920 := by
  have : n = 1 ∨ n = 2 ∨ n = 3 ∨ n = 4 := by omega
  rcases this with rfl | rfl | rfl | rfl <;> decide +kernel
theorem sm_lot {n : Int} {L : List (List (Option Int))} (n1 : 1 ≤ n) (n4 : n ≤ 4) (hl : L.length ≤ 6) (hL : ∀ xs ∈ L, (xs.length : Int) = n ∧ Bo xs) : Sm (.tuple [.int n, .tuple (L.map rowP)]) := by
  have hall : ∀ q ∈ L.map rowP, Sb 8030 1 q := fun q hq => by
    obtain ⟨xs, hx, rfl⟩ := List.mem_map.mp hq
    exact sb_row n4 (hL xs hx).1 (hL xs hx).2
  obtain ⟨z1, z2, z3⟩ := sb_all (n := 6) hall (by rw [List.length_map]; exact hl)
  have hb : (PyData.int n).showable = true := by simp only [PyData.showable]; exact decide_eq_true (n_bits n1 n4)
  exact ⟨by simp only [PyData.showable, PyData.showableAll] at hb ⊢; rw [hb, z1]; rfl, by simp only [sz, szs]; omega, by simp only [PyData.depth, PyData.depthAll]; omega⟩
def spRight : Sp := fun vs H Q _ => ∃ (v : V) (u d : Addr) (q : PyData), vs = [v] ∧ H u ≠ none ∧ H d ≠ none ∧ DX u d H v q ∧ Sm q ∧ ∀ H', Same H H' → Q (.bl true) H'
section
variable {P : Program} {w : World} {K : PySem.W.Frag} {mg : Str → Option Value} {base : Heap}
def ifBody : Stmt → List Stmt
  | .If _ b _ _ => b
  | _ => []
def asgVal : Stmt → Expr
  | .Assign _ e _ => e
  | _ => .Constant .none 0 ⟨0, 0, 0, 0⟩
def lcScope : Expr → Scope
  | .ListComp _ _ s _ => s
  | _ => defScope sRight
def wordsScope : Scope := lcScope (asgVal ((ifBody ((defBody sRight).getD 2 (.Pass ⟨0, 0, 0, 0⟩))).getD 4 (.Pass ⟨0, 0, 0, 0⟩)))
abbrev NRt : List Str := ["thing", "known", "due", "empty", "at", "own", "told", "some", "words", "line"]
theorem scRight : FnScope NRt ["thing"] (defScope sRight) := ⟨rfl, rfl, rfl, by decide +kernel, rfl, by decide +kernel, by decide +kernel⟩
def lcElt : Expr → Expr
  | .ListComp e _ _ _ => e
  | e => e
def wordsElt : Expr := lcElt (asgVal ((ifBody ((defBody sRight).getD 2 (.Pass ⟨0, 0, 0, 0⟩))).getD 4 (.Pass ⟨0, 0, 0, 0⟩)))
def sInner : TE := fun σ H Q => ∃ (o0 o1 o2 o3 o4 o5 o6 o7 o8 : Option V) (a : Addr) (xs : List (Option Int)), σ = [o0, o1, o2, o3, o4, o5, o6, o7, o8, some (.ref a)] ∧ H a = some (.tup (xs.map nv)) ∧ xs.length ≤ 4 ∧ Bo xs ∧ ∀ H', Same H H' → Q (.str (rowT xs)) H'
theorem pe_inner {f : Addr} {cdv : Value} {A : Around} {outer : List Env} {s : Shared} {H : Hp} {E : XK} (B : Bl mg) (s' : Shared) (H' : Hp) (C : Addr) (cl : List (Str × Addr)) (fp : List Addr) :
    PE ((cxOf CX0 P w K mg base NRt "_law_is_right" (defScope sRight) f cdv A outer s H E).nox.blk s' H' wordsScope (compEnvC wordsScope cl C (cxOf CX0 P w K mg base NRt "_law_is_right" (defScope sRight) f cdv A outer s H E).nox.env) fp) wordsElt sInner := by
  refine pe_imp (pe_join pe_str (pe_lc (own := [("own", 5)]) (g := gName 5) rfl scRight.nd (pi_tup (pv 9)) (blkOk_by (N := NRt) (sc := wordsScope) (by decide +kernel)) (fun _ _ _ _ _ => pg_name (i := 5) scRight.nd rfl (Or.inl rfl))
                (fun _ _ _ _ _ => pts_nil) (fun _ _ _ _ _ => pe_ifExp (pt_cmpR op_isN (pv 5) pe_non (nomark _)) pe_str (pe_callTy call_str_int (by rfl) B.str_ (by decide +kernel) (pa_cons (pv 5) pa_nil))))) ?_
  rintro σ H Q ⟨o0, o1, o2, o3, o4, o5, o6, o7, o8, a, xs, rfl, hT, hl, hb, k⟩
  refine ⟨⟨_, rfl⟩, _, rfl, a, rfl, ⟨_, SqT.of hT⟩, fun D hD => lc_tup (K := K) (a := a) (xs := xs.map nv) (LcI H D fun i => ((xs.take i).map numT).map V.str) (lcI_start hD rfl) (fun i H' _ I => SqT.of (I.1 _ _ hT)) (fun i x H' hi I => ?_) (fun H' I => ?_)⟩
  · obtain ⟨o, hn, rfl⟩ := map_at hi
    have fin : ∃ acc, H' D = some (.lst acc) ∧ acc.length < sizeLine ∧ LcI H D (fun i => ((xs.take i).map numT).map V.str) (i + 1) (upd H' D (.lst (acc ++ [.str (numT o)]))) := by
      refine ⟨_, I.2, ?_, I.put hD ?_⟩
      · exact small1000 (by rw [List.length_map, List.length_map, List.length_take]; omega)
      · show List.map V.str ((xs.take (i + 1)).map numT) = _
        rw [take_map _ hn, List.map_append]
        rfl
    refine ⟨rfl, yes_ ?_⟩
    refine ⟨_, rfl, rfl, _, rfl, ?_⟩
    cases o with
    | none => exact iteT fin
    | some i0 => exact iteF ⟨_, rfl, i0, rfl, bo_bits (hb i0 (List.mem_of_getElem? hn)), fin⟩
  · refine ⟨_, D, xs.map numT, rfl, rfl, .inl (SqL.of (I.fin ?_)), ?_, k H' I.1⟩
    · rw [List.length_map, List.take_length]
    · have h2 := sum_le (bo_num hb)
      have e : (" " : Str).length = 1 := by decide +kernel
      rw [e]
      rw [List.length_map] at h2 ⊢
      omega
theorem ok_right {f : Addr} {fd : FuncData} (F : Fun K "_law_is_right" "_law_is_right" sRight f fd) (B : Bl mg) (St : StatAt base)
    (C1 : Cal P w K mg base "_law_judged" 2 ["thing"] (spErr tabD)) (C2 : Cal P w K mg base "table_error" 6 ["value"] (spErr tabD)) (D2 : CalK P w K mg base "table_error" 6 ["value"] ["value"] g1 g1 (spErr tabD))
    (C3 : Cal P w K mg base "lot_error" 6 ["value"] (spErr lotD)) (C4 : Cal P w K mg base "lot_text" 3 ["lot"] spLotT) : FnG P w K mg base 7 f fd ["thing"] spRight := by
  obtain ⟨f1, fd1, G1, m1, k1, b1⟩ := C1.ex
  obtain ⟨f2, fd2, G2, m2, k2, b2⟩ := C2.ex
  obtain ⟨f3, fd3, G3, m3, k3, b3⟩ := C3.ex
  obtain ⟨f4, fd4, G4, m4, k4, b4⟩ := C4.ex
  obtain ⟨f5, fd5, G5, m5, k5, b5⟩ := D2.ex
  refine fnG_of F scRight (fun vs H Q E h => ?_) (fun cdv A outer s H vs Q E hG hr h => ?_)
  · obtain ⟨v, u, d, q, rfl, _⟩ := h
    rfl
  · obtain ⟨v, u, d, q, rfl, nu, nd, hd, hs, k⟩ := h
    have hr2 : Room 2 _ := hr.mono (by decide)
    have hr3 : Room 3 _ := hr.mono (by decide)
    have hu : (A.deeper (PyProof.Rows.envOfC "_law_is_right" (defScope sRight) s.heap.objs.size f cdv)).units + 64 < cLine := by have := hr.un; omega
    refine ⟨_, pss_cons (ps_par (i := 1) (j := 2) rfl scRight.nd rfl rfl (by decide) rfl rfl (pa_cons (pe_callB (call_reprX hG hu) (by rfl) B.repr (by decide +kernel) (pa_cons (pv 0) pa_nil)) (pa_cons (pe_call G1 hr2 rfl m1 k1 b1 .nil pass0 (pa_cons (pv 0) pa_nil)) pa_nil)) (by rfl))
      (pss_cons (ps_if (pt_cmpR op_ne (pe_callB (call_reprW hG hu St) (by rfl) B.repr (by decide +kernel) (pa_cons (pe_lst (pa_cons (pe_call G2 hr rfl m2 k2 b2 .nil pass0 (pa_cons (pv 0) pa_nil)) (pa_cons (pe_callK0 G5 hr rfl m5 k5 b5 pass0 (pk_cons (pv 0) pk_nil)) (pa_cons (pe_call G2 hr rfl m2 k2 b2 .nil pass0 (pa_cons (pv 0) pa_nil)) pa_nil)))) pa_nil))
          (pe_callB (call_reprW hG hu St) (by rfl) B.repr (by decide +kernel) (pa_cons (pe_lst (pa_cons (pv 2) (pa_cons (pv 2) (pa_cons (pv 2) pa_nil)))) pa_nil)) (nomark _)) (pss_one (ps_ret pe_bl)) pss_nil)
      (pss_cons (ps_imp (S := fun D σ H1 => ∃ r, σ = [some v, some (.str q.shown), some r, none, none, none, none, none, none, none] ∧ Same H H1 ∧ ErrAt H1 r (tabD q) ∧ ∀ σ' H', σ'[0]? = some (some v) → σ'[1]? = some (some (.str q.shown)) → Same H H' → D.nx σ' H')
        (ps_if (pt_cmpR op_isN (pv 2) pe_non (nomark _))
          (pss_cons (ps_setLc (i := 3) (own := [("at", 4), ("own", 5)]) (g := gTup K 2 (gCons (gName 4) (gCons (gName 5) gNil))) rfl scRight.nd rfl rfl (sw_true rfl rfl rfl (by decide +kernel)) (pi_enumT (by rfl) B.enumerate (pa_cons (pe_ix ix_tup (pv 0) pe_int (fun _ _ => rfl)) pa_nil)) (blkOk_by (N := NRt) (sc := defScope sRight) (by decide +kernel))
              (fun _ _ _ _ _ => pg_tup rfl (pgs_cons (pg_name (i := 4) scRight.nd rfl (Or.inl rfl)) (pgs_cons (pg_name (i := 5) scRight.nd rfl (Or.inl rfl)) pgs_nil)))
              (fun _ _ _ _ _ => pts_one (pt_cmpR (opEqD (K := K) rfl hu) (pv 5) (pe_nones (pe_ix (ixT (K := K) rfl) (pv 0) pe_int (fun _ _ => rfl))) (nomark _))) (fun _ _ _ _ _ => pv 4))
          (pss_cons (ps_set (i := 6) scRight.nd rfl (Or.inl rfl) (pe_imp (S := fun σ H1 Q1 => ∃ (D : Addr) (js : List Nat), σ[3]? = some (some (.ref D)) ∧ H1 D = some (.lst (js.map fun j => V.int (j : Nat))) ∧ ∀ r' H', Same H1 H' → ErrAt H' r' (headT js) → Q1 r' H')
              (pe_ifExp (pt_cmpR (op_eqD hu) (pv 3) (pe_lst pa_nil) (nomark _)) pe_non (pe_tup (pa_cons (pe_ix ix_list (pv 3) pe_int (fun _ _ => rfl)) (pa_cons pe_str pa_nil)))) ?told))
          (pss_cons (ps_set (i := 7) scRight.nd rfl (Or.inl rfl) (pe_tup (pa_cons (pe_ix ix_tup (pv 0) pe_int (fun _ _ => rfl)) (pa_cons (pe_callTy call_tuple_of (by rfl) B.tuple (by decide +kernel) (pa_cons (pe_lc (own := [("own", 5)]) (g := gName 5) rfl scRight.nd (pi_tup (pe_ix ix_tup (pv 0) pe_int (fun _ _ => rfl))) (blkOk_by (N := NRt) (sc := defScope sRight) (by decide +kernel)) (fun _ _ _ _ _ => pg_name (i := 5) scRight.nd rfl (Or.inl rfl))
              (fun _ _ _ _ _ => pts_one (pt_cmpR (opNeD (K := K) rfl hu) (pv 5) (pe_nones (pe_ix (ixT (K := K) rfl) (pv 0) pe_int (fun _ _ => rfl))) (nomark _))) (fun _ _ _ _ _ => pv 5)) pa_nil)) pa_nil))))
          (pss_cons (ps_if (pt_cmpR op_ne (pe_callB (call_reprW hG hu St) (by rfl) B.repr (by decide +kernel) (pa_cons (pe_lst (pa_cons (pe_call G3 hr rfl m3 k3 b3 .nil pass0 (pa_cons (pv 0) pa_nil)) (pa_cons (pe_call G3 hr rfl m3 k3 b3 .nil pass0 (pa_cons (pv 7) pa_nil)) pa_nil))) pa_nil))
              (pe_callB (call_reprW hG hu St) (by rfl) B.repr (by decide +kernel) (pa_cons (pe_lst (pa_cons (pv 6) (pa_cons pe_non pa_nil))) pa_nil)) (nomark _)) (pss_one (ps_ret pe_bl)) pss_nil)
          (pss_cons (ps_setLc (i := 8) (own := [("line", 9)]) (g := gName 9) rfl scRight.nd rfl rfl (sw_true rfl rfl rfl (by decide +kernel)) (pi_tup (pe_ix ix_tup (pv 7) pe_int (fun _ _ => rfl))) (blkOk_by (N := NRt) (sc := defScope sRight) (by decide +kernel)) (fun _ _ _ _ _ => pg_name (i := 9) scRight.nd rfl (Or.inl rfl))
              (fun _ _ _ _ _ => pts_nil) (fun s' H' C cl fp => pe_inner B s' H' C cl fp))
          (pss_one (ps_if (pt_cmpR op_ne (pe_call G4 hr3 rfl m4 k4 b4 .nil pass0 (pa_cons (pv 7) pa_nil)) (pe_join pe_str (pe_op op_cat (pe_lst (pa_cons (pe_callTy call_str_int (by rfl) B.str_ (by decide +kernel) (pa_cons (pe_ix ix_tup (pv 0) pe_int (fun _ _ => rfl)) pa_nil)) pa_nil)) (pv 8))) (nomark _)) (pss_one (ps_ret pe_bl)) pss_nil)))))))
          pss_nil) ?due)
      (pss_one (ps_ret (pe_cmpR op_eq (pe_callB (call_reprX hG hu) (by rfl) B.repr (by decide +kernel) (pa_cons (pv 0) pa_nil)) (pv 1) (nomark _)))))), ?_⟩
    case told =>
      rintro σ H1 Q1 ⟨D, js, s3, eD, k1⟩
      refine ⟨_, s3, (by show 0 ≤ sizeLine; decide), fun p hp => ?_⟩
      have S1 : Same H1 (upd H1 p (.lst [])) := Same.fresh (Same.refl _) hp
      have eD1 := S1 _ _ eD
      have ej : (js.map fun j => V.int (j : Nat)) = (js.map fun j => ((j : Nat) : Int)).map V.int := by rw [List.map_map]; rfl
      rw [ej] at eD1
      refine ⟨.list ((js.map fun j => ((j : Nat) : Int)).map .int), .list [], .lst (SqL.of eD1) (dpI _), .lst (SqL.of upd_same) .nil, shapedI _, shapedI [], _, rfl, ?_⟩
      rw [eqv_ints]
      cases hj : js with
      | nil => exact iteT (k1 _ _ S1 (by rw [hj]; rfl))
      | cons j r =>
        rw [hj] at eD1
        refine iteF ⟨_, s3, D, _, _, _, rfl, rfl, SqL.of eD1, atI_nat (j := 0) rfl, (by show 2 ≤ sizeLine; decide), fun p2 hp2 => k1 _ _ (Same.fresh S1 hp2) ?_⟩
        rw [hj]
        exact ⟨p2, rfl, upd_same⟩
    case due =>
      rintro D0 σ H1 ⟨r, rfl, S1, e1, k1⟩
      refine ⟨_, rfl, rfl, _, rfl, ?_⟩
      cases hT : tabD q with
      | some e =>
        rw [hT] at e1
        obtain ⟨p, rfl, _⟩ := e1
        exact iteF (k1 _ _ rfl rfl S1)
      | none =>
        rw [hT] at e1
        have e1' : r = .non := e1
        subst e1'
        refine iteT ?_
        obtain ⟨n, L, rfl, n1, n4, hl6, hL⟩ := tab_none hT
        cases hd with
        | @tup a xs0 _ au ad ha hx =>
        match xs0, hx with
        | [x1, x2], .cons d1 (.cons d2 .nil) =>
        cases d1
        cases d2 with
        | @tup b ys _ bu bd hb hy =>
        obtain ⟨ps, rfl, hp⟩ := lines_at hy
        have hpl : ps.length = L.length := hp.length
        have ha1 := S1 _ _ ha
        have hb1 := S1 _ _ hb
        have nonesq : ∀ {H2 : Hp} {p c : Addr} {xs : List (Option Int)}, xs ∈ L → H2 c = some (.tup (List.replicate n.toNat V.non)) → H2 p = some (.tup (xs.map nv)) →
            Dp K H2 (.ref p) (.tuple (xs.map pd)) ∧ Dp K H2 (.ref c) (.tuple ((List.replicate n.toNat (none : Option Int)).map pd)) ∧ PyData.eqv (.tuple (xs.map pd)) (.tuple ((List.replicate n.toNat (none : Option Int)).map pd)) = !(xs.any Option.isSome) := fun {H2 p c xs} hm ec ep => by
          rw [rep_non] at ec
          exact ⟨.tup (SqT.of ep) (dpN xs), .tup (SqT.of ec) (dpN _), eqv_row xs (by have := (hL xs hm).1; omega)⟩
        -- empty
        refine ⟨_, rfl, a, _, _, _, rfl, rfl, SqT.of ha1, atI_nat (j := 1) rfl, b, _, rfl, SqT.of hb1, fun D hD => ?_⟩
        refine lc_it walk_enumT (fun i H' => Same H1 H' ∧ ∃ js, H' D = some (.lst (js.map fun j => V.int (j : Nat))) ∧ Em L i js) ⟨Same.fresh (Same.refl _) hD, [], upd_same, Em.zero L⟩ (fun i H' _ I => SqT.of (I.1 _ _ hb1)) (fun i v' H2 H3 hi I Y => ?_) (fun H2 I => ?_)
        · obtain ⟨S2, js, eD, em⟩ := I
          obtain ⟨T, y, rfl, hT2, rfl, hy2⟩ := Y
          obtain ⟨p, hpi, rfl⟩ := map_at hy2
          obtain ⟨xs, hxs, r1, r2, r3⟩ := paired_at hp hpi
          have hi2 := (List.getElem?_eq_some_iff.mp hxs).1
          have S23 : Same H1 (upd H2 T (.tup [.int (i : Nat), .ref p])) := Same.fresh S2 hT2
          have eD3 : upd H2 T (.tup [.int (i : Nat), .ref p]) D = some (.lst (js.map fun j => V.int (j : Nat))) := by rw [upd_ne (ne_of_none eD hT2)]; exact eD
          refine ⟨T, _, rfl, SqT.of upd_same, rfl, _, _, rfl, _, _, rfl, rfl, rfl, ?_⟩
          generalize upd H2 T (.tup [.int (i : Nat), .ref p]) = H3 at S23 eD3
          refine ⟨_, rfl, fun c0 hc0 => ?_⟩
          have S34 : Same H3 (upd H3 c0 (.tup [V.non])) := Same.fresh (Same.refl _) hc0
          refine ⟨_, rfl, a, _, _, _, rfl, rfl, SqT.of (S34 _ _ (S23 _ _ ha1)), atI_nat (j := 0) rfl, n, rfl, n1, by omega, upd_same, fun c H5 S5 ec => ?_⟩
          have S35 := S34.trans S5
          have S15 := S23.trans S35
          have eD5 := S35 _ _ eD3
          obtain ⟨q1, q2, q3⟩ := nonesq (List.mem_of_getElem? hxs) ec (S15 _ _ (S1 _ _ r3))
          refine ⟨_, _, q1, q2, shapedT _, shapedT _, _, rfl, ?_⟩
          rw [q3]
          cases hany : xs.any Option.isSome with
          | true => exact iteF ⟨S15, js, eD5, em.skip hxs hany⟩
          | false =>
            refine iteT ⟨_, rfl, _, eD5, ?_, ?_⟩
            · have := em.len
              exact small1000 (by rw [List.length_map]; omega)
            · refine ⟨fun b' o e => by rw [upd_ne (ne_of_none e hD)]; exact S15 _ _ e, js ++ [i], by rw [upd_same, List.map_append]; rfl, em.put hxs hany⟩
        · obtain ⟨S2, js, eD, em⟩ := I
          rw [List.length_map, hpl] at em
          have hlot : lotD (.tuple [.int n, .tuple (L.map rowP)]) = headT js := by rw [lot_tab n1 n4 hl6, em_told hL em]
          -- told
          refine ⟨D, js, rfl, eD, fun rt H3 S3 et => ?_⟩
          have S13 := S2.trans S3
          have ha3 := S13 _ _ ha1
          have hb3 := S13 _ _ hb1
          -- some
          refine ⟨_, rfl, a, _, _, _, rfl, rfl, SqT.of ha3, atI_nat (j := 0) rfl, _, rfl, a, _, _, _, rfl, rfl, SqT.of ha3, atI_nat (j := 1) rfl, b, rfl, ⟨_, SqT.of hb3⟩, fun D2 hD2 => ?_⟩
          refine lc_tup (K := K) (a := b) (xs := ps.map V.ref) (fun i H' => Same H3 H' ∧ ∃ ps', H' D2 = some (.lst (ps'.map V.ref)) ∧ Paired (RowAt u d H) ps' ((L.take i).filter someF)) ⟨Same.fresh (Same.refl _) hD2, [], upd_same, .nil⟩ (fun i H' _ I => SqT.of (I.1 _ _ hb3)) (fun i x H4 hi I => ?_) (fun H4 I => ?_)
          · obtain ⟨S4, ps', eD2, pp⟩ := I
            obtain ⟨p, hpi, rfl⟩ := map_at hi
            obtain ⟨xs, hxs, r1, r2, r3⟩ := paired_at hp hpi
            have hi2 := (List.getElem?_eq_some_iff.mp hxs).1
            refine ⟨rfl, ?_⟩
            refine ⟨_, rfl, fun c0 hc0 => ?_⟩
            have S45 : Same H4 (upd H4 c0 (.tup [V.non])) := Same.fresh (Same.refl _) hc0
            refine ⟨_, rfl, a, _, _, _, rfl, rfl, SqT.of (S45 _ _ (S4 _ _ ha3)), atI_nat (j := 0) rfl, n, rfl, n1, by omega, upd_same, fun c H6 S6 ec => ?_⟩
            have S46 := S45.trans S6
            have S36 := S4.trans S46
            have eD6 := S46 _ _ eD2
            obtain ⟨q1, q2, q3⟩ := nonesq (List.mem_of_getElem? hxs) ec (S36 _ _ (S13 _ _ (S1 _ _ r3)))
            refine ⟨_, _, q1, q2, shapedT _, shapedT _, _, rfl, ?_⟩
            rw [q3, Bool.not_not]
            have hpl' := pp.length
            have hle : ((L.take i).filter someF).length ≤ 6 := Nat.le_trans (List.length_filter_le _ _) (by rw [List.length_take]; omega)
            cases hany : xs.any Option.isSome with
            | true =>
              refine iteT ⟨_, rfl, _, eD6, small1000 (by rw [List.length_map]; omega), fun b' o e => by rw [upd_ne (ne_of_none e hD2)]; exact S36 _ _ e, ps' ++ [p], by rw [upd_same, List.map_append]; rfl, ?_⟩
              rw [take_one hxs, List.filter_append, List.filter_cons_of_pos (show someF xs = true from hany)]
              exact paired_snoc ⟨r1, r2, r3⟩ pp
            | false =>
              refine iteF ⟨S36, ps', eD6, ?_⟩
              rw [take_one hxs, List.filter_append, List.filter_cons_of_neg (by show ¬ (xs.any Option.isSome = true); rw [hany]; exact Bool.false_ne_true), List.filter_nil, List.append_nil]
              exact pp
          · obtain ⟨S4, ps', eD2, pp⟩ := I
            rw [List.length_map, hpl, List.take_length] at pp
            have hlf := lot_fine n1 n4 hl6 hL
            obtain ⟨L', hL'⟩ : ∃ L', L' = L.filter someF := ⟨_, rfl⟩
            rw [← hL'] at pp hlf
            have hl6' : L'.length ≤ 6 := by rw [hL']; exact Nat.le_trans (List.length_filter_le _ _) hl6
            have hLL : ∀ xs ∈ L', (xs.length : Int) = n ∧ Bo xs := fun xs hx => by rw [hL'] at hx; exact hL xs (List.mem_filter.mp hx).1
            have hpl' := pp.length
            refine ⟨D2, _, rfl, .inl ⟨SqL.of eD2, fun t ht => ⟨(by show 2 ≤ sizeLine; decide), fun sm hsm => ?_⟩⟩⟩
            have S14 := S13.trans S4
            have S05 : Same H (upd H4 t (.tup (ps'.map V.ref))) := Same.fresh (S1.trans S14) ht
            have et5 : upd H4 t (.tup (ps'.map V.ref)) t = some (.tup (ps'.map V.ref)) := upd_same
            have S35 : Same H3 (upd H4 t (.tup (ps'.map V.ref))) := Same.fresh S4 ht
            have ntu : t ≠ u := ne_fresh (same_ne (S1.trans S14) nu) ht
            have ntd : t ≠ d := ne_fresh (same_ne (S1.trans S14) nd) ht
            generalize upd H4 t (.tup (ps'.map V.ref)) = H5 at S05 S35 et5 hsm
            have S56 : Same H5 (upd H5 sm (.tup [.int n, .ref t])) := Same.fresh (Same.refl _) hsm
            have es6 : upd H5 sm (.tup [.int n, .ref t]) sm = some (.tup [.int n, .ref t]) := upd_same
            have nsu : sm ≠ u := ne_fresh (same_ne S05 nu) hsm
            have nsd : sm ≠ d := ne_fresh (same_ne S05 nd) hsm
            generalize upd H5 sm (.tup [.int n, .ref t]) = H6 at S56 es6
            have S06 := S05.trans S56
            have et6 := S56 _ _ et5
            have e6t : ErrAt H6 rt (headT js) := et.same (S35.trans S56)
            have dv : ∀ {H'}, Same H H' → DX u d H' (.ref a) (.tuple [.int n, .tuple (L.map rowP)]) := fun S => .tup au ad (S _ _ ha) (.cons (.int n) (.cons (.tup bu bd (S _ _ hb) (hy.same S)) .nil))
            have dsm : ∀ {H'}, Same H6 H' → DX u d H' (.ref sm) (.tuple [.int n, .tuple (L'.map rowP)]) := fun S => .tup nsu nsd (S _ _ es6) (.cons (.int n) (.cons (.tup ntu ntd (S _ _ et6) (at_lines (paired_same (S06.trans S) pp))) .nil))
            -- lot_error
            refine ⟨_, rfl, _, u, d, _, rfl, dv S06, hs, fun H7 r7 S7 e7 => ?_⟩
            refine ⟨_, rfl, _, u, d, _, rfl, dsm S7, sm_lot n1 n4 hl6' hLL, fun H8 r8 S8 e8 => ⟨(by show 2 ≤ sizeLine; decide), fun l hl => ?_⟩⟩
            rw [hlot] at e7
            rw [hlf] at e8
            have S8l : Same H8 (upd H8 l (.lst [r7, r8])) := Same.fresh (Same.refl _) hl
            have S69 := S7.trans (S8.trans S8l)
            have res : ∀ x ∈ [errD (headT js), errD none], RE x := fun x hx => by
              simp only [List.mem_cons, List.not_mem_nil, or_false] at hx
              rcases hx with rfl | rfl
              · rw [← hlot]; exact re_lot _
              · exact re_non
            have e7' := e7.same (S8.trans S8l)
            have e8' := e8.same S8l
            have el : upd H8 l (.lst [r7, r8]) l = some (.lst [r7, r8]) := upd_same
            generalize upd H8 l (.lst [r7, r8]) = H9 at S69 e7' e8' el
            simp only [tNil]
            refine repr_go el (.cons e7'.dp (.cons e8'.dp .nil)) res (by show 2 ≤ 10; decide) ?_
            refine ⟨_, rfl, (by show 2 ≤ sizeLine; decide), fun l2 hl2 => ?_⟩
            have S9m : Same H9 (upd H9 l2 (.lst [rt, .non])) := Same.fresh (Same.refl _) hl2
            have el2 : upd H9 l2 (.lst [rt, .non]) l2 = some (.lst [rt, .non]) := upd_same
            generalize upd H9 l2 (.lst [rt, .non]) = Hm at S9m el2
            have S6m := S69.trans S9m
            simp only [tNil]
            refine repr_go el2 (.cons (e6t.same S6m).dp (.cons .non .nil)) res (by show 2 ≤ 10; decide) ?_
            refine ⟨rfl, _, rfl, eqn ?_⟩
            have S0m := S06.trans S6m
            have esm := S6m _ _ es6
            have etm := S6m _ _ et6
            -- words
            refine ⟨_, rfl, sm, _, _, _, rfl, rfl, SqT.of esm, atI_nat (j := 1) rfl, t, rfl, ⟨_, SqT.of etm⟩, fun D3 hD3 => ?_⟩
            refine lc_tup (K := K) (a := t) (xs := ps'.map V.ref) (LcI Hm D3 fun i => ((L'.take i).map rowT).map V.str) (lcI_start hD3 rfl) (fun i H' _ I => SqT.of (I.1 _ _ etm)) (fun i x Hn hi I => ?_) (fun Hn I => ?_)
            · obtain ⟨p, hpi, rfl⟩ := map_at hi
              obtain ⟨xs, hxs, r1, r2, r3⟩ := paired_at pp hpi
              have hm := hLL xs (List.mem_of_getElem? hxs)
              have hi2 := (List.getElem?_eq_some_iff.mp hxs).1
              refine ⟨rfl, yes_ ?_⟩
              refine ⟨_, _, _, _, _, _, _, _, _, p, xs, rfl, I.1 _ _ (S0m _ _ r3), by omega, hm.2, fun Ho So => ?_⟩
              have I2 := I.go So
              refine ⟨_, I2.2, small1000 (by rw [List.length_map, List.length_map, List.length_take]; omega), I2.put hD3 ?_⟩
              show List.map V.str ((L'.take (i + 1)).map rowT) = _
              rw [take_map _ hxs, List.map_append]
              rfl
            · have eW : Hn D3 = some (.lst ((L'.map rowT).map V.str)) := I.fin (by show List.map V.str ((L'.take _).map rowT) = _; rw [List.length_map, hpl', List.take_length])
              have Smn := I.1
              have S0n := S0m.trans Smn
              have pl : Paired (fun p xs => Hn p = some (.tup (xs.map nv)) ∧ xs.length ≤ 4 ∧ Bo xs) ps' L' := by
                have : ∀ {as : List Addr} {M : List (List (Option Int))}, Paired (RowAt u d H) as M → (∀ xs ∈ M, (xs.length : Int) = n ∧ Bo xs) → Paired (fun p xs => Hn p = some (.tup (xs.map nv)) ∧ xs.length ≤ 4 ∧ Bo xs) as M := fun {as M} h => by
                  induction h with
                  | nil => intro _; exact .nil
                  | cons hh tt ih =>
                    intro hM
                    have h1 := hM _ (List.mem_cons_self ..)
                    exact .cons ⟨S0n _ _ hh.2.2, by omega, h1.2⟩ (ih fun xs hx => hM xs (List.mem_cons_of_mem _ hx))
                exact this pp hLL
              refine ⟨_, rfl, sm, t, n, ps', L', rfl, Smn _ _ esm, Smn _ _ etm, n_bits n1 n4, hl6', pl, fun Hp Sp => ?_⟩
              have S0p := S0n.trans Sp
              refine ⟨⟨_, rfl⟩, _, rfl, a, _, _, _, rfl, rfl, SqT.of (S0p _ _ ha), atI_nat (j := 0) rfl, n, rfl, n_bits n1 n4, (by show 1 ≤ sizeLine; decide), fun l3 hl3 => ?_⟩
              have Spq : Same Hp (upd Hp l3 (.lst [.str (toString n)])) := Same.fresh (Same.refl _) hl3
              have el3 : upd Hp l3 (.lst [.str (toString n)]) l3 = some (.lst [.str (toString n)]) := upd_same
              generalize upd Hp l3 (.lst [.str (toString n)]) = Hq at Spq el3
              have eW2 := Spq _ _ (Sp _ _ eW)
              refine ⟨_, rfl, l3, D3, _, _, rfl, rfl, el3, eW2, ?_, fun rr hrr => ?_⟩
              · rw [List.length_map, List.length_map]
                exact Nat.le_of_lt (small1000 (by show 1 + L'.length ≤ 1000; omega))
              refine ⟨_, rr, toString n :: L'.map rowT, rfl, rfl, .inl (SqL.of (by rw [upd_same]; rfl)), ?_, ⟨rfl, _, rfl, eqn (k1 _ _ rfl rfl (Same.fresh (S0p.trans Spq) hrr))⟩⟩
              have h1 : ∀ y ∈ L'.map rowT, y.length ≤ 8000 := fun y hy => by
                obtain ⟨xs, hxs, rfl⟩ := List.mem_map.mp hy
                have := hLL xs hxs
                exact rowT_len this.2 (by omega)
              have h2 := sum_le h1
              have h3 := int_text_length_le (k := 1920) (by decide) (n_bits n1 n4)
              have e : ("\n" : Str).length = 1 := by decide +kernel
              have e3 : ((toString n : String) : Str).length ≤ 1921 := by
                show (Str.ofString (toString n)).length ≤ 1921
                rw [ofString_length]
                exact h3
              rw [e]
              simp only [List.map_cons, List.sum_cons, List.length_cons, List.length_map] at h2 ⊢
              omega
    refine ⟨_, rfl, v, u, d, q, rfl, hd, hs.sh, hs.len, Nat.le_trans hs.dp (by decide), ?_⟩
    refine ⟨_, rfl, v, u, d, q, rfl, hd, hs, fun H1 r1 S1 e1 => ⟨_, _, rfl, ?_⟩⟩
    refine ⟨_, rfl, v, u, d, q, rfl, hd.same S1, hs, fun H2 r2 S2 e2 => ?_⟩
    have S02 := S1.trans S2
    refine ⟨_, rfl, v, u, d, q, rfl, hd.same S02, hs, fun H3 r3 S3 e3 => ?_⟩
    have S03 := S02.trans S3
    refine ⟨_, rfl, v, u, d, q, rfl, hd.same S03, hs, fun H4 r4 S4 e4 => ⟨(by show 3 ≤ sizeLine; decide), fun l hl => ?_⟩⟩
    have res : ∀ x ∈ [errD (tabD q), errD (tabD q), errD (tabD q)], RE x := fun x hx => by
      simp only [List.mem_cons, List.not_mem_nil, or_false] at hx
      rcases hx with rfl | rfl | rfl <;> exact re_tab q
    have S45 : Same H4 (upd H4 l (.lst [r2, r3, r4])) := Same.fresh (Same.refl _) hl
    have el : upd H4 l (.lst [r2, r3, r4]) l = some (.lst [r2, r3, r4]) := upd_same
    generalize upd H4 l (.lst [r2, r3, r4]) = H5 at S45 el
    simp only [tNil]
    refine repr_go el (.cons (e2.same (S3.trans (S4.trans S45))).dp (.cons (e3.same (S4.trans S45)).dp (.cons (e4.same S45).dp .nil))) res (by show 3 ≤ 10; decide) ?_
    refine ⟨_, rfl, _, rfl, _, rfl, (by show 3 ≤ sizeLine; decide), fun l2 hl2 => ?_⟩
    have S56 : Same H5 (upd H5 l2 (.lst [r1, r1, r1])) := Same.fresh (Same.refl _) hl2
    have el2 : upd H5 l2 (.lst [r1, r1, r1]) l2 = some (.lst [r1, r1, r1]) := upd_same
    generalize upd H5 l2 (.lst [r1, r1, r1]) = H6 at S56 el2
    have S06 := S03.trans (S4.trans (S45.trans S56))
    have e16 := e1.same (S2.trans (S3.trans (S4.trans (S45.trans S56))))
    simp only [tNil]
    refine repr_go el2 (.cons e16.dp (.cons e16.dp (.cons e16.dp .nil))) res (by show 3 ≤ 10; decide) ?_
    refine ⟨rfl, _, rfl, eqn ?_⟩
    refine ⟨r1, rfl, S06, e16, fun σ' H' s0 s1 S' => ?_⟩
    exact ⟨_, s0, v, u, d, q, rfl, hd.same S', hs.sh, hs.len, Nat.le_trans hs.dp (by decide), _, s1, rfl, eqs (k H' S')⟩
end
end K2

namespace K2
open PySem L2 RW RZ PySem.RW
theorem cut_loY {u d : Addr} {H : Hp} {xs : List V} {qs : List PyData} {j : Nat} (hx : DXs u d H xs qs) : DXs u d H (cutV xs none (some (j : Int))) (qs.take j) := by
  have e : cutV xs none (some (j : Int)) = xs.take j := by
    unfold cutV
    rw [HT.sIx_none, HT.sIx_nat, List.drop_zero, Nat.sub_zero]
    by_cases h : j ≤ xs.length
    · rw [Nat.min_eq_left h]
    · rw [Nat.min_eq_right (by omega), List.take_length, List.take_of_length_le (by omega)]
  rw [e]
  exact hx.take j
theorem paired_off {u d : Addr} {H H' : Hp} (O : Off u d H H') : ∀ {ps : List Addr} {L : List (List (Option Int))}, Paired (RowAt u d H) ps L → Paired (RowAt u d H') ps L
  | _, _, .nil => .nil
  | _, _, .cons h t => .cons ⟨h.1, h.2.1, O _ _ h.1 h.2.1 h.2.2⟩ (paired_off O t)
theorem paired_put {u d D : Addr} {H : Hp} {vs ws : List V} (hD : H D = some (.lst vs)) : ∀ {ps : List Addr} {L : List (List (Option Int))}, Paired (RowAt u d H) ps L → Paired (RowAt u d (upd H D (.lst ws))) ps L
  | _, _, .nil => .nil
  | _, _, .cons h t => .cons ⟨h.1, h.2.1, by rw [upd_ne (ne_of h.2.2 hD (by intro z; cases z))]; exact h.2.2⟩ (paired_put hD t)
def LnI (n : Int) (H0 : Hp) (u d m D : Addr) : Nat → Hp → Prop := fun i H => UrnAt H u d m ∧ Off u d H0 H ∧ ∃ (ps : List Addr) (L : List (List (Option Int))), L.length = i ∧ Paired (RowAt u d H) ps L ∧ (∀ xs ∈ L, (xs.length : Int) = n ∧ Bo xs) ∧ H D = some (.lst (ps.map V.ref))
theorem sm_sb {b t : Nat} {q : PyData} (h : Sb b t q) (hb : b ≤ 2000000) (ht : t ≤ 20) : Sm q := ⟨h.sh, Nat.le_trans h.sz hb, Nat.le_trans h.dp ht⟩
theorem bo_non (n : Nat) : Bo (List.replicate n none) := Bo.none n
theorem walk_zipT {K : PySem.W.Frag} {a b : Addr} {xs ys : List V} {n : Nat} (hn : n = min xs.length ys.length) : Walk (ItzT K a b) n (fun H => SqT K H a xs ∧ SqT K H b ys) (YPair (fun i => xs[i]?) (fun i => ys[i]?)) := by
  subst hn
  refine ⟨fun i _ hi q => ?_, fun _ q => ⟨xs, ys, q.1, q.2, by omega⟩, fun i H v H' _ q y => ?_⟩
  · have h1 : i < xs.length := by omega
    have h2 : i < ys.length := by omega
    exact ⟨xs, ys, xs[i], ys[i], q.1, q.2, by simp [h1], by simp [h2]⟩
  · obtain ⟨T, x, z, h1, h2, h3, h4, h5⟩ := y
    exact ⟨T, x, z, h1, h2, h3, h4 xs q.1, h5 ys q.2⟩
theorem sm_pair (k : Int) (h : 0 ≤ k) (h2 : k ≤ 5) : Sm (.tuple [.int k, .tuple []]) := by
  have : k = 0 ∨ k = 1 ∨ k = 2 ∨ k = 3 ∨ k = 4 ∨ k = 5 := by omega
  refine ⟨?_, by simp only [sz, szs]; omega, by simp only [PyData.depth, PyData.depthAll]; omega⟩
  rcases this with rfl | rfl | rfl | rfl | rfl | rfl <;> decide +kernel
def spLaw (K : PySem.W.Frag) : Sp := fun vs H Q _ => ∃ (a : Addr) (ns : List Int), vs = [.ref a] ∧ SqL K H a (ns.map V.int) ∧ ∀ H', Q (.bl true) H'
section
variable {P : Program} {w : World} {K : PySem.W.Frag} {mg : Str → Option Value} {base : Heap}
abbrev NLw : List Str := ["script", "urn", "turn", "wide", "lines", "k", "thing", "odd", "own", "flat", "other"]
theorem scLaw : FnScope NLw ["script"] (defScope sLaw) := ⟨rfl, rfl, rfl, by decide +kernel, rfl, by decide +kernel, by decide +kernel⟩
theorem ok_law {f : Addr} {fd : FuncData} (F : Fun K "law" "law" sLaw f fd) (B : Bl mg) (St : StatAt base)
    (Curn : Cal P w K mg base "_law_urn" 1 ["script"] (spUrn K)) (Ctake : Cal P w K mg base "_law_take" 1 ["urn", "size"] spTake) (Cone : Cal P w K mg base "_law_one" 2 ["urn", "items"] spOne)
    (Cside : Cal P w K mg base "_law_side" 4 ["urn", "wide"] spSide) (Csp : Cal P w K mg base "_law_spoilt" 4 ["urn", "wide", "lines"] spSpoilt) (Cal_ : Cal P w K mg base "_law_alone" 3 ["urn"] spAlone)
    (Codd : Cal P w K mg base "_law_odd_side" 3 ["urn", "line"] spOdd) (Cmk : Cal P w K mg base "_law_mark" 3 ["urn"] spMark) (Cte : Cal P w K mg base "table_error" 6 ["value"] (spErr tabD))
    {fa fb : Addr} {da db : FuncData}
    (Ga : FnG P w K mg base 7 fa da ["thing"] spRight) (ma : mg "_law_is_right" = some (.ref fa)) (ka : PySem.W.keepIn K (.ref fa) = true) (ba : Binds K da ["thing"] [])
    (Gb : FnG P w K mg base 5 fb db ["wide", "thing"] spTold) (mb : mg "_law_is_told" = some (.ref fb)) (kb : PySem.W.keepIn K (.ref fb) = true) (bb : Binds K db ["wide", "thing"] []) :
    FnG P w K mg base 8 f fd ["script"] (spLaw K) := by
  obtain ⟨f1, fd1, G1, m1, k1, b1⟩ := Curn.ex
  obtain ⟨f2, fd2, G2, m2, k2, b2⟩ := Ctake.ex
  obtain ⟨f3, fd3, G3, m3, k3, b3⟩ := Cone.ex
  obtain ⟨f4, fd4, G4, m4, k4, b4⟩ := Cside.ex
  obtain ⟨f5, fd5, G5, m5, k5, b5⟩ := Csp.ex
  obtain ⟨f6, fd6, G6, m6, k6, b6⟩ := Cal_.ex
  obtain ⟨f7, fd7, G7, m7, k7, b7⟩ := Codd.ex
  obtain ⟨f8, fd8, G8, m8, k8, b8⟩ := Cmk.ex
  obtain ⟨f9, fd9, G9, m9, k9, b9⟩ := Cte.ex
  refine fnG_of F scLaw (fun vs H Q E h => ?_) (fun cdv A outer s H vs Q E hG hr h => ?_)
  · obtain ⟨a, ns, rfl, _⟩ := h
    rfl
  · obtain ⟨a, ns, rfl, hS, k⟩ := h
    have hr1 : Room 1 _ := hr.mono (by decide)
    have hr2 : Room 2 _ := hr.mono (by decide)
    have hr3 : Room 3 _ := hr.mono (by decide)
    have hr4 : Room 4 _ := hr.mono (by decide)
    have hr5 : Room 5 _ := hr.mono (by decide)
    have hr6 : Room 6 _ := hr.mono (by decide)
    have hu : (A.deeper (PyProof.Rows.envOfC "law" (defScope sLaw) s.heap.objs.size f cdv)).units + 64 < cLine := by have := hr.un; omega
    refine ⟨_, pss_cons (ps_set (i := 1) scLaw.nd rfl (Or.inr rfl) (pe_call G1 hr1 rfl m1 k1 b1 .nil pass0 (pa_cons (pv 0) pa_nil))) (pss_cons (ps_for PassesOwn.never rfl (pi_range1 rfl B.range (pa_cons pe_int pa_nil)) (pg_name (i := 2) scLaw.nd rfl (Or.inl rfl)) (pss_cons (ps_set (i := 3) scLaw.nd rfl (Or.inr rfl) (pe_op op_add pe_int (pe_call G2 hr1 rfl m2 k2 b2 .nil pass0 (pa_cons (pv 1) (pa_cons pe_int pa_nil))))) (pss_cons (ps_set (i := 4) scLaw.nd rfl (Or.inl rfl) (pe_callTy call_tuple_of (by rfl) B.tuple (by decide +kernel) (pa_cons (pe_lc (own := [("k", 5)]) (g := gName 5) rfl scLaw.nd (pi_range1 rfl B.range (pa_cons (pe_call G3 hr2 rfl m3 k3 b3 .nil pass0 (pa_cons (pv 1) (pa_cons (pe_lst (pa_cons pe_int (pa_cons pe_int (pa_cons pe_int (pa_cons pe_int (pa_cons pe_int (pa_cons pe_int (pa_cons pe_int pa_nil)))))))) pa_nil))) pa_nil)) (blkOk_by (N := NLw) (sc := defScope sLaw) (by decide +kernel)) (fun _ _ _ _ _ => pg_name (i := 5) scLaw.nd rfl (Or.inl rfl)) (fun _ _ _ _ _ => pts_nil) (fun _ _ _ _ _ => pe_call G4 hr4 rfl m4 k4 b4 .nil pass0 (pa_cons (pv 1) (pa_cons (pv 3) pa_nil)))) pa_nil))) (pss_cons (ps_set (i := 6) scLaw.nd rfl (Or.inl rfl) (pe_call G5 hr4 rfl m5 k5 b5 .nil pass0 (pa_cons (pv 1) (pa_cons (pv 3) (pa_cons (pv 4) pa_nil))))) (pss_cons (ps_if (PW.pt (pw_or (pt_not (pt_val (pe_callG (E := E0) Ga hG hr rfl ma ka ba (pa_cons (pe_tup (pa_cons (pv 3) (pa_cons (pv 4) pa_nil))) pa_nil)))) (pw_or (pt_not (pt_val (pe_callG (E := E0) Ga hG hr rfl ma ka ba (pa_cons (pv 6) pa_nil)))) (pw_or1 (pt_not (pt_val (pe_callG (E := E0) Ga hG hr rfl ma ka ba (pa_cons (pe_call G6 hr3 rfl m6 k6 b6 .nil pass0 (pa_cons (pv 1) pa_nil)) pa_nil)))))))) (pss_one (ps_ret pe_bl)) pss_nil) (pss_cons (ps_set (i := 7) scLaw.nd rfl (Or.inl rfl) (pe_call G7 hr3 rfl m7 k7 b7 .nil pass0 (pa_cons (pv 1) (pa_cons (pe_call G4 hr4 rfl m4 k4 b4 .nil pass0 (pa_cons (pv 1) (pa_cons (pv 3) pa_nil))) pa_nil)))) (pss_one (ps_for PassesOwn.never rfl (pi_list (pe_op op_cat (pe_callTy call_list_of (by rfl) B.list_ (by decide +kernel) (pa_cons (pe_slice sl_tupA (pv 4) po_none (po_some pe_int)) pa_nil)) (pe_lst (pa_cons (pv 7) (pa_cons (pe_call G6 hr3 rfl m6 k6 b6 .nil pass0 (pa_cons (pv 1) pa_nil)) (pa_cons (pe_nones (pv 3)) pa_nil)))))) (pg_name (i := 8) scLaw.nd rfl (Or.inl rfl)) (pss_one (ps_if (PW.pt (pw_or (pt_not (pt_val (pe_callG (E := E0) Gb hG hr5 rfl mb kb bb (pa_cons (pv 3) (pa_cons (pv 8) pa_nil))))) (pw_or1 (pt_not (pt_val (pe_callG (E := E0) Gb hG hr5 rfl mb kb bb (pa_cons (pe_op op_add pe_int (pe_call G2 hr1 rfl m2 k2 b2 .nil pass0 (pa_cons (pv 1) (pa_cons pe_int pa_nil)))) (pa_cons (pv 8) pa_nil)))))))) (pss_one (ps_ret pe_bl)) pss_nil)))))))))) (pss_cons (ps_asg (pe_call G8 hr3 rfl m8 k8 b8 .nil pass0 (pa_cons (pv 1) pa_nil)) (pg_lst rfl (pgs_cons (pg_name (i := 9) scLaw.nd rfl (Or.inl rfl)) (pgs_cons (pg_name (i := 7) scLaw.nd rfl (Or.inl rfl)) pgs_nil)))) (pss_cons (ps_for PassesOwn.never rfl (pi_tup (pe_tup (pa_cons (pv 9) (pa_cons (pv 7) (pa_cons (pv 9) pa_nil))))) (pg_name (i := 8) scLaw.nd rfl (Or.inl rfl)) (pss_one (ps_if (pt_not (pt_val (pe_callG (E := E0) Ga hG hr rfl ma ka ba (pa_cons (pv 8) pa_nil)))) (pss_one (ps_ret pe_bl)) pss_nil))) (pss_cons (ps_for PassesOwn.never rfl (pi_zipA (by rfl) B.zip (pa_cons (pe_ix ix_tup (pv 9) pe_int (fun _ _ => rfl)) (pa_cons (pe_ix ix_tup (pv 7) pe_int (fun _ _ => rfl)) pa_nil))) (pg_tup rfl (pgs_cons (pg_name (i := 8) scLaw.nd rfl (Or.inl rfl)) (pgs_cons (pg_name (i := 10) scLaw.nd rfl (Or.inl rfl)) pgs_nil))) (pss_one (ps_if (PW.pt (pw_or (pt_not (pt_val (pe_callG (E := E0) Gb hG hr5 rfl mb kb bb (pa_cons (pe_ix ix_tup (pv 9) pe_int (fun _ _ => rfl)) (pa_cons (pv 8) pa_nil))))) (pw_or (pt_not (pt_val (pe_callG (E := E0) Gb hG hr5 rfl mb kb bb (pa_cons (pe_ix ix_tup (pv 9) pe_int (fun _ _ => rfl)) (pa_cons (pv 10) pa_nil))))) (pw_or1 (pt_not (pt_val (pe_callG (E := E0) Gb hG hr5 rfl mb kb bb (pa_cons (pe_ix ix_tup (pv 9) pe_int (fun _ _ => rfl)) (pa_cons (pv 8) pa_nil))))))))) (pss_one (ps_ret pe_bl)) pss_nil))) (pss_one (ps_ret (pe_cmpR op_eq (pe_callB (call_reprW hG hu St) (by rfl) B.repr (by decide +kernel) (pa_cons (pe_lst (pa_cons (pe_call G9 hr6 rfl m9 k9 b9 .nil pass0 (pa_cons (pe_tup (pa_cons pe_int (pa_cons (pe_tup pa_nil) pa_nil))) pa_nil)) (pa_cons (pe_call G9 hr6 rfl m9 k9 b9 .nil pass0 (pa_cons (pe_tup (pa_cons pe_int (pa_cons (pe_tup pa_nil) pa_nil))) pa_nil)) (pa_cons (pe_call G9 hr6 rfl m9 k9 b9 .nil pass0 (pa_cons (pe_tup (pa_cons pe_int (pa_cons (pe_tup pa_nil) pa_nil))) pa_nil)) pa_nil)))) pa_nil)) (pe_callB (call_reprW hG hu St) (by rfl) B.repr (by decide +kernel) (pa_cons (pe_lst (pa_cons (pe_tup (pa_cons pe_non (pa_cons pe_str pa_nil))) (pa_cons pe_non (pa_cons (pe_tup (pa_cons pe_non (pa_cons pe_str pa_nil))) pa_nil)))) pa_nil)) (nomark _)))))))), ?_⟩
    refine ⟨_, rfl, a, ns, rfl, hS, fun H0 u d m S0 U0 => ?_⟩
    refine ⟨7, rfl, by decide, by decide, ?_⟩
    refine for_range (lo := 0) (n := 7) (fun i σ H => ∃ (y2 y3 y4 y5 y6 y7 y8 y9 y10 : Option V), σ = [some (.ref a), some (.ref u), y2, y3, y4, y5, y6, y7, y8, y9, y10] ∧ UrnAt H u d m) ⟨none, none, none, none, none, none, none, none, none, rfl, U0⟩ ?_ ?_
    · rintro i σ H hi ⟨y2, y3, y4, y5, y6, y7, y8, y9, y10, rfl, U⟩
      refine ⟨_, rfl, u, d, m, 4, rfl, by decide, by decide, U, fun H1 r r0 r1 U1 O1 => ⟨_, _, rfl, rfl, ?_⟩⟩
      obtain ⟨n, hn⟩ : ∃ n : Int, n = 1 + r := ⟨_, rfl⟩
      show gName 3 (V.int (1 + r)) _ H1 _
      rw [← hn]
      have n1 : 1 ≤ n := by omega
      have n4 : n ≤ 4 := by omega
      -- lines
      refine ⟨_, rfl, (by show 7 ≤ sizeLine; decide), fun l hl => ?_⟩
      refine ⟨u, d, m, l, _, rfl, upd_same, (U1.nfree hl).1, (U1.nfree hl).2, (by show 0 < 7; decide), (by show 7 < 1000; decide), U1.fresh hl, fun H2 v hv U2 O2 => ?_⟩
      obtain ⟨cnt, rfl, c0, c6⟩ : ∃ cnt : Int, v = .int cnt ∧ 0 ≤ cnt ∧ cnt ≤ 6 := by
        simp only [List.mem_cons, List.not_mem_nil, or_false] at hv
        rcases hv with rfl | rfl | rfl | rfl | rfl | rfl | rfl <;> exact ⟨_, rfl, by decide, by decide⟩
      refine ⟨cnt, rfl, ⟨by omega, by omega, fun D hD => lc_range (LnI n H2 u d m D) ?_ (fun i H3 hi I => ?_) (fun H3 I => ?_)⟩⟩
      · exact ⟨U2.fresh hD, Off.fresh (Off.refl H2) hD, [], [], rfl, .nil, (fun x hx => by cases hx), upd_same⟩
      · obtain ⟨U3, O3, ps, L, hLl, pp, hL, eD⟩ := I
        have nu := (U2.nfree hD).1
        have nd := (U2.nfree hD).2
        have nm := U2.nfreeM hD
        refine ⟨rfl, yes_ ?_⟩
        refine ⟨_, rfl, _, rfl, u, d, m, n, rfl, n1, n4, U3, fun H4 p xs hxl hxb U4 O4 ep => ?_⟩
        have eD4 := O4 _ _ nu nd eD
        obtain ⟨npu, npd⟩ := tup_ne U4 ep
        have pl := pp.length
        refine ⟨_, eD4, small1000 (by rw [List.length_map]; omega), U4.put nu nd nm, Off.put (O3.trans O4) hD, ps ++ [p], L ++ [xs], by simp [hLl], paired_put eD4 (paired_snoc ⟨npu, npd, ep⟩ (paired_off O4 pp)), fun ys hy => ?_, by rw [upd_same, List.map_append]; rfl⟩
        rcases List.mem_append.mp hy with h1 | h1
        · exact hL ys h1
        · rw [List.mem_singleton.mp h1]; exact ⟨hxl, hxb⟩
      · obtain ⟨U3, O3, ps, L, hLl, pp, hL, eD⟩ := I
        have hl6 : L.length ≤ 6 := by omega
        refine ⟨D, _, rfl, .inl ⟨SqL.of eD, fun p hp => ?_⟩⟩
        have S34 : Same H3 (upd H3 p (.tup (ps.map V.ref))) := Same.fresh (Same.refl _) hp
        have ep : upd H3 p (.tup (ps.map V.ref)) p = some (.tup (ps.map V.ref)) := upd_same
        generalize upd H3 p (.tup (ps.map V.ref)) = H4 at S34 ep
        have U4 := U3.same S34
        have pp4 := paired_same S34 pp
        obtain ⟨npu, npd⟩ := tup_ne U4 ep
        have hrow : ∀ q ∈ L.map rowP, Sb 8030 1 q := fun q hq => by
          obtain ⟨xs, hx, rfl⟩ := List.mem_map.mp hq
          exact sb_row n4 (hL xs hx).1 (hL xs hx).2
        have dl : ∀ {H}, Off u d H4 H → DX u d H (.ref p) (.tuple (L.map rowP)) := fun O => .tup npu npd (O _ _ npu npd ep) (at_lines (paired_off O pp4))
        -- thing
        refine ⟨_, rfl, _, rfl, _, rfl, u, d, m, p, n, _, L.map rowP, rfl, n1, n4, U4, ep, at_lines pp4, by rw [List.length_map]; exact hl6, hrow, fun H5 vt qt dt st U5 O5 => ?_⟩
        -- right
        refine ⟨_, rfl, _, rfl, (by show 2 ≤ sizeLine; decide), fun w1 hw1 => ?_⟩
        have S56 : Same H5 (upd H5 w1 (.tup [.int n, .ref p])) := Same.fresh (Same.refl _) hw1
        have dw : DX u d (upd H5 w1 (.tup [.int n, .ref p])) (.ref w1) (.tuple [.int n, .tuple (L.map rowP)]) := .tup (ne_fresh U5.ne0.1 hw1) (ne_fresh U5.ne0.2 hw1) upd_same (.cons (.int n) (.cons (dl (O5.trans (Same.off S56))) .nil))
        generalize upd H5 w1 (.tup [.int n, .ref p]) = H6 at S56 dw
        have U6 := U5.same S56
        refine ⟨_, u, d, _, rfl, U6.ne0.1, U6.ne0.2, dw, sm_lot n1 n4 hl6 hL, fun H7 S7 => ⟨_, rfl, iteF ?_⟩⟩
        have U7 := U6.same S7
        refine ⟨_, rfl, vt, u, d, qt, rfl, U7.ne0.1, U7.ne0.2, dt.same (S56.trans S7), st, fun H8 S8 => ⟨_, rfl, iteF ?_⟩⟩
        have U8 := U7.same S8
        refine ⟨_, rfl, u, d, m, rfl, U8, fun H9 va qa da sa U9 O9 => ?_⟩
        refine ⟨va, u, d, qa, rfl, U9.ne0.1, U9.ne0.2, da, sa, fun H10 S10 => ⟨_, rfl, iteF ?_⟩⟩
        have U10 := U9.same S10
        have O4_10 := O5.trans ((Same.off (S56.trans (S7.trans S8))).trans (O9.trans (Same.off S10)))
        -- odd
        refine ⟨_, rfl, _, rfl, _, rfl, u, d, m, n, rfl, n1, n4, U10, fun H11 p11 xs11 hl11 hb11 U11 O11 e11 => ?_⟩
        have sb11 := sb_row n4 hl11 hb11
        refine ⟨u, d, m, p11, _, xs11.map pd, 8030, 1, rfl, U11, e11, dxs_pd xs11, by rw [List.length_map]; omega, by rw [List.length_map]; omega, sb11, fun H12 vo qo do_ so U12 O12 => ?_⟩
        have O4_12 := O4_10.trans (O11.trans O12)
        -- the list
        refine ⟨_, rfl, _, rfl, ?_⟩
        refine sliceX (cut := (L.map rowP).take 2) U12.ne0.1 U12.ne0.2 (dl O4_12) (cut_loY (j := 2)) (whole_lo (j := 2)) fun v13 H13 S13 d13 => ?_
        have U13 := U12.same S13
        cases d13 with
        | @tup p13 ys _ a1 a2 a3 a4 =>
        refine ⟨p13, _, rfl, .inr (SqT.of a3), fun l1 hl1 => ?_⟩
        have S14 : Same H13 (upd H13 l1 (.lst ys)) := Same.fresh (Same.refl _) hl1
        have el1 : upd H13 l1 (.lst ys) l1 = some (.lst ys) := upd_same
        have nl1u := ne_fresh U13.ne0.1 hl1
        have nl1d := ne_fresh U13.ne0.2 hl1
        generalize upd H13 l1 (.lst ys) = H14 at S14 el1
        have U14 := U13.same S14
        have dys := a4.same S14
        refine ⟨_, rfl, _, rfl, u, d, m, rfl, U14, fun H15 vb qb db sb_ U15 O15 => ?_⟩
        refine fun p16 hp16 => ⟨_, rfl, n, rfl, n1, by omega, upd_same, fun c H17 S17 ec => ⟨(by show 3 ≤ sizeLine; decide), fun l2 hl2 => ?_⟩⟩
        have S15_17 : Same H15 H17 := (Same.fresh (Same.refl _) hp16).trans S17
        have U17 := U15.same S15_17
        have S18 : Same H17 (upd H17 l2 (.lst [vo, vb, .ref c])) := Same.fresh (Same.refl _) hl2
        have el2 : upd H17 l2 (.lst [vo, vb, .ref c]) l2 = some (.lst [vo, vb, .ref c]) := upd_same
        generalize upd H17 l2 (.lst [vo, vb, .ref c]) = H18 at S18 el2
        have U18 := U17.same S18
        have O14_18 := O15.trans (Same.off (S15_17.trans S18))
        have el1' := O14_18 _ _ nl1u nl1d el1
        have hyl : ys.length ≤ 2 := by rw [a4.length, List.length_take]; omega
        refine ⟨l1, l2, _, _, rfl, rfl, el1', el2, Nat.le_of_lt (small1000 (by show ys.length + 3 ≤ 1000; omega)), fun lx hlx => ?_⟩
        have S19 : Same H18 (upd H18 lx (.lst (ys ++ [vo, vb, .ref c]))) := Same.fresh (Same.refl _) hlx
        have elx : upd H18 lx (.lst (ys ++ [vo, vb, .ref c])) lx = some (.lst (ys ++ [vo, vb, .ref c])) := upd_same
        have nlu := ne_fresh U18.ne0.1 hlx
        have nld := ne_fresh U18.ne0.2 hlx
        generalize upd H18 lx (.lst (ys ++ [vo, vb, .ref c])) = H19 at S19 elx
        have U19 := U18.same S19
        have O14_19 := O14_18.trans (Same.off S19)
        obtain ⟨ncu, ncd⟩ := tup_ne U17 ec
        rw [rep_non] at ec
        have dnon : DX u d H17 (.ref c) (.tuple ((List.replicate n.toNat none).map pd)) := .tup ncu ncd ec (dxs_pd _)
        have dall : DXs u d H19 (ys ++ [vo, vb, .ref c]) ((L.map rowP).take 2 ++ [qo, qb, .tuple ((List.replicate n.toNat none).map pd)]) :=
          (dys.off O14_19).append (.cons ((do_.off (Same.off (S13.trans S14))).off O14_19) (.cons ((db.off (Same.off (S15_17.trans S18))).same S19) (.cons ((dnon.same S18).same S19) .nil)))
        have hsm : ∀ q ∈ (L.map rowP).take 2 ++ [qo, qb, .tuple ((List.replicate n.toNat none).map pd)], Sm q := fun q hq => by
          rcases List.mem_append.mp hq with h1 | h1
          · exact sm_sb (hrow q (List.mem_of_mem_take h1)) (by decide) (by decide)
          · simp only [List.mem_cons, List.not_mem_nil, or_false] at h1
            rcases h1 with rfl | rfl | rfl
            · exact sm_sb so (by decide) (by decide)
            · exact sb_
            · exact sm_sb (sb_row (xs := List.replicate n.toNat none) n4 (by rw [List.length_replicate]; omega) (Bo.none _)) (by decide) (by decide)
        refine ⟨lx, rfl, ⟨_, SqL.of elx⟩, ?_⟩
        refine for_list (K := K) (a := lx) (xs := ys ++ [vo, vb, .ref c]) (fun i σ H => UrnAt H u d m ∧ Off u d H19 H ∧ ∃ (z2 z4 z5 z6 z7 z8 z9 z10 : Option V), σ = [some (.ref a), some (.ref u), z2, some (.int n), z4, z5, z6, z7, z8, z9, z10]) ⟨U19, Off.refl _, _, _, _, _, _, _, _, _, rfl⟩ (fun i σ H _ I => SqL.of (I.2.1 _ _ nlu nld elx)) (fun i x σ H hx I => ?_) (fun σ H I => ?_)
        · obtain ⟨U20, O20, z2, z4, z5, z6, z7, z8, z9, z10, rfl⟩ := I
          obtain ⟨q, hq, dq⟩ := (dall.off O20).at hx
          have smq := hsm q (List.mem_of_getElem? hq)
          refine ⟨_, rfl, _, rfl, x, u, d, q, n, rfl, n1, n4, dq, smq, fun H21 S21 => ⟨_, rfl, iteF ?_⟩⟩
          have U21 := U20.same S21
          refine ⟨_, rfl, u, d, m, 4, rfl, by decide, by decide, U21, fun H22 y y0 y1 U22 O22 => ⟨_, _, rfl, rfl, ?_⟩⟩
          refine ⟨_, rfl, x, u, d, q, 1 + y, rfl, by omega, by omega, (dq.same S21).off O22, smq, fun H23 S23 => ⟨_, rfl, iteF ?_⟩⟩
          exact ⟨U22.same S23, O20.trans ((Same.off S21).trans (O22.trans (Same.off S23))), _, _, _, _, _, _, _, _, rfl⟩
        · obtain ⟨U20, O20, z2, z4, z5, z6, z7, z8, z9, z10, rfl⟩ := I
          exact ⟨_, _, _, _, _, _, _, _, _, rfl, U20⟩
    · rintro σ H ⟨y2, y3, y4, y5, y6, y7, y8, y9, y10, rfl, U⟩
      refine ⟨_, rfl, u, d, m, rfl, U, fun H1 l fv ov n fs qw os U1 nlu nld el df dov n1 n4 smf smo => ?_⟩
      refine ⟨l, _, rfl, SqL.of el, rfl, _, _, rfl, _, _, rfl, rfl, ?_⟩
      have smX : ∀ x ∈ [fv, ov, fv], ∃ q, DX u d H1 x q ∧ Sm q := fun x hx => by
        simp only [List.mem_cons, List.not_mem_nil, or_false] at hx
        rcases hx with rfl | rfl | rfl
        · exact ⟨_, df, smf⟩
        · exact ⟨_, dov, smo⟩
        · exact ⟨_, df, smf⟩
      refine ⟨_, rfl, _, rfl, _, rfl, (by show 3 ≤ sizeLine; decide), fun p hp => ?_⟩
      have S12 : Same H1 (upd H1 p (.tup [fv, ov, fv])) := Same.fresh (Same.refl _) hp
      have ep : upd H1 p (.tup [fv, ov, fv]) p = some (.tup [fv, ov, fv]) := upd_same
      generalize upd H1 p (.tup [fv, ov, fv]) = H2 at S12 ep
      have U2 := U1.same S12
      refine ⟨p, rfl, ⟨_, SqT.of ep⟩, ?_⟩
      refine for_tup (K := K) (a := p) (xs := [fv, ov, fv]) (fun i σ H => Same H2 H ∧ ∃ (z2 z3 z4 z5 z6 z8 z10 : Option V), σ = [some (.ref a), some (.ref u), z2, z3, z4, z5, z6, some ov, z8, some fv, z10]) ⟨Same.refl _, _, _, _, _, _, _, _, rfl⟩ (fun i σ H _ I => SqT.of (I.1 _ _ ep)) (fun i x σ H hx I => ?_) (fun σ H I => ?_)
      · obtain ⟨S3, z2, z3, z4, z5, z6, z8, z10, rfl⟩ := I
        obtain ⟨q, dq, sq⟩ := smX x (List.mem_of_getElem? hx)
        have U3 := U2.same S3
        exact ⟨_, rfl, x, u, d, q, rfl, U3.ne0.1, U3.ne0.2, (dq.same S12).same S3, sq, fun H' S' => ⟨_, rfl, iteF ⟨S3.trans S', _, _, _, _, _, _, _, rfl⟩⟩⟩
      · obtain ⟨S3, z2, z3, z4, z5, z6, z8, z10, rfl⟩ := I
        have U3 := U2.same S3
        have df3 := (df.same S12).same S3
        have do3 := (dov.same S12).same S3
        cases df3 with
        | @tup pf xs0 _ fu fd_ fe fx =>
        match xs0, fx with
        | [x1, x2], .cons g1 (.cons g2 .nil) =>
        cases g1
        cases g2 with
        | @tup pfs fsV _ fu2 fd2 fe2 fx2 =>
        cases do3 with
        | @tup po ys0 _ ou od oe ox =>
        match ys0, ox with
        | [y1, y2], .cons h1 (.cons h2 .nil) =>
        cases h2 with
        | @tup pos_ osV _ ou2 od2 oe2 ox2 =>
        have smfs := smf.mem (q := .tuple fs) (by simp)
        have smos := smo.mem (q := .tuple os) (by simp)
        refine ⟨_, rfl, pf, _, _, _, rfl, rfl, SqT.of fe, atI_nat (j := 1) rfl, _, rfl, po, _, _, _, rfl, rfl, SqT.of oe, atI_nat (j := 1) rfl, pfs, pos_, fsV, osV, rfl, .inr ⟨SqT.of fe2, SqT.of oe2, ?_⟩⟩
        refine for_it (walk_zipT rfl) (fun i σ H' => Same H H' ∧ ∃ (z2 z3 z4 z5 z6 z8 z10 : Option V), σ = [some (.ref a), some (.ref u), z2, z3, z4, z5, z6, some (.ref po), z8, some (.ref pf), z10]) ⟨Same.refl _, _, _, _, _, _, _, _, rfl⟩ (fun i σ H' _ I => ⟨SqT.of (I.1 _ _ fe2), SqT.of (I.1 _ _ oe2)⟩) (fun i v σ H4 H5 hi I Y => ?_) (fun σ H4 I => ?_)
        · obtain ⟨S4, z2, z3, z4, z5, z6, z8, z10, rfl⟩ := I
          obtain ⟨T, x, y, rfl, hT, rfl, ex, ey⟩ := Y
          obtain ⟨qx, hqx, dx⟩ := fx2.at ex
          obtain ⟨qy, hqy, dy⟩ := ox2.at ey
          have smx := smfs.mem (List.mem_of_getElem? hqx)
          have smy := smos.mem (List.mem_of_getElem? hqy)
          have S5 : Same H (upd H4 T (.tup [x, y])) := Same.fresh S4 hT
          refine ⟨T, _, rfl, SqT.of upd_same, rfl, _, _, rfl, _, _, rfl, rfl, ?_⟩
          generalize upd H4 T (.tup [x, y]) = H5 at S5
          refine ⟨_, rfl, pf, _, _, _, rfl, rfl, SqT.of (S5 _ _ fe), atI_nat (j := 0) rfl, _, rfl, x, u, d, qx, n, rfl, n1, n4, dx.same S5, smx, fun H6 S6 => ⟨_, rfl, iteF ?_⟩⟩
          have S56 := S5.trans S6
          refine ⟨_, rfl, pf, _, _, _, rfl, rfl, SqT.of (S56 _ _ fe), atI_nat (j := 0) rfl, _, rfl, y, u, d, qy, n, rfl, n1, n4, dy.same S56, smy, fun H7 S7 => ⟨_, rfl, iteF ?_⟩⟩
          have S57 := S56.trans S7
          refine ⟨_, rfl, pf, _, _, _, rfl, rfl, SqT.of (S57 _ _ fe), atI_nat (j := 0) rfl, _, rfl, x, u, d, qx, n, rfl, n1, n4, dx.same S57, smx, fun H8 S8 => ⟨_, rfl, iteF ?_⟩⟩
          exact ⟨S57.trans S8, _, _, _, _, _, _, _, rfl⟩
        · obtain ⟨S4, z2, z3, z4, z5, z6, z8, z10, rfl⟩ := I
          have U4 := U3.same S4
          have two : ∀ {H H' : Hp} {p q : Addr} {j : Int}, Same H4 H → H p = none → upd H p (.tup []) q = none → DX u d (upd (upd H p (.tup [])) q (.tup [.int j, .ref p])) (.ref q) (.tuple [.int j, .tuple []]) := fun {H H' p q j} S hp hq => by
            have U := U4.same S
            have S1 : Same (upd H p (.tup [])) (upd (upd H p (.tup [])) q (.tup [.int j, .ref p])) := Same.fresh (Same.refl _) hq
            have Ux := U.fresh (o := .tup []) hp
            exact .tup (ne_fresh Ux.ne0.1 hq) (ne_fresh Ux.ne0.2 hq) upd_same (.cons (.int j) (.cons (.tup (ne_fresh U.ne0.1 hp) (ne_fresh U.ne0.2 hp) (S1 _ _ upd_same) .nil) .nil))
          have t0 : tabD (.tuple [.int 0, .tuple []]) = some (none, ("places" : Str)) := rfl
          have t4 : tabD (.tuple [.int 4, .tuple []]) = none := rfl
          have t5 : tabD (.tuple [.int 5, .tuple []]) = some (none, ("places" : Str)) := rfl
          refine ⟨(by show 0 ≤ sizeLine; decide), fun p1 hp1 => ⟨(by show 2 ≤ sizeLine; decide), fun q1 hq1 => ?_⟩⟩
          refine ⟨_, u, d, _, rfl, two (H' := H4) (Same.refl _) hp1 hq1, sm_pair 0 (by decide) (by decide), fun H6 r1 S6 e1 => ?_⟩
          have S46 : Same H4 H6 := (Same.fresh (Same.fresh (Same.refl _) hp1) hq1).trans S6
          refine ⟨(by show 0 ≤ sizeLine; decide), fun p2 hp2 => ⟨(by show 2 ≤ sizeLine; decide), fun q2 hq2 => ?_⟩⟩
          refine ⟨_, u, d, _, rfl, two (H' := H4) S46 hp2 hq2, sm_pair 4 (by decide) (by decide), fun H7 r2 S7 e2 => ?_⟩
          have S67 : Same H6 H7 := (Same.fresh (Same.fresh (Same.refl _) hp2) hq2).trans S7
          refine ⟨(by show 0 ≤ sizeLine; decide), fun p3 hp3 => ⟨(by show 2 ≤ sizeLine; decide), fun q3 hq3 => ?_⟩⟩
          refine ⟨_, u, d, _, rfl, two (H' := H4) (S46.trans S67) hp3 hq3, sm_pair 5 (by decide) (by decide), fun H8 r3 S8 e3 => ⟨(by show 3 ≤ sizeLine; decide), fun lx hlx => ?_⟩⟩
          have S78 : Same H7 H8 := (Same.fresh (Same.fresh (Same.refl _) hp3) hq3).trans S8
          rw [t0] at e1
          rw [t4] at e2
          rw [t5] at e3
          have S89 : Same H8 (upd H8 lx (.lst [r1, r2, r3])) := Same.fresh (Same.refl _) hlx
          have elx : upd H8 lx (.lst [r1, r2, r3]) lx = some (.lst [r1, r2, r3]) := upd_same
          generalize upd H8 lx (.lst [r1, r2, r3]) = H9 at S89 elx
          have res : ∀ x ∈ [errD (some (none, ("places" : Str))), errD none, errD (some (none, ("places" : Str)))], RE x := fun x hx => by
            simp only [List.mem_cons, List.not_mem_nil, or_false] at hx
            rcases hx with rfl | rfl | rfl
            · exact re_word (by decide +kernel)
            · exact re_non
            · exact re_word (by decide +kernel)
          simp only [tNil]
          refine repr_go elx (.cons (e1.same (S67.trans (S78.trans S89))).dp (.cons (e2.same (S78.trans S89)).dp (.cons (e3.same S89).dp .nil))) res (by show 3 ≤ 10; decide) ?_
          refine ⟨(by show 2 ≤ sizeLine; decide), fun p4 hp4 => ⟨(by show 2 ≤ sizeLine; decide), fun p5 hp5 => ⟨(by show 3 ≤ sizeLine; decide), fun ly hly => ?_⟩⟩⟩
          have S5 : Same (upd H9 p4 (.tup [.non, .str "places"])) (upd (upd H9 p4 (.tup [.non, .str "places"])) p5 (.tup [.non, .str "places"])) := Same.fresh (Same.refl _) hp5
          have S6' := Same.fresh (o := .lst [.ref p4, .non, .ref p5]) (Same.refl _) hly
          simp only [tNil]
          refine repr_go upd_same (.cons (.tup (SqT.of (S6' _ _ (S5 _ _ upd_same))) (.cons .non (.cons (.str _) .nil))) (.cons .non (.cons (.tup (SqT.of (S6' _ _ upd_same)) (.cons .non (.cons (.str _) .nil))) .nil))) res (by show 3 ≤ 10; decide) ?_
          exact ⟨rfl, eqs (k _)⟩
end
end K2

namespace K2
open PySem L2 RW RZ PySem.RW

theorem all_mk {l : PySem.W.OpenLaw} {w : World} {K : PySem.W.Frag} {h : Heap} {mg : Str → Option Value} {fa : Addr} {f_lo f_ta f_ir f_si f_ay f_fo f_wh f_pl f_bo f_io f_ha f_lt f_rt f_nt f_ur f_tk f_on f_nu f_sd f_al f_od f_sp f_ls f_ju f_ri f_to f_mk f_lw : Addr} (X : K.In h) (G : h.Ns mainGlobals mg) (hfa : mg "law" = some (.ref fa))
    {od_lo od_ta od_ir od_si od_ay od_fo od_wh od_pl od_bo od_io od_ha od_lt od_rt od_nt od_ur od_tk od_on od_nu od_sd od_al od_od od_sp od_ls od_ju od_ri od_to od_mk od_lw an_lo an_ta an_ir an_si an_ay an_fo an_wh an_pl an_bo an_io an_ha an_lt an_rt an_nt an_ur an_tk an_on an_nu an_sd an_al an_od an_sp an_ls an_ju an_ri an_to an_mk an_lw : Option Addr} {sl_lo sl_ta sl_ir sl_si sl_ay sl_fo sl_wh sl_pl sl_bo sl_io sl_ha sl_lt sl_rt sl_nt sl_ur sl_tk sl_on sl_nu sl_sd sl_al sl_od sl_sp sl_ls sl_ju sl_ri sl_to sl_mk sl_lw : Array (Option Value)} {oc_lo oc_ta oc_ir oc_si oc_ay oc_fo oc_wh oc_pl oc_bo oc_io oc_ha oc_lt oc_rt oc_nt oc_ur oc_tk oc_on oc_nu oc_sd oc_al oc_od oc_sp oc_ls oc_ju oc_ri oc_to oc_mk oc_lw kV_lo kV_ta kV_ir kV_si kV_ay kV_fo kV_wh kV_pl kV_bo kV_io kV_ha kV_lt kV_rt kV_nt kV_ur kV_tk kV_on kV_nu kV_sd kV_al kV_od kV_sp kV_ls kV_ju kV_ri kV_to kV_mk kV_lw dc_lo dc_ta dc_ir dc_si dc_ay dc_fo dc_wh dc_pl dc_bo dc_io dc_ha dc_lt dc_rt dc_nt dc_ur dc_tk dc_on dc_nu dc_sd dc_al dc_od dc_sp dc_ls dc_ju dc_ri dc_to dc_mk dc_lw pm_lo pm_ta pm_ir pm_si pm_ay pm_fo pm_wh pm_pl pm_bo pm_io pm_ha pm_lt pm_rt pm_nt pm_ur pm_tk pm_on pm_nu pm_sd pm_al pm_od pm_sp pm_ls pm_ju pm_ri pm_to pm_mk pm_lw cd_lo cd_ta cd_ir cd_si cd_ay cd_fo cd_wh cd_pl cd_bo cd_io cd_ha cd_lt cd_rt cd_nt cd_ur cd_tk cd_on cd_nu cd_sd cd_al cd_od cd_sp cd_ls cd_ju cd_ri cd_to cd_mk cd_lw ct_lo ct_ta ct_ir ct_si ct_ay ct_fo ct_wh ct_pl ct_bo ct_io ct_ha ct_lt ct_rt ct_nt ct_ur ct_tk ct_on ct_nu ct_sd ct_al ct_od ct_sp ct_ls ct_ju ct_ri ct_to ct_mk ct_lw : Value} {t_mn t_mp t_mt t_ml : Tok}
    (a_lo : PySem.W.nsIn K mainGlobals "lot_error" = some (some (.ref f_lo))) (l_lo : K.lookup f_lo = some ⟨oc_lo, od_lo, .func (PySem.W.fnOf "lot_error" "lot_error" (defArgs sLotE) (defBody sLotE) (defScope sLotE) .none kV_lo dc_lo pm_lo an_lo cd_lo ct_lo), sl_lo⟩) (c_lo : PySem.W.codeIn K cd_lo "lot_error" = true) (k_lo : PySem.W.keepIn K (.ref f_lo) = true)
    (a_ta : PySem.W.nsIn K mainGlobals "table_error" = some (some (.ref f_ta))) (l_ta : K.lookup f_ta = some ⟨oc_ta, od_ta, .func (PySem.W.fnOf "table_error" "table_error" (defArgs sTabE) (defBody sTabE) (defScope sTabE) .none kV_ta dc_ta pm_ta an_ta cd_ta ct_ta), sl_ta⟩) (c_ta : PySem.W.codeIn K cd_ta "table_error" = true) (k_ta : PySem.W.keepIn K (.ref f_ta) = true)
    (a_ir : PySem.W.nsIn K mainGlobals "is_row" = some (some (.ref f_ir))) (l_ir : K.lookup f_ir = some ⟨oc_ir, od_ir, .func (PySem.W.fnOf "is_row" "is_row" (defArgs sIsRow) (defBody sIsRow) (defScope sIsRow) .none kV_ir dc_ir pm_ir an_ir cd_ir ct_ir), sl_ir⟩) (c_ir : PySem.W.codeIn K cd_ir "is_row" = true) (k_ir : PySem.W.keepIn K (.ref f_ir) = true)
    (a_si : PySem.W.nsIn K mainGlobals "is_side" = some (some (.ref f_si))) (l_si : K.lookup f_si = some ⟨oc_si, od_si, .func (PySem.W.fnOf "is_side" "is_side" (defArgs sIsSide) (defBody sIsSide) (defScope sIsSide) .none kV_si dc_si pm_si an_si cd_si ct_si), sl_si⟩) (c_si : PySem.W.codeIn K cd_si "is_side" = true) (k_si : PySem.W.keepIn K (.ref f_si) = true)
    (a_ay : PySem.W.nsIn K mainGlobals "is_any_side" = some (some (.ref f_ay))) (l_ay : K.lookup f_ay = some ⟨oc_ay, od_ay, .func (PySem.W.fnOf "is_any_side" "is_any_side" (defArgs sAny) (defBody sAny) (defScope sAny) .none kV_ay dc_ay pm_ay an_ay cd_ay ct_ay), sl_ay⟩) (c_ay : PySem.W.codeIn K cd_ay "is_any_side" = true) (k_ay : PySem.W.keepIn K (.ref f_ay) = true)
    (a_fo : PySem.W.nsIn K mainGlobals "form_error" = some (some (.ref f_fo))) (l_fo : K.lookup f_fo = some ⟨oc_fo, od_fo, .func (PySem.W.fnOf "form_error" "form_error" (defArgs sForm) (defBody sForm) (defScope sForm) .none kV_fo dc_fo pm_fo an_fo cd_fo ct_fo), sl_fo⟩) (c_fo : PySem.W.codeIn K cd_fo "form_error" = true) (k_fo : PySem.W.keepIn K (.ref f_fo) = true)
    (a_wh : PySem.W.nsIn K mainGlobals "is_whole" = some (some (.ref f_wh))) (l_wh : K.lookup f_wh = some ⟨oc_wh, od_wh, .func (PySem.W.fnOf "is_whole" "is_whole" (defArgs sWhole) (defBody sWhole) (defScope sWhole) .none kV_wh dc_wh pm_wh an_wh cd_wh ct_wh), sl_wh⟩) (c_wh : PySem.W.codeIn K cd_wh "is_whole" = true) (k_wh : PySem.W.keepIn K (.ref f_wh) = true)
    (a_pl : PySem.W.nsIn K mainGlobals "is_places" = some (some (.ref f_pl))) (l_pl : K.lookup f_pl = some ⟨oc_pl, od_pl, .func (PySem.W.fnOf "is_places" "is_places" (defArgs sPlaces) (defBody sPlaces) (defScope sPlaces) .none kV_pl dc_pl pm_pl an_pl cd_pl ct_pl), sl_pl⟩) (c_pl : PySem.W.codeIn K cd_pl "is_places" = true) (k_pl : PySem.W.keepIn K (.ref f_pl) = true)
    (a_bo : PySem.W.nsIn K mainGlobals "is_bounded" = some (some (.ref f_bo))) (l_bo : K.lookup f_bo = some ⟨oc_bo, od_bo, .func (PySem.W.fnOf "is_bounded" "is_bounded" (defArgs sBounded) (defBody sBounded) (defScope sBounded) .none kV_bo dc_bo pm_bo an_bo cd_bo ct_bo), sl_bo⟩) (c_bo : PySem.W.codeIn K cd_bo "is_bounded" = true) (k_bo : PySem.W.keepIn K (.ref f_bo) = true)
    (a_io : PySem.W.nsIn K mainGlobals "integers_of" = some (some (.ref f_io))) (l_io : K.lookup f_io = some ⟨oc_io, od_io, .func (PySem.W.fnOf "integers_of" "integers_of" (defArgs sInts) (defBody sInts) (defScope sInts) .none kV_io dc_io pm_io an_io cd_io ct_io), sl_io⟩) (c_io : PySem.W.codeIn K cd_io "integers_of" = true) (k_io : PySem.W.keepIn K (.ref f_io) = true)
    (a_ha : PySem.W.nsIn K mainGlobals "has_integer" = some (some (.ref f_ha))) (l_ha : K.lookup f_ha = some ⟨oc_ha, od_ha, .func (PySem.W.fnOf "has_integer" "has_integer" (defArgs sHas) (defBody sHas) (defScope sHas) .none kV_ha dc_ha pm_ha an_ha cd_ha ct_ha), sl_ha⟩) (c_ha : PySem.W.codeIn K cd_ha "has_integer" = true) (k_ha : PySem.W.keepIn K (.ref f_ha) = true)
    (a_lt : PySem.W.nsIn K mainGlobals "lot_text" = some (some (.ref f_lt))) (l_lt : K.lookup f_lt = some ⟨oc_lt, od_lt, .func (PySem.W.fnOf "lot_text" "lot_text" (defArgs sLotT) (defBody sLotT) (defScope sLotT) .none kV_lt dc_lt pm_lt an_lt cd_lt ct_lt), sl_lt⟩) (c_lt : PySem.W.codeIn K cd_lt "lot_text" = true) (k_lt : PySem.W.keepIn K (.ref f_lt) = true)
    (a_rt : PySem.W.nsIn K mainGlobals "row_text" = some (some (.ref f_rt))) (l_rt : K.lookup f_rt = some ⟨oc_rt, od_rt, .func (PySem.W.fnOf "row_text" "row_text" (defArgs sRowT) (defBody sRowT) (defScope sRowT) .none kV_rt dc_rt pm_rt an_rt cd_rt ct_rt), sl_rt⟩) (c_rt : PySem.W.codeIn K cd_rt "row_text" = true) (k_rt : PySem.W.keepIn K (.ref f_rt) = true)
    (a_nt : PySem.W.nsIn K mainGlobals "number_text" = some (some (.ref f_nt))) (l_nt : K.lookup f_nt = some ⟨oc_nt, od_nt, .func (PySem.W.fnOf "number_text" "number_text" (defArgs sNumT) (defBody sNumT) (defScope sNumT) .none kV_nt dc_nt pm_nt an_nt cd_nt ct_nt), sl_nt⟩) (c_nt : PySem.W.codeIn K cd_nt "number_text" = true) (k_nt : PySem.W.keepIn K (.ref f_nt) = true)
    (a_ur : PySem.W.nsIn K mainGlobals "_law_urn" = some (some (.ref f_ur))) (l_ur : K.lookup f_ur = some ⟨oc_ur, od_ur, .func (PySem.W.fnOf "_law_urn" "_law_urn" (defArgs sUrn) (defBody sUrn) (defScope sUrn) .none kV_ur dc_ur pm_ur an_ur cd_ur ct_ur), sl_ur⟩) (c_ur : PySem.W.codeIn K cd_ur "_law_urn" = true) (k_ur : PySem.W.keepIn K (.ref f_ur) = true)
    (a_tk : PySem.W.nsIn K mainGlobals "_law_take" = some (some (.ref f_tk))) (l_tk : K.lookup f_tk = some ⟨oc_tk, od_tk, .func (PySem.W.fnOf "_law_take" "_law_take" (defArgs sTake) (defBody sTake) (defScope sTake) .none kV_tk dc_tk pm_tk an_tk cd_tk ct_tk), sl_tk⟩) (c_tk : PySem.W.codeIn K cd_tk "_law_take" = true) (k_tk : PySem.W.keepIn K (.ref f_tk) = true)
    (a_on : PySem.W.nsIn K mainGlobals "_law_one" = some (some (.ref f_on))) (l_on : K.lookup f_on = some ⟨oc_on, od_on, .func (PySem.W.fnOf "_law_one" "_law_one" (defArgs sOne) (defBody sOne) (defScope sOne) .none kV_on dc_on pm_on an_on cd_on ct_on), sl_on⟩) (c_on : PySem.W.codeIn K cd_on "_law_one" = true) (k_on : PySem.W.keepIn K (.ref f_on) = true)
    (a_nu : PySem.W.nsIn K mainGlobals "_law_number" = some (some (.ref f_nu))) (l_nu : K.lookup f_nu = some ⟨oc_nu, od_nu, .func (PySem.W.fnOf "_law_number" "_law_number" (defArgs sNumber) (defBody sNumber) (defScope sNumber) .none kV_nu dc_nu pm_nu an_nu cd_nu ct_nu), sl_nu⟩) (c_nu : PySem.W.codeIn K cd_nu "_law_number" = true) (k_nu : PySem.W.keepIn K (.ref f_nu) = true)
    (a_sd : PySem.W.nsIn K mainGlobals "_law_side" = some (some (.ref f_sd))) (l_sd : K.lookup f_sd = some ⟨oc_sd, od_sd, .func (PySem.W.fnOf "_law_side" "_law_side" (defArgs sSide) (defBody sSide) (defScope sSide) .none kV_sd dc_sd pm_sd an_sd cd_sd ct_sd), sl_sd⟩) (c_sd : PySem.W.codeIn K cd_sd "_law_side" = true) (k_sd : PySem.W.keepIn K (.ref f_sd) = true)
    (a_al : PySem.W.nsIn K mainGlobals "_law_alone" = some (some (.ref f_al))) (l_al : K.lookup f_al = some ⟨oc_al, od_al, .func (PySem.W.fnOf "_law_alone" "_law_alone" (defArgs sAlone) (defBody sAlone) (defScope sAlone) .none kV_al dc_al pm_al an_al cd_al ct_al), sl_al⟩) (c_al : PySem.W.codeIn K cd_al "_law_alone" = true) (k_al : PySem.W.keepIn K (.ref f_al) = true)
    (a_od : PySem.W.nsIn K mainGlobals "_law_odd_side" = some (some (.ref f_od))) (l_od : K.lookup f_od = some ⟨oc_od, od_od, .func (PySem.W.fnOf "_law_odd_side" "_law_odd_side" (defArgs sOdd) (defBody sOdd) (defScope sOdd) .none kV_od dc_od pm_od an_od cd_od ct_od), sl_od⟩) (c_od : PySem.W.codeIn K cd_od "_law_odd_side" = true) (k_od : PySem.W.keepIn K (.ref f_od) = true)
    (a_sp : PySem.W.nsIn K mainGlobals "_law_spoilt" = some (some (.ref f_sp))) (l_sp : K.lookup f_sp = some ⟨oc_sp, od_sp, .func (PySem.W.fnOf "_law_spoilt" "_law_spoilt" (defArgs sSpoilt) (defBody sSpoilt) (defScope sSpoilt) .none kV_sp dc_sp pm_sp an_sp cd_sp ct_sp), sl_sp⟩) (c_sp : PySem.W.codeIn K cd_sp "_law_spoilt" = true) (k_sp : PySem.W.keepIn K (.ref f_sp) = true)
    (a_ls : PySem.W.nsIn K mainGlobals "_law_is_side" = some (some (.ref f_ls))) (l_ls : K.lookup f_ls = some ⟨oc_ls, od_ls, .func (PySem.W.fnOf "_law_is_side" "_law_is_side" (defArgs sLSide) (defBody sLSide) (defScope sLSide) .none kV_ls dc_ls pm_ls an_ls cd_ls ct_ls), sl_ls⟩) (c_ls : PySem.W.codeIn K cd_ls "_law_is_side" = true) (k_ls : PySem.W.keepIn K (.ref f_ls) = true)
    (a_ju : PySem.W.nsIn K mainGlobals "_law_judged" = some (some (.ref f_ju))) (l_ju : K.lookup f_ju = some ⟨oc_ju, od_ju, .func (PySem.W.fnOf "_law_judged" "_law_judged" (defArgs sJudged) (defBody sJudged) (defScope sJudged) .none kV_ju dc_ju pm_ju an_ju cd_ju ct_ju), sl_ju⟩) (c_ju : PySem.W.codeIn K cd_ju "_law_judged" = true) (k_ju : PySem.W.keepIn K (.ref f_ju) = true)
    (a_ri : PySem.W.nsIn K mainGlobals "_law_is_right" = some (some (.ref f_ri))) (l_ri : K.lookup f_ri = some ⟨oc_ri, od_ri, .func (PySem.W.fnOf "_law_is_right" "_law_is_right" (defArgs sRight) (defBody sRight) (defScope sRight) .none kV_ri dc_ri pm_ri an_ri cd_ri ct_ri), sl_ri⟩) (c_ri : PySem.W.codeIn K cd_ri "_law_is_right" = true) (k_ri : PySem.W.keepIn K (.ref f_ri) = true)
    (a_to : PySem.W.nsIn K mainGlobals "_law_is_told" = some (some (.ref f_to))) (l_to : K.lookup f_to = some ⟨oc_to, od_to, .func (PySem.W.fnOf "_law_is_told" "_law_is_told" (defArgs sTold) (defBody sTold) (defScope sTold) .none kV_to dc_to pm_to an_to cd_to ct_to), sl_to⟩) (c_to : PySem.W.codeIn K cd_to "_law_is_told" = true) (k_to : PySem.W.keepIn K (.ref f_to) = true)
    (a_mk : PySem.W.nsIn K mainGlobals "_law_mark" = some (some (.ref f_mk))) (l_mk : K.lookup f_mk = some ⟨oc_mk, od_mk, .func (PySem.W.fnOf "_law_mark" "_law_mark" (defArgs sMark) (defBody sMark) (defScope sMark) .none kV_mk dc_mk pm_mk an_mk cd_mk ct_mk), sl_mk⟩) (c_mk : PySem.W.codeIn K cd_mk "_law_mark" = true) (k_mk : PySem.W.keepIn K (.ref f_mk) = true)
    (a_lw : PySem.W.nsIn K mainGlobals "law" = some (some (.ref f_lw))) (l_lw : K.lookup f_lw = some ⟨oc_lw, od_lw, .func (PySem.W.fnOf "law" "law" (defArgs sLaw) (defBody sLaw) (defScope sLaw) .none kV_lw dc_lw pm_lw an_lw cd_lw ct_lw), sl_lw⟩) (c_lw : PySem.W.codeIn K cd_lw "law" = true) (k_lw : PySem.W.keepIn K (.ref f_lw) = true)
    (z_len : PySem.W.nsIn K mainGlobals "len" = some none)
    (z_tuple : PySem.W.nsIn K mainGlobals "tuple" = some none)
    (z_all : PySem.W.nsIn K mainGlobals "all" = some none)
    (z_isinstance : PySem.W.nsIn K mainGlobals "isinstance" = some none)
    (z_repr : PySem.W.nsIn K mainGlobals "repr" = some none)
    (z_list : PySem.W.nsIn K mainGlobals "list" = some none)
    (z_sum : PySem.W.nsIn K mainGlobals "sum" = some none)
    (z_abs : PySem.W.nsIn K mainGlobals "abs" = some none)
    (z_int : PySem.W.nsIn K mainGlobals "int" = some none)
    (z_range : PySem.W.nsIn K mainGlobals "range" = some none)
    (z_zip : PySem.W.nsIn K mainGlobals "zip" = some none)
    (z_enumerate : PySem.W.nsIn K mainGlobals "enumerate" = some none)
    (z_min : PySem.W.nsIn K mainGlobals "min" = some none)
    (z_max : PySem.W.nsIn K mainGlobals "max" = some none)
    (z_str : PySem.W.nsIn K mainGlobals "str" = some none)
    (z_bool : PySem.W.nsIn K mainGlobals "bool" = some none)
    (n_mn : PySem.W.nsIn K mainGlobals "MAX_NUMBER" = some (some (.int big t_mn)))
    (n_mp : PySem.W.nsIn K mainGlobals "MAX_PLACES" = some (some (.int 4 t_mp)))
    (n_mt : PySem.W.nsIn K mainGlobals "MAX_LOT" = some (some (.int 40 t_mt)))
    (n_ml : PySem.W.nsIn K mainGlobals "MAX_LINES" = some (some (.int 6 t_ml)))
    (zS : PySem.W.nsIn K cStatics "sys.int_max_str_digits" = some none) :
    ∃ fd : FuncData, (∀ (s : Shared) (v : Value), BindsTo s fd ⟨[v], []⟩ [("script", v)]) ∧ ∀ base : Heap, Mod K mg base → FnG l.prog w K mg base 8 fa fd ["script"] (spLaw K) := by
  have e := hfa.symm.trans (PySem.W.mg_of X G a_lw)
  cases e
  have B : Bl mg := ⟨PySem.W.mg_none_of X G z_len, PySem.W.mg_none_of X G z_tuple, PySem.W.mg_none_of X G z_all, PySem.W.mg_none_of X G z_isinstance, PySem.W.mg_none_of X G z_repr, PySem.W.mg_none_of X G z_list, PySem.W.mg_none_of X G z_sum, PySem.W.mg_none_of X G z_abs, PySem.W.mg_none_of X G z_int, PySem.W.mg_none_of X G z_range, PySem.W.mg_none_of X G z_zip, PySem.W.mg_none_of X G z_enumerate, PySem.W.mg_none_of X G z_min, PySem.W.mg_none_of X G z_max, PySem.W.mg_none_of X G z_str, PySem.W.mg_none_of X G z_bool⟩
  have F_lo := fun_mk (st := sLotE) l_lo c_lo k_lo
  have b_lo := F_lo.binds (ps := ["value"]) fun _ _ _ _ _ _ us hl => match us, hl with | [_], _ => rfl
  have m_lo : mg "lot_error" = some (.ref f_lo) := PySem.W.mg_of X G a_lo
  have F_ta := fun_mk (st := sTabE) l_ta c_ta k_ta
  have b_ta := F_ta.binds (ps := ["value"]) fun _ _ _ _ _ _ us hl => match us, hl with | [_], _ => rfl
  have m_ta : mg "table_error" = some (.ref f_ta) := PySem.W.mg_of X G a_ta
  have F_ir := fun_mk (st := sIsRow) l_ir c_ir k_ir
  have b_ir := F_ir.binds (ps := ["places", "value"]) fun _ _ _ _ _ _ us hl => match us, hl with | [_, _], _ => rfl
  have m_ir : mg "is_row" = some (.ref f_ir) := PySem.W.mg_of X G a_ir
  have F_si := fun_mk (st := sIsSide) l_si c_si k_si
  have F_ay := fun_mk (st := sAny) l_ay c_ay k_ay
  have b_si := F_si.binds (ps := ["places", "value"]) fun _ _ _ _ _ _ us hl => match us, hl with | [_, _], _ => rfl
  have b_ay := F_ay.binds (ps := ["places", "value"]) fun _ _ _ _ _ _ us hl => match us, hl with | [_, _], _ => rfl
  have m_si : mg "is_side" = some (.ref f_si) := PySem.W.mg_of X G a_si
  have m_ay : mg "is_any_side" = some (.ref f_ay) := PySem.W.mg_of X G a_ay
  have F_fo := fun_mk (st := sForm) l_fo c_fo k_fo
  have b_fo := F_fo.binds (ps := ["value", "words", "most", "is_part"]) fun _ _ _ _ _ _ us hl => match us, hl with | [_, _, _, _], _ => rfl
  have m_fo : mg "form_error" = some (.ref f_fo) := PySem.W.mg_of X G a_fo
  have F_wh := fun_mk (st := sWhole) l_wh c_wh k_wh
  have b_wh := F_wh.binds (ps := ["value"]) fun _ _ _ _ _ _ us hl => match us, hl with | [_], _ => rfl
  have m_wh : mg "is_whole" = some (.ref f_wh) := PySem.W.mg_of X G a_wh
  have F_pl := fun_mk (st := sPlaces) l_pl c_pl k_pl
  have b_pl := F_pl.binds (ps := ["value"]) fun _ _ _ _ _ _ us hl => match us, hl with | [_], _ => rfl
  have m_pl : mg "is_places" = some (.ref f_pl) := PySem.W.mg_of X G a_pl
  have F_bo := fun_mk (st := sBounded) l_bo c_bo k_bo
  have b_bo := F_bo.binds (ps := ["value"]) fun _ _ _ _ _ _ us hl => match us, hl with | [_], _ => rfl
  have m_bo : mg "is_bounded" = some (.ref f_bo) := PySem.W.mg_of X G a_bo
  have F_io := fun_mk (st := sInts) l_io c_io k_io
  have b_io := F_io.binds (ps := ["numbers"]) fun _ _ _ _ _ _ us hl => match us, hl with | [_], _ => rfl
  have m_io : mg "integers_of" = some (.ref f_io) := PySem.W.mg_of X G a_io
  have F_ha := fun_mk (st := sHas) l_ha c_ha k_ha
  have b_ha := F_ha.binds (ps := ["side"]) fun _ _ _ _ _ _ us hl => match us, hl with | [_], _ => rfl
  have m_ha : mg "has_integer" = some (.ref f_ha) := PySem.W.mg_of X G a_ha
  have F_lt := fun_mk (st := sLotT) l_lt c_lt k_lt
  have b_lt := F_lt.binds (ps := ["lot"]) fun _ _ _ _ _ _ us hl => match us, hl with | [_], _ => rfl
  have m_lt : mg "lot_text" = some (.ref f_lt) := PySem.W.mg_of X G a_lt
  have F_rt := fun_mk (st := sRowT) l_rt c_rt k_rt
  have b_rt := F_rt.binds (ps := ["row"]) fun _ _ _ _ _ _ us hl => match us, hl with | [_], _ => rfl
  have m_rt : mg "row_text" = some (.ref f_rt) := PySem.W.mg_of X G a_rt
  have F_nt := fun_mk (st := sNumT) l_nt c_nt k_nt
  have b_nt := F_nt.binds (ps := ["number"]) fun _ _ _ _ _ _ us hl => match us, hl with | [_], _ => rfl
  have m_nt : mg "number_text" = some (.ref f_nt) := PySem.W.mg_of X G a_nt
  have F_ur := fun_mk (st := sUrn) l_ur c_ur k_ur
  have b_ur := F_ur.binds (ps := ["script"]) fun _ _ _ _ _ _ us hl => match us, hl with | [_], _ => rfl
  have m_ur : mg "_law_urn" = some (.ref f_ur) := PySem.W.mg_of X G a_ur
  have F_tk := fun_mk (st := sTake) l_tk c_tk k_tk
  have b_tk := F_tk.binds (ps := ["urn", "size"]) fun _ _ _ _ _ _ us hl => match us, hl with | [_, _], _ => rfl
  have m_tk : mg "_law_take" = some (.ref f_tk) := PySem.W.mg_of X G a_tk
  have F_on := fun_mk (st := sOne) l_on c_on k_on
  have b_on := F_on.binds (ps := ["urn", "items"]) fun _ _ _ _ _ _ us hl => match us, hl with | [_, _], _ => rfl
  have m_on : mg "_law_one" = some (.ref f_on) := PySem.W.mg_of X G a_on
  have F_nu := fun_mk (st := sNumber) l_nu c_nu k_nu
  have b_nu := F_nu.binds (ps := ["urn"]) fun _ _ _ _ _ _ us hl => match us, hl with | [_], _ => rfl
  have m_nu : mg "_law_number" = some (.ref f_nu) := PySem.W.mg_of X G a_nu
  have F_sd := fun_mk (st := sSide) l_sd c_sd k_sd
  have b_sd := F_sd.binds (ps := ["urn", "wide"]) fun _ _ _ _ _ _ us hl => match us, hl with | [_, _], _ => rfl
  have m_sd : mg "_law_side" = some (.ref f_sd) := PySem.W.mg_of X G a_sd
  have F_al := fun_mk (st := sAlone) l_al c_al k_al
  have b_al := F_al.binds (ps := ["urn"]) fun _ _ _ _ _ _ us hl => match us, hl with | [_], _ => rfl
  have m_al : mg "_law_alone" = some (.ref f_al) := PySem.W.mg_of X G a_al
  have F_od := fun_mk (st := sOdd) l_od c_od k_od
  have b_od := F_od.binds (ps := ["urn", "line"]) fun _ _ _ _ _ _ us hl => match us, hl with | [_, _], _ => rfl
  have m_od : mg "_law_odd_side" = some (.ref f_od) := PySem.W.mg_of X G a_od
  have F_sp := fun_mk (st := sSpoilt) l_sp c_sp k_sp
  have b_sp := F_sp.binds (ps := ["urn", "wide", "lines"]) fun _ _ _ _ _ _ us hl => match us, hl with | [_, _, _], _ => rfl
  have m_sp : mg "_law_spoilt" = some (.ref f_sp) := PySem.W.mg_of X G a_sp
  have F_ls := fun_mk (st := sLSide) l_ls c_ls k_ls
  have b_ls := F_ls.binds (ps := ["wide", "thing"]) fun _ _ _ _ _ _ us hl => match us, hl with | [_, _], _ => rfl
  have m_ls : mg "_law_is_side" = some (.ref f_ls) := PySem.W.mg_of X G a_ls
  have F_ju := fun_mk (st := sJudged) l_ju c_ju k_ju
  have b_ju := F_ju.binds (ps := ["thing"]) fun _ _ _ _ _ _ us hl => match us, hl with | [_], _ => rfl
  have m_ju : mg "_law_judged" = some (.ref f_ju) := PySem.W.mg_of X G a_ju
  have F_ri := fun_mk (st := sRight) l_ri c_ri k_ri
  have b_ri := F_ri.binds (ps := ["thing"]) fun _ _ _ _ _ _ us hl => match us, hl with | [_], _ => rfl
  have m_ri : mg "_law_is_right" = some (.ref f_ri) := PySem.W.mg_of X G a_ri
  have F_to := fun_mk (st := sTold) l_to c_to k_to
  have b_to := F_to.binds (ps := ["wide", "thing"]) fun _ _ _ _ _ _ us hl => match us, hl with | [_, _], _ => rfl
  have m_to : mg "_law_is_told" = some (.ref f_to) := PySem.W.mg_of X G a_to
  have F_mk := fun_mk (st := sMark) l_mk c_mk k_mk
  have b_mk := F_mk.binds (ps := ["urn"]) fun _ _ _ _ _ _ us hl => match us, hl with | [_], _ => rfl
  have m_mk : mg "_law_mark" = some (.ref f_mk) := PySem.W.mg_of X G a_mk
  have F_lw := fun_mk (st := sLaw) l_lw c_lw k_lw
  have v_mn : mg "MAX_NUMBER" = some (.int big t_mn) := PySem.W.mg_of X G n_mn
  have v_mp : mg "MAX_PLACES" = some (.int 4 t_mp) := PySem.W.mg_of X G n_mp
  have v_mt : mg "MAX_LOT" = some (.int 40 t_mt) := PySem.W.mg_of X G n_mt
  have v_ml : mg "MAX_LINES" = some (.int 6 t_ml) := PySem.W.mg_of X G n_ml
  refine ⟨PySem.W.fnOf "law" "law" (defArgs sLaw) (defBody sLaw) (defScope sLaw) .none kV_lw dc_lw pm_lw an_lw cd_lw ct_lw, fun s v => .of_eq rfl, fun base hM => ?_⟩
  have St : StatAt base := stat_of hM.kin hM.nolimit zS
  have C_wh : Cal l.prog w K mg base "is_whole" 1 ["value"] (spD wholeD) := ⟨_, _, ok_whole F_wh B, m_wh, k_wh, b_wh⟩
  have C_pl : Cal l.prog w K mg base "is_places" 2 ["value"] (spD placesD) := ⟨_, _, ok_places F_pl v_mp C_wh, m_pl, k_pl, b_pl⟩
  have C_bo : Cal l.prog w K mg base "is_bounded" 2 ["value"] (spD boundD) := ⟨_, _, ok_bounded F_bo v_mn C_wh, m_bo, k_bo, b_bo⟩
  have C_ay : Cal l.prog w K mg base "is_any_side" 2 ["places", "value"] (spPart anyD) := ⟨_, _, ok_isAny F_ay B C_wh, m_ay, k_ay, b_ay⟩
  have C_si : Cal l.prog w K mg base "is_side" 3 ["places", "value"] (spPart sideD) := ⟨_, _, ok_isSide F_si B C_ay C_bo, m_si, k_si, b_si⟩
  have C_io : Cal l.prog w K mg base "integers_of" 1 ["numbers"] (spInts K) := ⟨_, _, ok_ints F_io, m_io, k_io, b_io⟩
  have C_ha : Cal l.prog w K mg base "has_integer" 2 ["side"] spHas := ⟨_, _, ok_has F_ha B C_io, m_ha, k_ha, b_ha⟩
  have C_ir : Cal l.prog w K mg base "is_row" 4 ["places", "value"] (spPart rowD) := ⟨_, _, ok_isRow F_ir C_si C_ha, m_ir, k_ir, b_ir⟩
  have C_fo : Cal l.prog w K mg base "form_error" 5 ["value", "words", "most", "is_part"] (spForm l.prog w K mg base) := ⟨_, _, ok_form F_fo B C_pl, m_fo, k_fo, b_fo⟩
  have C_ta : Cal l.prog w K mg base "table_error" 6 ["value"] (spErr tabD) := ⟨_, _, ok_tabE F_ta v_ml C_fo ((ok_isSide F_si B C_ay C_bo).mono (by decide)) m_si k_si b_si, m_ta, k_ta, b_ta⟩
  have C_lo : Cal l.prog w K mg base "lot_error" 6 ["value"] (spErr lotD) := ⟨_, _, ok_lotE F_lo v_mt C_fo (ok_isRow F_ir C_si C_ha) m_ir k_ir b_ir, m_lo, k_lo, b_lo⟩
  have C_nt : Cal l.prog w K mg base "number_text" 1 ["number"] spNumT := ⟨_, _, ok_numT F_nt B, m_nt, k_nt, b_nt⟩
  have C_rt : Cal l.prog w K mg base "row_text" 2 ["row"] spRowT := ⟨_, _, ok_rowT F_rt B C_nt, m_rt, k_rt, b_rt⟩
  have C_lt : Cal l.prog w K mg base "lot_text" 3 ["lot"] spLotT := ⟨_, _, ok_lotT F_lt B C_rt, m_lt, k_lt, b_lt⟩
  have C_tk : Cal l.prog w K mg base "_law_take" 1 ["urn", "size"] spTake := ⟨_, _, ok_take F_tk B, m_tk, k_tk, b_tk⟩
  have C_ur : Cal l.prog w K mg base "_law_urn" 1 ["script"] (spUrn K) := ⟨_, _, ok_urn F_ur B, m_ur, k_ur, b_ur⟩
  have C_on : Cal l.prog w K mg base "_law_one" 2 ["urn", "items"] spOne := ⟨_, _, ok_one F_on B C_tk, m_on, k_on, b_on⟩
  have C_nu : Cal l.prog w K mg base "_law_number" 3 ["urn"] spNumber := ⟨_, _, ok_number F_nu C_tk C_on, m_nu, k_nu, b_nu⟩
  have C_sd : Cal l.prog w K mg base "_law_side" 4 ["urn", "wide"] spSide := ⟨_, _, ok_side F_sd B C_tk C_nu, m_sd, k_sd, b_sd⟩
  have C_al : Cal l.prog w K mg base "_law_alone" 3 ["urn"] spAlone := ⟨_, _, ok_alone F_al C_on, m_al, k_al, b_al⟩
  have C_od : Cal l.prog w K mg base "_law_odd_side" 3 ["urn", "line"] spOdd := ⟨_, _, ok_odd F_od B C_tk C_on, m_od, k_od, b_od⟩
  have C_sp : Cal l.prog w K mg base "_law_spoilt" 4 ["urn", "wide", "lines"] spSpoilt := ⟨_, _, ok_spoilt F_sp B C_tk C_on C_od, m_sp, k_sp, b_sp⟩
  have C_ls : Cal l.prog w K mg base "_law_is_side" 1 ["wide", "thing"] (spPart sideD) := ⟨_, _, ok_lSide F_ls B, m_ls, k_ls, b_ls⟩
  have C_ju : Cal l.prog w K mg base "_law_judged" 2 ["thing"] (spErr tabD) := ⟨_, _, ok_judged F_ju B C_ls, m_ju, k_ju, b_ju⟩
  have C_mk : Cal l.prog w K mg base "_law_mark" 3 ["urn"] spMark := ⟨_, _, ok_mark F_mk B C_tk C_on, m_mk, k_mk, b_mk⟩
  have D_si : CalK l.prog w K mg base "is_side" 3 ["places", "value"] ["value", "places"] g2s g2s (spPart sideD) := ⟨_, _, ok_isSide F_si B C_ay C_bo, m_si, k_si, kb2s F_si fun _ _ _ _ _ _ _ _ => rfl⟩
  have D_ta : CalK l.prog w K mg base "table_error" 6 ["value"] ["value"] g1 g1 (spErr tabD) := ⟨_, _, ok_tabE F_ta v_ml C_fo ((ok_isSide F_si B C_ay C_bo).mono (by decide)) m_si k_si b_si, m_ta, k_ta, kb1 F_ta fun _ _ _ _ _ _ _ => rfl⟩
  have G_ri := ok_right (P := l.prog) (w := w) (mg := mg) (base := base) F_ri B St C_ju C_ta D_ta C_lo C_lt
  have G_to := ok_told (P := l.prog) (w := w) (mg := mg) (base := base) F_to B St C_ls C_si D_si C_ir
  exact ok_law F_lw B St C_ur C_tk C_on C_sd C_sp C_al C_od C_mk C_ta G_ri m_ri k_ri b_ri G_to m_to k_to b_to

theorem walk {l : PySem.W.OpenLaw} {q : Program} {loose : List Str} {XP : (Str → Option Value) → Heap → Prop} {YP : World → Heap → Prop} {d : DefRec} {K : Params → PySem.W.Frag} (hn : l.most = some 63) (hdf : d.params.defaults = [])
    (hY : ∀ (w : World) (h : Heap), YP w h → (K w.params).In h)
    (F : ∀ (w : World) (mg : Str → Option Value) (fa : Addr) (h : Heap), (K w.params).In h → h.Ns mainGlobals mg → mg d.name = some (.ref fa) →
      ∃ fd : FuncData, (∀ (s : Shared) (u : Value), BindsTo s fd ⟨[u], []⟩ [("script", u)]) ∧ ∀ base : Heap, Mod (K w.params) mg base → FnG l.prog w (K w.params) mg base 8 fa fd ["script"] (spLaw (K w.params))) :
    PySem.W.WalkO q loose XP YP l.row.toRowW d [] (fun f vs => PySem.call f vs) :=
  walk_G (n := 63) (k := 8) (x := "script") (sp := fun K => spLaw K) hn (by decide) hdf ⟨rfl, by decide, by decide⟩ hY F (fun _ _ a ns _ _ _ hS => ⟨a, ns, rfl, hS, fun _ => rfl⟩)
end K2

open PySem PySem.W PyProof.Rows in
set_option maxRecDepth 100000 in
set_option maxHeartbeats 0 in
theorem PySem.Challenge.cw_ridgespans_k02_what_is_a_table_holds : PySem.Challenge.rw_ridgespans_k02_what_is_a_table.Holds := by
  w_on; o_law; k_head; (case hw => w_witness2)
  k_fill
  refine K2.walk (l := PySem.Challenge.rw_ridgespans_k02_what_is_a_table) rfl rfl (fun w h Y => PySem.W.kIn_of Y) ?F
  case F =>
    intro w mg fa h KX G hmg
    refine' K2.all_mk KX G hmg ?a_lo ?l_lo ?c_lo ?k_lo ?a_ta ?l_ta ?c_ta ?k_ta ?a_ir ?l_ir ?c_ir ?k_ir ?a_si ?l_si ?c_si ?k_si ?a_ay ?l_ay ?c_ay ?k_ay ?a_fo ?l_fo ?c_fo ?k_fo ?a_wh ?l_wh ?c_wh ?k_wh ?a_pl ?l_pl ?c_pl ?k_pl ?a_bo ?l_bo ?c_bo ?k_bo ?a_io ?l_io ?c_io ?k_io ?a_ha ?l_ha ?c_ha ?k_ha ?a_lt ?l_lt ?c_lt ?k_lt ?a_rt ?l_rt ?c_rt ?k_rt ?a_nt ?l_nt ?c_nt ?k_nt ?a_ur ?l_ur ?c_ur ?k_ur ?a_tk ?l_tk ?c_tk ?k_tk ?a_on ?l_on ?c_on ?k_on ?a_nu ?l_nu ?c_nu ?k_nu ?a_sd ?l_sd ?c_sd ?k_sd ?a_al ?l_al ?c_al ?k_al ?a_od ?l_od ?c_od ?k_od ?a_sp ?l_sp ?c_sp ?k_sp ?a_ls ?l_ls ?c_ls ?k_ls ?a_ju ?l_ju ?c_ju ?k_ju ?a_ri ?l_ri ?c_ri ?k_ri ?a_to ?l_to ?c_to ?k_to ?a_mk ?l_mk ?c_mk ?k_mk ?a_lw ?l_lw ?c_lw ?k_lw ?z_len ?z_tuple ?z_all ?z_isinstance ?z_repr ?z_list ?z_sum ?z_abs ?z_int ?z_range ?z_zip ?z_enumerate ?z_min ?z_max ?z_str ?z_bool ?n_mn ?n_mp ?n_mt ?n_ml ?zS
    (case a_lo => k_is)
    (case l_lo => k_is)
    (case c_lo => k_is)
    (case k_lo => k_is)
    (case a_ta => k_is)
    (case l_ta => k_is)
    (case c_ta => k_is)
    (case k_ta => k_is)
    (case a_ir => k_is)
    (case l_ir => k_is)
    (case c_ir => k_is)
    (case k_ir => k_is)
    (case a_si => k_is)
    (case a_ay => k_is)
    (case l_si => k_is)
    (case l_ay => k_is)
    (case c_si => k_is)
    (case c_ay => k_is)
    (case k_si => k_is)
    (case k_ay => k_is)
    (case a_fo => k_is)
    (case l_fo => k_is)
    (case c_fo => k_is)
    (case k_fo => k_is)
    (case a_wh => k_is)
    (case l_wh => k_is)
    (case c_wh => k_is)
    (case k_wh => k_is)
    (case a_pl => k_is)
    (case l_pl => k_is)
    (case c_pl => k_is)
    (case k_pl => k_is)
    (case a_bo => k_is)
    (case l_bo => k_is)
    (case c_bo => k_is)
    (case k_bo => k_is)
    (case a_io => k_is)
    (case l_io => k_is)
    (case c_io => k_is)
    (case k_io => k_is)
    (case a_ha => k_is)
    (case l_ha => k_is)
    (case c_ha => k_is)
    (case k_ha => k_is)
    (case a_lt => k_is)
    (case l_lt => k_is)
    (case c_lt => k_is)
    (case k_lt => k_is)
    (case a_rt => k_is)
    (case l_rt => k_is)
    (case c_rt => k_is)
    (case k_rt => k_is)
    (case a_nt => k_is)
    (case l_nt => k_is)
    (case c_nt => k_is)
    (case k_nt => k_is)
    (case a_ur => k_is)
    (case l_ur => k_is)
    (case c_ur => k_is)
    (case k_ur => k_is)
    (case a_tk => k_is)
    (case l_tk => k_is)
    (case c_tk => k_is)
    (case k_tk => k_is)
    (case a_on => k_is)
    (case l_on => k_is)
    (case c_on => k_is)
    (case k_on => k_is)
    (case a_nu => k_is)
    (case l_nu => k_is)
    (case c_nu => k_is)
    (case k_nu => k_is)
    (case a_sd => k_is)
    (case l_sd => k_is)
    (case c_sd => k_is)
    (case k_sd => k_is)
    (case a_al => k_is)
    (case l_al => k_is)
    (case c_al => k_is)
    (case k_al => k_is)
    (case a_od => k_is)
    (case l_od => k_is)
    (case c_od => k_is)
    (case k_od => k_is)
    (case a_sp => k_is)
    (case l_sp => k_is)
    (case c_sp => k_is)
    (case k_sp => k_is)
    (case a_ls => k_is)
    (case l_ls => k_is)
    (case c_ls => k_is)
    (case k_ls => k_is)
    (case a_ju => k_is)
    (case l_ju => k_is)
    (case c_ju => k_is)
    (case k_ju => k_is)
    (case a_ri => k_is)
    (case l_ri => k_is)
    (case c_ri => k_is)
    (case k_ri => k_is)
    (case a_to => k_is)
    (case l_to => k_is)
    (case c_to => k_is)
    (case k_to => k_is)
    (case a_mk => k_is)
    (case l_mk => k_is)
    (case c_mk => k_is)
    (case k_mk => k_is)
    (case a_lw => k_is)
    (case l_lw => k_is)
    (case c_lw => k_is)
    (case k_lw => k_is)
    (case z_len => k_is)
    (case z_tuple => k_is)
    (case z_all => k_is)
    (case z_isinstance => k_is)
    (case z_repr => k_is)
    (case z_list => k_is)
    (case z_sum => k_is)
    (case z_abs => k_is)
    (case z_int => k_is)
    (case z_range => k_is)
    (case z_zip => k_is)
    (case z_enumerate => k_is)
    (case z_min => k_is)
    (case z_max => k_is)
    (case z_str => k_is)
    (case z_bool => k_is)
    (case n_mn => k_is)
    (case n_mp => k_is)
    (case n_mt => k_is)
    (case n_ml => k_is)
    (case zS => k_is)
#print axioms PySem.Challenge.cw_ridgespans_k02_what_is_a_table_holds

