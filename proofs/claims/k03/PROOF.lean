import PyProof.Rows.All
import Wide.All
import OpenK.AllK
import Wide.FinOn
import PyProof.WalkInts
import PyProof.MinMaxWalk
import PyProof.ReprReads
import PyProof.ReprRoads
import PyProof.Meets
import PyProof.FitsInt
import HandS.ForMost
import HandS.EndBits
import HandS.SortKw
import HandS.TupMul
import HandS.WideBits
import HandS.Zip
import HandS.Walk
import HandS.TupAny
import HandS.Defaults
import PySem.Challenge.RW_ridgespans_k03_shifts_and_layers
import PyProof.ReprLen
set_option Elab.async false
set_option linter.all false
set_option maxRecDepth 100000
set_option maxHeartbeats 4000000
namespace PySem
section
variable {prog : Program} {w : World} {A : Around} {R : Result → Shared → Prop} {I : Addr} {fp wr : List Addr} {n : Nat} {P : Nat → Value → Prop} {St : Nat → Heap → Prop}

theorem k_max_loop_kw {kw : List (Str × Value)} (W : Walks prog w A.in1 I fp wr n P St) (bt : Nat → Nat → Bool) (hcmp : CmpOf prog w A.in1 .Gt P bt) (S : Addr) (hSf : S ∉ fp) :
    ∀ (k j : Nat) (s : Shared) (vb : Value) (c : Nat), n - (j + 1) = k → j + 1 ≤ n → St (j + 1) s.heap → P (argBest bt j) vb →
    s.heap.get? S = some { cls := .type "list", dict := none, data := .seq #[vb, vb] c, slots := #[] } →
    (∀ v h' tk, P (argBest bt (n - 1)) v → (∀ b o, b ∉ wr → b ≠ S → s.heap.get? b = some o → h'.get? b = some o) → R (.ok (.ret v)) { s with heap := h', toks := tk }) →
    codeAny (model prog w) A (.builtin "max.loop" ⟨[.ref I, .none, .ref S], kw⟩) R s := by
  have hSw : S ∉ wr := fun h => hSf (W.sub _ h)
  have hname : (toString "max" ++ toString ".loop" : String) = "max.loop" := by decide
  intro k
  induction k with
  | zero =>
    intro j s vb c hk hj hst hPb hS hR
    have hin : j + 1 = n := by omega
    refine codeAny_builtin F.entry_max_loop ?_
    rw [Around.under_plainId F.plain_max_loop _]
    show wpAny _ A.in1 (seqItems? (.ref S) >>= _) _ _ s
    refine wpAny_bind (wpAny_seqItems hS rfl ?_)
    show wpAny _ A.in1 (tryCatch (pyNext (.ref I)) _ >>= _) _ _ s
    refine wpAny_bind (wpAny_tryCatch (W.done s _ _ (hin ▸ hst) fun h' tk hk' => ?_))
    have hS' := hk' S _ hSw hS
    show wpAny _ A.in1 (updateSeq S (fun _ => #[]) >>= _) _ _ _
    refine wpAny_bind ?_
    refine wpAny_updateSeq hS' rfl (wpAny_bind (wpAny_letGo (wpAny_pure ?_)))
    refine hR vb _ tk (by rw [← hin]; exact hPb) fun b o hbw hbS e => (Heap.get?_update_other _ _ (Ne.symm hbS)).trans (hk' b o hbw e)
  | succ k ih =>
    intro j s vb c hk hj hst hPb hS hR
    have hlt : j + 1 < n := by omega
    refine codeAny_builtin F.entry_max_loop ?_
    rw [Around.under_plainId F.plain_max_loop _]
    show wpAny _ A.in1 (seqItems? (.ref S) >>= _) _ _ s
    refine wpAny_bind (wpAny_seqItems hS rfl ?_)
    show wpAny _ A.in1 (tryCatch (pyNext (.ref I)) _ >>= _) _ _ s
    refine wpAny_bind (wpAny_tryCatch (W.item (j + 1) s _ _ hlt hst fun v h' tk hP hst' hk' => ?_))
    have hS' := hk' S _ hSw hS
    show wpAny _ A.in1 (tryCatch (holding [v, v] (richCompare .Gt v vb >>= _)) _ >>= _) _ _ _
    refine wpAny_bind (wpAny_tryCatch (wpAny_holding (wpAny_bind (hcmp (j + 1) (argBest bt j) v vb _ _ _ hP hPb ?_))))
    refine wpAny_bind (wpAny_holding (wpAny_truthy_bool ?_))
    refine wpAny_bind (wpAny_letGo (wpAny_pure ?_))
    cases hb : bt (j + 1) (argBest bt j) with
    | true =>
      simp only [if_true]
      refine wpAny_bind ?_
      refine wpAny_updateSeq hS' rfl (wpAny_bind (wpAny_letGo ?_))
      rw [hname]
      refine wpAny_pure ⟨plainId_quiet F.plain_max_loop _, ih (j + 1) _ v _ (by omega) hlt (W.frame _ _ _ hst' fun b hbf o e => ?_) (by simp only [argBest, hb, if_true]; exact hP) (Heap.get?_update_self _ hS' rfl)
        fun v' h'' tk'' hP' hk'' => ?_⟩
      · exact (Heap.get?_update_other _ _ (fun h : S = b => hSf (by rw [h]; exact hbf))).trans e
      · exact hR v' h'' tk'' hP' fun b o hbw hbS e => hk'' b o hbw hbS ((Heap.get?_update_other _ _ (Ne.symm hbS)).trans (hk' b o hbw e))
    | false =>
      simp only [Bool.false_eq_true, if_false]
      refine wpAny_bind (wpAny_letGo ?_)
      rw [hname]
      refine wpAny_pure ⟨plainId_quiet F.plain_max_loop _, ih (j + 1) _ vb c (by omega) hlt hst' (by simp only [argBest, hb, Bool.false_eq_true, if_false]; exact hPb) hS' fun v' h'' tk'' hP' hk'' => ?_⟩
      exact hR v' h'' tk'' hP' fun b o hbw hbS e => hk'' b o hbw hbS (hk' b o hbw e)

theorem k_max_first_kw {kw : List (Str × Value)} (W : Walks prog w A.in1 I fp wr n P St) (bt : Nat → Nat → Bool) (hcmp : CmpOf prog w A.in1 .Gt P bt) (S : Addr) (hSf : S ∉ fp) (hn : 0 < n) {s : Shared} {c : Nat} (hst : St 0 s.heap)
    (hS : s.heap.get? S = some { cls := .type "list", dict := none, data := .seq #[] c, slots := #[] })
    (hR : ∀ v h' tk, P (argBest bt (n - 1)) v → (∀ b o, b ∉ wr → b ≠ S → s.heap.get? b = some o → h'.get? b = some o) → R (.ok (.ret v)) { s with heap := h', toks := tk }) :
    codeAny (model prog w) A (.builtin "max.loop" ⟨[.ref I, .none, .ref S], kw⟩) R s := by
  have hSw : S ∉ wr := fun h => hSf (W.sub _ h)
  have hname : (toString "max" ++ toString ".loop" : String) = "max.loop" := by decide
  refine codeAny_builtin F.entry_max_loop ?_
  rw [Around.under_plainId F.plain_max_loop _]
  show wpAny _ A.in1 (seqItems? (.ref S) >>= _) _ _ s
  refine wpAny_bind (wpAny_seqItems hS rfl ?_)
  show wpAny _ A.in1 (tryCatch (pyNext (.ref I)) _ >>= _) _ _ s
  refine wpAny_bind (wpAny_tryCatch (W.item 0 s _ _ hn hst fun v h' tk hP hst' hk' => ?_))
  have hS' := hk' S _ hSw hS
  show wpAny _ A.in1 (updateSeq S (fun _ => #[v, v]) >>= _) _ _ _
  refine wpAny_bind ?_
  refine wpAny_updateSeq hS' rfl ?_
  rw [hname]
  refine wpAny_pure ⟨plainId_quiet F.plain_max_loop _, k_max_loop_kw W bt hcmp S hSf _ 0 _ v _ rfl hn (W.frame _ _ _ hst' fun b hbf o e => ?_) hP (Heap.get?_update_self _ hS' rfl) fun v' h'' tk'' hP' hk'' => ?_⟩
  · exact (Heap.get?_update_other _ _ (fun h : S = b => hSf (by rw [h]; exact hbf))).trans e
  · exact hR v' h'' tk'' hP' fun b o hbw hbS e => hk'' b o hbw hbS ((Heap.get?_update_other _ _ (Ne.symm hbS)).trans (hk' b o hbw e))

/-- the empty one: the default -/
theorem k_max_empty_kw {x : Str} {d : Value} {kw : List (Str × Value)} (W : Walks prog w A.in1 I fp wr 0 P St) (S : Addr) (hSf : S ∉ fp) {s : Shared} {c : Nat} (hst : St 0 s.heap)
    (hS : s.heap.get? S = some { cls := .type "list", dict := none, data := .seq #[] c, slots := #[] })
    (hR : ∀ h' tk, (∀ b o, b ∉ wr → b ≠ S → s.heap.get? b = some o → h'.get? b = some o) → R (.ok (.ret d)) { s with heap := h', toks := tk }) :
    codeAny (model prog w) A (.builtin "max.loop" ⟨[.ref I, .none, .ref S], (x, d) :: kw⟩) R s := by
  have hSw : S ∉ wr := fun h => hSf (W.sub _ h)
  refine codeAny_builtin F.entry_max_loop ?_
  rw [Around.under_plainId F.plain_max_loop _]
  show wpAny _ A.in1 (seqItems? (.ref S) >>= _) _ _ s
  refine wpAny_bind (wpAny_seqItems hS rfl ?_)
  show wpAny _ A.in1 (tryCatch (pyNext (.ref I)) _ >>= _) _ _ s
  refine wpAny_bind (wpAny_tryCatch (W.done s _ _ hst fun h' tk hk' => ?_))
  show wpAny _ A.in1 (rule _ >>= _) _ _ _
  refine wpAny_bind (wpAny_rule ?_)
  exact wpAny_pure (hR h' tk fun b o hbw _ e => hk' b o hbw e)
end
namespace F
theorem args_max_default (a v : Value) : argsOk "max" ⟨[a], [(Str.ofString "default", v)]⟩ := by unfold argsOk; kernel_rfl
end F
section
variable {prog : Program} {w : World} {A : Around} {E : Value → Shared → Prop} {s : Shared}

theorem call_function_tree_kw {id : String} {b : Builtin} {args : List Value} {kw : List (Str × Value)} {Q : Value → Shared → Prop} (hk : builtinKind id = none) (hp : plainId id = true)
    (hb : entryFor table id = some b) (ha : argsOk id ⟨args, kw⟩)
    (hc : wpAny (model prog w) A.in1 (b ⟨args, kw⟩) (fun fin s' => match fin with
      | .done f => (match (Except.ok f : Result) with | .ok (.ret v) => Q v s' | .ok _ => False | .error e => E e s')
      | .again c' => c'.quiet = true ∧ codeAny (model prog w) A c' (fun r s' => match r with | .ok (.ret v) => Q v s' | .ok _ => False | .error e => E e s') s') E s) :
    wpAny (model prog w) A (call (.builtin id) args kw) Q E s := by
  refine wpAny_call (codeAny_call_builtin hp hb ?_)
  simp only [checkBuiltinCall, hk]
  cases hsig : Manifest.signature? id with
  | none => exact wpAny_pure hc
  | some sig =>
    simp only [argsOk, hsig] at ha
    have h2 : Bind.checkArgs id sig ⟨args, kw⟩ = pure () := ha
    show wpAny _ A.in1 (Bind.checkArgs id sig ⟨args, kw⟩) _ _ s
    rw [h2]; exact wpAny_pure hc

theorem call_max_default {x d : Value} {Q : Value → Shared → Prop}
    (h : wpAny (model prog w) A.in1 (pyIter x) (fun it s₂ => ∃ I fp wr n P St bt, it = .ref I ∧ Walks prog w A.in1 I fp wr n P St ∧ St 0 s₂.heap ∧ (∀ b ∈ fp, b < s₂.heap.objs.size) ∧ CmpOf prog w A.in1 .Gt P bt ∧
      ∀ v h' tk, (0 < n → P (argBest bt (n - 1)) v) → (n = 0 → v = d) → (∀ b o, b ∉ wr → s₂.heap.get? b = some o → h'.get? b = some o) → Q v { s₂ with heap := h', toks := tk }) E s) :
    wpAny (model prog w) A (call (.builtin "max") [x] [(Str.ofString "default", d)]) Q E s := by
  have hname : (toString "max" ++ toString ".loop" : String) = "max.loop" := by decide
  refine call_function_tree_kw F.kind_max F.plain_max F.entry_max (F.args_max_default _ _) ?_
  show wpAny _ A.in1 (Builtin.Builtins.bindParams "max" ["key", "default"] 0 ⟨[], [(Str.ofString "default", d)]⟩ >>= _) _ _ s
  refine wpAny_bind (wpAny_of_eq (show Builtin.Builtins.bindParams "max" ["key", "default"] 0 ⟨[], [(Str.ofString "default", d)]⟩ = pure [none, some d] from rfl) ?_)
  refine wpAny_bind (wpAny_pure ?_)
  refine wpAny_bind (wpAny_mono h (fun it s₂ h₂ => ?_) fun _ _ e => e)
  obtain ⟨I, fp, wr, n, P, St, bt, rfl, W, hst, hfp, hcmp, hQ⟩ := h₂
  refine wpAny_bind (wpAny_newObj_type ?_)
  have hSf : s₂.heap.objs.size ∉ fp := fun hm => Nat.lt_irrefl _ (hfp _ hm)
  rw [hname]
  cases n with
  | zero =>
    refine wpAny_pure ⟨plainId_quiet F.plain_max_loop _, k_max_empty_kw W s₂.heap.objs.size hSf (W.frame _ _ _ hst fun b _ o e => Heap.get?_push_of_some _ e) (Heap.get?_push_size _ rfl) fun h' tk hk => ?_⟩
    exact hQ d h' tk (fun q => absurd q (Nat.lt_irrefl _)) (fun _ => rfl) fun b o hbw e => hk b o hbw (Nat.ne_of_lt (Heap.lt_size e)) (Heap.get?_push_of_some _ e)
  | succ n =>
    refine wpAny_pure ⟨plainId_quiet F.plain_max_loop _, k_max_first_kw W bt hcmp s₂.heap.objs.size hSf (Nat.succ_pos n) (W.frame _ _ _ hst fun b _ o e => Heap.get?_push_of_some _ e) (Heap.get?_push_size _ rfl) fun v h' tk hP hk => ?_⟩
    exact hQ v h' tk (fun _ => hP) (fun q => Nat.noConfusion q) fun b o hbw e => hk b o hbw (Nat.ne_of_lt (Heap.lt_size e)) (Heap.get?_push_of_some _ e)

theorem max_default_intList {l : Addr} {xs : Array (Int × Tok)} {d : Value} {Q : Value → Shared → Prop} (hh : A.handled = none) (hl : s.heap.IsList l (intItems xs))
    (h : ∀ v h' tk, (0 < xs.size → (intItems xs)[argBest (fun i j => decide (numAt xs i > numAt xs j)) (xs.size - 1)]? = some v) → (xs.size = 0 → v = d) → (∀ b o, s.heap.get? b = some o → h'.get? b = some o) → Q v { s with heap := h', toks := tk }) :
    wpAny (model prog w) A (call (.builtin "max") [.ref l] [(Str.ofString "default", d)]) Q E s := by
  refine call_max_default (iter_intList hl fun s₂ e st hfp hlI => ?_)
  subst e
  refine ⟨_, _, _, _, _, _, _, rfl, Walks.list (A := A.in1) hh _ l hlI (intItems xs), st, hfp, CmpOf.ints_gt (numAt xs) (fun _ _ => intItems_at), fun v h' tk hP h0 hk => ?_⟩
  exact h v h' tk (fun q => by simpa [intItems] using hP (by simpa [intItems] using q)) (fun q => h0 (by simpa [intItems] using q)) (old_kept hk)
end
end PySem

namespace PySem
/-! repr of data whose ints have at most 12,900 bits, where the statics keep the usual limit -/

namespace RW
mutual
def wide : PyData → Bool
  | .none | .bool _ | .str _ => true
  | .int i => decide (i.natAbs.log2 < 12900)
  | .list xs | .tuple xs => wideAll xs
  | .dict _ => false
def wideAll : List PyData → Bool
  | [] => true
  | x :: xs => wide x && wideAll xs
end

def StatAt (h : Heap) : Prop := ∃ mc, h.Ns cStatics mc ∧ mc (Str.ofString "sys.int_max_str_digits") = none
theorem StatAt.keep {h h' : Heap} (S : StatAt h) (k : ∀ b o, h.get? b = some o → h'.get? b = some o) : StatAt h' := by
  obtain ⟨mc, n, e⟩ := S
  obtain ⟨o, es, ep, a, b⟩ := n
  exact ⟨mc, ⟨o, es, ep, k _ _ a, b⟩, e⟩

section
variable {prog : Program} {w : World} {A : Around} {E : Value → Shared → Prop} {s : Shared}

theorem odl_wide {M : Model} {a : Int} {Q : Option Nat → Shared → Prop} (S : StatAt s.heap) (ha : a.natAbs.log2 < 12900) (h : Q none s) : wpAny M A (Builtin.overDigitLimit? a) Q E s := by
  unfold Builtin.overDigitLimit?
  by_cases h1 : a.natAbs.log2 < 1920
  · rw [if_pos h1]
    exact wpAny_pure h
  · rw [if_neg h1]
    obtain ⟨mc, n, e⟩ := S
    have hn : wpAny M A Builtin.intMaxStrDigits (fun m s' => m = 4300 ∧ s' = s) E s := by
      unfold Builtin.intMaxStrDigits
      refine wpAny_bind (wpAny_nsGet n ?_)
      rw [show mc "sys.int_max_str_digits" = none from e]
      exact wpAny_pure ⟨rfl, rfl⟩
    refine wpAny_bind (wpAny_mono hn (fun m s' q => ?_) fun _ _ x => x)
    obtain ⟨rfl, rfl⟩ := q
    have h2 : ¬ (a.natAbs.log2 / 30 + 1 > 1000) := by omega
    simp only [if_neg h2]
    have h3 : ((4300 : Nat) == 0 || decide (a.natAbs.log2 < 3 * 4300)) = true := by
      rw [decide_eq_true (show a.natAbs.log2 < 3 * 4300 by omega)]
      rfl
    first
      | (rw [if_pos h3]; exact wpAny_pure h)
      | (simp only [h3]; exact wpAny_pure h)

theorem int_fits {a : Int} (ha : a.natAbs.log2 < 12900) : (Str.ofString (toString a)).length ≤ sizeLine := by
  have e := int_text_length_le (k := 12900) (by decide) ha
  rw [ofString_length, sizeLine_eq]; omega

theorem meets_int_repr (a : Int) (t : Tok) (ha : a.natAbs.log2 < 12900) : Meets (Builtin.«int.__repr__» ⟨[.int a t], []⟩) (fun _ R s => StatAt s.heap ∧ ∀ u, R (.ok (.ret (.str (toString a) u))) { s with toks := s.toks + 1 }) :=
  .of_wp fun prog w A R s h => by
    obtain ⟨S, h⟩ := h
    unfold Builtin.«int.__repr__»
    refine wpAny_bind (m := Builtin.Int.intSlot0 "__repr__" _) (wpAny_pure ?_)
    refine wpAny_bind (odl_wide S ha ?_)
    show wpAny _ _ (retStr _) _ _ _
    unfold retStr
    refine wpAny_bind (wpAny_mkStr ?_ (int_fits ha))
    exact wpAny_pure ⟨_, rfl, h _⟩
theorem reprObj_int {a : Int} {t : Tok} {Q : Value → Shared → Prop} (hu : A.units < cLine) (S : StatAt s.heap) (ha : a.natAbs.log2 < 12900) (h : ∀ u, Q (.str (toString a) u) { s with toks := s.toks + 1 }) : wpAny (model prog w) A (pyReprObj (.int a t)) Q E s :=
  wpAny_pyReprObj_slot hu (typeIs_int s a t) F.slot_int_repr.toG (call_meets F.slot_int_repr (typeIs_int s a t) F.entry_int_repr (F.args_int_repr_1 _) (meets_int_repr a t ha) ⟨S, fun u => ⟨_, _, rfl, h u⟩⟩)

theorem rk_int {h₀ : Heap} {a : Int} {t : Tok} (S : StatAt h₀) (ha : a.natAbs.log2 < 12900) (d : Nat) : ReprK prog w [] h₀ d (.int a t) (toString a) := by
  intro base hb A g E s Q hg hcl hu hk0 hQ
  have hb' : base ≤ sizeLine := by omega
  rw [pyReprUnder_leaf (v := .int a t) hb' (fun _ e => nomatch e)]
  unfold pyRepr
  exact wpAny_bind (reprObj_int (by omega) (S.keep hk0) ha fun u => wpAny_pure (hQ s.heap _ fun _ _ e => e))

mutual
theorem rk_of {h₀ : Heap} (S : StatAt h₀) : ∀ {v : Value} {d : PyData} {as : List Addr}, Reads h₀ v d as → wide d = true → d.shown.length ≤ sizeLine → ∃ bs, ReadAtMost h₀ d.depth bs ∧ ReprK prog w bs h₀ d.depth v d.shown
  | _, _, _, .none, _, _ => ⟨[], (fun _ h => nomatch h), by simp only [PyData.shown]; exact .of_is ReprIs.none _ _ _⟩
  | _, _, _, .bool b, _, _ => ⟨[], (fun _ h => nomatch h), by simp only [PyData.shown]; exact .of_is (ReprIs.bool b) _ _ _⟩
  | _, _, _, .int i t, hs, _ => ⟨[], (fun _ h => nomatch h), by simp only [PyData.shown]; exact rk_int S (by simpa [wide] using hs) _⟩
  | _, _, _, .str x t, _, hz => ⟨[], (fun _ h => nomatch h), by simp only [PyData.shown]; exact .of_is (ReprIs.str x t (by simpa only [PyData.shown] using hz)) _ _ _⟩
  | _, _, _, .list (a := a) (vs := vs) (xs := xs) h1 h2 h3 h4, hs, hz => by
    have z1 : (listText (PyData.shownAll xs)).length ≤ sizeLine := by simpa only [PyData.shown] using hz
    obtain ⟨bs, hb, hk⟩ := rkAll_of S h4 (by simpa [wide] using hs) (fun t ht => Nat.le_trans (listText_mem_le ht) z1)
    have r : Reads h₀ (.ref a) (.list xs) _ := .list h1 h2 h3 h4
    have hna : a ∉ bs := not_mem_of_deeper r (by simp only [PyData.depth]; omega) hb
    refine ⟨a :: bs, ReadAtMost.cons r (by simp only [PyData.depth]; omega) hb, ?_⟩
    simp only [PyData.depth, PyData.shown]
    obtain ⟨l⟩ := vs
    cases l with
    | nil =>
      have h5 : ReadsAll h₀ [] xs _ := h4
      cases h5
      simp only [PyData.shownAll, listText_nil]
      exact ReprK.listEmpty h1 h2 h3
    | cons x l => exact ReprK.list h1 h2 h3 hna (by simpa using hk.length_eq) (fun i y e => hk.item i y (by simpa using e))
  | _, _, _, .tuple (a := a) (xs := xs) h1 h2 h3 h4, hs, hz => by
    have z1 : (tupleText (PyData.shownAll xs)).length ≤ sizeLine := by simpa only [PyData.shown] using hz
    obtain ⟨bs, hb, hk⟩ := rkAll_of S h4 (by simpa [wide] using hs) (fun t ht => Nat.le_trans (tupleText_mem_le ht) z1)
    have r : Reads h₀ (.ref a) (.tuple xs) _ := .tuple h1 h2 h3 h4
    have hna : a ∉ bs := not_mem_of_deeper r (by simp only [PyData.depth]; omega) hb
    refine ⟨a :: bs, ReadAtMost.cons r (by simp only [PyData.depth]; omega) hb, ?_⟩
    simp only [PyData.depth, PyData.shown]
    exact ReprK.tuple h1 h2 h3 hna hk
  | _, _, _, .dict .., hs, _ => by simp [wide] at hs
theorem rkAll_of {h₀ : Heap} (S : StatAt h₀) : ∀ {vs : List Value} {ds : List PyData} {as : List Addr}, ReadsAll h₀ vs ds as → wideAll ds = true → (∀ t ∈ PyData.shownAll ds, t.length ≤ sizeLine) →
    ∃ bs, ReadAtMost h₀ (PyData.depthAll ds) bs ∧ ReprAllK prog w bs h₀ (PyData.depthAll ds) vs (PyData.shownAll ds)
  | _, _, _, .nil, _, _ => ⟨[], (fun _ h => nomatch h), by simp only [PyData.shownAll]; exact .nil⟩
  | _, _, _, .cons (d := d) (ds := ds) r rs, hs, hz => by
    have h2 : wide d = true ∧ wideAll ds = true := by simpa [wideAll] using hs
    obtain ⟨b1, hb1, k1⟩ := rk_of S r h2.1 (hz _ (by simp only [PyData.shownAll]; exact List.mem_cons_self ..))
    obtain ⟨b2, hb2, k2⟩ := rkAll_of S rs h2.2 (fun t ht => hz t (by simp only [PyData.shownAll]; exact List.mem_cons_of_mem _ ht))
    refine ⟨b1 ++ b2, (hb1.mono (by simp only [PyData.depthAll]; exact Nat.le_max_left _ _)).append (hb2.mono (by simp only [PyData.depthAll]; exact Nat.le_max_right _ _)), ?_⟩
    simp only [PyData.depthAll, PyData.shownAll]
    exact .cons ((k1.more fun b hb => List.mem_append_left _ hb).level_le (Nat.le_max_left _ _)) (k2.more_le (fun b hb => List.mem_append_right _ hb) (Nat.le_max_right _ _))
end

/-- repr(x) of a list -/
theorem repr_list {a : Addr} {xs : List PyData} {as : List Addr} {Q : Value → Shared → Prop} (S : StatAt s.heap) (r : Reads s.heap (.ref a) (.list xs) as) (hs : wide (.list xs) = true) (hz : (PyData.list xs).shown.length ≤ sizeLine) (hg : A.guards = some []) (hu : A.units + ((PyData.list xs).depth + 1) < cLine)
    (hQ : ∀ h' u tk, (∀ b o, s.heap.get? b = some o → h'.get? b = some o) → Q (.str (PyData.list xs).shown u) { s with heap := h', toks := tk }) : wpAny (model prog w) A (call (.builtin "repr") [.ref a]) Q E s := by
  cases r with
  | list h1 h2 h3 h4 =>
    rename_i o vs n bs0
    have z1 : (listText (PyData.shownAll xs)).length ≤ sizeLine := by simpa only [PyData.shown] using hz
    obtain ⟨bs, hb, hk⟩ := rkAll_of (prog := prog) (w := w) S h4 (by simpa [wide] using hs) (fun t ht => Nat.le_trans (listText_mem_le ht) z1)
    have hna : a ∉ bs := not_mem_of_deeper (.list h1 h2 h3 h4) (by simp only [PyData.depth]; omega) hb
    simp only [PyData.depth] at hu
    simp only [PyData.shown] at hQ
    refine call_repr_slot (by omega) ⟨o, h1, h2⟩ F.slot_list_repr.toG ?_
    obtain ⟨l⟩ := vs
    cases l with
    | nil =>
      have h5 : ReadsAll s.heap [] xs _ := h4
      cases h5
      simp only [PyData.shownAll, listText_nil] at hQ
      exact call_list_repr_empty ⟨o, h1, h2⟩ h1 h3 ⟨_, _, rfl, hQ s.heap _ _ fun _ _ e => e⟩
    | cons x l =>
      exact call_list_reprK h1 h2 h3 hna (by simpa using hk.length_eq) (fun i y e => hk.item i y (by simpa using e)) hg (fun b _ => Clear.nil b) (by show A.units + 1 + _ < _; omega) (fun _ _ e => e) (fun h' u tk hk => ⟨_, _, rfl, hQ h' u tk hk⟩) z1
/-- repr(x) of a tuple -/
theorem repr_tuple {a : Addr} {xs : List PyData} {as : List Addr} {Q : Value → Shared → Prop} (S : StatAt s.heap) (r : Reads s.heap (.ref a) (.tuple xs) as) (hs : wide (.tuple xs) = true) (hz : (PyData.tuple xs).shown.length ≤ sizeLine) (hg : A.guards = some []) (hu : A.units + ((PyData.tuple xs).depth + 1) < cLine)
    (hQ : ∀ h' u tk, (∀ b o, s.heap.get? b = some o → h'.get? b = some o) → Q (.str (PyData.tuple xs).shown u) { s with heap := h', toks := tk }) : wpAny (model prog w) A (call (.builtin "repr") [.ref a]) Q E s := by
  cases r with
  | tuple h1 h2 h3 h4 =>
    rename_i o vs n
    have z1 : (tupleText (PyData.shownAll xs)).length ≤ sizeLine := by simpa only [PyData.shown] using hz
    obtain ⟨bs, hb, hk⟩ := rkAll_of (prog := prog) (w := w) S h4 (by simpa [wide] using hs) (fun t ht => Nat.le_trans (tupleText_mem_le ht) z1)
    have hna : a ∉ bs := not_mem_of_deeper (.tuple h1 h2 h3 h4) (by simp only [PyData.depth]; omega) hb
    simp only [PyData.depth] at hu
    simp only [PyData.shown] at hQ
    refine call_repr_slot (by omega) ⟨o, h1, h2⟩ F.slot_tuple_repr ?_
    exact call_tuple_reprK h1 h2 h3 hna hk hg (fun b _ => Clear.nil b) (by show A.units + 1 + _ < _; omega) (fun _ _ e => e) (fun h' u tk hk => ⟨_, _, rfl, hQ h' u tk hk⟩) z1
end
end RW
end PySem

/-! defs that show data by repr: nothing may be on its way to be shown around them -/
namespace RW
open PySem PySem.Spec PyProof.Rows L2 PySem.RW

theorem deeper_guards {A : Around} {env : Env} (h : A.guards = some []) : (A.deeper env).guards = some [] := by
  first | exact h | (simpa [Around.deeper] using h)

structure FnG (P : Program) (w : World) (K : PySem.W.Frag) (mg : Str → Option Value) (base : Heap) (k : Nat) (f : Addr) (fd : FuncData) (ps : List Str) (sp : Sp) : Prop where
  len : ∀ vs H Q E, sp vs H Q E → vs.length = ps.length
  run : ∀ (A : Around) (outer : List Env) (s : Shared) (H : Hp) (args : Args) (us : List Value) (vs : List V) (Q : VK) (E : XK), A.guards = some [] → Room k A → Env0 P w K mg base A outer s H → BindsTo s fd args (ps.zip us) → Vals vs us → sp vs H Q E →
    codeAny (model P w) A (.call (.ref f) args) (CR CX0 outer P w H s Q E) s

section
variable {P : Program} {w : World} {K : PySem.W.Frag} {mg : Str → Option Value} {base : Heap}
theorem fnG_of {x qual : Str} {st : Stmt} {f : Addr} {fd : FuncData} {N ps : List Str} {k : Nat} {sp : Sp} (F : Fun K x qual st f fd) (S : FnScope N ps (defScope st)) (len : ∀ vs H Q E, sp vs H Q E → vs.length = ps.length)
    (hbody : ∀ (cdv : Value) (A : Around) (outer : List Env) (s : Shared) (H : Hp) (vs : List V) (Q : VK) (E : XK), (A.deeper (envOfC qual (defScope st) s.heap.objs.size f cdv)).guards = some [] → Room k (A.deeper (envOfC qual (defScope st) s.heap.objs.size f cdv)) → sp vs H Q E →
      ∃ t, PSs (cxOf CX0 P w K mg base N qual (defScope st) f cdv A outer s H E).nox (defBody st) t ∧ t { nx := fun _ H' => Q .non H', rt := Q } (start N vs) H) : FnG P w K mg base (k + 1) f fd ps sp := by
  obtain ⟨oc, od, kV, doc, pm, an, cd, ct, osl, rfl, lk, hcd⟩ := F.ex
  refine ⟨len, fun A outer s H args us vs Q E hG hr e0 hb r hsp => ?_⟩
  have hl := len _ _ _ _ hsp
  have KX : K.In s.heap := e0.mod.kin.keeps fun b o e => (e0.bs b o e).1
  have lim : s.heap.NoLimit := e0.mod.nolimit.keeps fun b o e => (e0.bs b o e).1
  have hkind : ∀ y ∈ ps.zip us, (defScope st).names.lookup y.1 = some .local ∨ ((defScope st).names.lookup y.1 = some .cell ∧ ((cellsFrom (s.heap.objs.size + 1) (defScope st).names []).lookup y.1).isSome = true) := fun ⟨n, v⟩ hy => by
    rcases S.par n (List.of_mem_zip hy).1 with q | q
    · exact .inl q
    · exact .inr ⟨q, PySem.W.cellsFrom_some _ _ _ (.inl q)⟩
  refine codeAny_call_function hr.depth (KX _ _ lk) rfl S.co S.gen rfl (PySem.W.codeRec_of KX hcd) (hb _ _ _ _ ?_)
  refine wpAny_newFunctionEnv_cells S.kind hkind fun env he s1 x => ?_
  subst he
  refine ⟨lim.keeps x.toInCall.keep, codeAny_func ?_⟩
  obtain ⟨t, ht0, hq⟩ := hbody cd A outer s H vs Q E (deeper_guards hG) (hr.deeper _) hsp
  have ht := ht0.nox
  have I : Inv (cxOf CX0 P w K mg base N qual (defScope st) f cd A outer s H E) [] (start N vs) H s1 := inv_start S hr.hd e0 hl r x
  refine wpAny_mono (ht.run [] s1 (start N vs) H _ I hq) (fun fl s' hs => ?_) fun e s' hs => hs
  have fin : ∀ {σ' : L2.St} {H' : Hp} {v : V} {u : Value}, Inv (cxOf CX0 P w K mg base N qual (defScope st) f cd A outer s H E) [] σ' H' s' → RelV v u → Q v H' → CE outer P w H s Q u s' :=
    fun {σ' H' v u} J rv q => ⟨v, H', J.os, J.bare, J.base, J.hok, rv, q⟩
  cases fl with
  | ret u =>
    obtain ⟨v, σ', H', J, rv, q⟩ := hs
    exact fin J rv q
  | next =>
    obtain ⟨σ', H', J, q⟩ := hs
    exact fin (v := V.non) (u := Value.none) J rfl q
  | brk =>
    obtain ⟨_, _, _, q⟩ := hs
    exact False.elim q
  | cont =>
    obtain ⟨_, _, _, q⟩ := hs
    exact False.elim q
end

section
variable {X : Cx} {k : Nat} {f : Addr} {fd : FuncData} {ps : List Str} {sp : Sp} {E : XK} {x : Str} {p pos : Pos} {e : Expr} {es : List Expr} {t : TA}
theorem runG {pins : List (Addr × Obj)} {σ : L2.St} {H : Hp} {s : Shared} {Q : VK} {us : List Value} {vs : List V} (F : FnG X.prog X.w X.K X.mg X.base k f fd ps sp) (hG : X.A.guards = some []) (hr : Room k X.A) (hb : Binds X.K fd ps [])
    (I : Inv X pins σ H s) (r : Vals vs us) (h : sp vs H Q E) : wpAny (model X.prog X.w) X.A (call (.ref f) us) (EP X pins σ Q) X.xe s := by
  have hl : (us ++ []).length = ps.length := by rw [List.append_nil, ← r.length]; exact F.len _ _ _ _ h
  have hbt := hb s us I.kIn hl
  rw [List.append_nil] at hbt
  refine wpAny_call (codeAny_mono (F.run X.A X.stack s H ⟨us, []⟩ us vs Q E hG hr I.env0 hbt r h) fun r s' hq => ?_)
  cases r with
  | error e => exact False.elim hq
  | ok fl =>
    cases fl with
    | ret u => exact I.after hq
    | next => exact False.elim hq
    | brk => exact False.elim hq
    | cont => exact False.elim hq
def tCallG (sp : Sp) (E : XK) (t : TA) : TE := fun σ H Q => t σ H fun vs H1 => sp vs H1 Q E
theorem pe_callG (F : FnG X.prog X.w X.K X.mg X.base k f fd ps sp) (hG : X.A.guards = some []) (hr : Room k X.A) (hg : Gl X x) (hm : X.mg x = some (.ref f)) (hk : PySem.W.keepIn X.K (.ref f) = true) (hb : Binds X.K fd ps [])
    (ha : PA X (e :: es) t) (hdb : (x == ("__debug__" : Str)) = false := by decide) (he : starEach (e :: es) X.env = (false, eval e X.env) :: starEach es X.env := by rfl) (hpl : (backTo pos (starEach es X.env)).any (·.1) = false := by rfl) :
    PE X (.Call (.Name x p) (e :: es) [] pos) (tCallG sp E t) := by
  refine ⟨fun pins s σ H Q I h => ?_⟩
  refine wpAny_Call_Name_kw (ld_glob I hg hm ?_ hdb)
  refine PySem.W.callWith_K (h₀ := X.base) I.ok.mod.kin hk (thn (ha.run pos pins s σ H _ I h) fun us s1 ⟨vs, H1, I1, r, q⟩ => ⟨I1.kIn, ?_⟩) he hpl
  exact runG F hG hr hb I1 r q

/-- repr(x) of a list -/
def rRepr (K : PySem.W.Frag) : List V → Hp → VK → Prop := fun vs H Q => ∃ (a : Addr) (ds : List PyData), vs = [.ref a] ∧ Dp K H (.ref a) (.list ds) ∧ wide (.list ds) = true ∧ (PyData.list ds).shown.length ≤ sizeLine ∧ (PyData.list ds).depth ≤ 50 ∧ Q (.str (PyData.list ds).shown) H
theorem call_reprW (hG : X.A.guards = some []) (hr : X.A.units + 64 < cLine) (S : StatAt X.base) : CallR X (.builtin "repr") (rRepr X.K) := by
  intro pins s σ H vs us Q I r h
  obtain ⟨a, ds, rfl, hd, hw, hz, hdp, q⟩ := h
  obtain ⟨u, rfl, rv⟩ := vals1 r
  obtain rfl : u = Value.ref a := rv
  obtain ⟨as, rd⟩ := Dp.reads I _ _ _ hd rfl
  exact repr_list (S.keep fun b o e => I.bk b o e) rd hw hz hG (by omega) fun h' u tk hk => ⟨.str _, H, I.kept hk, ⟨_, rfl⟩, q⟩

/-- max(xs, default=None) of ints -/
def rMaxD (K : PySem.W.Frag) : List V → List V → Hp → VK → Prop := fun vs zs H Q => ∃ (a : Addr) (ns : List Int) (d : V), vs = [.ref a] ∧ zs = [d] ∧ SqL K H a (ns.map V.int) ∧ (ns = [] → Q d H) ∧ (∀ m, m ∈ ns → (∀ y, y ∈ ns → y ≤ m) → Q (.int m) H)
end
section
variable {prog : Program} {w : World} {A : Around} {E : Value → Shared → Prop} {s : Shared}
theorem maxD_raw {l : Addr} {its : List Value} {ns : List Int} {d : Value} {Q : Value → Shared → Prop} (hh : A.handled = none) (hl : s.heap.IsList l its.toArray) (hi : IntsAre its ns)
    (h0 : ns = [] → ∀ h' tk, (∀ b o, s.heap.get? b = some o → h'.get? b = some o) → Q d { s with heap := h', toks := tk })
    (h : ∀ h' tk M t', (∀ b o, s.heap.get? b = some o → h'.get? b = some o) → M ∈ ns → (∀ a, a ∈ ns → a ≤ M) → Q (.int M t') { s with heap := h', toks := tk }) : wpAny (model prog w) A (call (.builtin "max") [.ref l] [(Str.ofString "default", d)]) Q E s := by
  obtain ⟨xs, e⟩ := hi.allInts.items
  have hn : numsOf (intItems xs).toList = ns := by rw [← e]; exact hi.numsOf
  rw [nums_intItems] at hn
  subst hn
  rw [e] at hl
  refine PySem.max_default_intList hh hl fun v h' tk hv hd hk => ?_
  by_cases hz : xs.size = 0
  · obtain rfl := hd hz
    exact h0 (List.map_eq_nil_iff.mpr (List.eq_nil_of_length_eq_zero (by simpa using hz))) h' tk hk
  · have hsz : 0 < xs.size := Nat.pos_of_ne_zero hz
    obtain ⟨t, rfl⟩ := intItems_at (hv hsz)
    obtain ⟨h1, h2⟩ := argBest_gt (numAt xs) (xs.size - 1)
    refine h h' tk _ t hk ?_ fun a ha => ?_
    · rw [numAt_eq]; exact PySem.getD_mem (by rw [List.length_map, Array.length_toList]; omega)
    · obtain ⟨j, hj, rfl⟩ := mem_getD ha
      rw [List.length_map, Array.length_toList] at hj
      rw [← numAt_eq]; exact h2 j (by omega)
end
section
variable {X : Cx}
theorem call_maxD (hc : X.calm = true) : CallRK X (.builtin "max") [Str.ofString "default"] (rMaxD X.K) := by
  intro pins s σ H vs zs us ws Q I r rz h
  obtain ⟨a, ns, d, rfl, rfl, hs, q0, q⟩ := h
  obtain rfl := Vals.ref1 r
  obtain ⟨w1, rfl, e1⟩ := vals1 rz
  obtain ⟨its, rv, hl, _⟩ := I.list hs
  exact maxD_raw (I.ok.hd hc) hl.isList rv.ints (fun e h' tk hk => ⟨_, H, I.kept hk, e1, q0 e⟩) fun h' tk m t' hk h1 h2 => ⟨.int _, H, I.kept hk, ⟨_, rfl⟩, q m h1 h2⟩
end
end RW

namespace RW
open PySem PySem.Spec PyProof.Rows L2 PySem.RW
/-- repr(x) of a tuple -/
def rReprT (K : PySem.W.Frag) : List V → Hp → VK → Prop := fun vs H Q => ∃ (a : Addr) (ds : List PyData), vs = [.ref a] ∧ Dp K H (.ref a) (.tuple ds) ∧ wide (.tuple ds) = true ∧ (PyData.tuple ds).shown.length ≤ sizeLine ∧ (PyData.tuple ds).depth ≤ 50 ∧ Q (.str (PyData.tuple ds).shown) H
theorem call_reprT {X : Cx} (hG : X.A.guards = some []) (hr : X.A.units + 64 < cLine) (S : StatAt X.base) : CallR X (.builtin "repr") (rReprT X.K) := by
  intro pins s σ H vs us Q I r h
  obtain ⟨a, ds, rfl, hd, hw, hz, hdp, q⟩ := h
  obtain ⟨u, rfl, rv⟩ := vals1 r
  obtain rfl : u = Value.ref a := rv
  obtain ⟨as, rd⟩ := Dp.reads I _ _ _ hd rfl
  exact repr_tuple (S.keep fun b o e => I.bk b o e) rd hw hz hG (by omega) fun h' u tk hk => ⟨.str _, H, I.kept hk, ⟨_, rfl⟩, q⟩
end RW

namespace RW
open PySem PySem.Spec PyProof.Rows L2 PySem.RW
open PySem.W in
theorem ns_none_of {K : Frag} {h : Heap} {a : Addr} {m : Str → Option Value} {n : Str} (X : K.In h) (G : h.Ns a m) (e : nsIn K a n = some none) : m n = none := by
  obtain ⟨o, es, ep, ho, hd, _, hf⟩ := G
  unfold nsIn at e
  split at e
  · rename_i c d es' n' sl q
    have := X _ _ q
    rw [ho] at this
    cases this
    cases hd
    split at e
    · cases e
    · rename_i hn
      rw [← hf]
      split at e
      · cases e
      · unfold nsFind findBy
        rw [← Array.find?_toList, hn]
        rfl
  · cases e
theorem stat_of {K : PySem.W.Frag} {h : Heap} (X : K.In h) (G : h.NoLimit) (e : PySem.W.nsIn K cStatics "sys.int_max_str_digits" = some none) : StatAt h := by
  obtain ⟨mc, n, _⟩ := G
  exact ⟨mc, n, ns_none_of X n e⟩

/-- the law's def called with the script, where nothing is being shown -/
theorem law_callG {P : Program} {w : World} {K : PySem.W.Frag} {mg mb : Str → Option Value} {k : Nat} {fa a : Addr} {fd : FuncData} {x : Str} {sp : Sp} {s1 : Shared} {vs : List Value} {ns : List Int}
    (KX : K.In s1.heap) (hns : s1.heap.Ns mainGlobals mg) (hb : s1.heap.Ns builtinsNs mb) (hbb : ∀ x : Str, x ≠ "__name__" → mb x = bootBuiltins x) (hlim : s1.heap.NoLimit) (hg : s1.gens = #[])
    (ha : s1.heap.get? a = some { cls := .type "list", data := .seq vs.toArray }) (hi : IntsAre vs ns) (hl : ns.length ≤ sizeLine) (hr : Room k callerA)
    (F : ∀ base : Heap, Mod K mg base → FnG P w K mg base k fa fd [x] sp) (hbind : ∀ (s : Shared) (u : Value), BindsTo s fd ⟨[u], []⟩ [(x, u)])
    (hsp : ∀ H : Hp, Only H → SqL K H a (ns.map V.int) → sp [.ref a] H (fun v _ => v = .bl true) fun _ _ _ => False) :
    codeAny (model P w) callerA (.call (.ref fa) ⟨[.ref a], []⟩) (fun r s' => r = .ok (.ret (.bool true)) ∧ OldK s1.heap s'.heap ∧ s'.os = s1.os ∧ AllBare s'.gens) s1 := by
  have rv := vals_ints hi
  have lenV := hi.length
  have core : ∀ H : Hp, Only H → SqL K H a (ns.map V.int) → HOk P w H s1.heap → (∀ b, H b ≠ none → b = a) → (H a ≠ none → K.lookup a = none) →
      codeAny (model P w) callerA (.call (.ref fa) ⟨[.ref a], []⟩) (fun r s' => r = .ok (.ret (.bool true)) ∧ OldK s1.heap s'.heap ∧ s'.os = s1.os ∧ AllBare s'.gens) s1 := by
    intro H hO hS hok hA hK
    have keepB : ∀ {b : Addr} {o : Obj}, s1.heap.get? b = some o → H b = none → (hidT s1.heap H).get? b = some o := fun e n => hidT_get e n
    have noD : ∀ {b : Addr} {o : Obj} {es : Array DictEntry} {ep : Nat}, s1.heap.get? b = some o → o.data = .dict es ep → H b = none := fun {b o es ep} e d => by
      cases q : H b with
      | none => rfl
      | some u =>
        have e' : b = a := hA b (by rw [q]; simp)
        subst e'
        rw [ha] at e; cases e
        have d' : Data.seq vs.toArray _ = Data.dict es ep := d
        cases d'
    have nsK : ∀ {b : Addr} {m : Str → Option Value}, s1.heap.Ns b m → (hidT s1.heap H).Ns b m := fun {b m} ⟨o, es, ep, e, d, r⟩ => ⟨o, es, ep, keepB e (noD e d), d, r⟩
    have hKb : K.In (hidT s1.heap H) := fun b o e => keepB (KX b o e) (by
      cases q : H b with
      | none => rfl
      | some u =>
        have e' : b = a := hA b (by rw [q]; simp)
        subst e'
        rw [hK (by rw [q]; simp)] at e; cases e)
    have hM : Mod K mg (hidT s1.heap H) := ⟨hKb, nsK hns, ⟨mb, nsK hb, hbb⟩, let ⟨mc, h1, h2⟩ := hlim; ⟨mc, nsK h1, h2⟩⟩
    have e0 : Env0 P w K mg (hidT s1.heap H) callerA [] s1 H := ⟨rfl, hM, fun b o e => of_hidT e, Nat.le_of_eq (hidT_size _ _), trivial, fun b hb => absurd (show b ∈ ([] : List Addr) from hb) (by simp), hok, .of_eq hg⟩
    refine codeAny_mono ((F _ hM).run callerA [] s1 H ⟨[.ref a], []⟩ [.ref a] [.ref a] _ _ rfl hr e0 (hbind s1 (.ref a)) (.cons rfl .nil) (hsp H hO hS)) fun r s' h => ?_
    cases r with
    | error e => exact False.elim h
    | ok fl =>
      cases fl with
      | next => exact False.elim h
      | brk => exact False.elim h
      | cont => exact False.elim h
      | ret u =>
        obtain ⟨v, H', os, bare, un, hok', r', q⟩ := h
        have q' : v = .bl true := q
        subst q'
        obtain rfl : u = Value.bool true := r'
        refine ⟨rfl, OldK.of_keep fun b o e => ?_, os, bare⟩
        cases q : H b with
        | none => exact un.keep b o e q (by intro z; exact absurd (show b ∈ ([] : List Addr) from z) (by simp)) (by simp)
        | some u =>
          rcases hO b with z | ⟨ob, xs, z⟩
          · rw [q] at z; cases z
          · have z2 := un.frzs b ob _ z
            obtain ⟨e1, _⟩ := hok b _ z
            obtain ⟨e2, _⟩ := hok' b _ z2
            rw [e] at e1; cases e1
            exact e2
  cases hk : K.lookup a with
  | some o =>
    have e := KX a o hk
    rw [ha] at e
    cases e
    refine core (fun _ => none) (fun _ => .inl rfl) (.inr ⟨_, vs.toArray, _, hk, rfl, rfl, rfl, by rw [List.size_toArray, lenV]; exact hl, by simpa using rv⟩) (fun b u z => by have z' : (none : Option HO) = some u := z; cases z') (fun b z => absurd rfl z) fun z => absurd rfl z
  | none =>
    refine core (fun b => if b = a then some (.frz { cls := .type "list", data := .seq vs.toArray } (.lst (ns.map V.int))) else none) (fun b => ?_) (.inl (.inr ⟨{ cls := .type "list", data := .seq vs.toArray }, if_pos rfl⟩)) (fun b u z => ?_) (fun b z => ?_) fun _ => hk
    · by_cases hb : b = a
      · exact .inr ⟨_, _, if_pos hb⟩
      · exact .inl (if_neg hb)
    · by_cases hb : b = a
      · have z' := (if_pos hb).symm.trans z
        cases z'
        subst hb
        exact ⟨ha, by rw [List.length_map]; exact hl, vs, _, rv, ha⟩
      · have z' := (if_neg hb).symm.trans z
        cases z'
    · by_cases hb : b = a
      · exact hb
      · exact absurd (if_neg hb) z

theorem walk_G {l : PySem.W.OpenLaw} {n k : Nat} {q : Program} {loose : List Str} {XP : (Str → Option Value) → Heap → Prop} {YP : World → Heap → Prop} {d : DefRec} {K : Params → PySem.W.Frag} {sp : PySem.W.Frag → Sp} {x : Str}
    (hn : l.most = some n) (hn2 : n ≤ sizeLine) (hdf : d.params.defaults = []) (hr : Room k callerA)
    (hY : ∀ (w : World) (h : Heap), YP w h → (K w.params).In h)
    (F : ∀ (w : World) (mg : Str → Option Value) (fa : Addr) (h : Heap), (K w.params).In h → h.Ns mainGlobals mg → mg d.name = some (.ref fa) →
      ∃ fd : FuncData, (∀ (s : Shared) (u : Value), BindsTo s fd ⟨[u], []⟩ [(x, u)]) ∧
        ∀ base : Heap, Mod (K w.params) mg base → FnG l.prog w (K w.params) mg base k fa fd [x] (sp (K w.params)))
    (hsp : ∀ (K : PySem.W.Frag) (H : Hp) (a : Addr) (ns : List Int), ns.length ≤ n → (∀ z ∈ ns, Builtin.Int.intBits z ≤ 1048576) → Only H → SqL K H a (ns.map V.int) → sp K [.ref a] H (fun v _ => v = .bl true) fun _ _ _ => False) :
    PySem.W.WalkO q loose XP YP l.row.toRowW d [] (fun f vs => PySem.call f vs) := by
  refine Att.attach_callB hn hdf fun w s0 s1 mg mb fa o pm cd doc a vs ns G Y ho hd hcd hmg hobj hints hlen hbits hg => ?_
  have KX := hY w _ Y
  obtain ⟨fd, hb, hF⟩ := F w mg fa _ KX G.T.g hmg
  exact law_callG KX G.T.g G.T.b G.T.builtins G.T.nolimit hg hobj hints (Nat.le_trans hlen hn2) hr hF hb (fun H hO hS => hsp (K w.params) H a ns hlen hbits hO hS)
end RW

namespace RW
open PySem PySem.Spec PyProof.Rows L2
theorem tuple_mul_one (l : Addr) (items : Array Value) (n : Nat) (dd : Option Addr) (sl : Array (Option Value)) (u : Tok) :
    Meets (Builtin.«tuple.__mul__» ⟨[.ref l, .int 1 u], []⟩) (fun _ R s => s.heap.get? l = some { cls := .type "tuple", dict := dd, data := .seq items n, slots := sl } ∧ R (.ok (.ret (Value.ref l))) s) :=
  .of_wp fun prog w A R s h => by
    obtain ⟨hp, g, d, tk, os⟩ := s
    obtain ⟨hl, h⟩ := h
    have f1 := AutoSeq1.idx_int
    wp_walk using wpAny_loadPart' hl
    exact ⟨_, rfl, h⟩
section
variable {X : Cx}
theorem op_powW : OpR X (binaryOp .Pow) (rI (fun i j => 0 ≤ j ∧ (Builtin.Int.intBits i : Int) * j ≤ 2 ^ 27) fun i j => .int (i ^ j.toNat)) := opI fun _ _ _ _ _ _ _ hc q => pow_int hc.1 hc.2 q
/-- t * k, k from 1 on: t itself for 1 -/
def rRepA (K : PySem.W.Frag) : R2 := fun x y H Q => ∃ l k xs, x = .ref l ∧ y = .int k ∧ SqT K H l xs ∧ xs ≠ [] ∧ 1 ≤ k ∧ k ≤ 1000 ∧ xs.length ≤ 1000 ∧ (k = 1 → Q (.ref l) H) ∧ (k ≠ 1 → ∀ p, H p = none → Q (.ref p) (upd H p (.tup (List.replicate k.toNat xs).flatten)))
theorem op_repA : OpR X (binaryOp .Mult) (rRepA X.K) := by
  intro pins s σ H x y v u Q I rx ry h
  obtain ⟨l, k, xs, rfl, rfl, hT, hne, h1, h2, hz, q1, q2⟩ := h
  by_cases hk : k = 1
  · subst hk
    cases rx
    obtain ⟨t, rfl⟩ := ry
    obtain ⟨its, r, ⟨⟨cls, dd, data, sl⟩, ho, hc, n, hd⟩, hs⟩ := I.tuple hT
    simp only at hc hd
    subst hc hd
    exact wpAny_binaryOp_repeat_ref (T := "tuple") (U := "int") (by decide) ⟨_, ho, rfl⟩ (fun s' => typeIs_int s' 1 t) noFill_tuple_mul F.fills_int_mul F.slot_int_rmul repeat_tuple F.slot_int_index.lookup
      (call_meets F.slot_int_rmul (typeIs_int s 1 t) F.entry_int_rmul (F.args_int_rmul_2 _ _) (int_rmul_tuple 1 t l its.toArray n dd sl)
        ⟨ho, rfl, ⟨_, ho, rfl⟩, call_meets F.slot_tuple_mul ⟨_, ho, rfl⟩ F.entry_tuple_mul (F.args_tuple_mul_2 _ _) (tuple_mul_one l its.toArray n dd sl t) ⟨ho, ⟨.ref l, H, I, rfl, q1 rfl⟩⟩⟩)
  · exact op_repT pins s σ H _ _ v u Q I rx ry ⟨l, k, xs, rfl, rfl, hT, hne, by omega, h2, hz, q2 hk⟩
end
end RW

namespace K3
open PySem L2 RW RZ
def top (i : Nat) : Stmt := PySem.Challenge.pw_ridgespans_k03_shifts_and_layers.main.body.getD i (.Pass ⟨0, 0, 0, 0⟩)
abbrev sShifted : Stmt := top 4
abbrev sLaid : Stmt := top 5
abbrev sBegun : Stmt := top 6
abbrev sHigher : Stmt := top 7
abbrev sInts : Stmt := top 8
abbrev sAdded : Stmt := top 9
abbrev sGreatest : Stmt := top 10
abbrev sAbove : Stmt := top 11
abbrev sAsk : Stmt := top 12
abbrev sUrn : Stmt := top 14
abbrev sTake : Stmt := top 15
abbrev sOne : Stmt := top 16
abbrev sWorld : Stmt := top 17
abbrev sWhole : Stmt := top 18
abbrev sSide : Stmt := top 19
abbrev sRow : Stmt := top 20
abbrev sNear : Stmt := top 21
abbrev sPlus : Stmt := top 22
abbrev sMore : Stmt := top 23
abbrev sOver : Stmt := top 24
abbrev sLAbove : Stmt := top 25
abbrev sFirst : Stmt := top 26
abbrev sShiftsAdd : Stmt := top 27
abbrev sLayers : Stmt := top 28
abbrev sHeights : Stmt := top 29
abbrev sBegins : Stmt := top 30
abbrev sLaw : Stmt := top 31
/-! ### data -/
def nv : Option Int → V
  | none => .non
  | some i => .int i
theorem nv_none (o : Option Int) : decide (nv o = V.non) = o.isNone := by cases o <;> rfl
def addN : Option Int → Option Int → Option Int
  | some a, some b => some (a + b)
  | _, _ => none
def maxN : Option Int → Option Int → Option Int
  | some a, some b => some (if b < a then a else b)
  | some a, none => some a
  | none, b => b
def aboveN : Option Int → Option Int → Bool
  | none, _ => false
  | some _, none => true
  | some a, some b => decide (b < a)
/-! ### added -/
def spAdded : Sp := fun vs H Q _ => ∃ a b, vs = [nv a, nv b] ∧ Q (nv (addN a b)) H
/-- what a comprehension keeps: all that stood, and the list at D -/
def LcI (H0 : Hp) (D : Addr) (out : Nat → List V) : Nat → Hp → Prop := fun i H => Same H0 H ∧ H D = some (.lst (out i))
theorem Same.fresh {H H' : Hp} {p : Addr} {o : HO} (S : Same H H') (h : H' p = none) : Same H (upd H' p o) := fun b u e => by
  have h1 := S b u e
  rw [upd_ne (ne_of_none h1 h)]
  exact h1
theorem lcI_start {H : Hp} {D : Addr} {out : Nat → List V} (hD : H D = none) (h : out 0 = []) : LcI H D out 0 (upd H D (.lst [])) := ⟨Same.fresh (Same.refl H) hD, by rw [h]; exact upd_same⟩
theorem LcI.put {H0 H : Hp} {D : Addr} {out : Nat → List V} {i : Nat} {y : V} (hD : H0 D = none) (I : LcI H0 D out i H) (h : out (i + 1) = out i ++ [y]) : LcI H0 D out (i + 1) (upd H D (.lst (out i ++ [y]))) :=
  ⟨fun b u e => by rw [upd_ne (ne_of_none e hD)]; exact I.1 b u e, by rw [h]; exact upd_same⟩
theorem LcI.skip {H0 H : Hp} {D : Addr} {out : Nat → List V} {i : Nat} (I : LcI H0 D out i H) (h : out (i + 1) = out i) : LcI H0 D out (i + 1) H := ⟨I.1, by rw [h]; exact I.2⟩
theorem take_one {α : Type} {l : List α} {i : Nat} {x : α} (h : l[i]? = some x) : l.take (i + 1) = l.take i ++ [x] := by
  obtain ⟨hi, e⟩ := List.getElem?_eq_some_iff.mp h
  rw [List.take_succ_eq_append_getElem hi, e]
theorem map_at {α : Type} {g : α → V} {xs : List α} {i : Nat} {v : V} (h : (xs.map g)[i]? = some v) : ∃ x, xs[i]? = some x ∧ v = g x := by
  rw [List.getElem?_map] at h
  cases e : xs[i]? with
  | none => rw [e] at h; cases h
  | some x => rw [e] at h; exact ⟨x, rfl, (Option.some.inj h).symm⟩
theorem Same.sqT {K : PySem.W.Frag} {H H' : Hp} {a : Addr} {xs : List V} (e : Same H H') (h : SqT K H a xs) : SqT K H' a xs := by
  rcases h with (h | ⟨o, h⟩) | h
  · exact .inl (.inl (e _ _ h))
  · exact .inl (.inr ⟨o, e _ _ h⟩)
  · exact .inr h
theorem LcI.go {H0 H H' : Hp} {D : Addr} {out : Nat → List V} {i : Nat} (I : LcI H0 D out i H) (S : Same H H') : LcI H0 D out i H' := ⟨I.1.trans S, S _ _ I.2⟩
theorem LcI.fin {H0 H : Hp} {D : Addr} {out : Nat → List V} {i : Nat} {l : List V} (I : LcI H0 D out i H) (h : out i = l) : H D = some (.lst l) := by rw [← h]; exact I.2
section
variable {P : Program} {w : World} {K : PySem.W.Frag} {mg : Str → Option Value} {base : Heap}
theorem scAdded : FnScope ["one", "other"] ["one", "other"] (defScope sAdded) := ⟨rfl, rfl, rfl, by decide +kernel, rfl, by decide +kernel, by decide +kernel⟩
theorem ok_added {f : Addr} {fd : FuncData} (F : Fun K "added" "added" sAdded f fd) : FnOk P w K mg base CX0 1 f fd ["one", "other"] spAdded := by
  refine F.ok scAdded (fun vs H Q E h => ?_) (fun cdv A outer s H vs Q E hr h => ?_)
  · obtain ⟨a, b, rfl, _⟩ := h
    rfl
  · obtain ⟨a, b, rfl, k⟩ := h
    refine ⟨_, pss_cons (ps_if (PW.pt (pw_or (pt_cmpR op_isN (pv 0) pe_non (nomark _)) (pw_or1 (pt_cmpR op_isN (pv 1) pe_non (nomark _))))) (pss_one (ps_ret pe_non)) pss_nil) (pss_one (ps_ret (pe_op op_add (pv 0) (pv 1)))), ?_⟩
    cases a with
    | none =>
      refine ⟨_, rfl, rfl, _, rfl, ?_⟩
      exact iteT (iteT k)
    | some a =>
      refine ⟨_, rfl, rfl, _, rfl, iteF ⟨_, rfl, rfl, _, rfl, ?_⟩⟩
      cases b with
      | none => exact iteT k
      | some b => exact iteF ⟨_, rfl, _, rfl, _, _, rfl, rfl, k⟩

/-! ### integers_of -/
def intsOf (xs : List (Option Int)) : List Int := xs.filterMap id
/-- integers_of(numbers), numbers a list or a tuple -/
def spInts (K : PySem.W.Frag) : Sp := fun vs H Q _ => ∃ a xs, vs = [.ref a] ∧ (SqL K H a (xs.map nv) ∨ SqT K H a (xs.map nv)) ∧ xs.length ≤ 1000 ∧ ∀ H' p, Same H H' → H p = none → H' p = some (.lst ((intsOf xs).map V.int)) → Q (.ref p) H'
theorem scInts : FnScope ["numbers", "number"] ["numbers"] (defScope sInts) := ⟨rfl, rfl, rfl, by decide +kernel, rfl, by decide +kernel, by decide +kernel⟩
theorem ok_ints {f : Addr} {fd : FuncData} (F : Fun K "integers_of" "integers_of" sInts f fd) : FnOk P w K mg base CX0 1 f fd ["numbers"] (spInts K) := by
  refine F.ok scInts (fun vs H Q E h => ?_) (fun cdv A outer s H vs Q E hr h => ?_)
  · obtain ⟨a, b, rfl, _⟩ := h
    rfl
  · obtain ⟨a, xs, rfl, hS, hl, k⟩ := h
    rcases hS with hS | hS
    · refine ⟨_, pss_one (ps_ret (pe_lc (own := [("number", 1)]) (g := gName 1) rfl scInts.nd (pi_list (pv 0)) (blkOk_by (N := ["numbers", "number"]) (sc := defScope sInts) (by decide +kernel)) (fun _ _ _ _ _ => pg_name (i := 1) scInts.nd rfl (Or.inl rfl))
        (fun _ _ _ _ _ => pts_one (pt_cmpR op_notN (pv 1) pe_non (nomark _))) (fun _ _ _ _ _ => pv 1))), ?_⟩
      refine ⟨_, rfl, a, rfl, ⟨_, hS⟩, fun D hD => lc_list (K := K) (a := a) (xs := xs.map nv) (LcI H D fun i => (intsOf (xs.take i)).map V.int) (lcI_start hD rfl) (fun i H' _ I => I.1.seq hS) (fun i x H' hi I => ?_) (fun H' I => k _ _ I.1 hD ?_)⟩
      · obtain ⟨n, hn, rfl⟩ := map_at hi
        refine ⟨rfl, _, rfl, rfl, _, rfl, ?_⟩
        have et := take_one hn
        have hi2 := (List.getElem?_eq_some_iff.mp hn).1
        cases n with
        | none => exact iteF (I.skip (by show List.map V.int (intsOf (xs.take (i + 1))) = _; rw [et]; unfold intsOf; rw [List.filterMap_append]; simp))
        | some n =>
          refine iteT ⟨_, rfl, _, I.2, ?_, I.put hD ?_⟩
          · exact small1000 (by rw [List.length_map]; exact Nat.le_trans (List.length_filterMap_le _ _) (Nat.le_trans (List.length_take_le _ _) (by omega)))
          · show List.map V.int (intsOf (xs.take (i + 1))) = _
            rw [et]; unfold intsOf; rw [List.filterMap_append]; simp
            rfl
      · exact I.fin (by show List.map V.int (intsOf (xs.take _)) = _; rw [List.length_map, List.take_length])
    · refine ⟨_, pss_one (ps_ret (pe_lc (own := [("number", 1)]) (g := gName 1) rfl scInts.nd (pi_tup (pv 0)) (blkOk_by (N := ["numbers", "number"]) (sc := defScope sInts) (by decide +kernel)) (fun _ _ _ _ _ => pg_name (i := 1) scInts.nd rfl (Or.inl rfl))
        (fun _ _ _ _ _ => pts_one (pt_cmpR op_notN (pv 1) pe_non (nomark _))) (fun _ _ _ _ _ => pv 1))), ?_⟩
      refine ⟨_, rfl, a, rfl, ⟨_, hS⟩, fun D hD => lc_tup (K := K) (a := a) (xs := xs.map nv) (LcI H D fun i => (intsOf (xs.take i)).map V.int) (lcI_start hD rfl) (fun i H' _ I => Same.sqT I.1 hS) (fun i x H' hi I => ?_) (fun H' I => k _ _ I.1 hD ?_)⟩
      · obtain ⟨n, hn, rfl⟩ := map_at hi
        refine ⟨rfl, _, rfl, rfl, _, rfl, ?_⟩
        have et := take_one hn
        have hi2 := (List.getElem?_eq_some_iff.mp hn).1
        cases n with
        | none => exact iteF (I.skip (by show List.map V.int (intsOf (xs.take (i + 1))) = _; rw [et]; unfold intsOf; rw [List.filterMap_append]; simp))
        | some n =>
          refine iteT ⟨_, rfl, _, I.2, ?_, I.put hD ?_⟩
          · exact small1000 (by rw [List.length_map]; exact Nat.le_trans (List.length_filterMap_le _ _) (Nat.le_trans (List.length_take_le _ _) (by omega)))
          · show List.map V.int (intsOf (xs.take (i + 1))) = _
            rw [et]; unfold intsOf; rw [List.filterMap_append]; simp
            rfl
      · exact I.fin (by show List.map V.int (intsOf (xs.take _)) = _; rw [List.length_map, List.take_length])

/-! ### what callers need of a def -/
structure Cal (P : Program) (w : World) (K : PySem.W.Frag) (mg : Str → Option Value) (base : Heap) (x : Str) (k : Nat) (ps : List Str) (sp : Sp) : Prop where
  ex : ∃ f fd, FnOk P w K mg base CX0 k f fd ps sp ∧ mg x = some (.ref f) ∧ PySem.W.keepIn K (.ref f) = true ∧ Binds K fd ps []
structure Bl (mg : Str → Option Value) : Prop where
  len : mg "len" = none
  tuple : mg "tuple" = none
  max : mg "max" = none
  zip : mg "zip" = none
  any : mg "any" = none
  repr : mg "repr" = none
  list : mg "list" = none
  sum : mg "sum" = none
  abs : mg "abs" = none
  int : mg "int" = none
  range : mg "range" = none

/-! ### ask_as_many -/
def spAsk : Sp := fun vs H Q _ => ∃ n : Int, vs = [.int n, .int n] ∧ Q .non H
theorem scAsk : FnScope ["one_places", "other_places"] ["one_places", "other_places"] (defScope sAsk) := ⟨rfl, rfl, rfl, by decide +kernel, rfl, by decide +kernel, by decide +kernel⟩
theorem ok_ask {f : Addr} {fd : FuncData} (F : Fun K "ask_as_many" "ask_as_many" sAsk f fd) : FnOk P w K mg base CX0 1 f fd ["one_places", "other_places"] spAsk := by
  refine F.ok scAsk (fun vs H Q E h => ?_) (fun cdv A outer s H vs Q E hr h => ?_)
  · obtain ⟨n, rfl, _⟩ := h
    rfl
  · obtain ⟨n, rfl, k⟩ := h
    refine ⟨_, pss_one (ps_if (pt_cmpR op_ne (pv 0) (pv 1) (nomark _)) (pss_one ps_never) pss_nil), ?_⟩
    exact ⟨_, rfl, _, rfl, rfl, _, rfl, iteNS rfl k⟩

/-! ### greatest -/
def gr : List Int → Option Int
  | [] => none
  | x :: r => match gr r with
    | none => some x
    | some m => some (if m < x then x else m)
theorem gr_none : ∀ {l : List Int}, gr l = none → l = []
  | [], _ => rfl
  | x :: r, h => by
    unfold gr at h
    split at h <;> cases h
theorem gr_is : ∀ {l : List Int} {m : Int}, m ∈ l → (∀ y ∈ l, y ≤ m) → gr l = some m
  | [], m, h, _ => by cases h
  | x :: r, m, h, hm => by
    unfold gr
    have hx : x ≤ m := hm x (List.mem_cons_self ..)
    cases e : gr r with
    | none =>
      have := gr_none e
      subst this
      rcases List.mem_cons.mp h with rfl | h
      · rfl
      · cases h
    | some z =>
      have hz : z ∈ r := by
        clear h hm hx
        induction r generalizing z with
        | nil => cases e
        | cons y r ih =>
          unfold gr at e
          split at e
          · cases e; exact List.mem_cons_self ..
          · rename_i q hq
            cases e
            by_cases hh : q < y
            · rw [if_pos hh]; exact List.mem_cons_self ..
            · rw [if_neg hh]; exact List.mem_cons_of_mem _ (ih _ hq)
      have hzm := hm z (List.mem_cons_of_mem _ hz)
      show some (if z < x then x else z) = some m
      rcases List.mem_cons.mp h with rfl | h
      · by_cases q : z < m
        · rw [if_pos q]
        · rw [if_neg q]; congr 1; omega
      · have := gr_is h (fun y hy => hm y (List.mem_cons_of_mem _ hy))
        rw [e] at this
        cases this
        rw [if_neg (by omega)]
theorem gr_two (a b : Option Int) : gr (intsOf [a, b]) = maxN a b := by
  cases a <;> cases b <;> simp [intsOf, gr, maxN]
def spGreatest (K : PySem.W.Frag) : Sp := fun vs H Q _ => ∃ a xs, vs = [.ref a] ∧ (SqL K H a (xs.map nv) ∨ SqT K H a (xs.map nv)) ∧ xs.length ≤ 1000 ∧ ∀ H', Same H H' → Q (nv (gr (intsOf xs))) H'
theorem scGreatest : FnScope ["numbers"] ["numbers"] (defScope sGreatest) := ⟨rfl, rfl, rfl, by decide +kernel, rfl, by decide +kernel, by decide +kernel⟩
theorem ok_greatest {f : Addr} {fd : FuncData} (F : Fun K "greatest" "greatest" sGreatest f fd) (B : Bl mg) (C1 : Cal P w K mg base "integers_of" 1 ["numbers"] (spInts K)) : FnOk P w K mg base CX0 2 f fd ["numbers"] (spGreatest K) := by
  obtain ⟨f1, fd1, G1, m1, k1, b1⟩ := C1.ex
  refine F.ok scGreatest (fun vs H Q E h => ?_) (fun cdv A outer s H vs Q E hr h => ?_)
  · obtain ⟨a, b, rfl, _⟩ := h
    rfl
  · obtain ⟨a, xs, rfl, hS, hl, k⟩ := h
    refine ⟨_, pss_one (ps_ret (pe_callBK (call_maxD rfl) (by rfl) B.max (by decide +kernel) (pa_cons (pe_call G1 hr rfl m1 k1 b1 .nil pass0 (pa_cons (pv 0) pa_nil)) pa_nil) (pk_cons pe_non pk_nil))), ?_⟩
    refine ⟨_, rfl, a, xs, rfl, hS, hl, fun H' p S hp e => ?_⟩
    refine ⟨p, intsOf xs, _, rfl, rfl, SqL.of e, fun q => ?_, fun m h1 h2 => ?_⟩
    · have := k H' S
      rw [q] at this
      exact this
    · have := k H' S
      rw [gr_is h1 h2] at this
      exact this

/-! ### shifted -/
theorem yes_ {σ : L2.St} {H : Hp} {A B : Hp → Prop} (h : A H) : tYes σ H (fun b H3 => if b = true then A H3 else B H3) := iteT (B := B H) h
def shiftN (xs : List (Option Int)) (n : Option Int) : List (Option Int) := xs.map fun x => addN x n
theorem take_map {α β : Type} (g : α → β) {xs : List α} {i : Nat} {x : α} (h : xs[i]? = some x) : (xs.take (i + 1)).map g = (xs.take i).map g ++ [g x] := by rw [take_one h]; simp
def spShifted : Sp := fun vs H Q _ => ∃ a xs n, vs = [.ref a, nv n] ∧ H a = some (.tup (xs.map nv)) ∧ xs.length ≤ 1000 ∧ ∀ H' p, Same H H' → H p = none → H' p = some (.tup ((shiftN xs n).map nv)) → Q (.ref p) H'
theorem scShifted : FnScope ["side", "number", "item"] ["side", "number"] (defScope sShifted) := ⟨rfl, rfl, rfl, by decide +kernel, rfl, by decide +kernel, by decide +kernel⟩
theorem ok_shifted {f : Addr} {fd : FuncData} (F : Fun K "shifted" "shifted" sShifted f fd) (B : Bl mg) (C1 : Cal P w K mg base "added" 1 ["one", "other"] spAdded) : FnOk P w K mg base CX0 2 f fd ["side", "number"] spShifted := by
  obtain ⟨f1, fd1, G1, m1, k1, b1⟩ := C1.ex
  refine F.ok scShifted (fun vs H Q E h => ?_) (fun cdv A outer s H vs Q E hr h => ?_)
  · obtain ⟨a, xs, n, rfl, _⟩ := h
    rfl
  · obtain ⟨a, xs, n, rfl, hT, hl, k⟩ := h
    refine ⟨_, pss_one (ps_ret (pe_callTy call_tuple_of (by rfl) B.tuple (by decide +kernel) (pa_cons (pe_lc (own := [("item", 2)]) (g := gName 2) rfl scShifted.nd (pi_tup (pv 0)) (blkOk_by (N := ["side", "number", "item"]) (sc := defScope sShifted) (by decide +kernel)) (fun _ _ _ _ _ => pg_name (i := 2) scShifted.nd rfl (Or.inl rfl))
        (fun _ _ _ _ _ => pts_nil) (fun _ _ _ _ _ => pe_call G1 hr rfl m1 k1 b1 .nil pass0 (pa_cons (pv 2) (pa_cons (pv 1) pa_nil)))) pa_nil))), ?_⟩
    refine ⟨_, rfl, a, rfl, ⟨_, SqT.of hT⟩, fun D hD => lc_tup (K := K) (a := a) (xs := xs.map nv) (LcI H D fun i => (shiftN (xs.take i) n).map nv) (lcI_start hD rfl) (fun i H' _ I => SqT.of (I.1 _ _ hT)) (fun i x H' hi I => ?_) (fun H' I => ?_)⟩
    · obtain ⟨x, hn, rfl⟩ := map_at hi
      have hi2 := (List.getElem?_eq_some_iff.mp hn).1
      refine ⟨rfl, yes_ ?_⟩
      refine ⟨_, rfl, _, rfl, x, n, rfl, _, I.2, ?_, I.put hD ?_⟩
      · exact small1000 (by rw [List.length_map]; unfold shiftN; rw [List.length_map, List.length_take]; omega)
      · show List.map nv (shiftN (xs.take (i + 1)) n) = _
        unfold shiftN
        rw [take_map _ hn, List.map_append]
        rfl
    · refine ⟨D, _, rfl, .inl ⟨SqL.of (I.fin rfl), fun p hp => k _ _ (Same.fresh I.1 hp) (I.1.free hp) ?_⟩⟩
      rw [upd_same]
      show some (HO.tup (List.map nv (shiftN (xs.take _) n))) = _
      rw [List.length_map, List.take_length]

/-! ### laid -/
def layN (xs ys : List (Option Int)) : List (Option Int) := List.zipWith maxN xs ys
end
theorem walk_zipT {K : PySem.W.Frag} {a b : Addr} {xs ys : List V} {n : Nat} (hn : n = min xs.length ys.length) : Walk (ItzT K a b) n (fun H => SqT K H a xs ∧ SqT K H b ys) (YPair (fun i => xs[i]?) (fun i => ys[i]?)) := by
  subst hn
  refine ⟨fun i _ hi q => ?_, fun _ q => ⟨xs, ys, q.1, q.2, by omega⟩, fun i H v H' _ q y => ?_⟩
  · have h1 : i < xs.length := by omega
    have h2 : i < ys.length := by omega
    exact ⟨xs, ys, xs[i], ys[i], q.1, q.2, by simp [h1], by simp [h2]⟩
  · obtain ⟨T, x, z, h1, h2, h3, h4, h5⟩ := y
    exact ⟨T, x, z, h1, h2, h3, h4 xs q.1, h5 ys q.2⟩
theorem zip_one {g : Option Int → Option Int → β} {xs ys : List (Option Int)} {i : Nat} {x y : Option Int} (hx : xs[i]? = some x) (hy : ys[i]? = some y) : List.zipWith g (xs.take (i + 1)) (ys.take (i + 1)) = List.zipWith g (xs.take i) (ys.take i) ++ [g x y] := by
  rw [take_one hx, take_one hy]
  have h1 := (List.getElem?_eq_some_iff.mp hx).1
  have h2 := (List.getElem?_eq_some_iff.mp hy).1
  rw [List.zipWith_append (by rw [List.length_take, List.length_take]; omega)]
  rfl
section
variable {P : Program} {w : World} {K : PySem.W.Frag} {mg : Str → Option Value} {base : Heap}
def spLaid : Sp := fun vs H Q _ => ∃ a b xs ys, vs = [.ref a, .ref b] ∧ H a = some (.tup (xs.map nv)) ∧ H b = some (.tup (ys.map nv)) ∧ xs.length = ys.length ∧ xs.length ≤ 1000 ∧ ∀ H' p, Same H H' → H p = none → H' p = some (.tup ((layN xs ys).map nv)) → Q (.ref p) H'
theorem scLaid : FnScope ["one_side", "other_side", "one", "other"] ["one_side", "other_side"] (defScope sLaid) := ⟨rfl, rfl, rfl, by decide +kernel, rfl, by decide +kernel, by decide +kernel⟩
theorem ok_laid {f : Addr} {fd : FuncData} (F : Fun K "laid" "laid" sLaid f fd) (B : Bl mg) (C1 : Cal P w K mg base "greatest" 2 ["numbers"] (spGreatest K)) (C2 : Cal P w K mg base "ask_as_many" 1 ["one_places", "other_places"] spAsk) : FnOk P w K mg base CX0 3 f fd ["one_side", "other_side"] spLaid := by
  obtain ⟨f1, fd1, G1, m1, k1, b1⟩ := C1.ex
  obtain ⟨f2, fd2, G2, m2, k2, b2⟩ := C2.ex
  refine F.ok scLaid (fun vs H Q E h => ?_) (fun cdv A outer s H vs Q E hr h => ?_)
  · obtain ⟨a, b, xs, ys, rfl, _⟩ := h
    rfl
  · obtain ⟨a, b, xs, ys, rfl, hA, hB, hxy, hl, k⟩ := h
    have hr1 : Room 1 _ := hr.mono (by decide)
    refine ⟨_, pss_cons (ps_expr (pe_call G2 hr1 rfl m2 k2 b2 .nil pass0 (pa_cons (pe_callB call_len_seq (by rfl) B.len PySem.boot_len (pa_cons (pv 0) pa_nil)) (pa_cons (pe_callB call_len_seq (by rfl) B.len PySem.boot_len (pa_cons (pv 1) pa_nil)) pa_nil))))
      (pss_one (ps_ret (pe_callTy call_tuple_of (by rfl) B.tuple (by decide +kernel) (pa_cons (pe_lc (own := [("one", 2), ("other", 3)]) (g := gTup K 2 (gCons (gName 2) (gCons (gName 3) gNil))) rfl scLaid.nd (pi_zipA (by rfl) B.zip (pa_cons (pv 0) (pa_cons (pv 1) pa_nil))) (blkOk_by (N := ["one_side", "other_side", "one", "other"]) (sc := defScope sLaid) (by decide +kernel))
        (fun _ _ _ _ _ => pg_tup rfl (pgs_cons (pg_name (i := 2) scLaid.nd rfl (Or.inl rfl)) (pgs_cons (pg_name (i := 3) scLaid.nd rfl (Or.inl rfl)) pgs_nil)))
        (fun _ _ _ _ _ => pts_nil) (fun _ _ _ _ _ => pe_call G1 hr rfl m1 k1 b1 .nil pass0 (pa_cons (pe_lst (pa_cons (pv 2) (pa_cons (pv 3) pa_nil))) pa_nil))) pa_nil)))), ?_⟩
    refine ⟨_, rfl, a, _, rfl, .inr (SqT.of hA), _, rfl, b, _, rfl, .inr (SqT.of hB), (xs.length : Int), ?_, ?_⟩
    · rw [List.length_map, List.length_map, hxy]
      rfl
    · refine ⟨_, rfl, _, rfl, a, b, xs.map nv, ys.map nv, rfl, .inr ⟨SqT.of hA, SqT.of hB, fun D hD => ?_⟩⟩
      refine lc_it (walk_zipT (n := xs.length) (by simp [hxy])) (LcI H D fun i => (layN (xs.take i) (ys.take i)).map nv) (lcI_start hD rfl) (fun i H' _ I => ⟨SqT.of (I.1 _ _ hA), SqT.of (I.1 _ _ hB)⟩) (fun i v H1 H2 hi I Y => ?_) (fun H' I => ?_)
      · obtain ⟨T, x, y, rfl, hT, rfl, ex, ey⟩ := Y
        obtain ⟨x, hx, rfl⟩ := map_at ex
        obtain ⟨y, hy, rfl⟩ := map_at ey
        refine ⟨T, _, rfl, SqT.of upd_same, rfl, _, _, rfl, _, _, rfl, rfl, rfl, yes_ ?_⟩
        have S1 : Same H1 (upd H1 T (.tup [nv x, nv y])) := Same.fresh (Same.refl _) hT
        refine ⟨_, rfl, _, rfl, (by show 2 ≤ sizeLine; decide), fun p hp => ⟨p, [x, y], rfl, .inl (SqL.of upd_same), (by show 2 ≤ 1000; decide), fun H3 S3 => ?_⟩⟩
        have S2 := (Same.fresh S1 hp).trans S3
        have I3 := I.go S2
        rw [gr_two]
        refine ⟨_, I3.2, ?_, I3.put hD ?_⟩
        · exact small1000 (by rw [List.length_map]; unfold layN; rw [List.length_zipWith, List.length_take, List.length_take]; omega)
        · show List.map nv (layN (xs.take (i + 1)) (ys.take (i + 1))) = _
          unfold layN
          rw [zip_one hx hy, List.map_append]
          rfl
      · refine ⟨D, _, rfl, .inl ⟨SqL.of (I.fin rfl), fun p hp => k _ _ (Same.fresh I.1 hp) (I.1.free hp) ?_⟩⟩
        rw [upd_same]
        show some (HO.tup (List.map nv (layN (xs.take xs.length) (ys.take xs.length)))) = _
        rw [List.take_length, hxy, List.take_length]

/-! ### begun -/
def spBegun : Sp := fun vs H Q _ => ∃ a xs z r, vs = [.ref a] ∧ H a = some (.tup (xs.map nv)) ∧ xs.length ≤ 1000 ∧ intsOf xs = z :: r ∧ ∀ H' p, Same H H' → H p = none → H' p = some (.tup ((shiftN xs (some (-z))).map nv)) → Q (.ref p) H'
theorem scBegun : FnScope ["row"] ["row"] (defScope sBegun) := ⟨rfl, rfl, rfl, by decide +kernel, rfl, by decide +kernel, by decide +kernel⟩
theorem ok_begun {f : Addr} {fd : FuncData} (F : Fun K "begun" "begun" sBegun f fd) (C1 : Cal P w K mg base "shifted" 2 ["side", "number"] spShifted) (C2 : Cal P w K mg base "integers_of" 1 ["numbers"] (spInts K)) : FnOk P w K mg base CX0 3 f fd ["row"] spBegun := by
  obtain ⟨f1, fd1, G1, m1, k1, b1⟩ := C1.ex
  obtain ⟨f2, fd2, G2, m2, k2, b2⟩ := C2.ex
  refine F.ok scBegun (fun vs H Q E h => ?_) (fun cdv A outer s H vs Q E hr h => ?_)
  · obtain ⟨a, xs, z, r, rfl, _⟩ := h
    rfl
  · obtain ⟨a, xs, z, r, rfl, hT, hl, ez, k⟩ := h
    have hr1 : Room 1 _ := hr.mono (by decide)
    refine ⟨_, pss_one (ps_ret (pe_call G1 hr rfl m1 k1 b1 .nil pass0 (pa_cons (pv 0) (pa_cons (pe_un un_neg (pe_ix ix_list (pe_call G2 hr1 rfl m2 k2 b2 .nil pass0 (pa_cons (pv 0) pa_nil)) pe_int (fun _ _ => rfl))) pa_nil)))), ?_⟩
    refine ⟨_, rfl, _, rfl, a, xs, rfl, .inr (SqT.of hT), hl, fun H' p S hp e => ?_⟩
    refine ⟨p, _, _, _, rfl, rfl, SqL.of e, by rw [ez]; exact atI_nat (j := 0) rfl, z, rfl, ?_⟩
    exact ⟨a, xs, some (-z), rfl, S _ _ hT, hl, fun H2 q S2 hq e2 => k H2 q (S.trans S2) (S.free hq) e2⟩

/-! ### is_above, is_higher -/
def spAboveF : Sp := fun vs H Q _ => ∃ a b, vs = [nv a, nv b] ∧ Q (.bl (aboveN a b)) H
theorem scAboveF : FnScope ["one", "other"] ["one", "other"] (defScope sAbove) := ⟨rfl, rfl, rfl, by decide +kernel, rfl, by decide +kernel, by decide +kernel⟩
theorem ok_above {f : Addr} {fd : FuncData} (F : Fun K "is_above" "is_above" sAbove f fd) : FnOk P w K mg base CX0 1 f fd ["one", "other"] spAboveF := by
  refine F.ok scAboveF (fun vs H Q E h => ?_) (fun cdv A outer s H vs Q E hr h => ?_)
  · obtain ⟨a, b, rfl, _⟩ := h
    rfl
  · obtain ⟨a, b, rfl, k⟩ := h
    refine ⟨_, pss_cons (ps_if (pt_cmpR op_isN (pv 0) pe_non (nomark _)) (pss_one (ps_ret pe_bl)) pss_nil) (pss_one (ps_ret (pe_or (pe_cmpR op_isN (pv 1) pe_non (nomark _)) (pe_one (pe_cmpR op_gt (pv 0) (pv 1) (nomark _)))))), ?_⟩
    cases a with
    | none =>
      refine ⟨_, rfl, rfl, _, rfl, ?_⟩
      exact iteT k
    | some a =>
      refine ⟨_, rfl, rfl, _, rfl, iteF ⟨_, rfl, rfl, _, rfl, ?_⟩⟩
      cases b with
      | none => exact iteT k
      | some b => exact iteF ⟨_, rfl, _, rfl, _, _, rfl, rfl, k⟩
def higherN (xs ys : List (Option Int)) : Bool := (List.zipWith aboveN xs ys).any id
end
end K3

namespace K3
open PySem L2 RW RZ
section
variable {P : Program} {w : World} {K : PySem.W.Frag} {mg : Str → Option Value} {base : Heap}
def spHigher : Sp := fun vs H Q _ => ∃ a b xs ys, vs = [.ref a, .ref b] ∧ H a = some (.tup (xs.map nv)) ∧ H b = some (.tup (ys.map nv)) ∧ xs.length = ys.length ∧ xs.length ≤ 1000 ∧ ∀ H', Same H H' → Q (.bl (higherN xs ys)) H'
theorem scHigher : FnScope ["one_side", "other_side", "one", "other"] ["one_side", "other_side"] (defScope sHigher) := ⟨rfl, rfl, rfl, by decide +kernel, rfl, by decide +kernel, by decide +kernel⟩
theorem ok_higher {f : Addr} {fd : FuncData} (F : Fun K "is_higher" "is_higher" sHigher f fd) (B : Bl mg) (C1 : Cal P w K mg base "is_above" 1 ["one", "other"] spAboveF) (C2 : Cal P w K mg base "ask_as_many" 1 ["one_places", "other_places"] spAsk) : FnOk P w K mg base CX0 2 f fd ["one_side", "other_side"] spHigher := by
  obtain ⟨f1, fd1, G1, m1, k1, b1⟩ := C1.ex
  obtain ⟨f2, fd2, G2, m2, k2, b2⟩ := C2.ex
  refine F.ok scHigher (fun vs H Q E h => ?_) (fun cdv A outer s H vs Q E hr h => ?_)
  · obtain ⟨a, b, xs, ys, rfl, _⟩ := h
    rfl
  · obtain ⟨a, b, xs, ys, rfl, hA, hB, hxy, hl, k⟩ := h
    refine ⟨_, pss_cons (ps_expr (pe_call G2 hr rfl m2 k2 b2 .nil pass0 (pa_cons (pe_callB call_len_seq (by rfl) B.len PySem.boot_len (pa_cons (pv 0) pa_nil)) (pa_cons (pe_callB call_len_seq (by rfl) B.len PySem.boot_len (pa_cons (pv 1) pa_nil)) pa_nil))))
      (pss_one (ps_ret (pe_callB (cr_any rfl) (by rfl) B.any (by decide +kernel) (pa_cons (pe_lc (own := [("one", 2), ("other", 3)]) (g := gTup K 2 (gCons (gName 2) (gCons (gName 3) gNil))) rfl scHigher.nd (pi_zipA (by rfl) B.zip (pa_cons (pv 0) (pa_cons (pv 1) pa_nil))) (blkOk_by (N := ["one_side", "other_side", "one", "other"]) (sc := defScope sHigher) (by decide +kernel))
        (fun _ _ _ _ _ => pg_tup rfl (pgs_cons (pg_name (i := 2) scHigher.nd rfl (Or.inl rfl)) (pgs_cons (pg_name (i := 3) scHigher.nd rfl (Or.inl rfl)) pgs_nil)))
        (fun _ _ _ _ _ => pts_nil) (fun _ _ _ _ _ => pe_call G1 hr rfl m1 k1 b1 .nil pass0 (pa_cons (pv 2) (pa_cons (pv 3) pa_nil)))) pa_nil)))), ?_⟩
    refine ⟨_, rfl, a, _, rfl, .inr (SqT.of hA), _, rfl, b, _, rfl, .inr (SqT.of hB), (xs.length : Int), ?_, ?_⟩
    · rw [List.length_map, List.length_map, hxy]
      rfl
    · refine ⟨_, rfl, _, rfl, a, b, xs.map nv, ys.map nv, rfl, .inr ⟨SqT.of hA, SqT.of hB, fun D hD => ?_⟩⟩
      refine lc_it (walk_zipT (n := xs.length) (by simp [hxy])) (LcI H D fun i => (List.zipWith aboveN (xs.take i) (ys.take i)).map V.bl) (lcI_start hD rfl) (fun i H' _ I => ⟨SqT.of (I.1 _ _ hA), SqT.of (I.1 _ _ hB)⟩) (fun i v H1 H2 hi I Y => ?_) (fun H' I => ?_)
      · obtain ⟨T, x, y, rfl, hT, rfl, ex, ey⟩ := Y
        obtain ⟨x, hx, rfl⟩ := map_at ex
        obtain ⟨y, hy, rfl⟩ := map_at ey
        refine ⟨T, _, rfl, SqT.of upd_same, rfl, _, _, rfl, _, _, rfl, rfl, rfl, yes_ ?_⟩
        have S1 : Same H1 (upd H1 T (.tup [nv x, nv y])) := Same.fresh (Same.refl _) hT
        have I3 := I.go S1
        refine ⟨_, rfl, _, rfl, x, y, rfl, _, I3.2, ?_, I3.put hD ?_⟩
        · exact small1000 (by rw [List.length_map, List.length_zipWith, List.length_take, List.length_take]; omega)
        · show List.map V.bl (List.zipWith aboveN (xs.take (i + 1)) (ys.take (i + 1))) = _
          rw [zip_one hx hy, List.map_append]
          rfl
      · refine ⟨D, _, rfl, SqL.of (I.fin rfl), ?_⟩
        have := k H' I.1
        rw [List.take_length, hxy, List.take_length]
        exact this

/-! ### _law_plus, _law_more, _law_over, _law_above, _law_first -/
def spPlus : Sp := fun vs H Q _ => ∃ a xs n, vs = [.ref a, nv n] ∧ H a = some (.tup (xs.map nv)) ∧ xs.length ≤ 1000 ∧ ∀ H' p, Same H H' → H p = none → H' p = some (.tup ((shiftN xs n).map nv)) → Q (.ref p) H'
theorem scPlus : FnScope ["line", "much", "own"] ["line", "much"] (defScope sPlus) := ⟨rfl, rfl, rfl, by decide +kernel, rfl, by decide +kernel, by decide +kernel⟩
theorem ok_plus {f : Addr} {fd : FuncData} (F : Fun K "_law_plus" "_law_plus" sPlus f fd) (B : Bl mg) : FnOk P w K mg base CX0 1 f fd ["line", "much"] spPlus := by
  refine F.ok scPlus (fun vs H Q E h => ?_) (fun cdv A outer s H vs Q E hr h => ?_)
  · obtain ⟨a, xs, n, rfl, _⟩ := h
    rfl
  · obtain ⟨a, xs, n, rfl, hT, hl, k⟩ := h
    refine ⟨_, pss_one (ps_ret (pe_callTy call_tuple_of (by rfl) B.tuple (by decide +kernel) (pa_cons (pe_lc (own := [("own", 2)]) (g := gName 2) rfl scPlus.nd (pi_tup (pv 0)) (blkOk_by (N := ["line", "much", "own"]) (sc := defScope sPlus) (by decide +kernel)) (fun _ _ _ _ _ => pg_name (i := 2) scPlus.nd rfl (Or.inl rfl))
        (fun _ _ _ _ _ => pts_nil) (fun _ _ _ _ _ => pe_ifExp (PW.pt (pw_or (pt_cmpR op_isN (pv 2) pe_non (nomark _)) (pw_or1 (pt_cmpR op_isN (pv 1) pe_non (nomark _))))) pe_non (pe_op op_add (pv 2) (pv 1)))) pa_nil))), ?_⟩
    refine ⟨_, rfl, a, rfl, ⟨_, SqT.of hT⟩, fun D hD => lc_tup (K := K) (a := a) (xs := xs.map nv) (LcI H D fun i => (shiftN (xs.take i) n).map nv) (lcI_start hD rfl) (fun i H' _ I => SqT.of (I.1 _ _ hT)) (fun i x H' hi I => ?_) (fun H' I => ?_)⟩
    · obtain ⟨x, hn, rfl⟩ := map_at hi
      have hi2 := (List.getElem?_eq_some_iff.mp hn).1
      have fin : ∀ y, y = nv (addN x n) → ∃ acc, H' D = some (.lst acc) ∧ acc.length < sizeLine ∧ LcI H D (fun i => (shiftN (xs.take i) n).map nv) (i + 1) (upd H' D (.lst (acc ++ [y]))) := fun y e => by
        refine ⟨_, I.2, ?_, I.put hD ?_⟩
        · exact small1000 (by rw [List.length_map]; unfold shiftN; rw [List.length_map, List.length_take]; omega)
        · show List.map nv (shiftN (xs.take (i + 1)) n) = _
          unfold shiftN
          rw [take_map _ hn, List.map_append, e]
          rfl
      refine ⟨rfl, yes_ ?_⟩
      cases x with
      | none =>
        refine ⟨_, rfl, rfl, _, rfl, ?_⟩
        exact iteT (iteT (fin _ rfl))
      | some x =>
        refine ⟨_, rfl, rfl, _, rfl, iteF ⟨_, rfl, rfl, _, rfl, ?_⟩⟩
        cases n with
        | none => exact iteT (fin _ rfl)
        | some n => exact iteF ⟨_, rfl, _, rfl, _, _, rfl, rfl, fin _ rfl⟩
    · refine ⟨D, _, rfl, .inl ⟨SqL.of (I.fin rfl), fun p hp => k _ _ (Same.fresh I.1 hp) (I.1.free hp) ?_⟩⟩
      rw [upd_same]
      show some (HO.tup (List.map nv (shiftN (xs.take _) n))) = _
      rw [List.length_map, List.take_length]

def spMore : Sp := fun vs H Q _ => ∃ a b, vs = [nv a, nv b] ∧ Q (nv (maxN a b)) H
theorem scMore : FnScope ["left", "right"] ["left", "right"] (defScope sMore) := ⟨rfl, rfl, rfl, by decide +kernel, rfl, by decide +kernel, by decide +kernel⟩
theorem ok_more {f : Addr} {fd : FuncData} (F : Fun K "_law_more" "_law_more" sMore f fd) : FnOk P w K mg base CX0 1 f fd ["left", "right"] spMore := by
  refine F.ok scMore (fun vs H Q E h => ?_) (fun cdv A outer s H vs Q E hr h => ?_)
  · obtain ⟨a, b, rfl, _⟩ := h
    rfl
  · obtain ⟨a, b, rfl, k⟩ := h
    refine ⟨_, pss_cons (ps_if (PW.pt (pw_or (pt_cmpR op_isN (pv 0) pe_non (nomark _)) (pw_or1 (pt_cmpR op_isN (pv 1) pe_non (nomark _))))) (pss_one (ps_ret (pe_ifExp (pt_cmpR op_isN (pv 0) pe_non (nomark _)) (pv 1) (pv 0)))) pss_nil)
      (pss_one (ps_ret (pe_ifExp (pt_cmpR op_gt (pv 0) (pv 1) (nomark _)) (pv 0) (pv 1)))), ?_⟩
    cases a with
    | none =>
      refine ⟨_, rfl, rfl, _, rfl, ?_⟩
      refine iteT (iteT ⟨_, rfl, rfl, _, rfl, ?_⟩)
      exact iteT ⟨_, rfl, k⟩
    | some a =>
      refine ⟨_, rfl, rfl, _, rfl, iteF ⟨_, rfl, rfl, _, rfl, ?_⟩⟩
      cases b with
      | none =>
        refine iteT ⟨_, rfl, rfl, _, rfl, ?_⟩
        exact iteF ⟨_, rfl, k⟩
      | some b =>
        refine iteF ⟨_, rfl, _, rfl, _, _, rfl, rfl, _, rfl, ?_⟩
        by_cases h : b < a
        · rw [decide_eq_true h]
          refine iteT ⟨_, rfl, ?_⟩
          have k' := k
          simp only [maxN, if_pos h] at k'
          exact k'
        · rw [decide_eq_false h]
          refine iteF ⟨_, rfl, ?_⟩
          have k' := k
          simp only [maxN, if_neg h] at k'
          exact k'
end
end K3

namespace K3
open PySem L2 RW RZ
section
variable {P : Program} {w : World} {K : PySem.W.Frag} {mg : Str → Option Value} {base : Heap}
/-! ### _law_over -/
theorem scOver : FnScope ["one", "other", "left", "right"] ["one", "other"] (defScope sOver) := ⟨rfl, rfl, rfl, by decide +kernel, rfl, by decide +kernel, by decide +kernel⟩
theorem ok_over {f : Addr} {fd : FuncData} (F : Fun K "_law_over" "_law_over" sOver f fd) (B : Bl mg) (C1 : Cal P w K mg base "_law_more" 1 ["left", "right"] spMore) : FnOk P w K mg base CX0 2 f fd ["one", "other"] spLaid := by
  obtain ⟨f1, fd1, G1, m1, k1, b1⟩ := C1.ex
  refine F.ok scOver (fun vs H Q E h => ?_) (fun cdv A outer s H vs Q E hr h => ?_)
  · obtain ⟨a, b, xs, ys, rfl, _⟩ := h
    rfl
  · obtain ⟨a, b, xs, ys, rfl, hA, hB, hxy, hl, k⟩ := h
    refine ⟨_, (pss_one (ps_ret (pe_callTy call_tuple_of (by rfl) B.tuple (by decide +kernel) (pa_cons (pe_lc (own := [("left", 2), ("right", 3)]) (g := gTup K 2 (gCons (gName 2) (gCons (gName 3) gNil))) rfl scOver.nd (pi_zipA (by rfl) B.zip (pa_cons (pv 0) (pa_cons (pv 1) pa_nil))) (blkOk_by (N := ["one", "other", "left", "right"]) (sc := defScope sOver) (by decide +kernel))
        (fun _ _ _ _ _ => pg_tup rfl (pgs_cons (pg_name (i := 2) scOver.nd rfl (Or.inl rfl)) (pgs_cons (pg_name (i := 3) scOver.nd rfl (Or.inl rfl)) pgs_nil)))
        (fun _ _ _ _ _ => pts_nil) (fun _ _ _ _ _ => pe_call G1 hr rfl m1 k1 b1 .nil pass0 (pa_cons (pv 2) (pa_cons (pv 3) pa_nil)))) pa_nil)))), ?_⟩
    refine ⟨_, rfl, _, rfl, a, b, xs.map nv, ys.map nv, rfl, .inr ⟨SqT.of hA, SqT.of hB, fun D hD => ?_⟩⟩
    refine lc_it (walk_zipT (n := xs.length) (by simp [hxy])) (LcI H D fun i => (layN (xs.take i) (ys.take i)).map nv) (lcI_start hD rfl) (fun i H' _ I => ⟨SqT.of (I.1 _ _ hA), SqT.of (I.1 _ _ hB)⟩) (fun i v H1 H2 hi I Y => ?_) (fun H' I => ?_)
    · obtain ⟨T, x, y, rfl, hT, rfl, ex, ey⟩ := Y
      obtain ⟨x, hx, rfl⟩ := map_at ex
      obtain ⟨y, hy, rfl⟩ := map_at ey
      refine ⟨T, _, rfl, SqT.of upd_same, rfl, _, _, rfl, _, _, rfl, rfl, rfl, yes_ ?_⟩
      have S1 : Same H1 (upd H1 T (.tup [nv x, nv y])) := Same.fresh (Same.refl _) hT
      have I3 := I.go S1
      refine ⟨_, rfl, _, rfl, x, y, rfl, _, I3.2, ?_, I3.put hD ?_⟩
      · exact small1000 (by rw [List.length_map]; unfold layN; rw [List.length_zipWith, List.length_take, List.length_take]; omega)
      · show List.map nv (layN (xs.take (i + 1)) (ys.take (i + 1))) = _
        unfold layN
        rw [zip_one hx hy, List.map_append]
        rfl
    · refine ⟨D, _, rfl, .inl ⟨SqL.of (I.fin rfl), fun p hp => k _ _ (Same.fresh I.1 hp) (I.1.free hp) ?_⟩⟩
      rw [upd_same]
      show some (HO.tup (List.map nv (layN (xs.take xs.length) (ys.take xs.length)))) = _
      rw [List.take_length, hxy, List.take_length]

/-! ### _law_above -/
theorem scLAbove : FnScope ["one", "other", "left", "right"] ["one", "other"] (defScope sLAbove) := ⟨rfl, rfl, rfl, by decide +kernel, rfl, by decide +kernel, by decide +kernel⟩
theorem ok_labove {f : Addr} {fd : FuncData} (F : Fun K "_law_above" "_law_above" sLAbove f fd) (B : Bl mg) : FnOk P w K mg base CX0 1 f fd ["one", "other"] spHigher := by
  refine F.ok scLAbove (fun vs H Q E h => ?_) (fun cdv A outer s H vs Q E hr h => ?_)
  · obtain ⟨a, b, xs, ys, rfl, _⟩ := h
    rfl
  · obtain ⟨a, b, xs, ys, rfl, hA, hB, hxy, hl, k⟩ := h
    refine ⟨_, pss_cons (ps_for PassesOwn.never rfl (pi_zipA (by rfl) B.zip (pa_cons (pv 0) (pa_cons (pv 1) pa_nil))) (pg_tup rfl (pgs_cons (pg_name (i := 2) scLAbove.nd rfl (Or.inl rfl)) (pgs_cons (pg_name (i := 3) scLAbove.nd rfl (Or.inl rfl)) pgs_nil)))
      (pss_one (ps_if (PW.pt (pw_and (pt_cmpR op_notN (pv 2) pe_non (nomark _)) (pw_and1 (PW.pt (pw_or (pt_cmpR op_isN (pv 3) pe_non (nomark _)) (pw_or1 (pt_cmpR op_lt (pv 3) (pv 2) (nomark _)))))))) (pss_one (ps_ret pe_bl)) pss_nil)))
      (pss_one (ps_ret pe_bl)), ?_⟩
    refine ⟨_, rfl, _, rfl, a, b, xs.map nv, ys.map nv, rfl, .inr ⟨SqT.of hA, SqT.of hB, ?_⟩⟩
    refine for_zipT (K := K) (a := a) (b := b) (xs := xs.map nv) (ys := ys.map nv) (by rw [List.length_map, List.length_map, hxy]) (fun i σ H' => ∃ l r, σ = [some (.ref a), some (.ref b), l, r] ∧ Same H H' ∧ (List.zipWith aboveN (xs.take i) (ys.take i)).any id = false)
      ⟨_, _, rfl, Same.refl _, rfl⟩ (fun i σ H' ⟨_, _, _, S, _⟩ => ⟨SqT.of (S _ _ hA), SqT.of (S _ _ hB)⟩) ?_ ?_
    · rintro i x y T σ H1 ex ey ⟨l, r, rfl, S, hno⟩ hT
      obtain ⟨x, hx, rfl⟩ := map_at ex
      obtain ⟨y, hy, rfl⟩ := map_at ey
      refine ⟨T, _, rfl, SqT.of upd_same, rfl, _, _, rfl, _, _, rfl, rfl, ?_⟩
      have S1 : Same H (upd H1 T (.tup [nv x, nv y])) := Same.fresh S hT
      have nxt : aboveN x y = false → ∃ l r, [some (V.ref a), some (V.ref b), some (nv x), some (nv y)] = [some (V.ref a), some (V.ref b), l, r] ∧ Same H (upd H1 T (.tup [nv x, nv y])) ∧ (List.zipWith aboveN (xs.take (i + 1)) (ys.take (i + 1))).any id = false := fun e => by
        refine ⟨_, _, rfl, S1, ?_⟩
        rw [zip_one hx hy, List.any_append, hno]
        simp [e]
      have yes : aboveN x y = true → Q (.bl true) (upd H1 T (.tup [nv x, nv y])) := fun e => by
        have hh : higherN xs ys = true := by
          unfold higherN
          rw [List.any_eq_true]
          refine ⟨true, ?_, rfl⟩
          rw [← e]
          have q : (List.zipWith aboveN xs ys)[i]? = some (aboveN x y) := by rw [List.getElem?_zipWith, hx, hy]
          exact List.mem_of_getElem? q
        have := k _ S1
        rw [hh] at this
        exact this
      refine ⟨_, rfl, rfl, _, rfl, ?_⟩
      cases x with
      | none => exact iteF (iteF (nxt rfl))
      | some x =>
        refine iteT ⟨_, rfl, rfl, _, rfl, ?_⟩
        cases y with
        | none => exact iteT (iteT (yes rfl))
        | some y =>
          refine iteF ⟨_, rfl, _, rfl, _, _, rfl, rfl, _, rfl, ?_⟩
          by_cases h : y < x
          · rw [decide_eq_true h]
            exact iteT (yes (decide_eq_true h))
          · rw [decide_eq_false h]
            exact iteF (nxt (decide_eq_false h))
    · rintro σ H1 ⟨l, r, rfl, S, hno⟩
      have := k _ S
      rw [List.length_map, List.take_length, hxy, List.take_length] at hno
      have e : higherN xs ys = false := hno
      rw [e] at this
      exact this

/-! ### _law_first -/
def spFirst : Sp := fun vs H Q _ => ∃ a xs z r, vs = [.ref a] ∧ H a = some (.tup (xs.map nv)) ∧ xs.length ≤ 1000 ∧ intsOf xs = z :: r ∧ ∀ H', Same H H' → Q (.int z) H'
theorem scFirst : FnScope ["line", "own"] ["line"] (defScope sFirst) := ⟨rfl, rfl, rfl, by decide +kernel, rfl, by decide +kernel, by decide +kernel⟩
theorem ok_first {f : Addr} {fd : FuncData} (F : Fun K "_law_first" "_law_first" sFirst f fd) : FnOk P w K mg base CX0 1 f fd ["line"] spFirst := by
  refine F.ok scFirst (fun vs H Q E h => ?_) (fun cdv A outer s H vs Q E hr h => ?_)
  · obtain ⟨a, xs, z, r, rfl, _⟩ := h
    rfl
  · obtain ⟨a, xs, z, r, rfl, hT, hl, ez, k⟩ := h
    refine ⟨_, pss_one (ps_ret (pe_ix ix_list (pe_lc (own := [("own", 1)]) (g := gName 1) rfl scFirst.nd (pi_tup (pv 0)) (blkOk_by (N := ["line", "own"]) (sc := defScope sFirst) (by decide +kernel)) (fun _ _ _ _ _ => pg_name (i := 1) scFirst.nd rfl (Or.inl rfl))
        (fun _ _ _ _ _ => pts_one (pt_cmpR op_notN (pv 1) pe_non (nomark _))) (fun _ _ _ _ _ => pv 1)) pe_int (fun _ _ => rfl))), ?_⟩
    refine ⟨_, rfl, a, rfl, ⟨_, SqT.of hT⟩, fun D hD => lc_tup (K := K) (a := a) (xs := xs.map nv) (LcI H D fun i => (intsOf (xs.take i)).map V.int) (lcI_start hD rfl) (fun i H' _ I => SqT.of (I.1 _ _ hT)) (fun i x H' hi I => ?_) (fun H' I => ?_)⟩
    · obtain ⟨n, hn, rfl⟩ := map_at hi
      refine ⟨rfl, _, rfl, rfl, _, rfl, ?_⟩
      have et := take_one hn
      have hi2 := (List.getElem?_eq_some_iff.mp hn).1
      cases n with
      | none => exact iteF (I.skip (by show List.map V.int (intsOf (xs.take (i + 1))) = _; rw [et]; unfold intsOf; rw [List.filterMap_append]; simp))
      | some n =>
        refine iteT ⟨_, rfl, _, I.2, ?_, I.put hD ?_⟩
        · exact small1000 (by rw [List.length_map]; exact Nat.le_trans (List.length_filterMap_le _ _) (Nat.le_trans (List.length_take_le _ _) (by omega)))
        · show List.map V.int (intsOf (xs.take (i + 1))) = _
          rw [et]; unfold intsOf; rw [List.filterMap_append]; simp
          rfl
    · have e : H' D = some (.lst ((intsOf xs).map V.int)) := I.fin (by show List.map V.int (intsOf (xs.take _)) = _; rw [List.length_map, List.take_length])
      exact ⟨D, _, _, _, rfl, rfl, SqL.of e, by rw [ez]; exact atI_nat (j := 0) rfl, k _ I.1⟩
end
end K3

namespace K3
open PySem L2 RW RZ
/-! ### the urn -/
structure UrnAt (H : Hp) (u d m : Addr) : Prop where
  ex : ∃ (ds ms : List Int) (sm n : Int), H u = some (.lst [.ref d, .ref m, .int sm, .int n]) ∧ H d = some (.lst (ds.map V.int)) ∧ H m = some (.lst (ms.map V.int)) ∧ ms ≠ []
  dm : d ≠ m
/-- all stands but the urn's two lists that change -/
def Off (u d : Addr) (H H' : Hp) : Prop := ∀ b o, b ≠ u → b ≠ d → H b = some o → H' b = some o
theorem Off.refl {u d : Addr} (H : Hp) : Off u d H H := fun _ _ _ _ h => h
theorem Off.trans {u d : Addr} {H H1 H2 : Hp} (a : Off u d H H1) (b : Off u d H1 H2) : Off u d H H2 := fun c o h1 h2 h => b c o h1 h2 (a c o h1 h2 h)
theorem Same.off {u d : Addr} {H H' : Hp} (S : Same H H') : Off u d H H' := fun b o _ _ h => S b o h
theorem UrnAt.same {H H' : Hp} {u d m : Addr} (U : UrnAt H u d m) (S : Same H H') : UrnAt H' u d m := by
  obtain ⟨⟨ds, ms, sm, n, h1, h2, h3, h4⟩, h5⟩ := U
  exact ⟨⟨ds, ms, sm, n, S _ _ h1, S _ _ h2, S _ _ h3, h4⟩, h5⟩
theorem lst_ne {H : Hp} {u d m : Addr} {x y z : V} {ds : List Int} (h1 : H u = some (.lst [.ref d, x, y, z])) (h2 : H m = some (.lst (ds.map V.int))) : u ≠ m := fun e => by
  rw [e, h2] at h1
  cases ds with
  | nil => cases h1
  | cons a r => cases h1
/-! ### data -/
def pd : Option Int → PyData
  | none => .none
  | some i => .int i
theorem dpN {K : PySem.W.Frag} {H : Hp} : ∀ xs : List (Option Int), DpAll K H (xs.map nv) (xs.map pd)
  | [] => .nil
  | none :: r => .cons .non (dpN r)
  | some i :: r => .cons (.int i) (dpN r)
theorem dpI {K : PySem.W.Frag} {H : Hp} : ∀ xs : List Int, DpAll K H (xs.map V.int) (xs.map PyData.int)
  | [] => .nil
  | i :: r => .cons (.int i) (dpI r)
theorem layI : ∀ xs : List Int, PyData.canLayAll0 (xs.map PyData.int) = true ∧ PyData.depthAll (xs.map PyData.int) = 0
  | [] => ⟨by simp [PyData.canLayAll0], by simp [PyData.depthAll]⟩
  | i :: r => by
    obtain ⟨h1, h2⟩ := layI r
    exact ⟨by simp [PyData.canLayAll0, PyData.canLay0, h1], by simp [PyData.depthAll, PyData.depth, h2]⟩
theorem layN_ : ∀ xs : List (Option Int), PyData.canLayAll0 (xs.map pd) = true ∧ PyData.depthAll (xs.map pd) = 0
  | [] => ⟨by simp [PyData.canLayAll0], by simp [PyData.depthAll]⟩
  | none :: r => by
    obtain ⟨h1, h2⟩ := layN_ r
    exact ⟨by simp [PyData.canLayAll0, PyData.canLay0, pd, h1], by simp [PyData.depthAll, PyData.depth, pd, h2]⟩
  | some i :: r => by
    obtain ⟨h1, h2⟩ := layN_ r
    exact ⟨by simp [PyData.canLayAll0, PyData.canLay0, pd, h1], by simp [PyData.depthAll, PyData.depth, pd, h2]⟩
theorem shapedI (xs : List Int) : SeqAt.shaped (.list (xs.map PyData.int)) = true := by
  obtain ⟨h1, h2⟩ := layI xs
  simp [SeqAt.shaped, PyData.canLay0, PyData.depth, h1, h2]
theorem shapedT (xs : List (Option Int)) : SeqAt.shaped (.tuple (xs.map pd)) = true := by
  obtain ⟨h1, h2⟩ := layN_ xs
  simp [SeqAt.shaped, PyData.canLay0, PyData.depth, h1, h2]
theorem shapedL (xs : List (Option Int)) : SeqAt.shaped (.list (xs.map pd)) = true := by
  obtain ⟨h1, h2⟩ := layN_ xs
  simp [SeqAt.shaped, PyData.canLay0, PyData.depth, h1, h2]
theorem ix0 {n : Nat} (h : 0 < n) : ixN n 0 = some 0 := by
  unfold ixN
  rw [if_pos (Int.le_refl 0), if_pos (by omega)]
  rfl
theorem sx0 {n : Nat} (h : 0 < n) : seqIndex? 0 n = some 0 := (ixN_seq (ix0 h)).1
theorem fmod_ix {a : Int} {n : Nat} (h : 0 < n) : ∃ j : Nat, j < n ∧ a.fmod (n : Int) = (j : Int) := by
  rw [Int.fmod_eq_emod_of_nonneg _ (by omega)]
  have h1 := Int.emod_nonneg a (show (n : Int) ≠ 0 by omega)
  have h2 := Int.emod_lt_of_pos a (show (0 : Int) < n by omega)
  exact ⟨(a % (n : Int)).toNat, by omega, by omega⟩
theorem fmod_rng {a p : Int} (h : 0 < p) : 0 ≤ a.fmod p ∧ a.fmod p < p := by
  rw [Int.fmod_eq_emod_of_nonneg _ (by omega)]
  exact ⟨Int.emod_nonneg a (by omega), Int.emod_lt_of_pos a h⟩
theorem map_set {α β : Type} (g : α → β) (l : List α) (i : Nat) (y : α) : (l.map g).set i (g y) = (l.set i y).map g := by rw [List.map_set]
def spTake : Sp := fun vs H Q _ => ∃ (u d m : Addr) (size : Int), vs = [.ref u, .int size] ∧ 0 < size ∧ size < 1073741824 ∧ UrnAt H u d m ∧ ∀ H' r, 0 ≤ r → r < size → UrnAt H' u d m → Off u d H H' → Q (.int r) H'
section
variable {P : Program} {w : World} {K : PySem.W.Frag} {mg : Str → Option Value} {base : Heap}
theorem scTake : FnScope ["urn", "size", "rest", "step", "cell", "blend"] ["urn", "size"] (defScope sTake) := ⟨rfl, rfl, rfl, by decide +kernel, rfl, by decide +kernel, by decide +kernel⟩
theorem ok_take {f : Addr} {fd : FuncData} (F : Fun K "_law_take" "_law_take" sTake f fd) (B : Bl mg) : FnOk P w K mg base CX0 1 f fd ["urn", "size"] spTake := by
  refine F.ok scTake (fun vs H Q E h => ?_) (fun cdv A outer s H vs Q E hr h => ?_)
  · obtain ⟨u, d, m, z, rfl, _⟩ := h
    rfl
  · obtain ⟨u, d, m, z, rfl, z0, z1, U, k⟩ := h
    have hu : (A.deeper (PyProof.Rows.envOfC "_law_take" (defScope sTake) s.heap.objs.size f cdv)).units + 64 < cLine := by have := hr.un; omega
    obtain ⟨⟨ds, ms, sm, n, h1, h2, h3, h4⟩, hdm⟩ := id U
    have nud : u ≠ d := lst_ne h1 h2
    have num : u ≠ m := lst_ne h1 h3
    refine ⟨_, pss_cons (ps_if (pt_cmpR (op_neD hu) (pe_ix ix_list (pv 0) pe_int (fun _ _ => rfl)) (pe_lst pa_nil) (nomark _))
        (pss_cons (ps_set (i := 2) scTake.nd rfl (Or.inl rfl) (pe_ix ix_list (pe_ix ix_list (pv 0) pe_int (fun _ _ => rfl)) pe_int (fun _ _ => rfl)))
        (pss_cons (ps_asg (pe_op op_fdivN (pv 2) (pv 1)) (pg_sub (pe_ix ix_list (pv 0) pe_int (fun _ _ => rfl)) pe_int set_list))
        (pss_cons (ps_if (pt_cmpR op_lt (pv 2) (pv 1) (nomark _)) (pss_one (ps_expr (pe_bm PySem.F.plainAttrs_list PySem.F.slot_list_pop PySem.F.type_list_pop mt_popAt (pe_ix ix_list (pv 0) pe_int (fun _ _ => rfl)) (pa_cons pe_int pa_nil)))) pss_nil)
        (pss_one (ps_ret (pe_op op_modN (pe_callTy call_int1 (by rfl) B.int (by decide +kernel) (pa_cons (pv 2) pa_nil)) (pv 1))))))) pss_nil)
      (pss_cons (ps_asg (pe_op op_add (pe_ix ix_list (pv 0) pe_int (fun _ _ => rfl)) pe_int) (pg_sub (pv 0) pe_int set_list))
      (pss_cons (ps_set (i := 3) scTake.nd rfl (Or.inl rfl) (pe_ix ix_list (pv 0) pe_int (fun _ _ => rfl)))
      (pss_cons (ps_set (i := 4) scTake.nd rfl (Or.inl rfl) (pe_ix ix_list (pe_ix ix_list (pv 0) pe_int (fun _ _ => rfl)) (pe_op op_modN (pe_callTy call_int1 (by rfl) B.int (by decide +kernel) (pa_cons (pv 3) pa_nil)) (pe_callB call_len_seq (by rfl) B.len PySem.boot_len (pa_cons (pe_ix ix_list (pv 0) pe_int (fun _ _ => rfl)) pa_nil))) (fun _ _ => rfl)))
      (pss_cons (ps_set (i := 5) scTake.nd rfl (Or.inl rfl) (pe_op op_add (pe_op op_add (pe_op op_mul (pv 4) pe_int) (pe_op op_mul (pe_ix ix_list (pv 0) pe_int (fun _ _ => rfl)) pe_int)) (pe_op op_mul (pv 3) pe_int)))
      (pss_cons (ps_set (i := 5) scTake.nd rfl (Or.inl rfl) (pe_op op_modN (pe_callTy call_int1 (by rfl) B.int (by decide +kernel) (pa_cons (pv 5) pa_nil)) pe_int))
      (pss_cons (ps_set (i := 5) scTake.nd rfl (Or.inl rfl) (pe_op op_modN (pe_callTy call_int1 (by rfl) B.int (by decide +kernel) (pa_cons (pe_op op_add (pe_op op_add (pe_op op_mul (pv 5) (pv 5)) (pe_op op_mul (pv 3) pe_int)) pe_int) pa_nil)) pe_int))
      (pss_one (ps_ret (pe_op op_modN (pe_op op_fdivN (pe_op op_modN (pe_callTy call_int1 (by rfl) B.int (by decide +kernel) (pa_cons (pe_op op_add (pe_op op_mul (pv 5) (pv 5)) (pe_op op_mul pe_int (pv 5))) pa_nil)) pe_int) pe_int) (pv 1)))))))))), ?_⟩
    refine ⟨_, rfl, u, _, _, _, rfl, rfl, SqL.of h1, atI_nat (j := 0) rfl, (by show 0 ≤ sizeLine; decide), fun p hp => ?_⟩
    have S1 : Same H (upd H p (.lst [])) := Same.fresh (Same.refl _) hp
    have U1 := U.same S1
    refine ⟨.list (ds.map .int), .list [], .lst (SqL.of (S1 _ _ h2)) (dpI ds), .lst (SqL.of upd_same) .nil, shapedI ds, shapedI [], _, rfl, ?_⟩
    cases ds with
    | cons r0 ds =>
      refine iteT ?_
      generalize upd H p (.lst []) = G at S1 U1
      have g1 := S1 _ _ h1
      have g2 := S1 _ _ h2
      have g3 := S1 _ _ h3
      refine ⟨_, rfl, u, _, _, _, rfl, rfl, SqL.of g1, atI_nat (j := 0) rfl, d, _, _, _, rfl, rfl, SqL.of g2, atI_nat (j := 0) rfl, ?_⟩
      refine ⟨_, rfl, _, rfl, r0, z, rfl, rfl, ⟨by omega, by omega⟩, _, rfl, u, _, _, _, rfl, rfl, SqL.of g1, atI_nat (j := 0) rfl, d, _, _, 0, rfl, rfl, g2, ix0 (by simp), ?_⟩
      have e1 : ((V.int r0 :: ds.map V.int).set 0 (.int (r0.fdiv z))) = ((r0.fdiv z) :: ds).map V.int := rfl
      have i1 : upd G d (.lst ((V.int r0 :: ds.map V.int).set 0 (.int (r0.fdiv z)))) u = some (.lst [.ref d, .ref m, .int sm, .int n]) := by rw [upd_ne nud]; exact g1
      have i3 : upd G d (.lst ((V.int r0 :: ds.map V.int).set 0 (.int (r0.fdiv z)))) m = some (.lst (ms.map V.int)) := by rw [upd_ne hdm.symm]; exact g3
      have fin : ∀ (ds' : List Int) (H' : Hp), H' u = some (.lst [.ref d, .ref m, .int sm, .int n]) → H' d = some (.lst (ds'.map V.int)) → H' m = some (.lst (ms.map V.int)) → Off u d G H' → Q (.int (r0.fmod z)) H' := fun ds' H' a1 a2 a3 O => by
        refine k H' _ ?_ ?_ ⟨⟨ds', ms, sm, n, a1, a2, a3, h4⟩, hdm⟩ ((Same.off S1).trans O)
        · rw [Int.fmod_eq_emod_of_nonneg _ (by omega)]; exact Int.emod_nonneg _ (by omega)
        · rw [Int.fmod_eq_emod_of_nonneg _ (by omega)]; exact Int.emod_lt_of_pos _ (by omega)
      refine ⟨_, rfl, _, rfl, _, _, rfl, rfl, _, rfl, ?_⟩
      refine ite2 (fun _ => ?_) (fun _ => ?_)
      · refine ⟨_, rfl, u, _, _, _, rfl, rfl, SqL.of i1, atI_nat (j := 0) rfl, .inl ⟨rfl, _, SqL.of upd_same⟩, d, _, 0, 0, _, rfl, rfl, upd_same, by decide, by decide, sx0 (by simp), rfl, ?_⟩
        refine ⟨_, rfl, .inl ⟨_, rfl, _, rfl, _, _, rfl, rfl, (by omega), ?_⟩⟩
        refine fin ds _ ?_ ?_ ?_ ?_
        · rw [upd_ne nud]; exact i1
        · rw [upd_same]; rfl
        · rw [upd_ne hdm.symm]; exact i3
        · intro b o n1 n2 e
          rw [upd_ne n2, upd_ne n2]
          exact e
      · refine ⟨_, rfl, .inl ⟨_, rfl, _, rfl, _, _, rfl, rfl, (by omega), ?_⟩⟩
        refine fin (r0.fdiv z :: ds) _ i1 ?_ i3 ?_
        · rw [upd_same]; rfl
        · intro b o n1 n2 e
          rw [upd_ne n2]
          exact e
    | nil =>
      refine iteF ?_
      generalize upd H p (.lst []) = G at S1 U1
      have g1 := S1 _ _ h1
      have g2 := S1 _ _ h2
      have g3 := S1 _ _ h3
      refine ⟨_, rfl, u, _, _, _, rfl, rfl, SqL.of g1, atI_nat (j := 3) rfl, _, _, rfl, rfl, _, rfl, u, _, _, 3, rfl, rfl, g1, rfl, ?_⟩
      have i1 : upd G u (.lst ([V.ref d, .ref m, .int sm, .int n].set 3 (.int (n + 1)))) u = some (.lst [.ref d, .ref m, .int sm, .int (n + 1)]) := upd_same
      have i3 : upd G u (.lst ([V.ref d, .ref m, .int sm, .int n].set 3 (.int (n + 1)))) m = some (.lst (ms.map V.int)) := by rw [upd_ne num.symm]; exact g3
      have i2 : upd G u (.lst ([V.ref d, .ref m, .int sm, .int n].set 3 (.int (n + 1)))) d = some (.lst ((([] : List Int)).map V.int)) := by rw [upd_ne nud.symm]; exact g2
      have O : Off u d G (upd G u (.lst ([V.ref d, .ref m, .int sm, .int n].set 3 (.int (n + 1))))) := fun b o n1 n2 e => by rw [upd_ne n1]; exact e
      generalize upd G u (.lst ([V.ref d, .ref m, .int sm, .int n].set 3 (.int (n + 1)))) = G2 at i1 i2 i3 O
      have fin : ∀ r, 0 ≤ r → r < z → Q (.int r) G2 := fun r a b => k G2 r a b ⟨⟨[], ms, sm, n + 1, i1, i2, i3, h4⟩, hdm⟩ ((Same.off S1).trans O)
      refine ⟨_, rfl, u, _, _, _, rfl, rfl, SqL.of i1, atI_nat (j := 3) rfl, ?_⟩
      have hlen : 0 < (ms.map V.int).length := by rw [List.length_map]; exact List.length_pos_iff.mpr h4
      obtain ⟨j, hj, ej⟩ := fmod_ix (a := n + 1) hlen
      have hj2 : j < ms.length := by rw [List.length_map] at hj; exact hj
      refine ⟨_, rfl, u, _, _, _, rfl, rfl, SqL.of i1, atI_nat (j := 1) rfl, _, rfl, .inl ⟨_, rfl, _, rfl, u, _, _, _, rfl, rfl, SqL.of i1, atI_nat (j := 1) rfl, m, _, rfl, .inl (SqL.of i3), _, _, rfl, rfl, (by omega), ?_⟩⟩
      refine ⟨m, _, _, .int ms[j], rfl, rfl, SqL.of i3, at_of ej (by rw [List.getElem?_map, List.getElem?_eq_getElem hj2]; rfl), ?_⟩
      refine ⟨_, rfl, _, _, rfl, rfl, .inr (by decide), _, rfl, u, _, _, _, rfl, rfl, SqL.of i1, atI_nat (j := 2) rfl, _, _, rfl, rfl, .inr (by decide), _, _, rfl, rfl, _, rfl, _, _, rfl, rfl, .inr (by decide), _, _, rfl, rfl, ?_⟩
      refine ⟨_, rfl, .inl ⟨_, rfl, _, _, rfl, rfl, (by show (2305843009213693951 : Int) ≠ 0; decide), ?_⟩⟩
      have q1 := fmod_rng (a := ms[j] * 3935559000370003845 + sm * 2691343689449507681 + (n + 1) * 7664345821815920749) (p := 2305843009213693951) (by decide)
      refine ⟨_, rfl, _, rfl, _, _, rfl, rfl, .inl ⟨by omega, by omega⟩, _, rfl, _, _, rfl, rfl, .inr (by decide), _, _, rfl, rfl, _, _, rfl, rfl, .inl ⟨_, rfl, _, _, rfl, rfl, (by show (2305843009213693921 : Int) ≠ 0; decide), ?_⟩⟩
      generalize (ms[j] * 3935559000370003845 + sm * 2691343689449507681 + (n + 1) * 7664345821815920749).fmod 2305843009213693951 = b1
      have q2 := fmod_rng (a := b1 * b1 + (n + 1) * 1181783497276652981 + 977) (p := 2305843009213693921) (by decide)
      refine ⟨_, rfl, _, rfl, _, _, rfl, rfl, .inl ⟨by omega, by omega⟩, _, rfl, _, _, rfl, rfl, .inl (by decide), _, _, rfl, rfl, .inl ⟨_, rfl, _, _, rfl, rfl, (by show (2305843009213693951 : Int) ≠ 0; decide), _, _, rfl, rfl, (by show (1048576 : Int) ≠ 0 ∧ _; decide), _, rfl, _, _, rfl, rfl, (by omega), ?_⟩⟩
      exact fin _ (fmod_rng z0).1 (fmod_rng z0).2
end
end K3

namespace K3
open PySem L2 RW RZ
/-- a comprehension that makes a list of ints -/
def LcZ (H0 : Hp) (D : Addr) : Nat → Hp → Prop := fun i H => Same H0 H ∧ ∃ ds : List Int, ds.length ≤ i ∧ H D = some (.lst (ds.map V.int))
theorem lcZ_start {H : Hp} {D : Addr} (hD : H D = none) : LcZ H D 0 (upd H D (.lst [])) := ⟨Same.fresh (Same.refl H) hD, [], Nat.le_refl _, upd_same⟩
theorem LcZ.put {H0 H : Hp} {D : Addr} {i : Nat} {ds : List Int} {y : Int} (hD : H0 D = none) (S : Same H0 H) (hl : ds.length ≤ i) : LcZ H0 D (i + 1) (upd H D (.lst (ds.map V.int ++ [.int y]))) :=
  ⟨fun b u e => by rw [upd_ne (ne_of_none e hD)]; exact S b u e, ds ++ [y], by simp; omega, by rw [upd_same, List.map_append]; rfl⟩
theorem LcZ.skip {H0 H : Hp} {D : Addr} {i : Nat} (I : LcZ H0 D i H) : LcZ H0 D (i + 1) H := ⟨I.1, let ⟨ds, h, e⟩ := I.2; ⟨ds, Nat.le_succ_of_le h, e⟩⟩
theorem cut63 (ns : List Int) : ∃ cs : List Int, cs.length ≤ 63 ∧ cutV (ns.map V.int) none (some 63) = cs.map V.int := by
  refine ⟨(ns.drop (HT.sIx (ns.map V.int).length 0 none)).take (HT.sIx (ns.map V.int).length (ns.map V.int).length (some 63) - HT.sIx (ns.map V.int).length 0 none), ?_, ?_⟩
  · rw [List.length_take]
    have : HT.sIx (ns.map V.int).length (ns.map V.int).length (some 63) = min 63 (ns.map V.int).length := HT.sIx_nat _ _ 63
    rw [this]
    omega
  · unfold cutV
    rw [List.map_take, List.map_drop]
def spUrn (K : PySem.W.Frag) : Sp := fun vs H Q _ => ∃ (a : Addr) (ns : List Int), vs = [.ref a] ∧ SqL K H a (ns.map V.int) ∧ ∀ H' u d m, Same H H' → UrnAt H' u d m → Q (.ref u) H'
section
variable {P : Program} {w : World} {K : PySem.W.Frag} {mg : Str → Option Value} {base : Heap}
theorem scUrn : FnScope ["script", "cells", "deep", "cell"] ["script"] (defScope sUrn) := ⟨rfl, rfl, rfl, by decide +kernel, rfl, by decide +kernel, by decide +kernel⟩
theorem ok_urn {f : Addr} {fd : FuncData} (F : Fun K "_law_urn" "_law_urn" sUrn f fd) (B : Bl mg) : FnOk P w K mg base CX0 1 f fd ["script"] (spUrn K) := by
  refine F.ok scUrn (fun vs H Q E h => ?_) (fun cdv A outer s H vs Q E hr h => ?_)
  · obtain ⟨a, ns, rfl, _⟩ := h
    rfl
  · obtain ⟨a, ns, rfl, hS, k⟩ := h
    refine ⟨_, pss_cons (ps_set (i := 1) scUrn.nd rfl (Or.inl rfl) (pe_slice sl_list (pv 0) po_none (po_some pe_int)))
      (pss_cons (ps_setLc (i := 2) (own := [("cell", 3)]) (g := gName 3) rfl scUrn.nd rfl rfl (sw_true rfl rfl rfl (by decide +kernel)) (pi_list (pv 1)) (blkOk_by (N := ["script", "cells", "deep", "cell"]) (sc := defScope sUrn) (by decide +kernel)) (fun _ _ _ _ _ => pg_name (i := 3) scUrn.nd rfl (Or.inl rfl))
        (fun _ _ _ _ _ => pts_one (pt_cmpR op_ge (pe_callB call_abs (by rfl) B.abs (by decide +kernel) (pa_cons (pv 3) pa_nil)) (pe_op op_pow pe_int pe_int) (nomark _))) (fun _ _ _ _ _ => pe_callB call_abs (by rfl) B.abs (by decide +kernel) (pa_cons (pv 3) pa_nil)))
      (pss_one (ps_ret (pe_lst (pa_cons (pv 2) (pa_cons (pe_op op_cat (pe_lc (own := [("cell", 3)]) (g := gName 3) rfl scUrn.nd (pi_list (pv 1)) (blkOk_by (N := ["script", "cells", "deep", "cell"]) (sc := defScope sUrn) (by decide +kernel)) (fun _ _ _ _ _ => pg_name (i := 3) scUrn.nd rfl (Or.inl rfl))
          (fun _ _ _ _ _ => pts_nil) (fun _ _ _ _ _ => pe_op op_add (pe_op op_mul pe_int (pe_callB call_abs (by rfl) B.abs (by decide +kernel) (pa_cons (pv 3) pa_nil))) (pe_callTy call_int1 (by rfl) B.int (by decide +kernel) (pa_cons (pe_cmpR op_lt (pv 3) pe_int (nomark _)) pa_nil))))
          (pe_lst (pa_cons (pe_op op_add pe_int (pe_callB call_len_seq (by rfl) B.len PySem.boot_len (pa_cons (pv 1) pa_nil))) pa_nil)))
        (pa_cons (pe_callB (cr_sum rfl) (by rfl) B.sum (by decide +kernel) (pa_cons (pv 1) pa_nil)) (pa_cons pe_int pa_nil)))))))), ?_⟩
    obtain ⟨cs, hc, ec⟩ := cut63 ns
    refine ⟨_, rfl, _, rfl, a, _, rfl, hS, fun c hc0 => ?_⟩
    rw [ec]
    have S1 : Same H (upd H c (.lst (cs.map V.int))) := Same.fresh (Same.refl _) hc0
    have hcs : upd H c (.lst (cs.map V.int)) c = some (.lst (cs.map V.int)) := upd_same
    generalize upd H c (.lst (cs.map V.int)) = G at S1 hcs
    refine ⟨_, rfl, c, rfl, ⟨_, SqL.of hcs⟩, fun D hD => lc_list (K := K) (a := c) (xs := cs.map V.int) (LcZ G D) (lcZ_start hD) (fun i H' _ I => SqL.of (I.1 _ _ hcs)) (fun i x H' hi I => ?_) (fun H' I => ?_)⟩
    · obtain ⟨n, hn, rfl⟩ := map_at hi
      have hi2 := (List.getElem?_eq_some_iff.mp hn).1
      obtain ⟨S, ds, hl, e⟩ := id I
      refine ⟨rfl, _, rfl, _, rfl, _, _, rfl, rfl, ⟨by decide, by decide, by decide⟩, _, _, rfl, rfl, _, rfl, ?_⟩
      refine ite2 (fun _ => ?_) (fun _ => I.skip)
      exact ⟨_, rfl, _, rfl, _, e, small1000 (by rw [List.length_map]; omega), LcZ.put hD S hl⟩
    · obtain ⟨S, ds, hl, e⟩ := id I
      have hc2 := S _ _ hcs
      refine ⟨_, rfl, _, rfl, c, rfl, ⟨_, SqL.of hc2⟩, fun D2 hD2 => lc_list (K := K) (a := c) (xs := cs.map V.int) (LcZ H' D2) (lcZ_start hD2) (fun i H2 _ I => SqL.of (I.1 _ _ hc2)) (fun i x H2 hi I2 => ?_) (fun H2 I2 => ?_)⟩
      · obtain ⟨n, hn, rfl⟩ := map_at hi
        have hi2 := (List.getElem?_eq_some_iff.mp hi).1
        obtain ⟨S3, ds2, hl2, e2⟩ := id I2
        refine ⟨rfl, yes_ ?_⟩
        refine ⟨_, rfl, _, rfl, _, _, rfl, rfl, .inl (by decide), _, rfl, _, _, rfl, rfl, .inr ⟨_, rfl, _, _, rfl, rfl, _, e2, small1000 (by rw [List.length_map]; rw [List.length_map] at hi2; omega), LcZ.put hD2 S3 hl2⟩⟩
      · obtain ⟨S3, ds2, hl2, e2⟩ := id I2
        have hc3 := S3 _ _ hc2
        have e3 := S3 _ _ e
        have l2 : ds2.length ≤ 63 := by rw [List.length_map] at hl2; omega
        have nDD : D ≠ D2 := ne_of_none e hD2
        refine ⟨_, rfl, c, _, rfl, .inl (SqL.of hc3), _, _, rfl, rfl, (by show 1 ≤ sizeLine; decide), fun p hp => ?_⟩
        have S4 : Same H2 (upd H2 p (.lst [V.int (9176 + ((cs.map V.int).length : Int))])) := Same.fresh (Same.refl _) hp
        have e4 : upd H2 p (.lst [V.int (9176 + ((cs.map V.int).length : Int))]) p = some (.lst ([9176 + ((cs.map V.int).length : Int)].map V.int)) := upd_same
        refine ⟨D2, p, _, _, rfl, rfl, S4 _ _ e2, e4, (by rw [List.length_map, List.length_map]; exact Nat.le_of_lt (small1000 (by show ds2.length + 1 ≤ 1000; omega))), fun q hq => ?_⟩
        generalize upd H2 p (.lst [V.int (9176 + ((cs.map V.int).length : Int))]) = H3 at S4 e4 hq
        have S5 : Same H3 (upd H3 q (.lst (ds2.map V.int ++ [9176 + ((cs.map V.int).length : Int)].map V.int))) := Same.fresh (Same.refl _) hq
        have e5 : upd H3 q (.lst (ds2.map V.int ++ [9176 + ((cs.map V.int).length : Int)].map V.int)) q = some (.lst ((ds2 ++ [9176 + ((cs.map V.int).length : Int)]).map V.int)) := by rw [upd_same, List.map_append]
        have nDq : D ≠ q := ne_of_none (S4 _ _ e3) hq
        generalize upd H3 q (.lst (ds2.map V.int ++ [9176 + ((cs.map V.int).length : Int)].map V.int)) = H4 at S5 e5
        refine ⟨_, rfl, c, cs, rfl, SqL.of (S5 _ _ (S4 _ _ hc3)), (by show 4 ≤ sizeLine; decide), fun u hu => ?_⟩
        have S6 : Same H4 (upd H4 u (.lst [V.ref D, .ref q, .int cs.sum, .int 0])) := Same.fresh (Same.refl _) hu
        exact k _ u D q (S1.trans (S.trans (S3.trans (S4.trans (S5.trans S6))))) ⟨⟨ds, _, cs.sum, 0, upd_same, S6 _ _ (S5 _ _ (S4 _ _ e3)), S6 _ _ e5, by simp⟩, nDq⟩
end
end K3

namespace K3
open PySem L2 RW RZ
/-- the bound of the great unit -/
def M : Nat := 10 ^ 841
theorem M_pos : 1000 ≤ M := by unfold M; decide +kernel
/-- each integer within k times the bound -/
def Bd (k : Nat) (xs : List (Option Int)) : Prop := ∀ i, some i ∈ xs → i.natAbs ≤ k * M
structure Wd (H : Hp) (u d wd : Addr) : Prop where
  ex : ∃ sm un : Int, H wd = some (.lst [.int sm, .int un]) ∧ 0 ≤ sm ∧ sm ≤ 60 ∧ un.natAbs ≤ M
  nu : wd ≠ u
  nd : wd ≠ d
theorem Wd.off {H H' : Hp} {u d wd : Addr} (W : Wd H u d wd) (O : Off u d H H') : Wd H' u d wd := by
  obtain ⟨⟨sm, un, h, r⟩, h1, h2⟩ := W
  exact ⟨⟨sm, un, O _ _ h1 h2 h, r⟩, h1, h2⟩
theorem tup_ne {H : Hp} {u d m p : Addr} {xs : List V} (U : UrnAt H u d m) (h : H p = some (.tup xs)) : p ≠ u ∧ p ≠ d := by
  obtain ⟨⟨ds, ms, sm, n, h1, h2, _⟩, _⟩ := U
  exact ⟨ne_of h h1 (by intro z; cases z), ne_of h h2 (by intro z; cases z)⟩
theorem Off.tup {H H' : Hp} {u d m p : Addr} {xs : List V} (O : Off u d H H') (U : UrnAt H u d m) (h : H p = some (.tup xs)) : H' p = some (.tup xs) := O _ _ (tup_ne U h).1 (tup_ne U h).2 h
theorem UrnAt.nfree {H : Hp} {u d m p : Addr} (U : UrnAt H u d m) (h : H p = none) : p ≠ u ∧ p ≠ d := by
  obtain ⟨⟨ds, ms, sm, n, h1, h2, _⟩, _⟩ := U
  exact ⟨fun e => (by rw [e, h1] at h; cases h), fun e => (by rw [e, h2] at h; cases h)⟩
theorem UrnAt.fresh {H : Hp} {u d m p : Addr} {o : HO} (U : UrnAt H u d m) (h : H p = none) : UrnAt (upd H p o) u d m := U.same (Same.fresh (Same.refl _) h)
theorem Off.fresh {H0 H : Hp} {u d p : Addr} {o : HO} (O : Off u d H0 H) (h : H p = none) : Off u d H0 (upd H p o) := O.trans (Same.off (Same.fresh (Same.refl _) h))
/-! ### _law_one -/
def spOne : Sp := fun vs H Q _ => ∃ (u d m l : Addr) (xs : List V), vs = [.ref u, .ref l] ∧ H l = some (.lst xs) ∧ l ≠ u ∧ l ≠ d ∧ 0 < xs.length ∧ xs.length < 1000 ∧ UrnAt H u d m ∧ ∀ H' v, v ∈ xs → UrnAt H' u d m → Off u d H H' → Q v H'
section
variable {P : Program} {w : World} {K : PySem.W.Frag} {mg : Str → Option Value} {base : Heap}
theorem scOne : FnScope ["urn", "items"] ["urn", "items"] (defScope sOne) := ⟨rfl, rfl, rfl, by decide +kernel, rfl, by decide +kernel, by decide +kernel⟩
theorem ok_one {f : Addr} {fd : FuncData} (F : Fun K "_law_one" "_law_one" sOne f fd) (B : Bl mg) (C1 : Cal P w K mg base "_law_take" 1 ["urn", "size"] spTake) : FnOk P w K mg base CX0 2 f fd ["urn", "items"] spOne := by
  obtain ⟨f1, fd1, G1, m1, k1, b1⟩ := C1.ex
  refine F.ok scOne (fun vs H Q E h => ?_) (fun cdv A outer s H vs Q E hr h => ?_)
  · obtain ⟨u, d, m, l, xs, rfl, _⟩ := h
    rfl
  · obtain ⟨u, d, m, l, xs, rfl, hl, nu, nd, x0, x1, U, k⟩ := h
    refine ⟨_, pss_one (ps_ret (pe_ix ix_list (pv 1) (pe_call G1 hr rfl m1 k1 b1 .nil pass0 (pa_cons (pv 0) (pa_cons (pe_callB call_len_seq (by rfl) B.len PySem.boot_len (pa_cons (pv 1) pa_nil)) pa_nil))) (fun _ _ => rfl))), ?_⟩
    refine ⟨_, rfl, _, rfl, _, rfl, l, _, rfl, .inl (SqL.of hl), u, d, m, _, rfl, (by omega), (by omega), U, fun H' r r0 r1 U' O => ?_⟩
    obtain ⟨j, rfl⟩ := Int.eq_ofNat_of_zero_le r0
    have hj : j < xs.length := by omega
    exact ⟨l, _, _, xs[j], rfl, rfl, SqL.of (O _ _ nu nd hl), atI_nat (List.getElem?_eq_getElem hj), k H' _ (List.getElem_mem hj) U' O⟩

/-! ### _law_world -/
def spWorld : Sp := fun vs H Q _ => ∃ (u d m : Addr), vs = [.ref u] ∧ UrnAt H u d m ∧ ∀ H' wd, UrnAt H' u d m → Off u d H H' → Wd H' u d wd → Q (.ref wd) H'
theorem scWorld : FnScope ["urn"] ["urn"] (defScope sWorld) := ⟨rfl, rfl, rfl, by decide +kernel, rfl, by decide +kernel, by decide +kernel⟩
theorem ok_world {f : Addr} {fd : FuncData} (F : Fun K "_law_world" "_law_world" sWorld f fd) (C1 : Cal P w K mg base "_law_one" 2 ["urn", "items"] spOne) : FnOk P w K mg base CX0 3 f fd ["urn"] spWorld := by
  obtain ⟨f1, fd1, G1, m1, k1, b1⟩ := C1.ex
  refine F.ok scWorld (fun vs H Q E h => ?_) (fun cdv A outer s H vs Q E hr h => ?_)
  · obtain ⟨u, d, m, rfl, _⟩ := h
    rfl
  · obtain ⟨u, d, m, rfl, U, k⟩ := h
    refine ⟨_, pss_one (ps_ret (pe_lst (pa_cons (pe_call G1 hr rfl m1 k1 b1 .nil pass0 (pa_cons (pv 0) (pa_cons (pe_lst (pa_cons pe_int (pa_cons pe_int (pa_cons pe_int (pa_cons pe_int (pa_cons pe_int pa_nil)))))) pa_nil)))
      (pa_cons (pe_call G1 hr rfl m1 k1 b1 .nil pass0 (pa_cons (pv 0) (pa_cons (pe_lst (pa_cons pe_int (pa_cons pe_int (pa_cons pe_int (pa_cons (pe_op op_powW pe_int pe_int) (pa_cons (pe_op op_powW pe_int pe_int) (pa_cons (pe_op op_powW (pe_op op_powW pe_int pe_int) pe_int) pa_nil))))))) pa_nil))) pa_nil)))), ?_⟩
    refine ⟨_, rfl, (by show 5 ≤ sizeLine; decide), fun l hl => ?_⟩
    refine ⟨u, d, m, l, _, rfl, upd_same, (U.nfree hl).1, (U.nfree hl).2, (by decide), (by decide), U.fresh hl, fun H1 v hv U1 O1 => ?_⟩
    obtain ⟨sm, rfl, s0, s1⟩ : ∃ sm : Int, v = .int sm ∧ 0 ≤ sm ∧ sm ≤ 60 := by
      simp only [List.mem_cons, List.not_mem_nil, or_false] at hv
      rcases hv with rfl | rfl | rfl | rfl | rfl <;> exact ⟨_, rfl, by decide, by decide⟩
    have O1' : Off u d H H1 := (Off.fresh (Off.refl H) hl).trans O1
    refine ⟨_, rfl, _, _, rfl, rfl, ⟨by decide, by decide +kernel⟩, _, _, rfl, rfl, ⟨by decide, by decide +kernel⟩, _, _, rfl, rfl, ⟨by decide, by decide +kernel⟩, _, _, rfl, rfl, ⟨by decide, by decide +kernel⟩, (by show 6 ≤ sizeLine; decide), fun l2 hl2 => ?_⟩
    refine ⟨u, d, m, l2, _, rfl, upd_same, (U1.nfree hl2).1, (U1.nfree hl2).2, (by decide), (by decide), U1.fresh hl2, fun H2 v hv U2 O2 => ?_⟩
    obtain ⟨un, rfl, hun⟩ : ∃ un : Int, v = .int un ∧ un.natAbs ≤ M := by
      simp only [List.mem_cons, List.not_mem_nil, or_false] at hv
      rcases hv with rfl | rfl | rfl | rfl | rfl | rfl <;> exact ⟨_, rfl, by unfold M; decide +kernel⟩
    have O2' : Off u d H H2 := (Off.fresh O1' hl2).trans O2
    refine ⟨(by show 2 ≤ sizeLine; decide), fun wd hwd => ?_⟩
    exact k _ wd (U2.fresh hwd) (Off.fresh O2' hwd) ⟨⟨sm, un, upd_same, s0, s1, hun⟩, (U2.nfree hwd).1, (U2.nfree hwd).2⟩

/-! ### _law_whole -/
def spWhole : Sp := fun vs H Q _ => ∃ (u d m wd : Addr), vs = [.ref u, .ref wd] ∧ UrnAt H u d m ∧ Wd H u d wd ∧ ∀ H' x, x.natAbs ≤ 2 * M → UrnAt H' u d m → Off u d H H' → Q (.int x) H'
theorem scWhole : FnScope ["urn", "world"] ["urn", "world"] (defScope sWhole) := ⟨rfl, rfl, rfl, by decide +kernel, rfl, by decide +kernel, by decide +kernel⟩
theorem ok_whole {f : Addr} {fd : FuncData} (F : Fun K "_law_whole" "_law_whole" sWhole f fd) (C1 : Cal P w K mg base "_law_take" 1 ["urn", "size"] spTake) : FnOk P w K mg base CX0 2 f fd ["urn", "world"] spWhole := by
  obtain ⟨f1, fd1, G1, m1, k1, b1⟩ := C1.ex
  refine F.ok scWhole (fun vs H Q E h => ?_) (fun cdv A outer s H vs Q E hr h => ?_)
  · obtain ⟨u, d, m, wd, rfl, _⟩ := h
    rfl
  · obtain ⟨u, d, m, wd, rfl, U, W, k⟩ := h
    refine ⟨_, pss_one (ps_ret (pe_op op_add (pe_op op_sub (pe_call G1 hr rfl m1 k1 b1 .nil pass0 (pa_cons (pv 0) (pa_cons (pe_op op_add (pe_op op_mul pe_int (pe_ix ix_list (pv 1) pe_int (fun _ _ => rfl))) pe_int) pa_nil))) (pe_ix ix_list (pv 1) pe_int (fun _ _ => rfl)))
      (pe_op op_mul (pe_ix ix_list (pv 1) pe_int (fun _ _ => rfl)) (pe_op op_sub (pe_call G1 hr rfl m1 k1 b1 .nil pass0 (pa_cons (pv 0) (pa_cons pe_int pa_nil))) pe_int)))), ?_⟩
    obtain ⟨⟨sm, un, hw, s0, s1, hun⟩, nu, nd⟩ := id W
    refine ⟨_, rfl, _, rfl, wd, _, _, _, rfl, rfl, SqL.of hw, atI_nat (j := 0) rfl, _, _, rfl, rfl, .inl (by decide), _, _, rfl, rfl, u, d, m, _, rfl, (by omega), (by omega), U, fun H1 r r0 r1 U1 O1 => ?_⟩
    have hw1 := O1 _ _ nu nd hw
    refine ⟨_, rfl, wd, _, _, _, rfl, rfl, SqL.of hw1, atI_nat (j := 0) rfl, _, _, rfl, rfl, _, rfl, wd, _, _, _, rfl, rfl, SqL.of hw1, atI_nat (j := 1) rfl, _, rfl, u, d, m, _, rfl, (by decide), (by decide), U1, fun H2 t t0 t1 U2 O2 => ?_⟩
    refine ⟨_, _, rfl, rfl, _, _, rfl, rfl, .inr ⟨by omega, by omega⟩, _, _, rfl, rfl, ?_⟩
    refine k H2 _ ?_ U2 (O1.trans O2)
    have := M_pos
    have ht : t - 1 = -1 ∨ t - 1 = 0 ∨ t - 1 = 1 := by omega
    rcases ht with e | e | e <;> rw [e] <;> omega
end
end K3

namespace K3
open PySem L2 RW RZ
def spSide : Sp := fun vs H Q _ => ∃ (u d m wd : Addr) (wide : Int), vs = [.ref u, .int wide, .ref wd] ∧ 1 ≤ wide ∧ wide ≤ 4 ∧ UrnAt H u d m ∧ Wd H u d wd ∧
  ∀ H' p xs, xs.length = wide.toNat → Bd 2 xs → UrnAt H' u d m → Off u d H H' → H' p = some (.tup (xs.map nv)) → Q (.ref p) H'
/-- the list that grows by drawn numbers -/
def SdI (H0 : Hp) (u d m D : Addr) : Nat → Hp → Prop := fun i H => UrnAt H u d m ∧ Off u d H0 H ∧ ∃ xs : List (Option Int), xs.length = i ∧ Bd 2 xs ∧ H D = some (.lst (xs.map nv))
theorem Bd.app {k : Nat} {xs : List (Option Int)} {o : Option Int} (h : Bd k xs) (ho : ∀ i, o = some i → i.natAbs ≤ k * M) : Bd k (xs ++ [o]) := fun i hi => by
  rcases List.mem_append.mp hi with h1 | h1
  · exact h i h1
  · exact ho i (List.mem_singleton.mp h1).symm
theorem SdI.put {H0 H : Hp} {u d m D : Addr} {i : Nat} {xs : List (Option Int)} {o : Option Int} (hD : H0 D = none) (nu : D ≠ u) (nd : D ≠ d) (nm : D ≠ m) (U : UrnAt H u d m) (O : Off u d H0 H) (hl : xs.length = i) (hb : Bd 2 xs) (ho : ∀ i, o = some i → i.natAbs ≤ 2 * M) :
    SdI H0 u d m D (i + 1) (upd H D (.lst (xs.map nv ++ [nv o]))) := by
  refine ⟨?_, fun b v n1 n2 e => ?_, xs ++ [o], by simp [hl], hb.app ho, by rw [upd_same, List.map_append]; rfl⟩
  · obtain ⟨⟨ds, ms, sm, n, h1, h2, h3, h4⟩, h5⟩ := U
    exact ⟨⟨ds, ms, sm, n, by rw [upd_ne nu.symm]; exact h1, by rw [upd_ne nd.symm]; exact h2, by rw [upd_ne nm.symm]; exact h3, h4⟩, h5⟩
  · rw [upd_ne (ne_of_none e hD)]
    exact O b v n1 n2 e
theorem UrnAt.nfreeM {H : Hp} {u d m p : Addr} (U : UrnAt H u d m) (h : H p = none) : p ≠ m := by
  obtain ⟨⟨ds, ms, sm, n, h1, h2, h3, _⟩, _⟩ := U
  exact fun e => (by rw [e, h3] at h; cases h)
theorem rep_nv (n : Nat) : (List.replicate n [V.non]).flatten = (List.replicate n (none : Option Int)).map nv := by
  induction n with
  | zero => rfl
  | succ n ih => rw [List.replicate_succ, List.flatten_cons, ih, List.replicate_succ, List.map_cons]; rfl
theorem Bd.none (k n : Nat) : Bd k (List.replicate n none) := fun i hi => by cases (List.mem_replicate.mp hi).2
section
variable {P : Program} {w : World} {K : PySem.W.Frag} {mg : Str → Option Value} {base : Heap}
theorem scSide : FnScope ["urn", "wide", "world", "share", "found", "turn"] ["urn", "wide", "world"] (defScope sSide) := ⟨rfl, rfl, rfl, by decide +kernel, rfl, by decide +kernel, by decide +kernel⟩
theorem ok_side {f : Addr} {fd : FuncData} (F : Fun K "_law_side" "_law_side" sSide f fd) (B : Bl mg) (C1 : Cal P w K mg base "_law_take" 1 ["urn", "size"] spTake) (C2 : Cal P w K mg base "_law_one" 2 ["urn", "items"] spOne) (C3 : Cal P w K mg base "_law_whole" 2 ["urn", "world"] spWhole) :
    FnOk P w K mg base CX0 3 f fd ["urn", "wide", "world"] spSide := by
  obtain ⟨f1, fd1, G1, m1, k1, b1⟩ := C1.ex
  obtain ⟨f2, fd2, G2, m2, k2, b2⟩ := C2.ex
  obtain ⟨f3, fd3, G3, m3, k3, b3⟩ := C3.ex
  refine F.ok scSide (fun vs H Q E h => ?_) (fun cdv A outer s H vs Q E hr h => ?_)
  · obtain ⟨u, d, m, wd, wide, rfl, _⟩ := h
    rfl
  · obtain ⟨u, d, m, wd, wide, rfl, w1, w4, U, W, k⟩ := h
    have hr1 : Room 1 _ := hr.mono (by decide)
    refine ⟨_, pss_cons (ps_set (i := 3) scSide.nd rfl (Or.inr rfl) (pe_call G2 hr rfl m2 k2 b2 .nil pass0 (pa_cons (pv 0) (pa_cons (pe_lst (pa_cons pe_int (pa_cons pe_int (pa_cons pe_int pa_nil)))) pa_nil))))
      (pss_cons (ps_setLc (i := 4) (own := [("turn", 5)]) (g := gName 5) rfl scSide.nd rfl rfl (sw_true rfl rfl rfl (by decide +kernel)) (pi_range1 rfl B.range (pa_cons (pv 1) pa_nil)) (blkOk_by (N := ["urn", "wide", "world", "share", "found", "turn"]) (sc := defScope sSide) (by decide +kernel)) (fun _ _ _ _ _ => pg_name (i := 5) scSide.nd rfl (Or.inl rfl))
        (fun _ _ _ _ _ => pts_nil) (fun _ _ _ _ _ => pe_ifExp (pt_cmpR op_eq (pe_call G1 hr1 rfl m1 k1 b1 .nil pass0 (pa_cons (pv 0) (pa_cons (pv 3) pa_nil))) pe_int (nomark _)) pe_non (pe_call G3 hr rfl m3 k3 b3 .nil pass0 (pa_cons (pv 0) (pa_cons (pv 2) pa_nil)))))
      (pss_one (ps_ret (pe_ifExp (pt_cmpR op_gt (pe_call G1 hr1 rfl m1 k1 b1 .nil pass0 (pa_cons (pv 0) (pa_cons pe_int pa_nil))) pe_int (nomark _)) (pe_callTy call_tuple_of (by rfl) B.tuple (by decide +kernel) (pa_cons (pv 4) pa_nil)) (pe_op op_repA (pe_tup (pa_cons pe_non pa_nil)) (pv 1)))))), ?_⟩
    refine ⟨_, rfl, (by show 3 ≤ sizeLine; decide), fun l hl => ?_⟩
    refine ⟨u, d, m, l, _, rfl, upd_same, (U.nfree hl).1, (U.nfree hl).2, (by decide), (by decide), U.fresh hl, fun H1 v hv U1 O1 => ?_⟩
    obtain ⟨sh, rfl, s0, s1⟩ : ∃ sh : Int, v = .int sh ∧ 0 < sh ∧ sh < 100 := by
      simp only [List.mem_cons, List.not_mem_nil, or_false] at hv
      rcases hv with rfl | rfl | rfl <;> exact ⟨_, rfl, by decide, by decide⟩
    have OA : Off u d H H1 := (Off.fresh (Off.refl H) hl).trans O1
    have W1 := W.off OA
    refine ⟨_, rfl, wide, rfl, ⟨by omega, by omega, fun D hD => lc_range (SdI H1 u d m D) ?_ (fun i H2 hi I => ?_) (fun H2 I => ?_)⟩⟩
    · exact ⟨U1.fresh hD, Off.fresh (Off.refl H1) hD, [], rfl, (fun i hi => by cases hi), upd_same⟩
    · obtain ⟨U2, O2, xs, hxl, hxb, hx⟩ := I
      have nu := (U1.nfree hD).1
      have nd := (U1.nfree hD).2
      have nm := U1.nfreeM hD
      have hsz : (xs.map nv).length < sizeLine := small1000 (by rw [List.length_map]; omega)
      refine ⟨rfl, yes_ ?_⟩
      refine ⟨_, rfl, _, rfl, u, d, m, sh, rfl, s0, (by omega), U2, fun H3 r r0 r1 U3 O3 => ⟨rfl, _, rfl, ?_⟩⟩
      have hx3 := O3 _ _ nu nd hx
      refine ite2 (fun _ => ?_) (fun _ => ?_)
      · exact ⟨_, hx3, hsz, SdI.put (o := none) hD nu nd nm U3 (O2.trans O3) hxl hxb (fun i e => by cases e)⟩
      · refine ⟨_, rfl, _, rfl, u, d, m, wd, rfl, U3, (W1.off O2).off O3, fun H4 x hxx U4 O4 => ?_⟩
        exact ⟨_, O4 _ _ nu nd hx3, hsz, SdI.put (o := some x) hD nu nd nm U4 ((O2.trans O3).trans O4) hxl hxb (fun i e => by cases e; exact hxx)⟩
    · obtain ⟨U2, O2, xs, hxl, hxb, hx⟩ := I
      have nu := (U1.nfree hD).1
      have nd := (U1.nfree hD).2
      refine ⟨_, rfl, u, d, m, 12, rfl, (by decide), (by decide), U2, fun H3 r r0 r1 U3 O3 => ⟨_, _, rfl, rfl, _, rfl, ?_⟩⟩
      have hx3 := O3 _ _ nu nd hx
      have OB := OA.trans (O2.trans O3)
      refine ite2 (fun _ => ?_) (fun _ => ?_)
      · refine ⟨_, rfl, D, _, rfl, .inl ⟨SqL.of hx3, fun p hp => ?_⟩⟩
        exact k _ p xs hxl hxb (U3.fresh hp) (Off.fresh OB hp) upd_same
      · refine ⟨(by show 1 ≤ sizeLine; decide), fun p hp => ?_⟩
        refine ⟨_, rfl, p, wide, _, rfl, rfl, SqT.of upd_same, (by simp), w1, (by omega), (by decide), fun e => ?_, fun e q hq => ?_⟩
        · refine k _ p [none] (by rw [e]; rfl) (Bd.none 2 1) (U3.fresh hp) (Off.fresh OB hp) upd_same
        · refine k _ q (List.replicate wide.toNat none) (by simp) (Bd.none 2 _) ((U3.fresh hp).fresh hq) (Off.fresh (Off.fresh OB hp) hq) ?_
          rw [upd_same, rep_nv]
end
end K3

namespace K3
open PySem L2 RW RZ
theorem ints_nil : ∀ {xs : List (Option Int)}, intsOf xs = [] → xs = List.replicate xs.length none
  | [], _ => rfl
  | none :: r, h => by
    have : intsOf r = [] := h
    rw [List.length_cons, List.replicate_succ, ← ints_nil this]
  | some i :: r, h => by cases h
theorem eqv_none : ∀ n : Nat, PyData.eqvAll ((List.replicate n (none : Option Int)).map pd) ((List.replicate n (none : Option Int)).map pd) = true
  | 0 => rfl
  | n + 1 => by
    rw [List.replicate_succ, List.map_cons]
    show (PyData.eqv PyData.none PyData.none && _) = true
    rw [eqv_none n]
    rfl
theorem has_ints {xs : List (Option Int)} {n : Nat} (hn : xs.length = n) (h : PyData.eqv (.list (xs.map pd)) (.list ((List.replicate n (none : Option Int)).map pd)) = false) : ∃ z r, intsOf xs = z :: r := by
  cases e : intsOf xs with
  | cons z r => exact ⟨z, r, rfl⟩
  | nil =>
    have := ints_nil e
    rw [this, hn] at h
    rw [show PyData.eqv (.list ((List.replicate n (none : Option Int)).map pd)) (.list ((List.replicate n (none : Option Int)).map pd)) = PyData.eqvAll ((List.replicate n (none : Option Int)).map pd) ((List.replicate n (none : Option Int)).map pd) from rfl, eqv_none] at h
    cases h
theorem set_ints {xs : List (Option Int)} {j : Nat} {v : Int} (h : j < xs.length) : ∃ z r, intsOf (xs.set j (some v)) = z :: r := by
  cases e : intsOf (xs.set j (some v)) with
  | cons z r => exact ⟨z, r, rfl⟩
  | nil =>
    have := ints_nil e
    have h2 : (xs.set j (some v))[j]? = some (some v) := by rw [List.getElem?_set_self h]
    rw [this] at h2
    have := List.mem_of_getElem? h2
    cases (List.mem_replicate.mp this).2
theorem Bd.set {k : Nat} {xs : List (Option Int)} {j : Nat} {o : Option Int} (h : Bd k xs) (ho : ∀ i, o = some i → i.natAbs ≤ k * M) : Bd k (xs.set j o) := fun i hi => by
  rcases List.mem_or_eq_of_mem_set hi with h1 | h1
  · exact h i h1
  · exact ho i h1.symm
def spRow : Sp := fun vs H Q _ => ∃ (u d m wd : Addr) (wide : Int), vs = [.ref u, .int wide, .ref wd] ∧ 1 ≤ wide ∧ wide ≤ 4 ∧ UrnAt H u d m ∧ Wd H u d wd ∧
  ∀ H' p xs z r, xs.length = wide.toNat → Bd 2 xs → intsOf xs = z :: r → UrnAt H' u d m → Off u d H H' → H' p = some (.tup (xs.map nv)) → Q (.ref p) H'
section
variable {P : Program} {w : World} {K : PySem.W.Frag} {mg : Str → Option Value} {base : Heap}
theorem scRow : FnScope ["urn", "wide", "world", "found"] ["urn", "wide", "world"] (defScope sRow) := ⟨rfl, rfl, rfl, by decide +kernel, rfl, by decide +kernel, by decide +kernel⟩
theorem ok_row {f : Addr} {fd : FuncData} (F : Fun K "_law_row" "_law_row" sRow f fd) (B : Bl mg) (C1 : Cal P w K mg base "_law_take" 1 ["urn", "size"] spTake) (C2 : Cal P w K mg base "_law_side" 3 ["urn", "wide", "world"] spSide) (C3 : Cal P w K mg base "_law_whole" 2 ["urn", "world"] spWhole) :
    FnOk P w K mg base CX0 4 f fd ["urn", "wide", "world"] spRow := by
  obtain ⟨f1, fd1, G1, m1, k1, b1⟩ := C1.ex
  obtain ⟨f2, fd2, G2, m2, k2, b2⟩ := C2.ex
  obtain ⟨f3, fd3, G3, m3, k3, b3⟩ := C3.ex
  refine F.ok scRow (fun vs H Q E h => ?_) (fun cdv A outer s H vs Q E hr h => ?_)
  · obtain ⟨u, d, m, wd, wide, rfl, _⟩ := h
    rfl
  · obtain ⟨u, d, m, wd, wide, rfl, w1, w4, U, W, k⟩ := h
    have hr1 : Room 1 _ := hr.mono (by decide)
    have hr2 : Room 2 _ := hr.mono (by decide)
    have hu : (A.deeper (PyProof.Rows.envOfC "_law_row" (defScope sRow) s.heap.objs.size f cdv)).units + 64 < cLine := by have := hr.un; omega
    refine ⟨_, pss_cons (ps_set (i := 3) scRow.nd rfl (Or.inl rfl) (pe_callTy call_list_of (by rfl) B.list (by decide +kernel) (pa_cons (pe_call G2 hr rfl m2 k2 b2 .nil pass0 (pa_cons (pv 0) (pa_cons (pv 1) (pa_cons (pv 2) pa_nil)))) pa_nil)))
      (pss_cons (ps_if (pt_cmpR (op_eqD hu) (pv 3) (pe_op op_rep (pe_lst (pa_cons pe_non pa_nil)) (pv 1)) (nomark _))
        (pss_one (ps_asg (pe_call G3 hr2 rfl m3 k3 b3 .nil pass0 (pa_cons (pv 0) (pa_cons (pv 2) pa_nil))) (pg_sub (pv 3) (pe_call G1 hr1 rfl m1 k1 b1 .nil pass0 (pa_cons (pv 0) (pa_cons (pv 1) pa_nil))) set_list))) pss_nil)
      (pss_one (ps_ret (pe_callTy call_tuple_of (by rfl) B.tuple (by decide +kernel) (pa_cons (pv 3) pa_nil))))), ?_⟩
    refine ⟨_, rfl, _, rfl, _, rfl, u, d, m, wd, wide, rfl, w1, w4, U, W, fun H1 p xs hxl hxb U1 O1 hp => ?_⟩
    refine ⟨p, _, rfl, .inr (SqT.of hp), fun l hl => ?_⟩
    have nu := (U1.nfree hl).1
    have nd := (U1.nfree hl).2
    have nm := U1.nfreeM hl
    have U2 := U1.fresh (o := .lst (xs.map nv)) hl
    have O2 := Off.fresh (o := .lst (xs.map nv)) O1 hl
    have hx : upd H1 l (.lst (xs.map nv)) l = some (.lst (xs.map nv)) := upd_same
    generalize upd H1 l (.lst (xs.map nv)) = G at U2 O2 hx
    refine ⟨_, rfl, (by show 1 ≤ sizeLine; decide), fun q hq => ?_⟩
    have S1 : Same G (upd G q (.lst [V.non])) := Same.fresh (Same.refl _) hq
    refine ⟨_, rfl, q, wide, _, rfl, rfl, upd_same, (by omega), (by omega), (by show 1 * wide.toNat ≤ sizeLine; exact Nat.le_of_lt (small1000 (by omega))), fun q2 hq2 => ?_⟩
    have S2 := Same.fresh (o := .lst (List.replicate wide.toNat [V.non]).flatten) S1 hq2
    have e2 : upd (upd G q (.lst [V.non])) q2 (.lst (List.replicate wide.toNat [V.non]).flatten) q2 = some (.lst ((List.replicate wide.toNat (none : Option Int)).map nv)) := by rw [upd_same, rep_nv]
    generalize upd (upd G q (.lst [V.non])) q2 (.lst (List.replicate wide.toNat [V.non]).flatten) = G2 at S2 e2
    refine ⟨.list (xs.map pd), .list ((List.replicate wide.toNat (none : Option Int)).map pd), .lst (SqL.of (S2 _ _ hx)) (dpN xs), .lst (SqL.of e2) (dpN _), shapedL xs, shapedL _, _, rfl, ?_⟩
    have U3 := U2.same S2
    have O3 := O2.trans (Same.off S2)
    refine ite2 (fun _ => ?_) (fun hne => ?_)
    · refine ⟨_, rfl, _, rfl, u, d, m, wd, rfl, U3, W.off O3, fun H4 x hxx U4 O4 => ?_⟩
      refine ⟨_, rfl, _, rfl, _, rfl, u, d, m, wide, rfl, (by omega), (by omega), U4, fun H5 r r0 r1 U5 O5 => ?_⟩
      obtain ⟨j, rfl⟩ := Int.eq_ofNat_of_zero_le r0
      have hj : j < xs.length := by omega
      have hx5 := O5 _ _ nu nd (O4 _ _ nu nd (S2 _ _ hx))
      refine ⟨l, _, _, j, rfl, rfl, hx5, ?_, ?_⟩
      · unfold ixN
        rw [if_pos (by omega), if_pos (by rw [List.length_map]; omega)]
        rfl
      · have es : (xs.map nv).set j (.int x) = (xs.set j (some x)).map nv := by rw [List.map_set]; rfl
        have U6 : UrnAt (upd H5 l (.lst ((xs.map nv).set j (.int x)))) u d m := by
          obtain ⟨⟨ds, ms, sm, n, h1, h2, h3, h4⟩, h5⟩ := U5
          exact ⟨⟨ds, ms, sm, n, by rw [upd_ne nu.symm]; exact h1, by rw [upd_ne nd.symm]; exact h2, by rw [upd_ne nm.symm]; exact h3, h4⟩, h5⟩
        have O6 : Off u d H (upd H5 l (.lst ((xs.map nv).set j (.int x)))) := fun b v n1 n2 e => by
          have nbl : b ≠ l := ne_of_none (O1 b v n1 n2 e) hl
          rw [upd_ne nbl]
          exact (O3.trans (O4.trans O5)) b v n1 n2 e
        obtain ⟨z, r, ez⟩ := set_ints (v := x) hj
        refine ⟨_, rfl, l, _, rfl, .inl ⟨SqL.of upd_same, fun t ht => ?_⟩⟩
        refine k _ t (xs.set j (some x)) z r (by rw [List.length_set, hxl]) (hxb.set fun i e => by cases e; exact hxx) ez (U6.fresh ht) (Off.fresh O6 ht) ?_
        rw [upd_same, es]
    · have hne2 : PyData.eqv (.list (xs.map pd)) (.list ((List.replicate wide.toNat (none : Option Int)).map pd)) = false := by
        cases e : PyData.eqv (.list (xs.map pd)) (.list ((List.replicate wide.toNat (none : Option Int)).map pd)) with
        | false => rfl
        | true => exact absurd e hne
      obtain ⟨z, r, ez⟩ := has_ints hxl hne2
      refine ⟨_, rfl, l, _, rfl, .inl ⟨SqL.of (S2 _ _ hx), fun t ht => ?_⟩⟩
      exact k _ t xs z r hxl hxb ez (U3.fresh ht) (Off.fresh O3 ht) upd_same
end
end K3

namespace K3
open PySem L2 RW RZ
theorem Bd.mono {j k : Nat} {xs : List (Option Int)} (h : Bd j xs) (hjk : j ≤ k) : Bd k xs := fun i hi => Nat.le_trans (h i hi) (Nat.mul_le_mul_right M hjk)
/-- near another line: like it but at one place -/
def spNear : Sp := fun vs H Q _ => ∃ (u d m wd a : Addr) (xs : List (Option Int)), vs = [.ref u, .ref a, .ref wd] ∧ H a = some (.tup (xs.map nv)) ∧ 0 < xs.length ∧ xs.length ≤ 4 ∧ Bd 2 xs ∧ UrnAt H u d m ∧ Wd H u d wd ∧
  ∀ H' p ys, ys.length = xs.length → Bd 3 ys → UrnAt H' u d m → Off u d H H' → H' p = some (.tup (ys.map nv)) → Q (.ref p) H'
theorem cut_lo {xs : List (Option Int)} {j : Nat} (h : j < xs.length) : cutV (xs.map nv) none (some (j : Int)) = (xs.take j).map nv := by
  unfold cutV
  rw [HT.sIx_none, HT.sIx_nat, List.length_map, Nat.min_eq_left (by omega)]
  rw [List.map_take]
  rfl
theorem cut_hi {xs : List (Option Int)} {j : Nat} (h : j < xs.length) : cutV (xs.map nv) (some ((j : Int) + 1)) none = (xs.drop (j + 1)).map nv := by
  unfold cutV
  have e : HT.sIx (xs.map nv).length 0 (some ((j : Int) + 1)) = j + 1 := by
    have := HT.sIx_nat (xs.map nv).length 0 (j + 1)
    rw [show (((j + 1 : Nat) : Int)) = (j : Int) + 1 by omega] at this
    rw [this, List.length_map, Nat.min_eq_left (by omega)]
  rw [e, HT.sIx_none, List.map_drop]
  apply List.take_of_length_le
  rw [List.length_drop]
  exact Nat.le_refl _
theorem pe_imp {X : Cx} {e : Expr} {t S : TE} (h : PE X e t) (hs : ∀ σ H Q, S σ H Q → t σ H Q) : PE X e S := ⟨fun pins s σ H Q I q => h.run pins s σ H Q I (hs σ H Q q)⟩
theorem set_split {xs : List (Option Int)} {j : Nat} {o : Option Int} (h : j < xs.length) : xs.take j ++ [o] ++ xs.drop (j + 1) = xs.set j o := by
  rw [List.set_eq_take_append_cons_drop, if_pos h]
  simp
section
variable {P : Program} {w : World} {K : PySem.W.Frag} {mg : Str → Option Value} {base : Heap}
theorem scNear : FnScope ["urn", "line", "world", "at", "own"] ["urn", "line", "world"] (defScope sNear) := ⟨rfl, rfl, rfl, by decide +kernel, rfl, by decide +kernel, by decide +kernel⟩
theorem ok_near {f : Addr} {fd : FuncData} (F : Fun K "_law_near" "_law_near" sNear f fd) (B : Bl mg) (C1 : Cal P w K mg base "_law_take" 1 ["urn", "size"] spTake) (C2 : Cal P w K mg base "_law_one" 2 ["urn", "items"] spOne) (C3 : Cal P w K mg base "_law_whole" 2 ["urn", "world"] spWhole) :
    FnOk P w K mg base CX0 3 f fd ["urn", "line", "world"] spNear := by
  obtain ⟨f1, fd1, G1, m1, k1, b1⟩ := C1.ex
  obtain ⟨f2, fd2, G2, m2, k2, b2⟩ := C2.ex
  obtain ⟨f3, fd3, G3, m3, k3, b3⟩ := C3.ex
  refine F.ok scNear (fun vs H Q E h => ?_) (fun cdv A outer s H vs Q E hr h => ?_)
  · obtain ⟨u, d, m, wd, a, xs, rfl, _⟩ := h
    rfl
  · obtain ⟨u, d, m, wd, a, xs, rfl, hT, x0, x4, hb, U, W, k⟩ := h
    have hr1 : Room 1 _ := hr.mono (by decide)
    refine ⟨_, pss_cons (ps_set (i := 3) scNear.nd rfl (Or.inl rfl) (pe_call G1 hr1 rfl m1 k1 b1 .nil pass0 (pa_cons (pv 0) (pa_cons (pe_callB call_len_seq (by rfl) B.len PySem.boot_len (pa_cons (pv 1) pa_nil)) pa_nil))))
      (pss_cons (ps_set (i := 4) scNear.nd rfl (Or.inl rfl) (pe_imp (S := fun σ H1 Q => ∃ j : Nat, j < xs.length ∧ σ = [some (.ref u), some (.ref a), some (.ref wd), some (.int (j : Int)), none] ∧ UrnAt H1 u d m ∧ Off u d H H1 ∧ ∀ H2 own, own.natAbs ≤ 2 * M → UrnAt H2 u d m → Off u d H1 H2 → Q (.int own) H2)
        (pe_ifExp (pt_cmpR op_notN (pe_ix ix_tup (pv 1) (pv 3) (fun _ _ => rfl)) pe_non (nomark _)) (pe_ix ix_tup (pv 1) (pv 3) (fun _ _ => rfl)) (pe_call G3 hr rfl m3 k3 b3 .nil pass0 (pa_cons (pv 0) (pa_cons (pv 2) pa_nil)))) ?own))
      (pss_one (ps_ret (pe_op op_catA (pe_op op_catA (pe_slice sl_tupA (pv 1) po_none (po_some (pv 3))) (pe_tup (pa_cons (pe_call G2 hr rfl m2 k2 b2 .nil pass0 (pa_cons (pv 0) (pa_cons (pe_lst (pa_cons (pe_op op_sub (pv 4) pe_int) (pa_cons (pe_op op_add (pv 4) pe_int) (pa_cons (pv 4) (pa_cons pe_non pa_nil))))) pa_nil))) pa_nil)))
        (pe_slice sl_tupA (pv 1) (po_some (pe_op op_add (pv 3) pe_int)) po_none))))), ?_⟩
    case own =>
      rintro σ H1 Q' ⟨j, hj, rfl, U1, O1, q⟩
      have hT1 := O1.tup U hT
      have hj2 : (xs.map nv)[j]? = some (nv xs[j]) := by rw [List.getElem?_map, List.getElem?_eq_getElem hj]; rfl
      refine ⟨_, rfl, _, rfl, a, _, _, _, rfl, rfl, SqT.of hT1, atI_nat hj2, rfl, _, rfl, ?_⟩
      have hmem : xs[j] ∈ xs := List.getElem_mem hj
      cases e : xs[j] with
      | none =>
        exact iteF ⟨_, rfl, _, rfl, u, d, m, wd, rfl, U1, W.off O1, fun H2 x hx U2 O2 => q H2 x hx U2 O2⟩
      | some own =>
        rw [e] at hj2 hmem
        exact iteT ⟨_, rfl, _, rfl, a, _, _, _, rfl, rfl, SqT.of hT1, atI_nat hj2, q H1 own (hb own hmem) U1 (Off.refl _)⟩
    refine ⟨_, rfl, _, rfl, a, _, rfl, .inr (SqT.of hT), u, d, m, _, rfl, (by rw [List.length_map]; omega), (by rw [List.length_map]; omega), U, fun H1 r r0 r1 U1 O1 => ?_⟩
    obtain ⟨j, rfl⟩ := Int.eq_ofNat_of_zero_le r0
    rw [List.length_map] at r1
    have hj : j < xs.length := by omega
    refine ⟨j, hj, rfl, U1, O1, fun H2 own hown U2 O2 => ?_⟩
    have hT2 := (O1.trans O2).tup U hT
    refine ⟨_, rfl, _, rfl, _, rfl, a, _, rfl, SqT.of hT2, fun e => absurd e.2 ?_, fun _ p hp => ?_⟩
    · rw [HT.sIx_nat, List.length_map]; omega
    rw [cut_lo hj]
    have U3 := U2.fresh (o := .tup ((xs.take j).map nv)) hp
    have O3 := Off.fresh (o := .tup ((xs.take j).map nv)) (O1.trans O2) hp
    have e3 : upd H2 p (.tup ((xs.take j).map nv)) p = some (.tup ((xs.take j).map nv)) := upd_same
    generalize upd H2 p (.tup ((xs.take j).map nv)) = H3 at U3 O3 e3
    refine ⟨_, rfl, _, rfl, _, _, rfl, rfl, _, rfl, _, _, rfl, rfl, _, rfl, (by show 4 ≤ sizeLine; decide), fun l hl => ?_⟩
    refine ⟨u, d, m, l, _, rfl, upd_same, (U3.nfree hl).1, (U3.nfree hl).2, (by show 0 < 4; decide), (by show 4 < 1000; decide), U3.fresh hl, fun H4 v hv U4 O4 => ?_⟩
    obtain ⟨o, rfl, ho⟩ : ∃ o : Option Int, v = nv o ∧ ∀ i, o = some i → i.natAbs ≤ 3 * M := by
      have := M_pos
      simp only [List.mem_cons, List.not_mem_nil, or_false] at hv
      rcases hv with rfl | rfl | rfl | rfl
      · exact ⟨some (own - 1), rfl, fun i e => by cases e; omega⟩
      · exact ⟨some (own + 1), rfl, fun i e => by cases e; omega⟩
      · exact ⟨some own, rfl, fun i e => by cases e; omega⟩
      · exact ⟨none, rfl, fun i e => by cases e⟩
    have e4 : H4 p = some (.tup ((xs.take j).map nv)) := O4.tup (U3.fresh hl) (Same.fresh (Same.refl _) hl _ _ e3)
    have O4' := (Off.fresh (o := .lst [V.int (own - 1), .int (own + 1), .int own, .non]) O3 hl).trans O4
    refine ⟨(by show 1 ≤ sizeLine; decide), fun q hq => ?_⟩
    have U5 := U4.fresh (o := .tup [nv o]) hq
    have O5 := Off.fresh (o := .tup [nv o]) O4' hq
    have e5 : upd H4 q (.tup [nv o]) q = some (.tup [nv o]) := upd_same
    have e5p : upd H4 q (.tup [nv o]) p = some (.tup ((xs.take j).map nv)) := Same.fresh (Same.refl _) hq _ _ e4
    generalize upd H4 q (.tup [nv o]) = H5 at U5 O5 e5 e5p
    have tail : ∀ (c : Addr) (H6 : Hp), UrnAt H6 u d m → Off u d H H6 → H6 c = some (.tup ((xs.take j ++ [o]).map nv)) → tSl (rSlA K) (tVar 1) (tPart (tOp (rI0 fun i j => V.int (i + j)) (tVar 3) (tC (V.int 1)))) tNoPart
        [some (V.ref u), some (V.ref a), some (V.ref wd), some (V.int (j : Int)), some (V.int own)] H6 fun y H2 => rCatA K (V.ref c) y H2 Q := fun c H6 U6 O6 e6 => by
      have hT6 := O6.tup U hT
      refine ⟨_, rfl, _, rfl, _, _, rfl, rfl, _, rfl, a, _, rfl, SqT.of hT6, fun e => absurd e.1 ?_, fun _ r hr6 => ?_⟩
      · have := HT.sIx_nat (xs.map nv).length 0 (j + 1)
        rw [show (((j + 1 : Nat) : Int)) = (j : Int) + 1 by omega] at this
        rw [this, List.length_map]
        omega
      rw [cut_hi hj]
      have U7 := U6.fresh (o := .tup ((xs.drop (j + 1)).map nv)) hr6
      have O7 := Off.fresh (o := .tup ((xs.drop (j + 1)).map nv)) O6 hr6
      have e7 : upd H6 r (.tup ((xs.drop (j + 1)).map nv)) r = some (.tup ((xs.drop (j + 1)).map nv)) := upd_same
      have e7c : upd H6 r (.tup ((xs.drop (j + 1)).map nv)) c = some (.tup ((xs.take j ++ [o]).map nv)) := Same.fresh (Same.refl _) hr6 _ _ e6
      generalize upd H6 r (.tup ((xs.drop (j + 1)).map nv)) = H7 at U7 O7 e7 e7c
      have hbs : Bd 3 (xs.set j o) := (hb.mono (by decide)).set ho
      refine ⟨c, r, _, _, rfl, rfl, SqT.of e7c, SqT.of e7, ?_, fun h0 => absurd h0 (by simp), fun _ h1 => ?_, fun _ _ t ht => ?_⟩
      · rw [List.length_map, List.length_map, List.length_append, List.length_take, List.length_drop]; exact Nat.le_of_lt (small1000 (by show min j xs.length + 1 + (xs.length - (j + 1)) ≤ 1000; omega))
      · have hd : xs.drop (j + 1) = [] := List.map_eq_nil_iff.mp h1
        have hset := set_split (o := o) hj
        rw [hd, List.append_nil] at hset
        rw [hset] at e7c
        exact k H7 c _ (by rw [List.length_set]) hbs U7 O7 e7c
      · refine k _ t (xs.set j o) (by rw [List.length_set]) hbs (U7.fresh ht) (Off.fresh O7 ht) ?_
        rw [upd_same, ← List.map_append, set_split hj]
    refine ⟨p, q, _, _, rfl, rfl, SqT.of e5p, SqT.of e5, ?_, fun h0 => ?_, fun _ h => absurd h (by simp), fun h0 _ t ht => ?_⟩
    · rw [List.length_map, List.length_take]; exact Nat.le_of_lt (small1000 (by show min j xs.length + 1 ≤ 1000; omega))
    · have hz : xs.take j = [] := List.map_eq_nil_iff.mp h0
      exact tail q H5 U5 O5 (by rw [e5, hz]; rfl)
    · refine tail t _ (U5.fresh ht) (Off.fresh O5 ht) ?_
      rw [upd_same, List.map_append]
      rfl
end
end K3

namespace K3
open PySem L2 RW RZ PySem.RW
/-! ### calls by names alone -/
section
variable {X : Cx} {CX : CXT} {k : Nat} {f : Addr} {fd : FuncData} {ps ks : List Str} {sp : Sp} {E : XK} {x : Str} {p pos : Pos} {kws : List Keyword} {tk : TA} {g : List Value → List Value → List Value} {gV : List V → List V → List V}
theorem pe_callK0 (F : FnOk X.prog X.w X.K X.mg X.base CX k f fd ps sp) (hr : Room k X.A) (hg : Gl X x) (hm : X.mg x = some (.ref f)) (hk : PySem.W.keepIn X.K (.ref f) = true) (hb : KBinds X.K fd ps ks g gV) (hx : Passes CX X E)
    (hkw : PK X kws tk) (hall : (backToKw pos (keywordEach kws X.env)).all (·.1.isSome) = true := by rfl) (hks : (backToKw pos (keywordEach kws X.env)).filterMap (·.1) = ks := by rfl)
    (hdb : (x == ("__debug__" : Str)) = false := by decide)
    (hpl : ((backTo pos (starEach [] X.env)).any (·.1) || (backToKw pos (keywordEach kws X.env)).any (·.1.isNone)) = false := by rfl) :
    PE X (.Call (.Name x p) [] kws pos) (tCallK sp gV E tNil tk) := by
  refine ⟨fun pins s σ H Q I h => ?_⟩
  refine wpAny_Call_Name_kw (ld_glob I hg hm ?_ hdb)
  refine PySem.W.callWith_KW0 (h₀ := X.base) I.ok.mod.kin hk hall ?_ hpl
  refine thn (hkw.run pos pins s σ H _ I h) fun ws s2 ⟨zs, H2, I2, rz, q2⟩ => ⟨I2.kIn, ?_⟩
  rw [hks]
  exact run_fnk F hr hb hx I2 .nil rz q2
end
def g1 {α : Type} : List α → List α → List α
  | [], [a] => [a]
  | _, _ => []
def g2 {α : Type} : List α → List α → List α
  | [], [a, b] => [a, b]
  | _, _ => []
def g2s {α : Type} : List α → List α → List α
  | [], [a, b] => [b, a]
  | _, _ => []
structure CalK (P : Program) (w : World) (K : PySem.W.Frag) (mg : Str → Option Value) (base : Heap) (x : Str) (k : Nat) (ps ks : List Str) (g : List Value → List Value → List Value) (gV : List V → List V → List V) (sp : Sp) : Prop where
  ex : ∃ f fd, FnOk P w K mg base CX0 k f fd ps sp ∧ mg x = some (.ref f) ∧ PySem.W.keepIn K (.ref f) = true ∧ KBinds K fd ps ks g gV
theorem kb1 {K : PySem.W.Frag} {x qual a : Str} {st : Stmt} {f : Addr} {fd : FuncData} (F : Fun K x qual st f fd)
    (h : ∀ (kV doc pm : Value) (an : Option Addr) (cdv ct : Value) (u : Value), bindArgs (PySem.W.fnOf x qual (defArgs st) (defBody st) (defScope st) .none kV doc pm an cdv ct) ⟨[], [(a, u)]⟩ = pure [(a, u)]) : KBinds K fd [a] [a] g1 g1 := by
  obtain ⟨oc, od, kV, doc, pm, an, cdv, ct, osl, rfl, lk, hcd⟩ := F.ex
  refine ⟨fun s us ws _ hl => ?_, fun {vs us zs ws} r rz => ?_⟩
  · match us, ws, hl with
    | [], [u], _ => exact .of_eq (h kV doc pm an cdv ct u)
  · cases r with
    | nil =>
      cases rz with
      | nil => exact .nil
      | cons a b => cases b with
        | nil => exact .cons a .nil
        | cons c d => exact .nil
    | cons a b => exact .nil
theorem kb2 {K : PySem.W.Frag} {x qual a b : Str} {st : Stmt} {f : Addr} {fd : FuncData} (F : Fun K x qual st f fd)
    (h : ∀ (kV doc pm : Value) (an : Option Addr) (cdv ct : Value) (u v : Value), bindArgs (PySem.W.fnOf x qual (defArgs st) (defBody st) (defScope st) .none kV doc pm an cdv ct) ⟨[], [(a, u), (b, v)]⟩ = pure [(a, u), (b, v)]) : KBinds K fd [a, b] [a, b] g2 g2 := by
  obtain ⟨oc, od, kV, doc, pm, an, cdv, ct, osl, rfl, lk, hcd⟩ := F.ex
  refine ⟨fun s us ws _ hl => ?_, fun {vs us zs ws} r rz => ?_⟩
  · match us, ws, hl with
    | [], [u, v], _ => exact .of_eq (h kV doc pm an cdv ct u v)
  · cases r with
    | nil =>
      cases rz with
      | nil => exact .nil
      | cons a b => cases b with
        | nil => exact .nil
        | cons c d => cases d with
          | nil => exact .cons a (.cons c .nil)
          | cons e f => exact .nil
    | cons a b => exact .nil
theorem kb2s {K : PySem.W.Frag} {x qual a b : Str} {st : Stmt} {f : Addr} {fd : FuncData} (F : Fun K x qual st f fd)
    (h : ∀ (kV doc pm : Value) (an : Option Addr) (cdv ct : Value) (u v : Value), bindArgs (PySem.W.fnOf x qual (defArgs st) (defBody st) (defScope st) .none kV doc pm an cdv ct) ⟨[], [(b, u), (a, v)]⟩ = pure [(a, v), (b, u)]) : KBinds K fd [a, b] [b, a] g2s g2s := by
  obtain ⟨oc, od, kV, doc, pm, an, cdv, ct, osl, rfl, lk, hcd⟩ := F.ex
  refine ⟨fun s us ws _ hl => ?_, fun {vs us zs ws} r rz => ?_⟩
  · match us, ws, hl with
    | [], [u, v], _ => exact .of_eq (h kV doc pm an cdv ct u v)
  · cases r with
    | nil =>
      cases rz with
      | nil => exact .nil
      | cons a b => cases b with
        | nil => exact .nil
        | cons c d => cases d with
          | nil => exact .cons c (.cons a .nil)
          | cons e f => exact .nil
    | cons a b => exact .nil

/-! ### what is shown is small -/
theorem M_bits {i : Int} (h : i.natAbs ≤ 20 * M) : i.natAbs.log2 < 12900 := by
  have h2 : 20 * M < 2 ^ 12900 := by unfold M; decide +kernel
  exact PySem.Flt.log2_lt_of (by decide) (Nat.lt_of_le_of_lt h h2)
structure OkR (d : PyData) : Prop where
  wd : wide d = true
  len : d.shown.length ≤ 60000
  dep : d.depth ≤ 2
theorem okR_bool (b : Bool) : OkR (.bool b) := ⟨rfl, by cases b <;> decide, by simp [PyData.depth]⟩
theorem wideN : ∀ {xs : List (Option Int)}, Bd 20 xs → wideAll (xs.map pd) = true
  | [], _ => rfl
  | none :: r, h => by
    have := wideN (xs := r) (fun i hi => h i (List.mem_cons_of_mem _ hi))
    simp [wideAll, wide, pd, this]
  | some i :: r, h => by
    have h1 := wideN (xs := r) (fun i hi => h i (List.mem_cons_of_mem _ hi))
    have h2 := M_bits (h i (List.mem_cons_self ..))
    simp [wideAll, wide, pd, h1, h2]
theorem lenN : ∀ {xs : List (Option Int)}, Bd 20 xs → ((PyData.shownAll (xs.map pd)).map (·.length)).sum ≤ 12901 * xs.length ∧ (PyData.shownAll (xs.map pd)).length = xs.length
  | [], _ => ⟨by simp [PyData.shownAll], by simp [PyData.shownAll]⟩
  | none :: r, h => by
    obtain ⟨h1, h2⟩ := lenN (xs := r) (fun i hi => h i (List.mem_cons_of_mem _ hi))
    have e : (PyData.shown .none).length = 4 := rfl
    refine ⟨?_, by simp [PyData.shownAll, h2]⟩
    simp only [List.map_cons, PyData.shownAll, List.sum_cons, List.length_cons, pd]
    rw [e]
    omega
  | some i :: r, h => by
    obtain ⟨h1, h2⟩ := lenN (xs := r) (fun i hi => h i (List.mem_cons_of_mem _ hi))
    have e : (PyData.shown (.int i)).length ≤ 12901 := by
      have := int_text_length_le (k := 12900) (by decide) (M_bits (h i (List.mem_cons_self ..)))
      simp only [PyData.shown]
      show (Str.ofString (toString i)).length ≤ 12901
      rw [ofString_length]
      exact this
    refine ⟨?_, by simp [PyData.shownAll, h2]⟩
    simp only [List.map_cons, PyData.shownAll, List.sum_cons, List.length_cons, pd]
    omega
theorem okR_tup {xs : List (Option Int)} (hl : xs.length ≤ 4) (h : Bd 20 xs) : OkR (.tuple (xs.map pd)) := by
  refine ⟨by simp [wide, wideN h], ?_, by simp [PyData.depth, (layN_ xs).2]⟩
  obtain ⟨h1, h2⟩ := lenN h
  have := tupleText_len_le (PyData.shownAll (xs.map pd))
  simp only [PyData.shown]
  omega
theorem okAll : ∀ {ds : List PyData}, (∀ d ∈ ds, OkR d) → wideAll ds = true ∧ ((PyData.shownAll ds).map (·.length)).sum ≤ 60000 * ds.length ∧ (PyData.shownAll ds).length = ds.length ∧ PyData.depthAll ds ≤ 2
  | [], _ => ⟨rfl, by simp [PyData.shownAll], by simp [PyData.shownAll], by simp [PyData.depthAll]⟩
  | d :: r, h => by
    obtain ⟨h1, h2, h3, h4⟩ := okAll (ds := r) (fun d hd => h d (List.mem_cons_of_mem _ hd))
    obtain ⟨a, b, c⟩ := h d (List.mem_cons_self ..)
    refine ⟨by simp [wideAll, a, h1], ?_, by simp [PyData.shownAll, h3], by simp only [PyData.depthAll]; omega⟩
    simp only [PyData.shownAll, List.map_cons, List.sum_cons, List.length_cons]
    omega
theorem okL {ds : List PyData} (h : ∀ d ∈ ds, OkR d) (hl : ds.length ≤ 20) : wide (.list ds) = true ∧ (PyData.list ds).shown.length ≤ sizeLine ∧ (PyData.list ds).depth ≤ 50 := by
  obtain ⟨h1, h2, h3, h4⟩ := okAll h
  have := listText_len_le (PyData.shownAll ds)
  refine ⟨by simp [wide, h1], ?_, by simp only [PyData.depth]; omega⟩
  simp only [PyData.shown]
  rw [sizeLine_eq]
  omega

/-! ### what is known of the heap -/
def Has (H : Hp) (L : List (Addr × HO)) : Prop := ∀ p ∈ L, H p.1 = some p.2
theorem Has.same {H H' : Hp} {L : List (Addr × HO)} (h : Has H L) (S : Same H H') : Has H' L := fun p hp => S _ _ (h p hp)
theorem Has.cons {H : Hp} {L : List (Addr × HO)} {a : Addr} {o : HO} (h : Has H L) (e : H a = some o) : Has H ((a, o) :: L) := fun p hp => by
  rcases List.mem_cons.mp hp with rfl | hp
  · exact e
  · exact h p hp
theorem Has.new {H : Hp} {L : List (Addr × HO)} {a : Addr} {o : HO} (h : Has H L) (e : H a = none) : Has (upd H a o) ((a, o) :: L) := (h.same (Same.fresh (Same.refl _) e)).cons upd_same
theorem Has.at {H : Hp} {L : List (Addr × HO)} {a : Addr} {o : HO} (h : Has H L) (i : Nat) (e : L[i]? = some (a, o)) : H a = some o := h _ (List.mem_of_getElem? e)
theorem dT {K : PySem.W.Frag} {H : Hp} {p : Addr} {xs : List (Option Int)} (h : H p = some (.tup (xs.map nv))) : Dp K H (.ref p) (.tuple (xs.map pd)) := .tup (SqT.of h) (dpN xs)
end K3

namespace K3
open PySem L2 RW RZ PySem.RW
/-! ### numbers -/
theorem addN_assoc (a b c : Option Int) : addN (addN a b) c = addN a (addN b c) := by cases a <;> cases b <;> cases c <;> simp [addN]; omega
theorem addN_zero (a : Option Int) : addN a (some 0) = a := by cases a <;> simp [addN]
theorem addN_none (a : Option Int) : addN a none = none := by cases a <;> rfl
theorem maxN_comm (a b : Option Int) : maxN a b = maxN b a := by
  cases a <;> cases b <;> simp [maxN]
  split <;> split <;> omega
theorem maxN_idem (a : Option Int) : maxN a a = a := by cases a <;> simp [maxN]
theorem maxN_assoc (a b c : Option Int) : maxN (maxN a b) c = maxN a (maxN b c) := by
  cases a <;> cases b <;> cases c <;> simp [maxN]
  repeat' split
  all_goals omega
theorem maxN_none (a : Option Int) : maxN none a = a := by cases a <;> rfl
theorem maxN_add (a b : Option Int) (n : Int) : maxN (addN a (some n)) (addN b (some n)) = addN (maxN a b) (some n) := by
  cases a <;> cases b <;> simp [maxN, addN]
  split <;> rfl
theorem maxN_abs (a b : Option Int) : maxN (maxN a b) b = maxN a b := by rw [maxN_assoc, maxN_idem]
theorem aboveN_self (a : Option Int) : aboveN a a = false := by cases a <;> simp [aboveN]
theorem aboveN_max (a b : Option Int) : aboveN a (maxN a b) = false := by
  cases a <;> cases b <;> simp [aboveN, maxN]
  split <;> omega
theorem aboveN_max2 (a b : Option Int) : aboveN (maxN a b) a = aboveN b a := by
  cases a <;> cases b <;> simp [aboveN, maxN]
  split <;> omega
theorem maxN_ne (a b : Option Int) : decide (maxN a b = b) = !aboveN a b := by
  cases a <;> cases b <;> simp [aboveN, maxN]
  omega
/-! ### sides -/
theorem shift_len (xs : List (Option Int)) (n : Option Int) : (shiftN xs n).length = xs.length := by unfold shiftN; rw [List.length_map]
theorem shift_shift (xs : List (Option Int)) (a b : Option Int) : shiftN (shiftN xs a) b = shiftN xs (addN a b) := by
  unfold shiftN
  rw [List.map_map]
  apply List.map_congr_left
  intro x _
  exact addN_assoc x a b
theorem shift_zero (xs : List (Option Int)) : shiftN xs (some 0) = xs := by
  unfold shiftN
  rw [List.map_congr_left (g := id) (fun x _ => addN_zero x), List.map_id]
theorem shift_none (xs : List (Option Int)) : shiftN xs none = List.replicate xs.length none := by
  unfold shiftN
  rw [List.map_congr_left (g := fun _ => none) (fun x _ => addN_none x), List.map_const']
theorem shift_back (xs : List (Option Int)) (b : Int) : shiftN (shiftN xs (some b)) (some (-b)) = xs := by
  rw [shift_shift]
  show shiftN xs (some (b + -b)) = xs
  rw [show b + -b = 0 by omega, shift_zero]
theorem lay_len {xs ys : List (Option Int)} (h : xs.length = ys.length) : (layN xs ys).length = xs.length := by unfold layN; rw [List.length_zipWith]; omega
theorem lay_comm : ∀ xs ys : List (Option Int), layN xs ys = layN ys xs
  | [], [] => rfl
  | [], _ :: _ => rfl
  | _ :: _, [] => rfl
  | a :: r, b :: t => by
    show maxN a b :: layN r t = maxN b a :: layN t r
    rw [maxN_comm, lay_comm r t]
theorem lay_idem : ∀ xs : List (Option Int), layN xs xs = xs
  | [] => rfl
  | a :: r => by
    show maxN a a :: layN r r = a :: r
    rw [maxN_idem, lay_idem r]
theorem lay_assoc : ∀ xs ys zs : List (Option Int), layN (layN xs ys) zs = layN xs (layN ys zs)
  | [], _, _ => rfl
  | _ :: _, [], _ => rfl
  | _ :: _, _ :: _, [] => rfl
  | a :: r, b :: t, c :: q => by
    show maxN (maxN a b) c :: layN (layN r t) q = maxN a (maxN b c) :: layN r (layN t q)
    rw [maxN_assoc, lay_assoc r t q]
theorem lay_none : ∀ ys : List (Option Int), layN (List.replicate ys.length none) ys = ys
  | [] => rfl
  | a :: r => by
    rw [List.length_cons, List.replicate_succ]
    show maxN none a :: layN (List.replicate r.length none) r = a :: r
    rw [maxN_none, lay_none r]
theorem lay_abs (xs ys : List (Option Int)) : layN (layN xs ys) ys = layN xs ys := by rw [lay_assoc, lay_idem]
theorem lay_shift (n : Int) : ∀ xs ys : List (Option Int), layN (shiftN xs (some n)) (shiftN ys (some n)) = shiftN (layN xs ys) (some n)
  | [], _ => rfl
  | _ :: _, [] => rfl
  | a :: r, b :: t => by
    show maxN (addN a (some n)) (addN b (some n)) :: layN (shiftN r (some n)) (shiftN t (some n)) = addN (maxN a b) (some n) :: shiftN (layN r t) (some n)
    rw [maxN_add, lay_shift n r t]
theorem higher_cons (a b : Option Int) (r t : List (Option Int)) : higherN (a :: r) (b :: t) = (aboveN a b || higherN r t) := rfl
theorem higher_self : ∀ xs : List (Option Int), higherN xs xs = false
  | [] => rfl
  | a :: r => by rw [higher_cons, aboveN_self, higher_self r]; rfl
theorem higher_lay : ∀ xs ys : List (Option Int), higherN xs (layN xs ys) = false
  | [], _ => rfl
  | _ :: _, [] => rfl
  | a :: r, b :: t => by
    show higherN (a :: r) (maxN a b :: layN r t) = false
    rw [higher_cons, aboveN_max, higher_lay r t]; rfl
theorem higher_lay2 : ∀ xs ys : List (Option Int), xs.length = ys.length → higherN (layN xs ys) xs = higherN ys xs
  | [], [], _ => rfl
  | a :: r, b :: t, h => by
    show higherN (maxN a b :: layN r t) (a :: r) = _
    rw [higher_cons, higher_cons, aboveN_max2, higher_lay2 r t (by simpa using h)]
theorem eqv_pd (a b : Option Int) : PyData.eqv (pd a) (pd b) = decide (a = b) := by
  cases a <;> cases b <;> simp [pd, PyData.eqv]
  rename_i x y
  by_cases h : x = y <;> simp [h]
theorem eqv_row : ∀ xs ys : List (Option Int), PyData.eqvAll (xs.map pd) (ys.map pd) = decide (xs = ys)
  | [], [] => by simp [PyData.eqvAll]
  | [], _ :: _ => by simp [PyData.eqvAll]
  | _ :: _, [] => by simp [PyData.eqvAll]
  | a :: r, b :: t => by
    simp only [List.map_cons, PyData.eqvAll]
    rw [eqv_pd, eqv_row r t]
    by_cases h : a = b <;> by_cases h2 : r = t <;> simp [h, h2]
theorem eqv_tup (xs ys : List (Option Int)) : PyData.eqv (.tuple (xs.map pd)) (.tuple (ys.map pd)) = decide (xs = ys) := by
  simp only [PyData.eqv]
  exact eqv_row xs ys
theorem lay_ne : ∀ xs ys : List (Option Int), xs.length = ys.length → (!decide (layN xs ys = ys)) = higherN xs ys
  | [], [], _ => rfl
  | a :: r, b :: t, h => by
    have ih := lay_ne r t (by simpa using h)
    have h1 := maxN_ne a b
    rw [higher_cons, ← ih]
    show (!decide (maxN a b :: layN r t = b :: t)) = _
    have e : decide (maxN a b :: layN r t = b :: t) = (decide (maxN a b = b) && decide (layN r t = t)) := by
      by_cases p : maxN a b = b <;> by_cases q : layN r t = t <;> simp [p, q]
    rw [e, h1]
    cases aboveN a b <;> simp
/-! ### bounds -/
theorem Bd.shift {j k : Nat} {xs : List (Option Int)} {n : Option Int} (h : Bd k xs) (hn : ∀ i, n = some i → i.natAbs ≤ j * M) : Bd (k + j) (shiftN xs n) := fun i hi => by
  unfold shiftN at hi
  obtain ⟨x, hx, e⟩ := List.mem_map.mp hi
  cases x with
  | none => cases e
  | some x =>
    cases n with
    | none => cases e
    | some n =>
      have e2 : x + n = i := Option.some.inj e
      have h1 := h x hx
      have h2 := hn n rfl
      rw [Nat.add_mul]
      omega
theorem Bd.lay {k : Nat} : ∀ {xs ys : List (Option Int)}, Bd k xs → Bd k ys → Bd k (layN xs ys)
  | [], _, _, _ => fun i hi => by cases hi
  | _ :: _, [], _, _ => fun i hi => by cases hi
  | a :: r, b :: t, h1, h2 => fun i hi => by
    rcases List.mem_cons.mp (show some i ∈ maxN a b :: layN r t from hi) with e | e
    · cases a with
      | none => exact h2 i (by rw [maxN_none] at e; rw [e]; exact List.mem_cons_self ..)
      | some x =>
        cases b with
        | none => exact h1 i (by rw [e]; exact List.mem_cons_self ..)
        | some y =>
          have e2 : i = if y < x then x else y := Option.some.inj e
          by_cases q : y < x
          · rw [if_pos q] at e2; rw [e2]; exact h1 x (List.mem_cons_self ..)
          · rw [if_neg q] at e2; rw [e2]; exact h2 y (List.mem_cons_self ..)
    · exact Bd.lay (fun i hi => h1 i (List.mem_cons_of_mem _ hi)) (fun i hi => h2 i (List.mem_cons_of_mem _ hi)) i e
/-- (None,) * k -/
def rNones : R2 := fun x y H Q => ∃ l k, x = .ref l ∧ y = .int k ∧ H l = some (.tup [V.non]) ∧ 1 ≤ k ∧ k ≤ 1000 ∧ ∀ H' p, Same H H' → H' p = some (.tup ((List.replicate k.toNat (none : Option Int)).map nv)) → Q (.ref p) H'
theorem op_nones {X : Cx} : OpR X (binaryOp .Mult) rNones := by
  intro pins s σ H x y v u Q I rx ry h
  obtain ⟨l, k, rfl, rfl, hl, k1, k2, q⟩ := h
  refine op_repA pins s σ H _ _ v u Q I rx ry ⟨l, k, [V.non], rfl, rfl, SqT.of hl, by simp, k1, k2, by decide, fun e => ?_, fun e p hp => ?_⟩
  · refine q H l (Same.refl _) ?_
    rw [hl, e]
    rfl
  · refine q _ p (Same.fresh (Same.refl _) hp) ?_
    rw [upd_same, rep_nv]
end K3

namespace K3
open PySem L2 RW RZ PySem.RW
abbrev T (xs : List (Option Int)) : HO := .tup (xs.map nv)
/-- what is known of the heap behind H0 -/
structure Kn (H0 H : Hp) (L : List (Addr × HO)) : Prop where
  S : Same H0 H
  h : Has H L
theorem Kn.same {H0 H H' : Hp} {L : List (Addr × HO)} (A : Kn H0 H L) (S : Same H H') : Kn H0 H' L := ⟨A.S.trans S, A.h.same S⟩
theorem Kn.cons {H0 H : Hp} {L : List (Addr × HO)} {a : Addr} {o : HO} (A : Kn H0 H L) (e : H a = some o) : Kn H0 H ((a, o) :: L) := ⟨A.S, A.h.cons e⟩
theorem Kn.new {H0 H : Hp} {L : List (Addr × HO)} {a : Addr} {o : HO} (A : Kn H0 H L) (e : H a = none) : Kn H0 (upd H a o) ((a, o) :: L) := ⟨Same.fresh A.S e, A.h.new e⟩
theorem Kn.at {H0 H : Hp} {L : List (Addr × HO)} {a : Addr} {o : HO} (A : Kn H0 H L) (i : Nat) (e : L[i]? = some (a, o)) : H a = some o := A.h.at i e
theorem Kn.nil (H : Hp) : Kn H H [] := ⟨Same.refl H, fun _ h => by cases h⟩
theorem Kn.two {H : Hp} {a b : Addr} {x y : HO} (h1 : H a = some x) (h2 : H b = some y) : Kn H H [(a, x), (b, y)] := ((Kn.nil H).cons h2).cons h1
theorem dpB {K : PySem.W.Frag} {H : Hp} : ∀ bs : List Bool, DpAll K H (bs.map V.bl) (bs.map PyData.bool)
  | [] => .nil
  | b :: r => .cons (.bl b) (dpB r)
section
variable {P : Program} {w : World} {K : PySem.W.Frag} {mg : Str → Option Value} {base : Heap}
def spHeights : Sp := fun vs H Q _ => ∃ a b xs ys, vs = [.ref a, .ref b] ∧ H a = some (T xs) ∧ H b = some (T ys) ∧ xs.length = ys.length ∧ xs.length ≤ 4 ∧ ∀ H', Same H H' → Q (.bl true) H'
theorem scHeights : FnScope ["one", "other", "found", "due"] ["one", "other"] (defScope sHeights) := ⟨rfl, rfl, rfl, by decide +kernel, rfl, by decide +kernel, by decide +kernel⟩
theorem ok_heights {f : Addr} {fd : FuncData} (F : Fun K "_law_heights_go" "_law_heights_go" sHeights f fd) (B : Bl mg) (St : StatAt base)
    (C1 : Cal P w K mg base "is_higher" 2 ["one_side", "other_side"] spHigher) (D1 : CalK P w K mg base "is_higher" 2 ["one_side", "other_side"] ["one_side", "other_side"] g2 g2 spHigher)
    (C2 : Cal P w K mg base "laid" 3 ["one_side", "other_side"] spLaid) (C3 : Cal P w K mg base "_law_above" 1 ["one", "other"] spHigher) : FnG P w K mg base 4 f fd ["one", "other"] spHeights := by
  obtain ⟨f1, fd1, G1, m1, k1, b1⟩ := C1.ex
  obtain ⟨f2, fd2, G2, m2, k2, b2⟩ := C2.ex
  obtain ⟨f3, fd3, G3, m3, k3, b3⟩ := C3.ex
  obtain ⟨f4, fd4, G4, m4, k4, b4⟩ := D1.ex
  refine fnG_of F scHeights (fun vs H Q E h => ?_) (fun cdv A outer s H vs Q E hG hr h => ?_)
  · obtain ⟨a, b, xs, ys, rfl, _⟩ := h
    rfl
  · obtain ⟨a, b, xs, ys, rfl, hA, hB, hxy, hl, k⟩ := h
    have hl2 : xs.length ≤ 1000 := by omega
    have hr1 : Room 1 _ := hr.mono (by decide)
    have hr2 : Room 2 _ := hr.mono (by decide)
    have hu : (A.deeper (PyProof.Rows.envOfC "_law_heights_go" (defScope sHeights) s.heap.objs.size f cdv)).units + 64 < cLine := by have := hr.un; omega
    refine ⟨_, pss_cons (ps_set (i := 2) scHeights.nd rfl (Or.inl rfl) (pe_lst (pa_cons (pe_call G1 hr2 rfl m1 k1 b1 .nil pass0 (pa_cons (pv 0) (pa_cons (pv 1) pa_nil))) (pa_cons (pe_callK0 G4 hr2 rfl m4 k4 b4 pass0 (pk_cons (pv 1) (pk_cons (pv 0) pk_nil))) (pa_cons (pe_call G1 hr2 rfl m1 k1 b1 .nil pass0 (pa_cons (pv 0) (pa_cons (pv 0) pa_nil))) pa_nil)))))
      (pss_cons (ps_set (i := 2) scHeights.nd rfl (Or.inl rfl) (pe_op op_cat (pv 2) (pe_lst (pa_cons (pe_call G1 hr2 rfl m1 k1 b1 .nil pass0 (pa_cons (pv 0) (pa_cons (pe_call G2 hr rfl m2 k2 b2 .nil pass0 (pa_cons (pv 0) (pa_cons (pv 1) pa_nil))) pa_nil)))
        (pa_cons (pe_call G1 hr2 rfl m1 k1 b1 .nil pass0 (pa_cons (pe_call G2 hr rfl m2 k2 b2 .nil pass0 (pa_cons (pv 0) (pa_cons (pv 1) pa_nil))) (pa_cons (pv 0) pa_nil)))
        (pa_cons (pe_cmpR (op_neD hu) (pe_call G2 hr rfl m2 k2 b2 .nil pass0 (pa_cons (pv 0) (pa_cons (pv 1) pa_nil))) (pv 1) (nomark _)) pa_nil))))))
      (pss_cons (ps_set (i := 3) scHeights.nd rfl (Or.inl rfl) (pe_lst (pa_cons (pe_call G3 hr1 rfl m3 k3 b3 .nil pass0 (pa_cons (pv 0) (pa_cons (pv 1) pa_nil))) (pa_cons (pe_call G3 hr1 rfl m3 k3 b3 .nil pass0 (pa_cons (pv 1) (pa_cons (pv 0) pa_nil))) (pa_cons pe_bl (pa_cons pe_bl
        (pa_cons (pe_call G3 hr1 rfl m3 k3 b3 .nil pass0 (pa_cons (pv 1) (pa_cons (pv 0) pa_nil))) (pa_cons (pe_call G3 hr1 rfl m3 k3 b3 .nil pass0 (pa_cons (pv 0) (pa_cons (pv 1) pa_nil))) pa_nil))))))))
      (pss_one (ps_ret (pe_cmpR op_eq (pe_callB (call_reprW hG hu St) (by rfl) B.repr (by decide +kernel) (pa_cons (pv 2) pa_nil)) (pe_callB (call_reprW hG hu St) (by rfl) B.repr (by decide +kernel) (pa_cons (pv 3) pa_nil)) (nomark _)))))), ?_⟩
    have A0 : Kn H H [(a, T xs), (b, T ys)] := Kn.two hA hB
    refine ⟨_, rfl, _, rfl, a, b, xs, ys, rfl, hA, hB, hxy, hl2, fun H1 S1 => ?_⟩
    have A1 := A0.same S1
    refine ⟨_, rfl, _, rfl, b, a, ys, xs, rfl, A1.at 1 rfl, A1.at 0 rfl, hxy.symm, by omega, fun H2 S2 => ?_⟩
    have A2 := A1.same S2
    refine ⟨_, rfl, _, rfl, a, a, xs, xs, rfl, A2.at 0 rfl, A2.at 0 rfl, rfl, hl2, fun H3 S3 => ?_⟩
    have A3 := A2.same S3
    refine ⟨(by show 3 ≤ sizeLine; decide), fun l1 hl1 => ?_⟩
    have A4 := A3.new (o := .lst ([higherN xs ys, higherN ys xs, higherN xs xs].map V.bl)) hl1
    -- is_higher(one, laid(one, other)) ..
    refine ⟨_, rfl, _, rfl, _, rfl, _, rfl, a, b, xs, ys, rfl, A4.at 1 rfl, A4.at 2 rfl, hxy, hl2, fun H5 p5 S5 _ e5 => ?_⟩
    have A5 := (A4.same S5).cons e5
    have hll : (layN xs ys).length = xs.length := lay_len hxy
    refine ⟨a, p5, xs, layN xs ys, rfl, A5.at 2 rfl, A5.at 0 rfl, hll.symm, hl2, fun H6 S6 => ?_⟩
    have A6 := A5.same S6
    refine ⟨_, rfl, _, rfl, a, b, xs, ys, rfl, A6.at 2 rfl, A6.at 3 rfl, hxy, hl2, fun H7 p7 S7 _ e7 => ?_⟩
    have A7 := (A6.same S7).cons e7
    refine ⟨_, rfl, p7, a, layN xs ys, xs, rfl, A7.at 0 rfl, A7.at 3 rfl, hll, by omega, fun H8 S8 => ?_⟩
    have A8 := A7.same S8
    refine ⟨_, rfl, _, rfl, a, b, xs, ys, rfl, A8.at 3 rfl, A8.at 4 rfl, hxy, hl2, fun H9 p9 S9 _ e9 => ?_⟩
    have A9 := (A8.same S9).cons e9
    refine ⟨_, rfl, _, _, dT (A9.at 0 rfl), dT (A9.at 5 rfl), shapedT _, shapedT _, (by show 3 ≤ sizeLine; decide), fun l2 hl2' => ?_⟩
    have A10 := A9.new (o := .lst ([higherN xs (layN xs ys), higherN (layN xs ys) xs, !PyData.eqv (.tuple ((layN xs ys).map pd)) (.tuple (ys.map pd))].map V.bl)) hl2'
    refine ⟨l1, l2, _, _, rfl, rfl, A10.at 4 rfl, A10.at 0 rfl, (by show 6 ≤ sizeLine; decide), fun l3 hl3 => ?_⟩
    have A11 := A10.new (o := .lst ([higherN xs ys, higherN ys xs, higherN xs xs, higherN xs (layN xs ys), higherN (layN xs ys) xs, !PyData.eqv (.tuple ((layN xs ys).map pd)) (.tuple (ys.map pd))].map V.bl)) hl3
    refine ⟨_, rfl, _, rfl, a, b, xs, ys, rfl, A11.at 6 rfl, A11.at 7 rfl, hxy, hl2, fun H12 S12 => ?_⟩
    have A12 := A11.same S12
    refine ⟨_, rfl, _, rfl, b, a, ys, xs, rfl, A12.at 7 rfl, A12.at 6 rfl, hxy.symm, by omega, fun H13 S13 => ?_⟩
    have A13 := A12.same S13
    refine ⟨_, rfl, _, rfl, b, a, ys, xs, rfl, A13.at 7 rfl, A13.at 6 rfl, hxy.symm, by omega, fun H14 S14 => ?_⟩
    have A14 := A13.same S14
    refine ⟨_, rfl, _, rfl, a, b, xs, ys, rfl, A14.at 6 rfl, A14.at 7 rfl, hxy, hl2, fun H15 S15 => ?_⟩
    have A15 := A14.same S15
    refine ⟨(by show 6 ≤ sizeLine; decide), fun l4 hl4 => ?_⟩
    have A16 := A15.new (o := .lst ([higherN xs ys, higherN ys xs, false, false, higherN ys xs, higherN xs ys].map V.bl)) hl4
    have ok : ∀ bs : List Bool, bs.length ≤ 20 → wide (.list (bs.map PyData.bool)) = true ∧ (PyData.list (bs.map PyData.bool)).shown.length ≤ sizeLine ∧ (PyData.list (bs.map PyData.bool)).depth ≤ 50 := fun bs h => okL (fun d hd => by
      obtain ⟨b, _, rfl⟩ := List.mem_map.mp hd
      exact okR_bool b) (by rw [List.length_map]; exact h)
    obtain ⟨o1, o2, o3⟩ := ok [higherN xs ys, higherN ys xs, higherN xs xs, higherN xs (layN xs ys), higherN (layN xs ys) xs, !PyData.eqv (.tuple ((layN xs ys).map pd)) (.tuple (ys.map pd))] (by simp)
    obtain ⟨p1, p2, p3⟩ := ok [higherN xs ys, higherN ys xs, false, false, higherN ys xs, higherN xs ys] (by simp)
    refine ⟨_, rfl, l3, _, rfl, .lst (SqL.of (A16.at 1 rfl)) (dpB _), o1, o2, o3, ?_⟩
    refine ⟨_, rfl, l4, _, rfl, .lst (SqL.of (A16.at 0 rfl)) (dpB _), p1, p2, p3, rfl, ?_⟩
    rw [higher_self, higher_lay, higher_lay2 xs ys hxy, eqv_tup, lay_ne xs ys hxy]
    have := k _ A16.S
    rw [show decide (V.str (PyData.list (List.map PyData.bool [higherN xs ys, higherN ys xs, false, false, higherN ys xs, higherN xs ys])).shown = V.str (PyData.list (List.map PyData.bool [higherN xs ys, higherN ys xs, false, false, higherN ys xs, higherN xs ys])).shown) = true from decide_eq_true rfl]
    exact this
end
end K3

namespace K3
open PySem L2 RW RZ PySem.RW
def rowD (xs : List (Option Int)) : PyData := .tuple (xs.map pd)
theorem okRows {rs : List (List (Option Int))} (h : ∀ xs ∈ rs, xs.length ≤ 4 ∧ Bd 20 xs) (hl : rs.length ≤ 20) : wide (.list (rs.map rowD)) = true ∧ (PyData.list (rs.map rowD)).shown.length ≤ sizeLine ∧ (PyData.list (rs.map rowD)).depth ≤ 50 := okL (fun d hd => by
  obtain ⟨xs, hx, rfl⟩ := List.mem_map.mp hd
  exact okR_tup (h xs hx).1 (h xs hx).2) (by rw [List.length_map]; exact hl)
theorem eqs {x : Str} {Q : VK} {H : Hp} (h : Q (.bl true) H) : Q (.bl (decide (V.str x = V.str x))) H := by
  rw [show decide (V.str x = V.str x) = true from decide_eq_true rfl]
  exact h
section
variable {P : Program} {w : World} {K : PySem.W.Frag} {mg : Str → Option Value} {base : Heap}
def spLayers : Sp := fun vs H Q _ => ∃ a b c xs ys zs, vs = [.ref a, .ref b, .ref c] ∧ H a = some (T xs) ∧ H b = some (T ys) ∧ H c = some (T zs) ∧ xs.length = ys.length ∧ xs.length = zs.length ∧ 1 ≤ xs.length ∧ xs.length ≤ 4 ∧ Bd 20 xs ∧ Bd 20 ys ∧ Bd 20 zs ∧ ∀ H', Same H H' → Q (.bl true) H'
theorem scLayers : FnScope ["one", "other", "third", "found", "both", "due"] ["one", "other", "third"] (defScope sLayers) := ⟨rfl, rfl, rfl, by decide +kernel, rfl, by decide +kernel, by decide +kernel⟩
theorem ok_layers {f : Addr} {fd : FuncData} (F : Fun K "_law_layers_go" "_law_layers_go" sLayers f fd) (B : Bl mg) (St : StatAt base)
    (C1 : Cal P w K mg base "laid" 3 ["one_side", "other_side"] spLaid) (D1 : CalK P w K mg base "laid" 3 ["one_side", "other_side"] ["one_side", "other_side"] g2 g2 spLaid)
    (C2 : Cal P w K mg base "_law_over" 2 ["one", "other"] spLaid) : FnG P w K mg base 4 f fd ["one", "other", "third"] spLayers := by
  obtain ⟨f1, fd1, G1, m1, k1, b1⟩ := C1.ex
  obtain ⟨f2, fd2, G2, m2, k2, b2⟩ := C2.ex
  obtain ⟨f4, fd4, G4, m4, k4, b4⟩ := D1.ex
  refine fnG_of F scLayers (fun vs H Q E h => ?_) (fun cdv A outer s H vs Q E hG hr h => ?_)
  · obtain ⟨a, b, c, xs, ys, zs, rfl, _⟩ := h
    rfl
  · obtain ⟨a, b, c, xs, ys, zs, rfl, hA, hB, hC, hxy, hxz, h1, hl, Bx, By, Bz, k⟩ := h
    have hl2 : xs.length ≤ 1000 := by omega
    have hr2 : Room 2 _ := hr.mono (by decide)
    have hu : (A.deeper (PyProof.Rows.envOfC "_law_layers_go" (defScope sLayers) s.heap.objs.size f cdv)).units + 64 < cLine := by have := hr.un; omega
    refine ⟨_, pss_cons (ps_set (i := 3) scLayers.nd rfl (Or.inl rfl) (pe_lst (pa_cons (pe_call G1 hr rfl m1 k1 b1 .nil pass0 (pa_cons (pv 0) (pa_cons (pv 1) pa_nil))) (pa_cons (pe_callK0 G4 hr rfl m4 k4 b4 pass0 (pk_cons (pv 1) (pk_cons (pv 0) pk_nil))) (pa_cons (pe_call G1 hr rfl m1 k1 b1 .nil pass0 (pa_cons (pv 0) (pa_cons (pv 0) pa_nil)))
        (pa_cons (pe_call G1 hr rfl m1 k1 b1 .nil pass0 (pa_cons (pe_call G1 hr rfl m1 k1 b1 .nil pass0 (pa_cons (pv 0) (pa_cons (pv 1) pa_nil))) (pa_cons (pv 2) pa_nil))) pa_nil))))))
      (pss_cons (ps_set (i := 3) scLayers.nd rfl (Or.inl rfl) (pe_op op_cat (pv 3) (pe_lst (pa_cons (pe_call G1 hr rfl m1 k1 b1 .nil pass0 (pa_cons (pv 0) (pa_cons (pe_call G1 hr rfl m1 k1 b1 .nil pass0 (pa_cons (pv 1) (pa_cons (pv 2) pa_nil))) pa_nil)))
        (pa_cons (pe_call G1 hr rfl m1 k1 b1 .nil pass0 (pa_cons (pe_op op_nones (pe_tup (pa_cons pe_non pa_nil)) (pe_callB call_len_seq (by rfl) B.len PySem.boot_len (pa_cons (pv 0) pa_nil))) (pa_cons (pv 1) pa_nil)))
        (pa_cons (pe_call G1 hr rfl m1 k1 b1 .nil pass0 (pa_cons (pe_call G1 hr rfl m1 k1 b1 .nil pass0 (pa_cons (pv 0) (pa_cons (pv 1) pa_nil))) (pa_cons (pv 1) pa_nil))) pa_nil))))))
      (pss_cons (ps_set (i := 4) scLayers.nd rfl (Or.inl rfl) (pe_call G2 hr2 rfl m2 k2 b2 .nil pass0 (pa_cons (pv 0) (pa_cons (pv 1) pa_nil))))
      (pss_cons (ps_set (i := 5) scLayers.nd rfl (Or.inl rfl) (pe_lst (pa_cons (pv 4) (pa_cons (pv 4) (pa_cons (pv 0) (pa_cons (pe_call G2 hr2 rfl m2 k2 b2 .nil pass0 (pa_cons (pv 4) (pa_cons (pv 2) pa_nil))) (pa_cons (pe_call G2 hr2 rfl m2 k2 b2 .nil pass0 (pa_cons (pv 4) (pa_cons (pv 2) pa_nil))) (pa_cons (pv 1) (pa_cons (pv 4) pa_nil)))))))))
      (pss_one (ps_ret (pe_cmpR op_eq (pe_callB (call_reprW hG hu St) (by rfl) B.repr (by decide +kernel) (pa_cons (pv 3) pa_nil)) (pe_callB (call_reprW hG hu St) (by rfl) B.repr (by decide +kernel) (pa_cons (pv 5) pa_nil)) (nomark _))))))), ?_⟩
    have hyz : ys.length = zs.length := by omega
    have l1 : (layN xs ys).length = xs.length := lay_len hxy
    have l2 : (layN ys zs).length = ys.length := lay_len hyz
    have A0 : Kn H H [(a, T xs), (b, T ys), (c, T zs)] := (Kn.two hB hC).cons hA
    -- found
    refine ⟨_, rfl, _, rfl, a, b, xs, ys, rfl, A0.at 0 rfl, A0.at 1 rfl, hxy, hl2, fun H1 p1 S1 _ e1 => ?_⟩
    have A1 := (A0.same S1).cons e1
    refine ⟨_, rfl, _, rfl, b, a, ys, xs, rfl, A1.at 2 rfl, A1.at 1 rfl, hxy.symm, by omega, fun H2 p2 S2 _ e2 => ?_⟩
    have A2 := (A1.same S2).cons e2
    refine ⟨_, rfl, _, rfl, a, a, xs, xs, rfl, A2.at 2 rfl, A2.at 2 rfl, rfl, hl2, fun H3 p3 S3 _ e3 => ?_⟩
    have A3 := (A2.same S3).cons e3
    refine ⟨_, rfl, _, rfl, a, b, xs, ys, rfl, A3.at 3 rfl, A3.at 4 rfl, hxy, hl2, fun H4 p4 S4 _ e4 => ?_⟩
    have A4 := (A3.same S4).cons e4
    refine ⟨_, rfl, p4, c, layN xs ys, zs, rfl, A4.at 0 rfl, A4.at 6 rfl, by omega, by omega, fun H5 p5 S5 _ e5 => ?_⟩
    have A5 := (A4.same S5).cons e5
    refine ⟨(by show 4 ≤ sizeLine; decide), fun q1 hq1 => ?_⟩
    have A6 := A5.new (o := .lst [.ref p1, .ref p2, .ref p3, .ref p5]) hq1
    -- found + [..]
    refine ⟨_, rfl, _, rfl, _, rfl, _, rfl, b, c, ys, zs, rfl, A6.at 7 rfl, A6.at 8 rfl, hyz, by omega, fun H7 p7 S7 _ e7 => ?_⟩
    have A7 := (A6.same S7).cons e7
    refine ⟨a, p7, xs, layN ys zs, rfl, A7.at 7 rfl, A7.at 0 rfl, by omega, hl2, fun H8 p8 S8 _ e8 => ?_⟩
    have A8 := (A7.same S8).cons e8
    refine ⟨(by show 1 ≤ sizeLine; decide), fun t ht => ?_⟩
    have A9 := A8.new (o := .tup [.non]) ht
    refine ⟨_, rfl, a, _, rfl, .inr (SqT.of (A9.at 9 rfl)), t, _, rfl, rfl, A9.at 0 rfl, (by rw [List.length_map]; omega), (by rw [List.length_map]; omega), fun H10 p10 S10 e10 => ?_⟩
    have en : List.replicate (((xs.map nv).length : Int)).toNat (none : Option Int) = List.replicate ys.length none := by rw [Int.toNat_natCast, List.length_map, hxy]
    rw [en] at e10
    have A10 := (A9.same S10).cons e10
    refine ⟨_, rfl, p10, b, _, ys, rfl, A10.at 0 rfl, A10.at 11 rfl, by rw [List.length_replicate], by rw [List.length_replicate]; omega, fun H11 p11 S11 _ e11 => ?_⟩
    rw [lay_none] at e11
    have A11 := (A10.same S11).cons e11
    refine ⟨_, rfl, _, rfl, a, b, xs, ys, rfl, A11.at 11 rfl, A11.at 12 rfl, hxy, hl2, fun H12 p12 S12 _ e12 => ?_⟩
    have A12 := (A11.same S12).cons e12
    refine ⟨_, rfl, p12, b, layN xs ys, ys, rfl, A12.at 0 rfl, A12.at 13 rfl, by omega, by omega, fun H13 p13 S13 _ e13 => ?_⟩
    have A13 := (A12.same S13).cons e13
    refine ⟨(by show 3 ≤ sizeLine; decide), fun q2 hq2 => ?_⟩
    have A14 := A13.new (o := .lst [.ref p8, .ref p11, .ref p13]) hq2
    refine ⟨q1, q2, _, _, rfl, rfl, A14.at 8 rfl, A14.at 0 rfl, (by show 7 ≤ sizeLine; decide), fun q3 hq3 => ?_⟩
    have A15 := A14.new (o := .lst [.ref p1, .ref p2, .ref p3, .ref p5, .ref p8, .ref p11, .ref p13]) hq3
    -- both
    refine ⟨_, rfl, _, rfl, a, b, xs, ys, rfl, A15.at 15 rfl, A15.at 16 rfl, hxy, hl2, fun H16 p16 S16 _ e16 => ?_⟩
    have A16 := (A15.same S16).cons e16
    -- due
    refine ⟨_, rfl, _, rfl, _, rfl, _, rfl, _, rfl, p16, c, layN xs ys, zs, rfl, A16.at 0 rfl, A16.at 18 rfl, by omega, by omega, fun H17 p17 S17 _ e17 => ?_⟩
    have A17 := (A16.same S17).cons e17
    refine ⟨_, rfl, _, rfl, p16, c, layN xs ys, zs, rfl, A17.at 1 rfl, A17.at 19 rfl, by omega, by omega, fun H18 p18 S18 _ e18 => ?_⟩
    have A18 := (A17.same S18).cons e18
    refine ⟨_, rfl, _, rfl, (by show 7 ≤ sizeLine; decide), fun q4 hq4 => ?_⟩
    have A19 := A18.new (o := .lst [.ref p16, .ref p16, .ref a, .ref p17, .ref p18, .ref b, .ref p16]) hq4
    -- both are shown alike
    have Bl1 : Bd 20 (layN xs ys) := Bx.lay By
    have Bl2 : Bd 20 (layN (layN xs ys) zs) := Bl1.lay Bz
    have ok := okRows (rs := [layN xs ys, layN xs ys, xs, layN (layN xs ys) zs, layN (layN xs ys) zs, ys, layN xs ys]) (fun r hr => by
      simp only [List.mem_cons, List.not_mem_nil, or_false] at hr
      rcases hr with rfl | rfl | rfl | rfl | rfl | rfl | rfl
      · exact ⟨by omega, Bl1⟩
      · exact ⟨by omega, Bl1⟩
      · exact ⟨hl, Bx⟩
      · exact ⟨by rw [lay_len (by omega)]; omega, Bl2⟩
      · exact ⟨by rw [lay_len (by omega)]; omega, Bl2⟩
      · exact ⟨by omega, By⟩
      · exact ⟨by omega, Bl1⟩) (by simp)
    obtain ⟨o1, o2, o3⟩ := ok
    have a2 : H18 p2 = some (T (layN xs ys)) := by have := A18.at 16 (a := p2) rfl; rw [lay_comm ys xs] at this; exact this
    have a3 : H18 p3 = some (T xs) := by have := A18.at 15 (a := p3) rfl; rw [lay_idem] at this; exact this
    have a8 : H18 p8 = some (T (layN (layN xs ys) zs)) := by have := A18.at 10 (a := p8) rfl; rw [← lay_assoc] at this; exact this
    have a13 : H18 p13 = some (T (layN xs ys)) := by have := A18.at 5 (a := p13) rfl; rw [lay_abs] at this; exact this
    have S19 : Same H18 (upd H18 q4 (.lst [.ref p16, .ref p16, .ref a, .ref p17, .ref p18, .ref b, .ref p16])) := Same.fresh (Same.refl _) hq4
    refine ⟨_, rfl, q3, [layN xs ys, layN xs ys, xs, layN (layN xs ys) zs, layN (layN xs ys) zs, ys, layN xs ys].map rowD, rfl, .lst (SqL.of (A19.at 4 rfl))
      (.cons (dT (A19.at 18 rfl)) (.cons (dT (S19 _ _ a2)) (.cons (dT (S19 _ _ a3)) (.cons (dT (A19.at 14 rfl)) (.cons (dT (S19 _ _ a8)) (.cons (dT (A19.at 8 rfl)) (.cons (dT (S19 _ _ a13)) .nil))))))), o1, o2, o3, ?_⟩
    refine ⟨_, rfl, q4, [layN xs ys, layN xs ys, xs, layN (layN xs ys) zs, layN (layN xs ys) zs, ys, layN xs ys].map rowD, rfl, .lst (SqL.of (A19.at 0 rfl))
      (.cons (dT (A19.at 3 rfl)) (.cons (dT (A19.at 3 rfl)) (.cons (dT (A19.at 19 rfl)) (.cons (dT (A19.at 2 rfl)) (.cons (dT (A19.at 1 rfl)) (.cons (dT (A19.at 20 rfl)) (.cons (dT (A19.at 3 rfl)) .nil))))))), o1, o2, o3, rfl, ?_⟩
    exact eqs (k _ A19.S)
end
end K3

namespace K3
open PySem L2 RW RZ PySem.RW
theorem okRow {xs : List (Option Int)} (hl : xs.length ≤ 4) (h : Bd 20 xs) : wide (rowD xs) = true ∧ (rowD xs).shown.length ≤ sizeLine ∧ (rowD xs).depth ≤ 50 := by
  obtain ⟨a, b, c⟩ := okR_tup hl h
  exact ⟨a, Nat.le_trans b (by rw [sizeLine_eq]; decide), Nat.le_trans c (by decide)⟩
def spShiftsAdd : Sp := fun vs H Q _ => ∃ u d m a b wd xs ys, vs = [.ref u, .ref a, .ref b, .ref wd] ∧ UrnAt H u d m ∧ Wd H u d wd ∧ H a = some (T xs) ∧ H b = some (T ys) ∧ xs.length = ys.length ∧ 1 ≤ xs.length ∧ xs.length ≤ 4 ∧ Bd 3 xs ∧ Bd 3 ys ∧ ∀ H', UrnAt H' u d m → Off u d H H' → Q (.bl true) H'
section
variable {P : Program} {w : World} {K : PySem.W.Frag} {mg : Str → Option Value} {base : Heap}
theorem scShiftsAdd : FnScope ["urn", "one", "other", "world", "by", "far", "found", "due"] ["urn", "one", "other", "world"] (defScope sShiftsAdd) := ⟨rfl, rfl, rfl, by decide +kernel, rfl, by decide +kernel, by decide +kernel⟩
theorem ok_shiftsadd {f : Addr} {fd : FuncData} (F : Fun K "_law_shifts_add" "_law_shifts_add" sShiftsAdd f fd) (B : Bl mg) (St : StatAt base)
    (C1 : Cal P w K mg base "shifted" 2 ["side", "number"] spShifted) (D1 : CalK P w K mg base "shifted" 2 ["side", "number"] ["number", "side"] g2s g2s spShifted)
    (C2 : Cal P w K mg base "laid" 3 ["one_side", "other_side"] spLaid) (C3 : Cal P w K mg base "_law_plus" 1 ["line", "much"] spPlus) (C4 : Cal P w K mg base "_law_over" 2 ["one", "other"] spLaid)
    (C5 : Cal P w K mg base "_law_whole" 2 ["urn", "world"] spWhole) (C6 : Cal P w K mg base "_law_one" 2 ["urn", "items"] spOne) : FnG P w K mg base 4 f fd ["urn", "one", "other", "world"] spShiftsAdd := by
  obtain ⟨f1, fd1, G1, m1, k1, b1⟩ := C1.ex
  obtain ⟨f2, fd2, G2, m2, k2, b2⟩ := C2.ex
  obtain ⟨f3, fd3, G3, m3, k3, b3⟩ := C3.ex
  obtain ⟨f4, fd4, G4, m4, k4, b4⟩ := C4.ex
  obtain ⟨f5, fd5, G5, m5, k5, b5⟩ := C5.ex
  obtain ⟨f6, fd6, G6, m6, k6, b6⟩ := C6.ex
  obtain ⟨f7, fd7, G7, m7, k7, b7⟩ := D1.ex
  refine fnG_of F scShiftsAdd (fun vs H Q E h => ?_) (fun cdv A outer s H vs Q E hG hr h => ?_)
  · obtain ⟨u, d, m, a, b, wd, xs, ys, rfl, _⟩ := h
    rfl
  · obtain ⟨u, d, m, a, b, wd, xs, ys, rfl, U, W, hA, hB, hxy, h1, hl, Bx, By, k⟩ := h
    have hl2 : xs.length ≤ 1000 := by omega
    have hr1 : Room 1 _ := hr.mono (by decide)
    have hr2 : Room 2 _ := hr.mono (by decide)
    have hu : (A.deeper (PyProof.Rows.envOfC "_law_shifts_add" (defScope sShiftsAdd) s.heap.objs.size f cdv)).units + 64 < cLine := by have := hr.un; omega
    refine ⟨_, pss_cons (ps_par (i := 4) (j := 5) rfl scShiftsAdd.nd rfl rfl (by decide) rfl rfl (pa_cons (pe_call G5 hr2 rfl m5 k5 b5 .nil pass0 (pa_cons (pv 0) (pa_cons (pv 3) pa_nil)))
        (pa_cons (pe_call G6 hr2 rfl m6 k6 b6 .nil pass0 (pa_cons (pv 0) (pa_cons (pe_lst (pa_cons pe_non (pa_cons pe_int (pa_cons (pe_call G5 hr2 rfl m5 k5 b5 .nil pass0 (pa_cons (pv 0) (pa_cons (pv 3) pa_nil))) (pa_cons (pe_un un_neg (pe_call G5 hr2 rfl m5 k5 b5 .nil pass0 (pa_cons (pv 0) (pa_cons (pv 3) pa_nil)))) pa_nil))))) pa_nil))) pa_nil)) (by rfl))
      (pss_cons (ps_set (i := 6) scShiftsAdd.nd rfl (Or.inl rfl) (pe_lst (pa_cons (pe_call G1 hr2 rfl m1 k1 b1 .nil pass0 (pa_cons (pv 1) (pa_cons (pv 4) pa_nil))) (pa_cons (pe_callK0 G7 hr2 rfl m7 k7 b7 pass0 (pk_cons (pv 5) (pk_cons (pv 2) pk_nil)))
        (pa_cons (pe_call G1 hr2 rfl m1 k1 b1 .nil pass0 (pa_cons (pv 1) (pa_cons pe_non pa_nil))) (pa_cons (pe_call G1 hr2 rfl m1 k1 b1 .nil pass0 (pa_cons (pe_call G1 hr2 rfl m1 k1 b1 .nil pass0 (pa_cons (pv 1) (pa_cons (pv 4) pa_nil))) (pa_cons (pv 5) pa_nil))) pa_nil))))))
      (pss_cons (ps_set (i := 6) scShiftsAdd.nd rfl (Or.inl rfl) (pe_op op_cat (pv 6) (pe_lst (pa_cons (pe_call G1 hr2 rfl m1 k1 b1 .nil pass0 (pa_cons (pe_call G1 hr2 rfl m1 k1 b1 .nil pass0 (pa_cons (pv 1) (pa_cons (pv 4) pa_nil))) (pa_cons (pe_un un_neg (pv 4)) pa_nil)))
        (pa_cons (pe_call G1 hr2 rfl m1 k1 b1 .nil pass0 (pa_cons (pv 1) (pa_cons pe_int pa_nil))) (pa_cons (pe_call G1 hr2 rfl m1 k1 b1 .nil pass0 (pa_cons (pe_call G2 hr rfl m2 k2 b2 .nil pass0 (pa_cons (pv 1) (pa_cons (pv 2) pa_nil))) (pa_cons (pv 4) pa_nil))) pa_nil))))))
      (pss_cons (ps_set (i := 7) scShiftsAdd.nd rfl (Or.inl rfl) (pe_lst (pa_cons (pe_call G3 hr1 rfl m3 k3 b3 .nil pass0 (pa_cons (pv 1) (pa_cons (pv 4) pa_nil))) (pa_cons (pe_call G3 hr1 rfl m3 k3 b3 .nil pass0 (pa_cons (pv 2) (pa_cons (pv 5) pa_nil)))
        (pa_cons (pe_op op_nones (pe_tup (pa_cons pe_non pa_nil)) (pe_callB call_len_seq (by rfl) B.len PySem.boot_len (pa_cons (pv 1) pa_nil))) pa_nil)))))
      (pss_cons (ps_set (i := 7) scShiftsAdd.nd rfl (Or.inl rfl) (pe_op op_cat (pv 7) (pe_lst (pa_cons (pe_call G3 hr1 rfl m3 k3 b3 .nil pass0 (pa_cons (pv 1) (pa_cons (pe_imp (S := ?S) (pe_ifExp (pt_cmpR op_isN (pv 5) pe_non (nomark _)) pe_non (pe_op op_add (pv 4) (pv 5))) ?sum) pa_nil)))
        (pa_cons (pv 1) (pa_cons (pv 1) (pa_cons (pe_call G3 hr1 rfl m3 k3 b3 .nil pass0 (pa_cons (pe_call G4 hr2 rfl m4 k4 b4 .nil pass0 (pa_cons (pv 1) (pa_cons (pv 2) pa_nil))) (pa_cons (pv 4) pa_nil))) pa_nil)))))))
      (pss_cons (ps_if (pt_cmpR op_ne (pe_callB (call_reprW hG hu St) (by rfl) B.repr (by decide +kernel) (pa_cons (pv 6) pa_nil)) (pe_callB (call_reprW hG hu St) (by rfl) B.repr (by decide +kernel) (pa_cons (pv 7) pa_nil)) (nomark _)) (pss_one (ps_ret pe_bl)) pss_nil)
      (pss_one (ps_ret (pe_cmpR op_eq (pe_callB (call_reprT hG hu St) (by rfl) B.repr (by decide +kernel) (pa_cons (pe_call G2 hr rfl m2 k2 b2 .nil pass0 (pa_cons (pe_call G1 hr2 rfl m1 k1 b1 .nil pass0 (pa_cons (pv 1) (pa_cons (pv 4) pa_nil))) (pa_cons (pe_call G1 hr2 rfl m1 k1 b1 .nil pass0 (pa_cons (pv 2) (pa_cons (pv 4) pa_nil))) pa_nil))) pa_nil))
        (pe_callB (call_reprT hG hu St) (by rfl) B.repr (by decide +kernel) (pa_cons (pe_call G1 hr2 rfl m1 k1 b1 .nil pass0 (pa_cons (pe_call G2 hr rfl m2 k2 b2 .nil pass0 (pa_cons (pv 2) (pa_cons (pv 1) pa_nil))) (pa_cons (pv 4) pa_nil))) pa_nil)) (nomark _))))))))), ?_⟩
    case S => exact fun σ H Q => ∃ (x : Int) (o : Option Int), σ[4]? = some (some (.int x)) ∧ σ[5]? = some (some (nv o)) ∧ Q (nv (addN (some x) o)) H
    case sum =>
      rintro σ H1 Q' ⟨x, o, e4, e5, q⟩
      cases o with
      | none => exact ⟨_, e5, rfl, _, rfl, iteT q⟩
      | some o => exact ⟨_, e5, rfl, _, rfl, iteF ⟨_, e4, _, e5, _, _, rfl, rfl, q⟩⟩
    refine ⟨_, rfl, _, rfl, u, d, m, wd, rfl, U, W, fun H1 x hx U1 O1 => ?_⟩
    have W1 := W.off O1
    refine ⟨_, rfl, _, rfl, _, rfl, u, d, m, wd, rfl, U1, W1, fun H2 x2 hx2 U2 O2 => ?_⟩
    have W2 := W1.off O2
    refine ⟨_, rfl, _, rfl, u, d, m, wd, rfl, U2, W2, fun H3 x3 hx3 U3 O3 => ⟨_, rfl, (by show 4 ≤ sizeLine; decide), fun l hl' => ?_⟩⟩
    refine ⟨u, d, m, l, _, rfl, upd_same, (U3.nfree hl').1, (U3.nfree hl').2, (by show 0 < 4; decide), (by show 4 < 1000; decide), U3.fresh hl', fun H4 v hv U4 O4 => ?_⟩
    obtain ⟨fo, rfl, hfo⟩ : ∃ fo : Option Int, v = nv fo ∧ ∀ i, fo = some i → i.natAbs ≤ 2 * M := by
      have := M_pos
      simp only [List.mem_cons, List.not_mem_nil, or_false] at hv
      rcases hv with rfl | rfl | rfl | rfl
      · exact ⟨none, rfl, fun i e => by cases e⟩
      · exact ⟨some 0, rfl, fun i e => by cases e; omega⟩
      · exact ⟨some x2, rfl, fun i e => by cases e; exact hx2⟩
      · exact ⟨some (-x3), rfl, fun i e => by cases e; omega⟩
    have OA : Off u d H H4 := (Off.fresh (O1.trans (O2.trans O3)) hl').trans O4
    have hA4 : H4 a = some (T xs) := OA.tup U hA
    have hB4 : H4 b = some (T ys) := OA.tup U hB
    have fin : ∀ H', Same H4 H' → Q (.bl true) H' := fun H' S => k H' (U4.same S) (OA.trans (Same.off S))
    have l1 : (layN xs ys).length = xs.length := lay_len hxy
    have A0 : Kn H4 H4 [(a, T xs), (b, T ys)] := Kn.two hA4 hB4
    refine ⟨_, _, rfl, _, rfl, _, rfl, a, xs, some x, rfl, A0.at 0 rfl, hl2, fun H1_ p1 S1 _ e1 => ?_⟩
    have A1 := (A0.same S1).cons e1
    refine ⟨_, rfl, _, rfl, b, ys, fo, rfl, A1.at 2 rfl, by omega, fun H2_ p2 S2 _ e2 => ?_⟩
    have A2 := (A1.same S2).cons e2
    refine ⟨_, rfl, a, xs, none, rfl, A2.at 2 rfl, hl2, fun H3_ p3 S3 _ e3 => ?_⟩
    have A3 := (A2.same S3).cons e3
    refine ⟨_, rfl, _, rfl, a, xs, some x, rfl, A3.at 3 rfl, hl2, fun H4_ p4 S4 _ e4 => ?_⟩
    have A4 := (A3.same S4).cons e4
    refine ⟨_, rfl, p4, _, fo, rfl, A4.at 0 rfl, by rw [shift_len]; omega, fun H5_ p5 S5 _ e5 => ?_⟩
    have A5 := (A4.same S5).cons e5
    refine ⟨(by show 4 ≤ sizeLine; decide), fun q1 hq1 => ?_⟩
    have A6 := A5.new (o := .lst [.ref p1, .ref p2, .ref p3, .ref p5]) hq1
    refine ⟨_, rfl, _, rfl, _, rfl, a, xs, some x, rfl, A6.at 6 rfl, hl2, fun H7_ p6 S7 _ e7 => ?_⟩
    have A7 := (A6.same S7).cons e7
    refine ⟨_, rfl, _, rfl, p6, _, some (-x), rfl, A7.at 0 rfl, by rw [shift_len]; omega, fun H8_ p7 S8 _ e8 => ?_⟩
    have A8 := (A7.same S8).cons e8
    refine ⟨_, rfl, a, xs, some 0, rfl, A8.at 8 rfl, hl2, fun H9_ p8 S9 _ e9 => ?_⟩
    have A9 := (A8.same S9).cons e9
    refine ⟨_, rfl, _, rfl, a, b, xs, ys, rfl, A9.at 9 rfl, A9.at 10 rfl, hxy, hl2, fun H10_ p9 S10 _ e10 => ?_⟩
    have A10 := (A9.same S10).cons e10
    refine ⟨_, rfl, p9, _, some x, rfl, A10.at 0 rfl, by omega, fun H11_ p10 S11 _ e11 => ?_⟩
    have A11 := (A10.same S11).cons e11
    refine ⟨(by show 3 ≤ sizeLine; decide), fun q2 hq2 => ?_⟩
    have A12 := A11.new (o := .lst [.ref p7, .ref p8, .ref p10]) hq2
    refine ⟨q1, q2, _, _, rfl, rfl, A12.at 6 rfl, A12.at 0 rfl, (by show 7 ≤ sizeLine; decide), fun q3 hq3 => ?_⟩
    have A13 := A12.new (o := .lst [.ref p1, .ref p2, .ref p3, .ref p5, .ref p7, .ref p8, .ref p10]) hq3
    refine ⟨_, rfl, _, rfl, a, xs, some x, rfl, A13.at 13 rfl, hl2, fun H14_ r1 S14 _ e14 => ?_⟩
    have A14 := (A13.same S14).cons e14
    refine ⟨_, rfl, _, rfl, b, ys, fo, rfl, A14.at 15 rfl, by omega, fun H15_ r2 S15 _ e15 => ?_⟩
    have A15 := (A14.same S15).cons e15
    refine ⟨(by show 1 ≤ sizeLine; decide), fun t ht => ?_⟩
    have A16 := A15.new (o := .tup [.non]) ht
    refine ⟨_, rfl, a, _, rfl, .inr (SqT.of (A16.at 16 rfl)), t, _, rfl, rfl, A16.at 0 rfl, (by rw [List.length_map]; omega), (by rw [List.length_map]; omega), fun H17_ r3 S17 e17 => ?_⟩
    have en : List.replicate (((xs.map nv).length : Int)).toNat (none : Option Int) = shiftN xs none := by rw [Int.toNat_natCast, List.length_map, shift_none]
    rw [en] at e17
    have A17 := (A16.same S17).cons e17
    refine ⟨(by show 3 ≤ sizeLine; decide), fun q4 hq4 => ?_⟩
    have A18 := A17.new (o := .lst [.ref r1, .ref r2, .ref r3]) hq4
    refine ⟨_, rfl, _, rfl, x, fo, rfl, rfl, a, xs, addN (some x) fo, rfl, A18.at 18 rfl, hl2, fun H19_ r4 S19 _ e19 => ?_⟩
    have A19 := (A18.same S19).cons e19
    refine ⟨_, rfl, _, rfl, _, rfl, _, rfl, a, b, xs, ys, rfl, A19.at 19 rfl, A19.at 20 rfl, hxy, hl2, fun H20_ r5 S20 _ e20 => ?_⟩
    have A20 := (A19.same S20).cons e20
    refine ⟨_, rfl, r5, _, some x, rfl, A20.at 0 rfl, by omega, fun H21_ r6 S21 _ e21 => ?_⟩
    have A21 := (A20.same S21).cons e21
    refine ⟨(by show 4 ≤ sizeLine; decide), fun q5 hq5 => ?_⟩
    have A22 := A21.new (o := .lst [.ref r4, .ref a, .ref a, .ref r6]) hq5
    refine ⟨q4, q5, _, _, rfl, rfl, A22.at 4 rfl, A22.at 0 rfl, (by show 7 ≤ sizeLine; decide), fun q6 hq6 => ?_⟩
    have A23 := A22.new (o := .lst [.ref r1, .ref r2, .ref r3, .ref r4, .ref a, .ref a, .ref r6]) hq6
    have hxb : ∀ i, some x = some i → i.natAbs ≤ 2 * M := fun i e => by cases e; exact hx
    have hsb : ∀ i, addN (some x) fo = some i → i.natAbs ≤ 4 * M := fun i e => by
      cases fo with
      | none => cases e
      | some y => have e2 : x + y = i := Option.some.inj e; have := hfo y rfl; omega
    have Bl1 : Bd 3 (layN xs ys) := Bx.lay By
    have ok := okRows (rs := [shiftN xs (some x), shiftN ys fo, shiftN xs none, shiftN xs (addN (some x) fo), xs, xs, shiftN (layN xs ys) (some x)]) (fun r hr => by
      simp only [List.mem_cons, List.not_mem_nil, or_false] at hr
      rcases hr with rfl | rfl | rfl | rfl | rfl | rfl | rfl
      · exact ⟨by rw [shift_len]; omega, (Bx.shift hxb).mono (by decide)⟩
      · exact ⟨by rw [shift_len]; omega, (By.shift hfo).mono (by decide)⟩
      · exact ⟨by rw [shift_len]; omega, (Bx.shift (j := 0) (fun i e => by cases e)).mono (by decide)⟩
      · exact ⟨by rw [shift_len]; omega, (Bx.shift hsb).mono (by decide)⟩
      · exact ⟨hl, Bx.mono (by decide)⟩
      · exact ⟨hl, Bx.mono (by decide)⟩
      · exact ⟨by rw [shift_len]; omega, (Bl1.shift hxb).mono (by decide)⟩) (by simp)
    obtain ⟨o1, o2, o3⟩ := ok
    have c5 := A23.at 18 (a := p5) rfl
    rw [shift_shift] at c5
    have c7 := A23.at 15 (a := p7) rfl
    rw [shift_back] at c7
    have c8 := A23.at 14 (a := p8) rfl
    rw [shift_zero] at c8
    refine ⟨_, rfl, q3, [shiftN xs (some x), shiftN ys fo, shiftN xs none, shiftN xs (addN (some x) fo), xs, xs, shiftN (layN xs ys) (some x)].map rowD, rfl, .lst (SqL.of (A23.at 10 rfl)) (.cons (dT (A23.at 22 rfl)) (.cons (dT (A23.at 21 rfl)) (.cons (dT (A23.at 20 rfl)) (.cons (dT (c5)) (.cons (dT (c7)) (.cons (dT (c8)) (.cons (dT (A23.at 12 rfl)) .nil))))))), o1, o2, o3, ?_⟩
    refine ⟨_, rfl, q6, [shiftN xs (some x), shiftN ys fo, shiftN xs none, shiftN xs (addN (some x) fo), xs, xs, shiftN (layN xs ys) (some x)].map rowD, rfl, .lst (SqL.of (A23.at 0 rfl)) (.cons (dT (A23.at 9 rfl)) (.cons (dT (A23.at 8 rfl)) (.cons (dT (A23.at 6 rfl)) (.cons (dT (A23.at 4 rfl)) (.cons (dT (A23.at 23 rfl)) (.cons (dT (A23.at 23 rfl)) (.cons (dT (A23.at 2 rfl)) .nil))))))), o1, o2, o3, rfl, _, rfl, iteNS rfl ?_⟩
    refine ⟨_, rfl, _, rfl, a, xs, some x, rfl, A23.at 23 rfl, hl2, fun H24_ s1 S24 _ e24 => ?_⟩
    have A24 := (A23.same S24).cons e24
    refine ⟨_, rfl, _, rfl, b, ys, some x, rfl, A24.at 25 rfl, by omega, fun H25_ s2 S25 _ e25 => ?_⟩
    have A25 := (A24.same S25).cons e25
    refine ⟨s1, s2, _, _, rfl, A25.at 1 rfl, A25.at 0 rfl, by rw [shift_len, shift_len]; exact hxy, by rw [shift_len]; omega, fun H26_ s3 S26 _ e26 => ?_⟩
    rw [lay_shift] at e26
    have A26 := (A25.same S26).cons e26
    obtain ⟨t1, t2, t3⟩ := okRow (xs := shiftN (layN xs ys) (some x)) (by rw [shift_len]; omega) ((Bl1.shift hxb).mono (by decide))
    refine ⟨s3, _, rfl, dT (A26.at 0 rfl), t1, t2, t3, ?_⟩
    refine ⟨_, rfl, _, rfl, b, a, ys, xs, rfl, A26.at 27 rfl, A26.at 26 rfl, hxy.symm, by omega, fun H27_ s4 S27 _ e27 => ?_⟩
    rw [lay_comm] at e27
    have A27 := (A26.same S27).cons e27
    refine ⟨_, rfl, s4, _, some x, rfl, A27.at 0 rfl, by omega, fun H28_ s5 S28 _ e28 => ?_⟩
    have A28 := (A27.same S28).cons e28
    refine ⟨s5, _, rfl, dT (A28.at 0 rfl), t1, t2, t3, rfl, ?_⟩
    exact eqs (fin _ A28.S)
end
end K3

namespace K3
open PySem L2 RW RZ PySem.RW
theorem ints_shift (n : Int) : ∀ xs : List (Option Int), intsOf (shiftN xs (some n)) = (intsOf xs).map (· + n)
  | [] => rfl
  | none :: r => by
    show intsOf (none :: shiftN r (some n)) = (intsOf (none :: r)).map (· + n)
    have e1 : intsOf (none :: shiftN r (some n)) = intsOf (shiftN r (some n)) := rfl
    have e2 : intsOf (none :: r) = intsOf r := rfl
    rw [e1, e2, ints_shift n r]
  | some i :: r => by
    show intsOf (some (i + n) :: shiftN r (some n)) = (intsOf (some i :: r)).map (· + n)
    have e1 : intsOf (some (i + n) :: shiftN r (some n)) = (i + n) :: intsOf (shiftN r (some n)) := rfl
    have e2 : intsOf (some i :: r) = i :: intsOf r := rfl
    rw [e1, e2, ints_shift n r]
    rfl
theorem ints_mem {z : Int} {r : List Int} {xs : List (Option Int)} (h : intsOf xs = z :: r) : some z ∈ xs := by
  have : z ∈ intsOf xs := by rw [h]; exact List.mem_cons_self ..
  unfold intsOf at this
  obtain ⟨x, hx, e⟩ := List.mem_filterMap.mp this
  have : x = some z := e
  rw [← this]
  exact hx
theorem higher_up : ∀ {xs : List (Option Int)}, (∃ z, some z ∈ xs) → higherN (shiftN xs (some 1)) xs = true
  | [], ⟨z, h⟩ => by cases h
  | none :: r, ⟨z, h⟩ => by
    have : ∃ z, some z ∈ r := ⟨z, by rcases List.mem_cons.mp h with e | e; cases e; exact e⟩
    show (aboveN none none || higherN (shiftN r (some 1)) r) = true
    rw [higher_up this]
    rfl
  | some i :: r, _ => by
    show (aboveN (some (i + 1)) (some i) || higherN (shiftN r (some 1)) r) = true
    rw [show aboveN (some (i + 1)) (some i) = true from decide_eq_true (by omega)]
    rfl
theorem higher_dn : ∀ (xs : List (Option Int)), higherN xs (shiftN xs (some 1)) = false
  | [] => rfl
  | none :: r => by
    show (aboveN none none || higherN r (shiftN r (some 1))) = false
    rw [higher_dn r]
    rfl
  | some i :: r => by
    show (aboveN (some i) (some (i + 1)) || higherN r (shiftN r (some 1))) = false
    rw [show aboveN (some i) (some (i + 1)) = false from decide_eq_false (by omega), higher_dn r]
    rfl
theorem higher_no : ∀ {xs : List (Option Int)}, (∃ z, some z ∈ xs) → higherN xs (shiftN xs none) = true
  | [], ⟨z, h⟩ => by cases h
  | none :: r, ⟨z, h⟩ => by
    have : ∃ z, some z ∈ r := ⟨z, by rcases List.mem_cons.mp h with e | e; cases e; exact e⟩
    show (aboveN none none || higherN r (shiftN r none)) = true
    rw [higher_no this]
    rfl
  | some i :: r, _ => rfl
theorem higher_no2 : ∀ (xs : List (Option Int)), higherN (shiftN xs none) xs = false
  | [] => rfl
  | a :: r => by
    show (aboveN (addN a none) a || higherN (shiftN r none) r) = false
    rw [addN_none, higher_no2 r]
    rfl
theorem same_begin (xs ys : List (Option Int)) (p q : Int) : decide (shiftN xs (some (-p)) = shiftN ys (some (-q))) = decide (shiftN xs (some q) = shiftN ys (some p)) := by
  have e : shiftN xs (some (-p)) = shiftN ys (some (-q)) ↔ shiftN xs (some q) = shiftN ys (some p) := by
    constructor
    · intro h
      have h2 := congrArg (fun l => shiftN l (some (p + q))) h
      simp only [shift_shift] at h2
      have a1 : addN (some (-p)) (some (p + q)) = some q := by show some (-p + (p + q)) = some q; congr 1; omega
      have a2 : addN (some (-q)) (some (p + q)) = some p := by show some (-q + (p + q)) = some p; congr 1; omega
      rw [a1, a2] at h2
      exact h2
    · intro h
      have h2 := congrArg (fun l => shiftN l (some (-(p + q)))) h
      simp only [shift_shift] at h2
      have a1 : addN (some q) (some (-(p + q))) = some (-p) := by show some (q + -(p + q)) = some (-p); congr 1; omega
      have a2 : addN (some p) (some (-(p + q))) = some (-q) := by show some (p + -(p + q)) = some (-q); congr 1; omega
      rw [a1, a2] at h2
      exact h2
  by_cases h : shiftN xs (some (-p)) = shiftN ys (some (-q))
  · rw [decide_eq_true h, decide_eq_true (e.mp h)]
  · rw [decide_eq_false h, decide_eq_false (fun z => h (e.mpr z))]
def spBegins : Sp := fun vs H Q _ => ∃ u d m a b wd xs ys z1 r1 z2 r2, vs = [.ref u, .ref a, .ref b, .ref wd] ∧ UrnAt H u d m ∧ Wd H u d wd ∧ H a = some (T xs) ∧ H b = some (T ys) ∧ xs.length = ys.length ∧ xs.length ≤ 4 ∧ Bd 5 xs ∧ Bd 5 ys ∧ intsOf xs = z1 :: r1 ∧ intsOf ys = z2 :: r2 ∧
  ∀ H', UrnAt H' u d m → Off u d H H' → Q (.bl true) H'
section
variable {P : Program} {w : World} {K : PySem.W.Frag} {mg : Str → Option Value} {base : Heap}
theorem scBegins : FnScope ["urn", "own", "other", "world", "by", "base", "far", "found", "due", "is_one"] ["urn", "own", "other", "world"] (defScope sBegins) := ⟨rfl, rfl, rfl, by decide +kernel, rfl, by decide +kernel, by decide +kernel⟩
theorem ok_begins {f : Addr} {fd : FuncData} (F : Fun K "_law_begins_go" "_law_begins_go" sBegins f fd) (B : Bl mg) (St : StatAt base)
    (C1 : Cal P w K mg base "shifted" 2 ["side", "number"] spShifted) (C2 : Cal P w K mg base "begun" 3 ["row"] spBegun) (D2 : CalK P w K mg base "begun" 3 ["row"] ["row"] g1 g1 spBegun)
    (C3 : Cal P w K mg base "_law_plus" 1 ["line", "much"] spPlus) (C4 : Cal P w K mg base "_law_first" 1 ["line"] spFirst)
    (C5 : Cal P w K mg base "_law_whole" 2 ["urn", "world"] spWhole) (C6 : Cal P w K mg base "is_higher" 2 ["one_side", "other_side"] spHigher) : FnG P w K mg base 4 f fd ["urn", "own", "other", "world"] spBegins := by
  obtain ⟨f1, fd1, G1, m1, k1, b1⟩ := C1.ex
  obtain ⟨f2, fd2, G2, m2, k2, b2⟩ := C2.ex
  obtain ⟨f3, fd3, G3, m3, k3, b3⟩ := C3.ex
  obtain ⟨f4, fd4, G4, m4, k4, b4⟩ := C4.ex
  obtain ⟨f5, fd5, G5, m5, k5, b5⟩ := C5.ex
  obtain ⟨f6, fd6, G6, m6, k6, b6⟩ := C6.ex
  obtain ⟨f7, fd7, G7, m7, k7, b7⟩ := D2.ex
  refine fnG_of F scBegins (fun vs H Q E h => ?_) (fun cdv A outer s H vs Q E hG hr h => ?_)
  · obtain ⟨u, d, m, a, b, wd, xs, ys, z1, r1, z2, r2, rfl, _⟩ := h
    rfl
  · obtain ⟨u, d, m, a, b, wd, xs, ys, z1, r1, z2, r2, rfl, U, W, hA, hB, hxy, hl, Bx, By, ix, iy, k⟩ := h
    have hl2 : xs.length ≤ 1000 := by omega
    have hr1 : Room 1 _ := hr.mono (by decide)
    have hr2 : Room 2 _ := hr.mono (by decide)
    have hu : (A.deeper (PyProof.Rows.envOfC "_law_begins_go" (defScope sBegins) s.heap.objs.size f cdv)).units + 64 < cLine := by have := hr.un; omega
    refine ⟨_, pss_cons (ps_set (i := 4) scBegins.nd rfl (Or.inl rfl) (pe_call G5 hr2 rfl m5 k5 b5 .nil pass0 (pa_cons (pv 0) (pa_cons (pv 3) pa_nil))))
      (pss_cons (ps_par (i := 5) (j := 6) rfl scBegins.nd rfl rfl (by decide) rfl rfl (pa_cons (pe_call G3 hr1 rfl m3 k3 b3 .nil pass0 (pa_cons (pv 1) (pa_cons (pe_un un_neg (pe_call G4 hr1 rfl m4 k4 b4 .nil pass0 (pa_cons (pv 1) pa_nil))) pa_nil)))
        (pa_cons (pe_call G3 hr1 rfl m3 k3 b3 .nil pass0 (pa_cons (pv 2) (pa_cons (pe_un un_neg (pe_call G4 hr1 rfl m4 k4 b4 .nil pass0 (pa_cons (pv 2) pa_nil))) pa_nil))) pa_nil)) (by rfl))
      (pss_cons (ps_set (i := 7) scBegins.nd rfl (Or.inl rfl) (pe_lst (pa_cons (pe_call G2 hr rfl m2 k2 b2 .nil pass0 (pa_cons (pv 1) pa_nil)) (pa_cons (pe_callK0 G7 hr rfl m7 k7 b7 pass0 (pk_cons (pv 2) pk_nil))
        (pa_cons (pe_call G2 hr rfl m2 k2 b2 .nil pass0 (pa_cons (pe_call G1 hr2 rfl m1 k1 b1 .nil pass0 (pa_cons (pv 1) (pa_cons (pv 4) pa_nil))) pa_nil)) (pa_cons (pe_call G2 hr rfl m2 k2 b2 .nil pass0 (pa_cons (pe_call G2 hr rfl m2 k2 b2 .nil pass0 (pa_cons (pv 1) pa_nil)) pa_nil)) pa_nil))))))
      (pss_cons (ps_set (i := 7) scBegins.nd rfl (Or.inl rfl) (pe_op op_cat (pv 7) (pe_lst (pa_cons (pe_call G1 hr2 rfl m1 k1 b1 .nil pass0 (pa_cons (pe_call G2 hr rfl m2 k2 b2 .nil pass0 (pa_cons (pv 1) pa_nil)) (pa_cons (pe_call G4 hr1 rfl m4 k4 b4 .nil pass0 (pa_cons (pv 1) pa_nil)) pa_nil))) pa_nil))))
      (pss_cons (ps_set (i := 8) scBegins.nd rfl (Or.inl rfl) (pe_lst (pa_cons (pv 5) (pa_cons (pv 6) (pa_cons (pv 5) (pa_cons (pv 5) (pa_cons (pv 1) pa_nil)))))))
      (pss_cons (ps_set (i := 9) scBegins.nd rfl (Or.inl rfl) (pe_cmpR (op_eqD hu) (pe_call G3 hr1 rfl m3 k3 b3 .nil pass0 (pa_cons (pv 1) (pa_cons (pe_call G4 hr1 rfl m4 k4 b4 .nil pass0 (pa_cons (pv 2) pa_nil)) pa_nil))) (pe_call G3 hr1 rfl m3 k3 b3 .nil pass0 (pa_cons (pv 2) (pa_cons (pe_call G4 hr1 rfl m4 k4 b4 .nil pass0 (pa_cons (pv 1) pa_nil)) pa_nil))) (nomark _)))
      (pss_cons (ps_if (PW.pt (pw_or (pt_cmpR op_ne (pe_callB (call_reprW hG hu St) (by rfl) B.repr (by decide +kernel) (pa_cons (pv 7) pa_nil)) (pe_callB (call_reprW hG hu St) (by rfl) B.repr (by decide +kernel) (pa_cons (pv 8) pa_nil)) (nomark _))
          (pw_or1 (pt_cmpR op_ne (pe_cmpR (op_eqD hu) (pe_call G2 hr rfl m2 k2 b2 .nil pass0 (pa_cons (pv 1) pa_nil)) (pe_call G2 hr rfl m2 k2 b2 .nil pass0 (pa_cons (pv 2) pa_nil)) (nomark _)) (pv 9) (nomark _))))) (pss_one (ps_ret pe_bl)) pss_nil)
      (pss_cons (ps_set (i := 7) scBegins.nd rfl (Or.inl rfl) (pe_lst (pa_cons (pe_call G6 hr2 rfl m6 k6 b6 .nil pass0 (pa_cons (pe_call G1 hr2 rfl m1 k1 b1 .nil pass0 (pa_cons (pv 1) (pa_cons pe_int pa_nil))) (pa_cons (pv 1) pa_nil)))
        (pa_cons (pe_call G6 hr2 rfl m6 k6 b6 .nil pass0 (pa_cons (pv 1) (pa_cons (pe_call G1 hr2 rfl m1 k1 b1 .nil pass0 (pa_cons (pv 1) (pa_cons pe_int pa_nil))) pa_nil)))
        (pa_cons (pe_call G6 hr2 rfl m6 k6 b6 .nil pass0 (pa_cons (pv 1) (pa_cons (pe_call G1 hr2 rfl m1 k1 b1 .nil pass0 (pa_cons (pv 1) (pa_cons pe_non pa_nil))) pa_nil))) pa_nil)))))
      (pss_one (ps_ret (pe_cmpR op_eq (pe_callB (call_reprW hG hu St) (by rfl) B.repr (by decide +kernel) (pa_cons (pe_op op_cat (pv 7) (pe_lst (pa_cons (pe_call G6 hr2 rfl m6 k6 b6 .nil pass0 (pa_cons (pe_call G1 hr2 rfl m1 k1 b1 .nil pass0 (pa_cons (pv 1) (pa_cons pe_non pa_nil))) (pa_cons (pv 1) pa_nil))) pa_nil))) pa_nil)) pe_str (nomark _))))))))))), ?_⟩
    refine ⟨_, rfl, _, rfl, u, d, m, wd, rfl, U, W, fun H0 x hx U0 O0 => ?_⟩
    have hA0 : H0 a = some (T xs) := O0.tup U hA
    have hB0 : H0 b = some (T ys) := O0.tup U hB
    have fin : ∀ H', Same H0 H' → Q (.bl true) H' := fun H' S => k H' (U0.same S) (O0.trans (Same.off S))
    have A0 : Kn H0 H0 [(a, T xs), (b, T ys)] := Kn.two hA0 hB0
    have iB : intsOf (shiftN xs (some (-z1))) = 0 :: r1.map (· + -z1) := by rw [ints_shift, ix, List.map_cons]; congr 1; omega
    have iS : intsOf (shiftN xs (some x)) = (z1 + x) :: r1.map (· + x) := by rw [ints_shift, ix, List.map_cons]
    refine ⟨_, rfl, _, rfl, a, xs, z1, r1, rfl, A0.at 0 rfl, hl2, ix, fun H1_ S1 => ?_⟩
    have A1 := A0.same S1
    refine ⟨_, rfl, a, xs, some (-z1), rfl, A1.at 0 rfl, hl2, fun H2_ p1 S2 _ e2 => ?_⟩
    have A2 := (A1.same S2).cons e2
    refine ⟨_, rfl, _, rfl, b, ys, z2, r2, rfl, A2.at 2 rfl, by omega, iy, fun H3_ S3 => ?_⟩
    have A3 := A2.same S3
    refine ⟨_, rfl, b, ys, some (-z2), rfl, A3.at 2 rfl, by omega, fun H4_ p2 S4 _ e4 => ?_⟩
    have A4 := (A3.same S4).cons e4
    refine ⟨_, _, rfl, _, rfl, a, xs, z1, r1, rfl, A4.at 2 rfl, hl2, ix, fun H5_ p3 S5 _ e5 => ?_⟩
    have A5 := (A4.same S5).cons e5
    refine ⟨_, rfl, b, ys, z2, r2, rfl, A5.at 4 rfl, by omega, iy, fun H6_ p4 S6 _ e6 => ?_⟩
    have A6 := (A5.same S6).cons e6
    refine ⟨_, rfl, _, rfl, a, xs, some x, rfl, A6.at 4 rfl, hl2, fun H7_ p5 S7 _ e7 => ?_⟩
    have A7 := (A6.same S7).cons e7
    refine ⟨p5, _, _, _, rfl, A7.at 0 rfl, by rw [shift_len]; omega, iS, fun H8_ p6 S8 _ e8 => ?_⟩
    have A8 := (A7.same S8).cons e8
    refine ⟨_, rfl, a, xs, z1, r1, rfl, A8.at 6 rfl, hl2, ix, fun H9_ p7 S9 _ e9 => ?_⟩
    have A9 := (A8.same S9).cons e9
    refine ⟨p7, _, _, _, rfl, A9.at 0 rfl, by rw [shift_len]; omega, iB, fun H10_ p8 S10 _ e10 => ?_⟩
    have A10 := (A9.same S10).cons e10
    refine ⟨(by show 4 ≤ sizeLine; decide), fun q1 hq1 => ?_⟩
    have A11 := A10.new (o := .lst [.ref p3, .ref p4, .ref p6, .ref p8]) hq1
    refine ⟨_, rfl, _, rfl, a, xs, z1, r1, rfl, A11.at 9 rfl, hl2, ix, fun H12_ p9 S12 _ e12 => ?_⟩
    have A12 := (A11.same S12).cons e12
    refine ⟨_, rfl, a, xs, z1, r1, rfl, A12.at 10 rfl, hl2, ix, fun H13_ S13 => ?_⟩
    have A13 := A12.same S13
    refine ⟨p9, _, some z1, rfl, A13.at 0 rfl, by rw [shift_len]; omega, fun H14_ p10 S14 _ e14 => ?_⟩
    have A14 := (A13.same S14).cons e14
    refine ⟨(by show 1 ≤ sizeLine; decide), fun q2 hq2 => ?_⟩
    have A15 := A14.new (o := .lst [.ref p10]) hq2
    refine ⟨q1, q2, _, _, rfl, rfl, A15.at 3 rfl, A15.at 0 rfl, (by show 5 ≤ sizeLine; decide), fun q3 hq3 => ?_⟩
    have A16 := A15.new (o := .lst [.ref p3, .ref p4, .ref p6, .ref p8, .ref p10]) hq3
    refine ⟨_, rfl, _, rfl, _, rfl, _, rfl, _, rfl, (by show 5 ≤ sizeLine; decide), fun q4 hq4 => ?_⟩
    have A17 := A16.new (o := .lst [.ref p1, .ref p2, .ref p1, .ref p1, .ref a]) hq4
    refine ⟨_, rfl, _, rfl, b, ys, z2, r2, rfl, A17.at 15 rfl, by omega, iy, fun H18_ S18 => ?_⟩
    have A18 := A17.same S18
    refine ⟨a, xs, some z2, rfl, A18.at 14 rfl, hl2, fun H19_ s1 S19 _ e19 => ?_⟩
    have A19 := (A18.same S19).cons e19
    refine ⟨_, rfl, _, rfl, a, xs, z1, r1, rfl, A19.at 15 rfl, hl2, ix, fun H20_ S20 => ?_⟩
    have A20 := A19.same S20
    refine ⟨b, ys, some z1, rfl, A20.at 16 rfl, by omega, fun H21_ s2 S21 _ e21 => ?_⟩
    have A21 := (A20.same S21).cons e21
    refine ⟨_, _, dT (A21.at 1 rfl), dT (A21.at 0 rfl), shapedT _, shapedT _, ?_⟩
    have b1' : ∀ i, some (-z1) = some i → i.natAbs ≤ 5 * M := fun i e => by cases e; have := Bx z1 (ints_mem ix); omega
    have b2' : ∀ i, some (-z2) = some i → i.natAbs ≤ 5 * M := fun i e => by cases e; have := By z2 (ints_mem iy); omega
    have Bb : Bd 20 (shiftN xs (some (-z1))) := (Bx.shift b1').mono (by decide)
    have Bf : Bd 20 (shiftN ys (some (-z2))) := (By.shift b2').mono (by decide)
    have ok := okRows (rs := [shiftN xs (some (-z1)), shiftN ys (some (-z2)), shiftN xs (some (-z1)), shiftN xs (some (-z1)), xs]) (fun r hr => by
      simp only [List.mem_cons, List.not_mem_nil, or_false] at hr
      rcases hr with rfl | rfl | rfl | rfl | rfl
      · exact ⟨by rw [shift_len]; omega, Bb⟩
      · exact ⟨by rw [shift_len]; omega, Bf⟩
      · exact ⟨by rw [shift_len]; omega, Bb⟩
      · exact ⟨by rw [shift_len]; omega, Bb⟩
      · exact ⟨hl, Bx.mono (by decide)⟩) (by simp)
    obtain ⟨o1, o2, o3⟩ := ok
    have c6 := A21.at 10 (a := p6) rfl
    rw [shift_shift, show addN (some x) (some (-(z1 + x))) = some (-z1) from congrArg some (by omega)] at c6
    have c8 := A21.at 8 (a := p8) rfl
    rw [show (some (-0) : Option Int) = some 0 from rfl, shift_zero] at c8
    have c10 := A21.at 5 (a := p10) rfl
    rw [shift_shift, show addN (some (-z1)) (some z1) = some 0 from congrArg some (by omega), shift_zero] at c10
    refine ⟨_, rfl, q3, [shiftN xs (some (-z1)), shiftN ys (some (-z2)), shiftN xs (some (-z1)), shiftN xs (some (-z1)), xs].map rowD, rfl, .lst (SqL.of (A21.at 3 rfl)) (.cons (dT (A21.at 13 rfl)) (.cons (dT (A21.at 12 rfl)) (.cons (dT (c6)) (.cons (dT (c8)) (.cons (dT (c10)) .nil))))), o1, o2, o3, ?_⟩
    refine ⟨_, rfl, q4, [shiftN xs (some (-z1)), shiftN ys (some (-z2)), shiftN xs (some (-z1)), shiftN xs (some (-z1)), xs].map rowD, rfl, .lst (SqL.of (A21.at 2 rfl)) (.cons (dT (A21.at 15 rfl)) (.cons (dT (A21.at 14 rfl)) (.cons (dT (A21.at 15 rfl)) (.cons (dT (A21.at 15 rfl)) (.cons (dT (A21.at 16 rfl)) .nil))))), o1, o2, o3, rfl, _, rfl, iteNS rfl ?_⟩
    refine ⟨_, rfl, a, xs, z1, r1, rfl, A21.at 16 rfl, hl2, ix, fun H22_ t1 S22 _ e22 => ?_⟩
    have A22 := (A21.same S22).cons e22
    refine ⟨_, rfl, b, ys, z2, r2, rfl, A22.at 18 rfl, by omega, iy, fun H23_ t2 S23 _ e23 => ?_⟩
    have A23 := (A22.same S23).cons e23
    refine ⟨_, _, dT (A23.at 1 rfl), dT (A23.at 0 rfl), shapedT _, shapedT _, _, rfl, rfl, _, rfl, ?_⟩
    rw [eqv_tup, eqv_tup, same_begin]
    refine iteNS rfl ?_
    refine ⟨_, rfl, a, xs, some 1, rfl, A23.at 18 rfl, hl2, fun H24_ v1 S24 _ e24 => ?_⟩
    have A24 := (A23.same S24).cons e24
    refine ⟨_, rfl, v1, a, _, xs, rfl, A24.at 0 rfl, A24.at 19 rfl, by rw [shift_len], by rw [shift_len]; omega, fun H25_ S25 => ?_⟩
    have A25 := A24.same S25
    refine ⟨_, rfl, _, rfl, a, xs, some 1, rfl, A25.at 19 rfl, hl2, fun H26_ v2 S26 _ e26 => ?_⟩
    have A26 := (A25.same S26).cons e26
    refine ⟨a, v2, xs, _, rfl, A26.at 20 rfl, A26.at 0 rfl, by rw [shift_len], hl2, fun H27_ S27 => ?_⟩
    have A27 := A26.same S27
    refine ⟨_, rfl, _, rfl, a, xs, none, rfl, A27.at 20 rfl, hl2, fun H28_ v3 S28 _ e28 => ?_⟩
    have A28 := (A27.same S28).cons e28
    refine ⟨a, v3, xs, _, rfl, A28.at 21 rfl, A28.at 0 rfl, by rw [shift_len], hl2, fun H29_ S29 => ?_⟩
    have A29 := A28.same S29
    have hz : ∃ z, some z ∈ xs := ⟨z1, ints_mem ix⟩
    rw [higher_up hz, higher_dn, higher_no hz]
    refine ⟨(by show 3 ≤ sizeLine; decide), fun w1 hw1 => ?_⟩
    have A30 := A29.new (o := .lst ([true, false, true].map V.bl)) hw1
    refine ⟨_, rfl, _, rfl, a, xs, none, rfl, A30.at 22 rfl, hl2, fun H31_ v4 S31 _ e31 => ?_⟩
    have A31 := (A30.same S31).cons e31
    refine ⟨_, rfl, v4, a, _, xs, rfl, A31.at 0 rfl, A31.at 23 rfl, by rw [shift_len], by rw [shift_len]; omega, fun H32_ S32 => ?_⟩
    have A32 := A31.same S32
    rw [higher_no2]
    refine ⟨(by show 1 ≤ sizeLine; decide), fun w2 hw2 => ?_⟩
    have A33 := A32.new (o := .lst ([false].map V.bl)) hw2
    refine ⟨w1, w2, _, _, rfl, rfl, A33.at 2 rfl, A33.at 0 rfl, (by show 4 ≤ sizeLine; decide), fun w3 hw3 => ?_⟩
    have A34 := A33.new (o := .lst ([true, false, true, false].map V.bl)) hw3
    have okb := okL (ds := [true, false, true, false].map PyData.bool) (fun d hd => by
      obtain ⟨b, _, rfl⟩ := List.mem_map.mp hd
      exact okR_bool b) (by decide)
    obtain ⟨y1, y2, y3⟩ := okb
    refine ⟨w3, _, rfl, .lst (SqL.of (A34.at 0 rfl)) (dpB _), y1, y2, y3, rfl, ?_⟩
    have es : (PyData.list ([true, false, true, false].map PyData.bool)).shown = Str.ofString "[True, False, True, False]" := by decide +kernel
    rw [es]
    exact eqs (fin _ A34.S)
end
end K3

namespace K3
open PySem L2 RW RZ PySem.RW
theorem ps_imp {X : Cx} {st : Stmt} {t S : TS} (h : PS X st t) (hs : ∀ D σ H, S D σ H → t D σ H) : PS X st S := by
  refine ⟨fun pins s σ H D I q => h.run pins s σ H D I (hs D σ H q)⟩
def TH (H : Hp) (L : List (Addr × List (Option Int))) : Prop := ∀ q ∈ L, H q.1 = some (T q.2)
theorem TH.off {H H' : Hp} {u d m : Addr} {L : List (Addr × List (Option Int))} (h : TH H L) (U : UrnAt H u d m) (O : Off u d H H') : TH H' L := fun q hq => O.tup U (h q hq)
theorem TH.same {H H' : Hp} {L : List (Addr × List (Option Int))} (h : TH H L) (S : Same H H') : TH H' L := fun q hq => S _ _ (h q hq)
theorem TH.cons {H : Hp} {L : List (Addr × List (Option Int))} {p : Addr} {xs : List (Option Int)} (h : TH H L) (e : H p = some (T xs)) : TH H ((p, xs) :: L) := fun q hq => by
  rcases List.mem_cons.mp hq with rfl | hq
  · exact e
  · exact h q hq
theorem TH.nil (H : Hp) : TH H [] := fun _ h => by cases h
theorem TH.at {H : Hp} {L : List (Addr × List (Option Int))} {p : Addr} {xs : List (Option Int)} (h : TH H L) (i : Nat) (e : L[i]? = some (p, xs)) : H p = some (T xs) := h _ (List.mem_of_getElem? e)
theorem not_none {xs : List (Option Int)} {n : Nat} (hn : xs.length = n) (h : xs ≠ List.replicate n none) : ∃ z r, intsOf xs = z :: r := by
  cases e : intsOf xs with
  | cons z r => exact ⟨z, r, rfl⟩
  | nil =>
    have := ints_nil e
    rw [hn] at this
    exact absurd this h
section
variable {P : Program} {w : World} {K : PySem.W.Frag} {mg : Str → Option Value} {base : Heap}
def spLaw (K : PySem.W.Frag) : Sp := fun vs H Q _ => ∃ (a : Addr) (ns : List Int), vs = [.ref a] ∧ SqL K H a (ns.map V.int) ∧ ∀ H', Q (.bl true) H'
abbrev LN : List Str := ["script", "urn", "turn", "wide", "world", "one", "third", "other", "known", "own", "far"]
theorem scLaw : FnScope LN ["script"] (defScope sLaw) := ⟨rfl, rfl, rfl, by decide +kernel, rfl, by decide +kernel, by decide +kernel⟩
theorem ok_law {f : Addr} {fd : FuncData} (F : Fun K "law" "law" sLaw f fd) (B : Bl mg) (St : StatAt base)
    (Curn : Cal P w K mg base "_law_urn" 1 ["script"] (spUrn K)) (Ctake : Cal P w K mg base "_law_take" 1 ["urn", "size"] spTake) (Cworld : Cal P w K mg base "_law_world" 3 ["urn"] spWorld)
    (Cside : Cal P w K mg base "_law_side" 3 ["urn", "wide", "world"] spSide) (Crow : Cal P w K mg base "_law_row" 4 ["urn", "wide", "world"] spRow) (Cnear : Cal P w K mg base "_law_near" 3 ["urn", "line", "world"] spNear)
    (Cplus : Cal P w K mg base "_law_plus" 1 ["line", "much"] spPlus) (Cwhole : Cal P w K mg base "_law_whole" 2 ["urn", "world"] spWhole)
    {fa fb fc fe : Addr} {da db dc de : FuncData}
    (Ga : FnG P w K mg base 4 fa da ["urn", "one", "other", "world"] spShiftsAdd) (ma : mg "_law_shifts_add" = some (.ref fa)) (ka : PySem.W.keepIn K (.ref fa) = true) (ba : Binds K da ["urn", "one", "other", "world"] [])
    (Gb : FnG P w K mg base 4 fb db ["one", "other", "third"] spLayers) (mb : mg "_law_layers_go" = some (.ref fb)) (kb : PySem.W.keepIn K (.ref fb) = true) (bb : Binds K db ["one", "other", "third"] [])
    (Gc : FnG P w K mg base 4 fc dc ["one", "other"] spHeights) (mc : mg "_law_heights_go" = some (.ref fc)) (kc : PySem.W.keepIn K (.ref fc) = true) (bc : Binds K dc ["one", "other"] [])
    (Ge : FnG P w K mg base 4 fe de ["urn", "own", "other", "world"] spBegins) (me : mg "_law_begins_go" = some (.ref fe)) (ke : PySem.W.keepIn K (.ref fe) = true) (be : Binds K de ["urn", "own", "other", "world"] []) :
    FnG P w K mg base 5 f fd ["script"] (spLaw K) := by
  obtain ⟨f1, fd1, G1, m1, k1, b1⟩ := Curn.ex
  obtain ⟨f2, fd2, G2, m2, k2, b2⟩ := Ctake.ex
  obtain ⟨f3, fd3, G3, m3, k3, b3⟩ := Cworld.ex
  obtain ⟨f4, fd4, G4, m4, k4, b4⟩ := Cside.ex
  obtain ⟨f5, fd5, G5, m5, k5, b5⟩ := Crow.ex
  obtain ⟨f6, fd6, G6, m6, k6, b6⟩ := Cnear.ex
  obtain ⟨f7, fd7, G7, m7, k7, b7⟩ := Cplus.ex
  obtain ⟨f8, fd8, G8, m8, k8, b8⟩ := Cwhole.ex
  refine fnG_of F scLaw (fun vs H Q E h => ?_) (fun cdv A outer s H vs Q E hG hr h => ?_)
  · obtain ⟨a, ns, rfl, _⟩ := h
    rfl
  · obtain ⟨a, ns, rfl, hS, k⟩ := h
    have hr1 : Room 1 _ := hr.mono (by decide)
    have hr2 : Room 2 _ := hr.mono (by decide)
    have hr3 : Room 3 _ := hr.mono (by decide)
    have hu : (A.deeper (PyProof.Rows.envOfC "law" (defScope sLaw) s.heap.objs.size f cdv)).units + 64 < cLine := by have := hr.un; omega
    refine ⟨_, pss_cons (ps_set (i := 1) scLaw.nd rfl (Or.inl rfl) (pe_call G1 hr1 rfl m1 k1 b1 .nil pass0 (pa_cons (pv 0) pa_nil)))
      (pss_cons (ps_for PassesOwn.never rfl (pi_range1 rfl B.range (pa_cons pe_int pa_nil)) (pg_name (i := 2) scLaw.nd rfl (Or.inl rfl))
        (pss_cons (ps_par (i := 3) (j := 4) rfl scLaw.nd rfl rfl (by decide) rfl rfl (pa_cons (pe_op op_add pe_int (pe_call G2 hr1 rfl m2 k2 b2 .nil pass0 (pa_cons (pv 1) (pa_cons pe_int pa_nil)))) (pa_cons (pe_call G3 hr3 rfl m3 k3 b3 .nil pass0 (pa_cons (pv 1) pa_nil)) pa_nil)) (by rfl))
        (pss_cons (ps_par (i := 5) (j := 6) rfl scLaw.nd rfl rfl (by decide) rfl rfl (pa_cons (pe_call G4 hr3 rfl m4 k4 b4 .nil pass0 (pa_cons (pv 1) (pa_cons (pv 3) (pa_cons (pv 4) pa_nil)))) (pa_cons (pe_call G4 hr3 rfl m4 k4 b4 .nil pass0 (pa_cons (pv 1) (pa_cons (pv 3) (pa_cons (pv 4) pa_nil)))) pa_nil)) (by rfl))
        (pss_cons (ps_set (i := 7) scLaw.nd rfl (Or.inl rfl) (pe_call G4 hr3 rfl m4 k4 b4 .nil pass0 (pa_cons (pv 1) (pa_cons (pv 3) (pa_cons (pv 4) pa_nil)))))
        (pss_cons (ps_imp (S := ?S1) (ps_if (pt_cmpR op_eq (pe_call G2 hr1 rfl m2 k2 b2 .nil pass0 (pa_cons (pv 1) (pa_cons pe_int pa_nil))) pe_int (nomark _)) (pss_one (ps_set (i := 7) scLaw.nd rfl (Or.inl rfl) (pe_call G6 hr3 rfl m6 k6 b6 .nil pass0 (pa_cons (pv 1) (pa_cons (pv 5) (pa_cons (pv 4) pa_nil)))))) pss_nil) ?s1)
        (pss_cons (ps_set (i := 8) scLaw.nd rfl (Or.inl rfl) (pe_callB (call_reprW hG hu St) (by rfl) B.repr (by decide +kernel) (pa_cons (pe_lst (pa_cons (pv 5) (pa_cons (pv 7) (pa_cons (pv 6) pa_nil)))) pa_nil)))
        (pss_cons (ps_if (PW.pt (pw_or (pt_not (pt_val (pe_callG Ga hG hr rfl ma ka ba (E := E0) (pa_cons (pv 1) (pa_cons (pv 5) (pa_cons (pv 7) (pa_cons (pv 4) pa_nil))))))) (pw_or1 (pt_not (pt_val (pe_callG Gb hG hr rfl mb kb bb (E := E0) (pa_cons (pv 5) (pa_cons (pv 7) (pa_cons (pv 6) pa_nil))))))))) (pss_one (ps_ret pe_bl)) pss_nil)
        (pss_cons (ps_if (PW.pt (pw_or (pt_not (pt_val (pe_callG Gc hG hr rfl mc kc bc (E := E0) (pa_cons (pv 5) (pa_cons (pv 7) pa_nil))))) (pw_or1 (pt_not (pt_val (pe_callG Gc hG hr rfl mc kc bc (E := E0) (pa_cons (pv 7) (pa_cons (pv 6) pa_nil)))))))) (pss_one (ps_ret pe_bl)) pss_nil)
        (pss_cons (ps_par (i := 9) (j := 10) rfl scLaw.nd rfl rfl (by decide) rfl rfl (pa_cons (pe_call G5 hr rfl m5 k5 b5 .nil pass0 (pa_cons (pv 1) (pa_cons (pv 3) (pa_cons (pv 4) pa_nil)))) (pa_cons (pe_call G5 hr rfl m5 k5 b5 .nil pass0 (pa_cons (pv 1) (pa_cons (pv 3) (pa_cons (pv 4) pa_nil)))) pa_nil)) (by rfl))
        (pss_cons (ps_imp (S := ?S2) (ps_if (pt_cmpR op_eq (pe_call G2 hr1 rfl m2 k2 b2 .nil pass0 (pa_cons (pv 1) (pa_cons pe_int pa_nil))) pe_int (nomark _)) (pss_one (ps_set (i := 10) scLaw.nd rfl (Or.inl rfl) (pe_call G6 hr3 rfl m6 k6 b6 .nil pass0 (pa_cons (pv 1) (pa_cons (pv 9) (pa_cons (pv 4) pa_nil)))))) pss_nil) ?s2)
        (pss_cons (ps_imp (S := ?S3) (ps_if (pt_cmpR (op_eqD hu) (pv 10) (pe_op op_nones (pe_tup (pa_cons pe_non pa_nil)) (pv 3)) (nomark _)) (pss_one (ps_set (i := 10) scLaw.nd rfl (Or.inl rfl) (pe_call G7 hr1 rfl m7 k7 b7 .nil pass0 (pa_cons (pv 9) (pa_cons (pe_call G8 hr2 rfl m8 k8 b8 .nil pass0 (pa_cons (pv 1) (pa_cons (pv 4) pa_nil))) pa_nil))))) pss_nil) ?s3)
        (pss_one (ps_if (PW.pt (pw_or (pt_not (pt_val (pe_callG Ge hG hr rfl me ke be (E := E0) (pa_cons (pv 1) (pa_cons (pv 9) (pa_cons (pv 10) (pa_cons (pv 4) pa_nil))))))) (pw_or1 (pt_cmpR op_ne (pe_callB (call_reprW hG hu St) (by rfl) B.repr (by decide +kernel) (pa_cons (pe_lst (pa_cons (pv 5) (pa_cons (pv 7) (pa_cons (pv 6) pa_nil)))) pa_nil)) (pv 8) (nomark _))))) (pss_one (ps_ret pe_bl)) pss_nil)))))))))))))
      (pss_one (ps_ret pe_bl))), ?_⟩
    case S1 => exact fun D σ H => ∃ (u d m wd p1 p2 : Addr) (xs ys : List (Option Int)) (y0 y2 y3 y6 y8 y9 y10 : Option V), σ = [y0, some (.ref u), y2, y3, some (.ref wd), some (.ref p1), y6, some (.ref p2), y8, y9, y10] ∧ UrnAt H u d m ∧ Wd H u d wd ∧ H p1 = some (T xs) ∧ H p2 = some (T ys) ∧ 0 < xs.length ∧ xs.length ≤ 4 ∧ ys.length = xs.length ∧ Bd 2 xs ∧ Bd 2 ys ∧
      ∀ H' p zs, zs.length = xs.length → Bd 3 zs → UrnAt H' u d m → Off u d H H' → H' p = some (T zs) → D.nx [y0, some (.ref u), y2, y3, some (.ref wd), some (.ref p1), y6, some (.ref p), y8, y9, y10] H'
    case S2 => exact fun D σ H => ∃ (u d m wd p1 p2 : Addr) (xs ys : List (Option Int)) (y0 y2 y3 y5 y6 y7 y8 : Option V), σ = [y0, some (.ref u), y2, y3, some (.ref wd), y5, y6, y7, y8, some (.ref p1), some (.ref p2)] ∧ UrnAt H u d m ∧ Wd H u d wd ∧ H p1 = some (T xs) ∧ H p2 = some (T ys) ∧ 0 < xs.length ∧ xs.length ≤ 4 ∧ ys.length = xs.length ∧ Bd 2 xs ∧ Bd 2 ys ∧
      ∀ H' p zs, zs.length = xs.length → Bd 3 zs → UrnAt H' u d m → Off u d H H' → H' p = some (T zs) → D.nx [y0, some (.ref u), y2, y3, some (.ref wd), y5, y6, y7, y8, some (.ref p1), some (.ref p)] H'
    case S3 => exact fun D σ H => ∃ (u d m wd p1 p2 : Addr) (xs ys : List (Option Int)) (wide : Int) (y0 y2 y5 y6 y7 y8 : Option V), σ = [y0, some (.ref u), y2, some (.int wide), some (.ref wd), y5, y6, y7, y8, some (.ref p1), some (.ref p2)] ∧ UrnAt H u d m ∧ Wd H u d wd ∧ H p1 = some (T xs) ∧ H p2 = some (T ys) ∧ 1 ≤ wide ∧ wide ≤ 4 ∧ xs.length = wide.toNat ∧ ys.length = wide.toNat ∧ Bd 2 xs ∧ Bd 3 ys ∧ (∃ z r, intsOf xs = z :: r) ∧
      ∀ H' p zs z r, zs.length = wide.toNat → Bd 5 zs → intsOf zs = z :: r → UrnAt H' u d m → Off u d H H' → H' p = some (T zs) → D.nx [y0, some (.ref u), y2, some (.int wide), some (.ref wd), y5, y6, y7, y8, some (.ref p1), some (.ref p)] H'
    case s1 =>
      rintro D σ H ⟨u, d, m, wd, p1, p2, xs, ys, y0, y2, y3, y6, y8, y9, y10, rfl, U, W, h1, h2, x0, x4, hl, bx, by', q⟩
      refine ⟨_, rfl, u, d, m, 2, rfl, (by decide), (by decide), U, fun H1 r r0 r1 U1 O1 => ⟨rfl, _, rfl, ?_⟩⟩
      refine ite2 (fun _ => ?_) (fun _ => ?_)
      · exact ⟨_, rfl, _, rfl, _, rfl, u, d, m, wd, p1, xs, rfl, O1.tup U h1, x0, x4, bx, U1, W.off O1, fun H2 p zs hz bz U2 O2 e2 => q H2 p zs hz bz U2 (O1.trans O2) e2⟩
      · exact q H1 p2 ys hl (by'.mono (by decide)) U1 O1 (O1.tup U h2)
    case s2 =>
      rintro D σ H ⟨u, d, m, wd, p1, p2, xs, ys, y0, y2, y3, y5, y6, y7, y8, rfl, U, W, h1, h2, x0, x4, hl, bx, by', q⟩
      refine ⟨_, rfl, u, d, m, 2, rfl, (by decide), (by decide), U, fun H1 r r0 r1 U1 O1 => ⟨rfl, _, rfl, ?_⟩⟩
      refine ite2 (fun _ => ?_) (fun _ => ?_)
      · exact ⟨_, rfl, _, rfl, _, rfl, u, d, m, wd, p1, xs, rfl, O1.tup U h1, x0, x4, bx, U1, W.off O1, fun H2 p zs hz bz U2 O2 e2 => q H2 p zs hz bz U2 (O1.trans O2) e2⟩
      · exact q H1 p2 ys hl (by'.mono (by decide)) U1 O1 (O1.tup U h2)
    case s3 =>
      rintro D σ H ⟨u, d, m, wd, p1, p2, xs, ys, wide, y0, y2, y5, y6, y7, y8, rfl, U, W, h1, h2, w1, w4, hx, hy, bx, by', ⟨z, r, ez⟩, q⟩
      refine ⟨_, rfl, (by show 1 ≤ sizeLine; decide), fun t ht => ?_⟩
      have S1 : Same H (upd H t (.tup [V.non])) := Same.fresh (Same.refl _) ht
      refine ⟨_, rfl, t, wide, rfl, rfl, upd_same, w1, by omega, fun H1 p S2 e => ?_⟩
      have S3 := S1.trans S2
      have U1 := U.same S3
      have O1 : Off u d H H1 := Same.off S3
      refine ⟨_, _, dT (S3 _ _ h2), dT e, shapedT _, shapedT _, _, rfl, ?_⟩
      rw [eqv_tup]
      refine ite2 (fun _ => ?_) (fun hne => ?_)
      · refine ⟨_, rfl, _, rfl, _, rfl, u, d, m, wd, rfl, U1, W.off O1, fun H2 x hxx U2 O2 => ?_⟩
        refine ⟨p1, xs, some x, rfl, O2.tup U1 (S3 _ _ h1), by omega, fun H3 p S4 _ e3 => ?_⟩
        refine q H3 p (shiftN xs (some x)) (z + x) (r.map (· + x)) (by rw [shift_len, hx]) ((bx.shift (j := 2) (fun i e => by cases e; exact hxx)).mono (by decide)) (by rw [ints_shift, ez, List.map_cons]) (U2.same S4) ((O1.trans O2).trans (Same.off S4)) e3
      · obtain ⟨z2, r2, e2⟩ := not_none hy (fun h => hne (decide_eq_true h))
        exact q H1 p2 ys z2 r2 hy (by'.mono (by decide)) e2 U1 O1 (S3 _ _ h2)
    refine ⟨_, rfl, a, ns, rfl, hS, fun H0 u d m S0 U0 => ?_⟩
    refine ⟨7, rfl, by decide, by decide, ?_⟩
    refine for_range (lo := 0) (n := 7) (fun i σ H => ∃ (y2 y3 y4 y5 y6 y7 y8 y9 y10 : Option V), σ = [some (.ref a), some (.ref u), y2, y3, y4, y5, y6, y7, y8, y9, y10] ∧ UrnAt H u d m) ⟨none, none, none, none, none, none, none, none, none, rfl, U0⟩ ?_ ?_
    · rintro i σ H _ ⟨y2, y3, y4, y5, y6, y7, y8, y9, y10, rfl, U⟩
      -- wide, world
      refine ⟨_, rfl, u, d, m, 4, rfl, (by decide), (by decide), U, fun H1 r r0 r1 U1 O1 => ⟨_, _, rfl, rfl, _, rfl, u, d, m, rfl, U1, fun H2 wd U2 O2 W2 => ⟨_, _, rfl, ?_⟩⟩⟩
      have w1 : 1 ≤ 1 + r := by omega
      have w4 : 1 + r ≤ 4 := by omega
      have wn : 1 ≤ (1 + r).toNat := by omega
      have wn4 : (1 + r).toNat ≤ 4 := by omega
      -- one, third
      refine ⟨_, rfl, _, rfl, _, rfl, u, d, m, wd, 1 + r, rfl, w1, w4, U2, W2, fun H3 p1 xs hx bx U3 O3 e3 => ?_⟩
      have W3 := W2.off O3
      refine ⟨_, rfl, _, rfl, _, rfl, u, d, m, wd, 1 + r, rfl, w1, w4, U3, W3, fun H4 p3 zs hz bz U4 O4 e4 => ⟨_, _, rfl, ?_⟩⟩
      have W4 := W3.off O4
      have L4 : TH H4 [(p3, zs), (p1, xs)] := (((TH.nil H3).cons e3).off U3 O4).cons e4
      -- other
      refine ⟨_, rfl, _, rfl, _, rfl, u, d, m, wd, 1 + r, rfl, w1, w4, U4, W4, fun H5 p2 ys hy by' U5 O5 e5 => ?_⟩
      have W5 := W4.off O5
      have L5 : TH H5 [(p2, ys), (p3, zs), (p1, xs)] := (L4.off U4 O5).cons e5
      refine ⟨u, d, m, wd, p1, p2, xs, ys, _, _, _, _, _, _, _, rfl, U5, W5, L5.at 2 rfl, L5.at 0 rfl, by omega, by omega, by omega, bx, by', fun H6 p2 ys hy2 by2 U6 O6 e6 => ?_⟩
      have hy3 : ys.length = (1 + r).toNat := by omega
      have W6 := W5.off O6
      have L6 : TH H6 [(p2, ys), (p3, zs), (p1, xs)] := ((((TH.nil H5).cons (L5.at 2 rfl)).cons (L5.at 1 rfl)).off U5 O6).cons e6
      -- known
      have ok := okRows (rs := [xs, ys, zs]) (fun r hr => by
        simp only [List.mem_cons, List.not_mem_nil, or_false] at hr
        rcases hr with rfl | rfl | rfl
        · exact ⟨by omega, bx.mono (by decide)⟩
        · exact ⟨by omega, by2.mono (by decide)⟩
        · exact ⟨by omega, bz.mono (by decide)⟩) (by simp)
      obtain ⟨o1, o2, o3⟩ := ok
      refine ⟨_, rfl, _, rfl, _, rfl, (by show 3 ≤ sizeLine; decide), fun q hq => ?_⟩
      have U7 := U6.fresh (o := .lst [.ref p1, .ref p2, .ref p3]) hq
      have S7 : Same H6 (upd H6 q (.lst [.ref p1, .ref p2, .ref p3])) := Same.fresh (Same.refl _) hq
      have W7 := W6.off (Same.off S7)
      have L7 := L6.same S7
      have e7 : upd H6 q (.lst [.ref p1, .ref p2, .ref p3]) q = some (.lst [.ref p1, .ref p2, .ref p3]) := upd_same
      generalize upd H6 q (.lst [.ref p1, .ref p2, .ref p3]) = H7 at U7 S7 W7 L7 e7
      refine ⟨q, [xs, ys, zs].map rowD, rfl, .lst (SqL.of e7) (.cons (dT (L7.at 2 rfl)) (.cons (dT (L7.at 0 rfl)) (.cons (dT (L7.at 1 rfl)) .nil))), o1, o2, o3, ?_⟩
      -- the four looks
      refine ⟨_, rfl, _, rfl, _, rfl, _, rfl, u, d, m, p1, p2, wd, xs, ys, rfl, U7, W7, L7.at 2 rfl, L7.at 0 rfl, by omega, by omega, by omega, bx.mono (by decide), by2, fun H8 U8 O8 => ⟨true, rfl, iteF ?_⟩⟩
      have W8 := W7.off O8
      have L8 := L7.off U7 O8
      refine ⟨_, rfl, _, rfl, _, rfl, p1, p2, p3, xs, ys, zs, rfl, L8.at 2 rfl, L8.at 0 rfl, L8.at 1 rfl, by omega, by omega, by omega, by omega, bx.mono (by decide), by2.mono (by decide), bz.mono (by decide), fun H9 S9 => ⟨true, rfl, iteF ?_⟩⟩
      have U9 := U8.same S9
      have W9 := W8.off (Same.off S9)
      have L9 := L8.same S9
      refine ⟨_, rfl, _, rfl, p1, p2, xs, ys, rfl, L9.at 2 rfl, L9.at 0 rfl, by omega, by omega, fun H10 S10 => ⟨true, rfl, iteF ?_⟩⟩
      have U10 := U9.same S10
      have W10 := W9.off (Same.off S10)
      have L10 := L9.same S10
      refine ⟨_, rfl, _, rfl, p2, p3, ys, zs, rfl, L10.at 0 rfl, L10.at 1 rfl, by omega, by omega, fun H11 S11 => ⟨true, rfl, iteF ?_⟩⟩
      have U11 := U10.same S11
      have W11 := W10.off (Same.off S11)
      have L11 := L10.same S11
      -- own, far
      refine ⟨_, rfl, _, rfl, _, rfl, u, d, m, wd, 1 + r, rfl, w1, w4, U11, W11, fun H12 p4 os z4 r4 h4 b4 i4 U12 O12 e12 => ?_⟩
      have W12 := W11.off O12
      have L12 : TH H12 [(p4, os), (p2, ys), (p3, zs), (p1, xs)] := (L11.off U11 O12).cons e12
      refine ⟨_, rfl, _, rfl, _, rfl, u, d, m, wd, 1 + r, rfl, w1, w4, U12, W12, fun H13 p5 fs z5 r5 h5 b5 i5 U13 O13 e13 => ⟨_, _, rfl, ?_⟩⟩
      have W13 := W12.off O13
      have L13 : TH H13 [(p5, fs), (p4, os), (p2, ys), (p3, zs), (p1, xs)] := (L12.off U12 O13).cons e13
      refine ⟨u, d, m, wd, p4, p5, os, fs, _, _, _, _, _, _, _, rfl, U13, W13, L13.at 1 rfl, L13.at 0 rfl, by omega, by omega, by omega, b4, b5, fun H14 p6 gs h6 b6 U14 O14 e14 => ?_⟩
      have W14 := W13.off O14
      have L14 : TH H14 [(p6, gs), (p4, os), (p2, ys), (p3, zs), (p1, xs)] := fun q hq => by
        rcases List.mem_cons.mp hq with rfl | hq
        · exact e14
        · exact O14.tup U13 (L13 q (List.mem_cons_of_mem _ hq))
      refine ⟨u, d, m, wd, p4, p6, os, gs, 1 + r, _, _, _, _, _, _, rfl, U14, W14, L14.at 1 rfl, L14.at 0 rfl, w1, w4, h4, by omega, b4, b6, ⟨z4, r4, i4⟩, fun H15 p7 ks z7 r7 h7 b7 i7 U15 O15 e15 => ?_⟩
      have W15 := W14.off O15
      have L15 : TH H15 [(p7, ks), (p4, os), (p2, ys), (p3, zs), (p1, xs)] := fun q hq => by
        rcases List.mem_cons.mp hq with rfl | hq
        · exact e15
        · exact O15.tup U14 (L14 q (List.mem_cons_of_mem _ hq))
      -- the last look, and what is known
      refine ⟨_, rfl, _, rfl, _, rfl, _, rfl, u, d, m, p4, p7, wd, os, ks, z4, r4, z7, r7, rfl, U15, W15, L15.at 1 rfl, L15.at 0 rfl, by omega, by omega, b4.mono (by decide), b7, i4, i7, fun H16 U16 O16 => ⟨true, rfl, iteF ?_⟩⟩
      have L16 := L15.off U15 O16
      refine ⟨_, rfl, _, rfl, _, rfl, (by show 3 ≤ sizeLine; decide), fun q2 hq2 => ?_⟩
      have U17 := U16.fresh (o := .lst [.ref p1, .ref p2, .ref p3]) hq2
      have S17 : Same H16 (upd H16 q2 (.lst [.ref p1, .ref p2, .ref p3])) := Same.fresh (Same.refl _) hq2
      have L17 := L16.same S17
      have e17 : upd H16 q2 (.lst [.ref p1, .ref p2, .ref p3]) q2 = some (.lst [.ref p1, .ref p2, .ref p3]) := upd_same
      generalize upd H16 q2 (.lst [.ref p1, .ref p2, .ref p3]) = H17 at U17 S17 L17 e17
      refine ⟨q2, [xs, ys, zs].map rowD, rfl, .lst (SqL.of e17) (.cons (dT (L17.at 4 rfl)) (.cons (dT (L17.at 2 rfl)) (.cons (dT (L17.at 3 rfl)) .nil))), o1, o2, o3, _, rfl, rfl, _, rfl, iteNS rfl ?_⟩
      exact ⟨_, _, _, _, _, _, _, _, _, rfl, U17⟩
    · rintro σ H1 _
      exact k H1
end
end K3

namespace K3
open PySem L2 RW RZ PySem.RW

theorem all_mk {l : PySem.W.OpenLaw} {w : World} {K : PySem.W.Frag} {h : Heap} {mg : Str → Option Value} {fa : Addr} {f_sh f_la f_bg f_hi f_io f_ad f_gr f_ab f_as f_ur f_tk f_on f_wo f_wh f_sd f_rw f_ne f_pl f_mo f_ov f_lb f_fi f_sa f_ly f_he f_be f_lw : Addr} (X : K.In h) (G : h.Ns mainGlobals mg) (hfa : mg "law" = some (.ref fa))
    {od_sh od_la od_bg od_hi od_io od_ad od_gr od_ab od_as od_ur od_tk od_on od_wo od_wh od_sd od_rw od_ne od_pl od_mo od_ov od_lb od_fi od_sa od_ly od_he od_be od_lw an_sh an_la an_bg an_hi an_io an_ad an_gr an_ab an_as an_ur an_tk an_on an_wo an_wh an_sd an_rw an_ne an_pl an_mo an_ov an_lb an_fi an_sa an_ly an_he an_be an_lw : Option Addr} {sl_sh sl_la sl_bg sl_hi sl_io sl_ad sl_gr sl_ab sl_as sl_ur sl_tk sl_on sl_wo sl_wh sl_sd sl_rw sl_ne sl_pl sl_mo sl_ov sl_lb sl_fi sl_sa sl_ly sl_he sl_be sl_lw : Array (Option Value)} {oc_sh oc_la oc_bg oc_hi oc_io oc_ad oc_gr oc_ab oc_as oc_ur oc_tk oc_on oc_wo oc_wh oc_sd oc_rw oc_ne oc_pl oc_mo oc_ov oc_lb oc_fi oc_sa oc_ly oc_he oc_be oc_lw kV_sh kV_la kV_bg kV_hi kV_io kV_ad kV_gr kV_ab kV_as kV_ur kV_tk kV_on kV_wo kV_wh kV_sd kV_rw kV_ne kV_pl kV_mo kV_ov kV_lb kV_fi kV_sa kV_ly kV_he kV_be kV_lw dc_sh dc_la dc_bg dc_hi dc_io dc_ad dc_gr dc_ab dc_as dc_ur dc_tk dc_on dc_wo dc_wh dc_sd dc_rw dc_ne dc_pl dc_mo dc_ov dc_lb dc_fi dc_sa dc_ly dc_he dc_be dc_lw pm_sh pm_la pm_bg pm_hi pm_io pm_ad pm_gr pm_ab pm_as pm_ur pm_tk pm_on pm_wo pm_wh pm_sd pm_rw pm_ne pm_pl pm_mo pm_ov pm_lb pm_fi pm_sa pm_ly pm_he pm_be pm_lw cd_sh cd_la cd_bg cd_hi cd_io cd_ad cd_gr cd_ab cd_as cd_ur cd_tk cd_on cd_wo cd_wh cd_sd cd_rw cd_ne cd_pl cd_mo cd_ov cd_lb cd_fi cd_sa cd_ly cd_he cd_be cd_lw ct_sh ct_la ct_bg ct_hi ct_io ct_ad ct_gr ct_ab ct_as ct_ur ct_tk ct_on ct_wo ct_wh ct_sd ct_rw ct_ne ct_pl ct_mo ct_ov ct_lb ct_fi ct_sa ct_ly ct_he ct_be ct_lw : Value}
    (a_sh : PySem.W.nsIn K mainGlobals "shifted" = some (some (.ref f_sh))) (l_sh : K.lookup f_sh = some ⟨oc_sh, od_sh, .func (PySem.W.fnOf "shifted" "shifted" (defArgs sShifted) (defBody sShifted) (defScope sShifted) .none kV_sh dc_sh pm_sh an_sh cd_sh ct_sh), sl_sh⟩) (c_sh : PySem.W.codeIn K cd_sh "shifted" = true) (k_sh : PySem.W.keepIn K (.ref f_sh) = true)
    (a_la : PySem.W.nsIn K mainGlobals "laid" = some (some (.ref f_la))) (l_la : K.lookup f_la = some ⟨oc_la, od_la, .func (PySem.W.fnOf "laid" "laid" (defArgs sLaid) (defBody sLaid) (defScope sLaid) .none kV_la dc_la pm_la an_la cd_la ct_la), sl_la⟩) (c_la : PySem.W.codeIn K cd_la "laid" = true) (k_la : PySem.W.keepIn K (.ref f_la) = true)
    (a_bg : PySem.W.nsIn K mainGlobals "begun" = some (some (.ref f_bg))) (l_bg : K.lookup f_bg = some ⟨oc_bg, od_bg, .func (PySem.W.fnOf "begun" "begun" (defArgs sBegun) (defBody sBegun) (defScope sBegun) .none kV_bg dc_bg pm_bg an_bg cd_bg ct_bg), sl_bg⟩) (c_bg : PySem.W.codeIn K cd_bg "begun" = true) (k_bg : PySem.W.keepIn K (.ref f_bg) = true)
    (a_hi : PySem.W.nsIn K mainGlobals "is_higher" = some (some (.ref f_hi))) (l_hi : K.lookup f_hi = some ⟨oc_hi, od_hi, .func (PySem.W.fnOf "is_higher" "is_higher" (defArgs sHigher) (defBody sHigher) (defScope sHigher) .none kV_hi dc_hi pm_hi an_hi cd_hi ct_hi), sl_hi⟩) (c_hi : PySem.W.codeIn K cd_hi "is_higher" = true) (k_hi : PySem.W.keepIn K (.ref f_hi) = true)
    (a_io : PySem.W.nsIn K mainGlobals "integers_of" = some (some (.ref f_io))) (l_io : K.lookup f_io = some ⟨oc_io, od_io, .func (PySem.W.fnOf "integers_of" "integers_of" (defArgs sInts) (defBody sInts) (defScope sInts) .none kV_io dc_io pm_io an_io cd_io ct_io), sl_io⟩) (c_io : PySem.W.codeIn K cd_io "integers_of" = true) (k_io : PySem.W.keepIn K (.ref f_io) = true)
    (a_ad : PySem.W.nsIn K mainGlobals "added" = some (some (.ref f_ad))) (l_ad : K.lookup f_ad = some ⟨oc_ad, od_ad, .func (PySem.W.fnOf "added" "added" (defArgs sAdded) (defBody sAdded) (defScope sAdded) .none kV_ad dc_ad pm_ad an_ad cd_ad ct_ad), sl_ad⟩) (c_ad : PySem.W.codeIn K cd_ad "added" = true) (k_ad : PySem.W.keepIn K (.ref f_ad) = true)
    (a_gr : PySem.W.nsIn K mainGlobals "greatest" = some (some (.ref f_gr))) (l_gr : K.lookup f_gr = some ⟨oc_gr, od_gr, .func (PySem.W.fnOf "greatest" "greatest" (defArgs sGreatest) (defBody sGreatest) (defScope sGreatest) .none kV_gr dc_gr pm_gr an_gr cd_gr ct_gr), sl_gr⟩) (c_gr : PySem.W.codeIn K cd_gr "greatest" = true) (k_gr : PySem.W.keepIn K (.ref f_gr) = true)
    (a_ab : PySem.W.nsIn K mainGlobals "is_above" = some (some (.ref f_ab))) (l_ab : K.lookup f_ab = some ⟨oc_ab, od_ab, .func (PySem.W.fnOf "is_above" "is_above" (defArgs sAbove) (defBody sAbove) (defScope sAbove) .none kV_ab dc_ab pm_ab an_ab cd_ab ct_ab), sl_ab⟩) (c_ab : PySem.W.codeIn K cd_ab "is_above" = true) (k_ab : PySem.W.keepIn K (.ref f_ab) = true)
    (a_as : PySem.W.nsIn K mainGlobals "ask_as_many" = some (some (.ref f_as))) (l_as : K.lookup f_as = some ⟨oc_as, od_as, .func (PySem.W.fnOf "ask_as_many" "ask_as_many" (defArgs sAsk) (defBody sAsk) (defScope sAsk) .none kV_as dc_as pm_as an_as cd_as ct_as), sl_as⟩) (c_as : PySem.W.codeIn K cd_as "ask_as_many" = true) (k_as : PySem.W.keepIn K (.ref f_as) = true)
    (a_ur : PySem.W.nsIn K mainGlobals "_law_urn" = some (some (.ref f_ur))) (l_ur : K.lookup f_ur = some ⟨oc_ur, od_ur, .func (PySem.W.fnOf "_law_urn" "_law_urn" (defArgs sUrn) (defBody sUrn) (defScope sUrn) .none kV_ur dc_ur pm_ur an_ur cd_ur ct_ur), sl_ur⟩) (c_ur : PySem.W.codeIn K cd_ur "_law_urn" = true) (k_ur : PySem.W.keepIn K (.ref f_ur) = true)
    (a_tk : PySem.W.nsIn K mainGlobals "_law_take" = some (some (.ref f_tk))) (l_tk : K.lookup f_tk = some ⟨oc_tk, od_tk, .func (PySem.W.fnOf "_law_take" "_law_take" (defArgs sTake) (defBody sTake) (defScope sTake) .none kV_tk dc_tk pm_tk an_tk cd_tk ct_tk), sl_tk⟩) (c_tk : PySem.W.codeIn K cd_tk "_law_take" = true) (k_tk : PySem.W.keepIn K (.ref f_tk) = true)
    (a_on : PySem.W.nsIn K mainGlobals "_law_one" = some (some (.ref f_on))) (l_on : K.lookup f_on = some ⟨oc_on, od_on, .func (PySem.W.fnOf "_law_one" "_law_one" (defArgs sOne) (defBody sOne) (defScope sOne) .none kV_on dc_on pm_on an_on cd_on ct_on), sl_on⟩) (c_on : PySem.W.codeIn K cd_on "_law_one" = true) (k_on : PySem.W.keepIn K (.ref f_on) = true)
    (a_wo : PySem.W.nsIn K mainGlobals "_law_world" = some (some (.ref f_wo))) (l_wo : K.lookup f_wo = some ⟨oc_wo, od_wo, .func (PySem.W.fnOf "_law_world" "_law_world" (defArgs sWorld) (defBody sWorld) (defScope sWorld) .none kV_wo dc_wo pm_wo an_wo cd_wo ct_wo), sl_wo⟩) (c_wo : PySem.W.codeIn K cd_wo "_law_world" = true) (k_wo : PySem.W.keepIn K (.ref f_wo) = true)
    (a_wh : PySem.W.nsIn K mainGlobals "_law_whole" = some (some (.ref f_wh))) (l_wh : K.lookup f_wh = some ⟨oc_wh, od_wh, .func (PySem.W.fnOf "_law_whole" "_law_whole" (defArgs sWhole) (defBody sWhole) (defScope sWhole) .none kV_wh dc_wh pm_wh an_wh cd_wh ct_wh), sl_wh⟩) (c_wh : PySem.W.codeIn K cd_wh "_law_whole" = true) (k_wh : PySem.W.keepIn K (.ref f_wh) = true)
    (a_sd : PySem.W.nsIn K mainGlobals "_law_side" = some (some (.ref f_sd))) (l_sd : K.lookup f_sd = some ⟨oc_sd, od_sd, .func (PySem.W.fnOf "_law_side" "_law_side" (defArgs sSide) (defBody sSide) (defScope sSide) .none kV_sd dc_sd pm_sd an_sd cd_sd ct_sd), sl_sd⟩) (c_sd : PySem.W.codeIn K cd_sd "_law_side" = true) (k_sd : PySem.W.keepIn K (.ref f_sd) = true)
    (a_rw : PySem.W.nsIn K mainGlobals "_law_row" = some (some (.ref f_rw))) (l_rw : K.lookup f_rw = some ⟨oc_rw, od_rw, .func (PySem.W.fnOf "_law_row" "_law_row" (defArgs sRow) (defBody sRow) (defScope sRow) .none kV_rw dc_rw pm_rw an_rw cd_rw ct_rw), sl_rw⟩) (c_rw : PySem.W.codeIn K cd_rw "_law_row" = true) (k_rw : PySem.W.keepIn K (.ref f_rw) = true)
    (a_ne : PySem.W.nsIn K mainGlobals "_law_near" = some (some (.ref f_ne))) (l_ne : K.lookup f_ne = some ⟨oc_ne, od_ne, .func (PySem.W.fnOf "_law_near" "_law_near" (defArgs sNear) (defBody sNear) (defScope sNear) .none kV_ne dc_ne pm_ne an_ne cd_ne ct_ne), sl_ne⟩) (c_ne : PySem.W.codeIn K cd_ne "_law_near" = true) (k_ne : PySem.W.keepIn K (.ref f_ne) = true)
    (a_pl : PySem.W.nsIn K mainGlobals "_law_plus" = some (some (.ref f_pl))) (l_pl : K.lookup f_pl = some ⟨oc_pl, od_pl, .func (PySem.W.fnOf "_law_plus" "_law_plus" (defArgs sPlus) (defBody sPlus) (defScope sPlus) .none kV_pl dc_pl pm_pl an_pl cd_pl ct_pl), sl_pl⟩) (c_pl : PySem.W.codeIn K cd_pl "_law_plus" = true) (k_pl : PySem.W.keepIn K (.ref f_pl) = true)
    (a_mo : PySem.W.nsIn K mainGlobals "_law_more" = some (some (.ref f_mo))) (l_mo : K.lookup f_mo = some ⟨oc_mo, od_mo, .func (PySem.W.fnOf "_law_more" "_law_more" (defArgs sMore) (defBody sMore) (defScope sMore) .none kV_mo dc_mo pm_mo an_mo cd_mo ct_mo), sl_mo⟩) (c_mo : PySem.W.codeIn K cd_mo "_law_more" = true) (k_mo : PySem.W.keepIn K (.ref f_mo) = true)
    (a_ov : PySem.W.nsIn K mainGlobals "_law_over" = some (some (.ref f_ov))) (l_ov : K.lookup f_ov = some ⟨oc_ov, od_ov, .func (PySem.W.fnOf "_law_over" "_law_over" (defArgs sOver) (defBody sOver) (defScope sOver) .none kV_ov dc_ov pm_ov an_ov cd_ov ct_ov), sl_ov⟩) (c_ov : PySem.W.codeIn K cd_ov "_law_over" = true) (k_ov : PySem.W.keepIn K (.ref f_ov) = true)
    (a_lb : PySem.W.nsIn K mainGlobals "_law_above" = some (some (.ref f_lb))) (l_lb : K.lookup f_lb = some ⟨oc_lb, od_lb, .func (PySem.W.fnOf "_law_above" "_law_above" (defArgs sLAbove) (defBody sLAbove) (defScope sLAbove) .none kV_lb dc_lb pm_lb an_lb cd_lb ct_lb), sl_lb⟩) (c_lb : PySem.W.codeIn K cd_lb "_law_above" = true) (k_lb : PySem.W.keepIn K (.ref f_lb) = true)
    (a_fi : PySem.W.nsIn K mainGlobals "_law_first" = some (some (.ref f_fi))) (l_fi : K.lookup f_fi = some ⟨oc_fi, od_fi, .func (PySem.W.fnOf "_law_first" "_law_first" (defArgs sFirst) (defBody sFirst) (defScope sFirst) .none kV_fi dc_fi pm_fi an_fi cd_fi ct_fi), sl_fi⟩) (c_fi : PySem.W.codeIn K cd_fi "_law_first" = true) (k_fi : PySem.W.keepIn K (.ref f_fi) = true)
    (a_sa : PySem.W.nsIn K mainGlobals "_law_shifts_add" = some (some (.ref f_sa))) (l_sa : K.lookup f_sa = some ⟨oc_sa, od_sa, .func (PySem.W.fnOf "_law_shifts_add" "_law_shifts_add" (defArgs sShiftsAdd) (defBody sShiftsAdd) (defScope sShiftsAdd) .none kV_sa dc_sa pm_sa an_sa cd_sa ct_sa), sl_sa⟩) (c_sa : PySem.W.codeIn K cd_sa "_law_shifts_add" = true) (k_sa : PySem.W.keepIn K (.ref f_sa) = true)
    (a_ly : PySem.W.nsIn K mainGlobals "_law_layers_go" = some (some (.ref f_ly))) (l_ly : K.lookup f_ly = some ⟨oc_ly, od_ly, .func (PySem.W.fnOf "_law_layers_go" "_law_layers_go" (defArgs sLayers) (defBody sLayers) (defScope sLayers) .none kV_ly dc_ly pm_ly an_ly cd_ly ct_ly), sl_ly⟩) (c_ly : PySem.W.codeIn K cd_ly "_law_layers_go" = true) (k_ly : PySem.W.keepIn K (.ref f_ly) = true)
    (a_he : PySem.W.nsIn K mainGlobals "_law_heights_go" = some (some (.ref f_he))) (l_he : K.lookup f_he = some ⟨oc_he, od_he, .func (PySem.W.fnOf "_law_heights_go" "_law_heights_go" (defArgs sHeights) (defBody sHeights) (defScope sHeights) .none kV_he dc_he pm_he an_he cd_he ct_he), sl_he⟩) (c_he : PySem.W.codeIn K cd_he "_law_heights_go" = true) (k_he : PySem.W.keepIn K (.ref f_he) = true)
    (a_be : PySem.W.nsIn K mainGlobals "_law_begins_go" = some (some (.ref f_be))) (l_be : K.lookup f_be = some ⟨oc_be, od_be, .func (PySem.W.fnOf "_law_begins_go" "_law_begins_go" (defArgs sBegins) (defBody sBegins) (defScope sBegins) .none kV_be dc_be pm_be an_be cd_be ct_be), sl_be⟩) (c_be : PySem.W.codeIn K cd_be "_law_begins_go" = true) (k_be : PySem.W.keepIn K (.ref f_be) = true)
    (a_lw : PySem.W.nsIn K mainGlobals "law" = some (some (.ref f_lw))) (l_lw : K.lookup f_lw = some ⟨oc_lw, od_lw, .func (PySem.W.fnOf "law" "law" (defArgs sLaw) (defBody sLaw) (defScope sLaw) .none kV_lw dc_lw pm_lw an_lw cd_lw ct_lw), sl_lw⟩) (c_lw : PySem.W.codeIn K cd_lw "law" = true) (k_lw : PySem.W.keepIn K (.ref f_lw) = true)
    (z_len : PySem.W.nsIn K mainGlobals "len" = some none)
    (z_tuple : PySem.W.nsIn K mainGlobals "tuple" = some none)
    (z_max : PySem.W.nsIn K mainGlobals "max" = some none)
    (z_zip : PySem.W.nsIn K mainGlobals "zip" = some none)
    (z_any : PySem.W.nsIn K mainGlobals "any" = some none)
    (z_repr : PySem.W.nsIn K mainGlobals "repr" = some none)
    (z_list : PySem.W.nsIn K mainGlobals "list" = some none)
    (z_sum : PySem.W.nsIn K mainGlobals "sum" = some none)
    (z_abs : PySem.W.nsIn K mainGlobals "abs" = some none)
    (z_int : PySem.W.nsIn K mainGlobals "int" = some none)
    (z_range : PySem.W.nsIn K mainGlobals "range" = some none)
    (zS : PySem.W.nsIn K cStatics "sys.int_max_str_digits" = some none) :
    ∃ fd : FuncData, (∀ (s : Shared) (v : Value), BindsTo s fd ⟨[v], []⟩ [("script", v)]) ∧ ∀ base : Heap, Mod K mg base → FnG l.prog w K mg base 5 fa fd ["script"] (spLaw K) := by
  have e := hfa.symm.trans (PySem.W.mg_of X G a_lw)
  cases e
  have B : Bl mg := ⟨PySem.W.mg_none_of X G z_len, PySem.W.mg_none_of X G z_tuple, PySem.W.mg_none_of X G z_max, PySem.W.mg_none_of X G z_zip, PySem.W.mg_none_of X G z_any, PySem.W.mg_none_of X G z_repr, PySem.W.mg_none_of X G z_list, PySem.W.mg_none_of X G z_sum, PySem.W.mg_none_of X G z_abs, PySem.W.mg_none_of X G z_int, PySem.W.mg_none_of X G z_range⟩
  have F_sh := fun_mk (st := sShifted) l_sh c_sh k_sh
  have b_sh := F_sh.binds (ps := ["side", "number"]) fun _ _ _ _ _ _ us hl => match us, hl with | [_, _], _ => rfl
  have m_sh : mg "shifted" = some (.ref f_sh) := PySem.W.mg_of X G a_sh
  have F_la := fun_mk (st := sLaid) l_la c_la k_la
  have b_la := F_la.binds (ps := ["one_side", "other_side"]) fun _ _ _ _ _ _ us hl => match us, hl with | [_, _], _ => rfl
  have m_la : mg "laid" = some (.ref f_la) := PySem.W.mg_of X G a_la
  have F_bg := fun_mk (st := sBegun) l_bg c_bg k_bg
  have b_bg := F_bg.binds (ps := ["row"]) fun _ _ _ _ _ _ us hl => match us, hl with | [_], _ => rfl
  have m_bg : mg "begun" = some (.ref f_bg) := PySem.W.mg_of X G a_bg
  have F_hi := fun_mk (st := sHigher) l_hi c_hi k_hi
  have b_hi := F_hi.binds (ps := ["one_side", "other_side"]) fun _ _ _ _ _ _ us hl => match us, hl with | [_, _], _ => rfl
  have m_hi : mg "is_higher" = some (.ref f_hi) := PySem.W.mg_of X G a_hi
  have F_io := fun_mk (st := sInts) l_io c_io k_io
  have b_io := F_io.binds (ps := ["numbers"]) fun _ _ _ _ _ _ us hl => match us, hl with | [_], _ => rfl
  have m_io : mg "integers_of" = some (.ref f_io) := PySem.W.mg_of X G a_io
  have F_ad := fun_mk (st := sAdded) l_ad c_ad k_ad
  have b_ad := F_ad.binds (ps := ["one", "other"]) fun _ _ _ _ _ _ us hl => match us, hl with | [_, _], _ => rfl
  have m_ad : mg "added" = some (.ref f_ad) := PySem.W.mg_of X G a_ad
  have F_gr := fun_mk (st := sGreatest) l_gr c_gr k_gr
  have b_gr := F_gr.binds (ps := ["numbers"]) fun _ _ _ _ _ _ us hl => match us, hl with | [_], _ => rfl
  have m_gr : mg "greatest" = some (.ref f_gr) := PySem.W.mg_of X G a_gr
  have F_ab := fun_mk (st := sAbove) l_ab c_ab k_ab
  have b_ab := F_ab.binds (ps := ["one", "other"]) fun _ _ _ _ _ _ us hl => match us, hl with | [_, _], _ => rfl
  have m_ab : mg "is_above" = some (.ref f_ab) := PySem.W.mg_of X G a_ab
  have F_as := fun_mk (st := sAsk) l_as c_as k_as
  have b_as := F_as.binds (ps := ["one_places", "other_places"]) fun _ _ _ _ _ _ us hl => match us, hl with | [_, _], _ => rfl
  have m_as : mg "ask_as_many" = some (.ref f_as) := PySem.W.mg_of X G a_as
  have F_ur := fun_mk (st := sUrn) l_ur c_ur k_ur
  have b_ur := F_ur.binds (ps := ["script"]) fun _ _ _ _ _ _ us hl => match us, hl with | [_], _ => rfl
  have m_ur : mg "_law_urn" = some (.ref f_ur) := PySem.W.mg_of X G a_ur
  have F_tk := fun_mk (st := sTake) l_tk c_tk k_tk
  have b_tk := F_tk.binds (ps := ["urn", "size"]) fun _ _ _ _ _ _ us hl => match us, hl with | [_, _], _ => rfl
  have m_tk : mg "_law_take" = some (.ref f_tk) := PySem.W.mg_of X G a_tk
  have F_on := fun_mk (st := sOne) l_on c_on k_on
  have b_on := F_on.binds (ps := ["urn", "items"]) fun _ _ _ _ _ _ us hl => match us, hl with | [_, _], _ => rfl
  have m_on : mg "_law_one" = some (.ref f_on) := PySem.W.mg_of X G a_on
  have F_wo := fun_mk (st := sWorld) l_wo c_wo k_wo
  have b_wo := F_wo.binds (ps := ["urn"]) fun _ _ _ _ _ _ us hl => match us, hl with | [_], _ => rfl
  have m_wo : mg "_law_world" = some (.ref f_wo) := PySem.W.mg_of X G a_wo
  have F_wh := fun_mk (st := sWhole) l_wh c_wh k_wh
  have b_wh := F_wh.binds (ps := ["urn", "world"]) fun _ _ _ _ _ _ us hl => match us, hl with | [_, _], _ => rfl
  have m_wh : mg "_law_whole" = some (.ref f_wh) := PySem.W.mg_of X G a_wh
  have F_sd := fun_mk (st := sSide) l_sd c_sd k_sd
  have b_sd := F_sd.binds (ps := ["urn", "wide", "world"]) fun _ _ _ _ _ _ us hl => match us, hl with | [_, _, _], _ => rfl
  have m_sd : mg "_law_side" = some (.ref f_sd) := PySem.W.mg_of X G a_sd
  have F_rw := fun_mk (st := sRow) l_rw c_rw k_rw
  have b_rw := F_rw.binds (ps := ["urn", "wide", "world"]) fun _ _ _ _ _ _ us hl => match us, hl with | [_, _, _], _ => rfl
  have m_rw : mg "_law_row" = some (.ref f_rw) := PySem.W.mg_of X G a_rw
  have F_ne := fun_mk (st := sNear) l_ne c_ne k_ne
  have b_ne := F_ne.binds (ps := ["urn", "line", "world"]) fun _ _ _ _ _ _ us hl => match us, hl with | [_, _, _], _ => rfl
  have m_ne : mg "_law_near" = some (.ref f_ne) := PySem.W.mg_of X G a_ne
  have F_pl := fun_mk (st := sPlus) l_pl c_pl k_pl
  have b_pl := F_pl.binds (ps := ["line", "much"]) fun _ _ _ _ _ _ us hl => match us, hl with | [_, _], _ => rfl
  have m_pl : mg "_law_plus" = some (.ref f_pl) := PySem.W.mg_of X G a_pl
  have F_mo := fun_mk (st := sMore) l_mo c_mo k_mo
  have b_mo := F_mo.binds (ps := ["left", "right"]) fun _ _ _ _ _ _ us hl => match us, hl with | [_, _], _ => rfl
  have m_mo : mg "_law_more" = some (.ref f_mo) := PySem.W.mg_of X G a_mo
  have F_ov := fun_mk (st := sOver) l_ov c_ov k_ov
  have b_ov := F_ov.binds (ps := ["one", "other"]) fun _ _ _ _ _ _ us hl => match us, hl with | [_, _], _ => rfl
  have m_ov : mg "_law_over" = some (.ref f_ov) := PySem.W.mg_of X G a_ov
  have F_lb := fun_mk (st := sLAbove) l_lb c_lb k_lb
  have b_lb := F_lb.binds (ps := ["one", "other"]) fun _ _ _ _ _ _ us hl => match us, hl with | [_, _], _ => rfl
  have m_lb : mg "_law_above" = some (.ref f_lb) := PySem.W.mg_of X G a_lb
  have F_fi := fun_mk (st := sFirst) l_fi c_fi k_fi
  have b_fi := F_fi.binds (ps := ["line"]) fun _ _ _ _ _ _ us hl => match us, hl with | [_], _ => rfl
  have m_fi : mg "_law_first" = some (.ref f_fi) := PySem.W.mg_of X G a_fi
  have F_sa := fun_mk (st := sShiftsAdd) l_sa c_sa k_sa
  have b_sa := F_sa.binds (ps := ["urn", "one", "other", "world"]) fun _ _ _ _ _ _ us hl => match us, hl with | [_, _, _, _], _ => rfl
  have m_sa : mg "_law_shifts_add" = some (.ref f_sa) := PySem.W.mg_of X G a_sa
  have F_ly := fun_mk (st := sLayers) l_ly c_ly k_ly
  have b_ly := F_ly.binds (ps := ["one", "other", "third"]) fun _ _ _ _ _ _ us hl => match us, hl with | [_, _, _], _ => rfl
  have m_ly : mg "_law_layers_go" = some (.ref f_ly) := PySem.W.mg_of X G a_ly
  have F_he := fun_mk (st := sHeights) l_he c_he k_he
  have b_he := F_he.binds (ps := ["one", "other"]) fun _ _ _ _ _ _ us hl => match us, hl with | [_, _], _ => rfl
  have m_he : mg "_law_heights_go" = some (.ref f_he) := PySem.W.mg_of X G a_he
  have F_be := fun_mk (st := sBegins) l_be c_be k_be
  have b_be := F_be.binds (ps := ["urn", "own", "other", "world"]) fun _ _ _ _ _ _ us hl => match us, hl with | [_, _, _, _], _ => rfl
  have m_be : mg "_law_begins_go" = some (.ref f_be) := PySem.W.mg_of X G a_be
  have F_lw := fun_mk (st := sLaw) l_lw c_lw k_lw
  refine ⟨PySem.W.fnOf "law" "law" (defArgs sLaw) (defBody sLaw) (defScope sLaw) .none kV_lw dc_lw pm_lw an_lw cd_lw ct_lw, fun s v => .of_eq rfl, fun base hM => ?_⟩
  have St : StatAt base := stat_of hM.kin hM.nolimit zS
  have C_ad : Cal l.prog w K mg base "added" 1 ["one", "other"] spAdded := ⟨_, _, ok_added F_ad, m_ad, k_ad, b_ad⟩
  have C_io : Cal l.prog w K mg base "integers_of" 1 ["numbers"] (spInts K) := ⟨_, _, ok_ints F_io, m_io, k_io, b_io⟩
  have C_as : Cal l.prog w K mg base "ask_as_many" 1 ["one_places", "other_places"] spAsk := ⟨_, _, ok_ask F_as, m_as, k_as, b_as⟩
  have C_gr : Cal l.prog w K mg base "greatest" 2 ["numbers"] (spGreatest K) := ⟨_, _, ok_greatest F_gr B C_io, m_gr, k_gr, b_gr⟩
  have C_sh : Cal l.prog w K mg base "shifted" 2 ["side", "number"] spShifted := ⟨_, _, ok_shifted F_sh B C_ad, m_sh, k_sh, b_sh⟩
  have C_la : Cal l.prog w K mg base "laid" 3 ["one_side", "other_side"] spLaid := ⟨_, _, ok_laid F_la B C_gr C_as, m_la, k_la, b_la⟩
  have C_bg : Cal l.prog w K mg base "begun" 3 ["row"] spBegun := ⟨_, _, ok_begun F_bg C_sh C_io, m_bg, k_bg, b_bg⟩
  have C_ab : Cal l.prog w K mg base "is_above" 1 ["one", "other"] spAboveF := ⟨_, _, ok_above F_ab, m_ab, k_ab, b_ab⟩
  have C_hi : Cal l.prog w K mg base "is_higher" 2 ["one_side", "other_side"] spHigher := ⟨_, _, ok_higher F_hi B C_ab C_as, m_hi, k_hi, b_hi⟩
  have C_pl : Cal l.prog w K mg base "_law_plus" 1 ["line", "much"] spPlus := ⟨_, _, ok_plus F_pl B, m_pl, k_pl, b_pl⟩
  have C_mo : Cal l.prog w K mg base "_law_more" 1 ["left", "right"] spMore := ⟨_, _, ok_more F_mo, m_mo, k_mo, b_mo⟩
  have C_ov : Cal l.prog w K mg base "_law_over" 2 ["one", "other"] spLaid := ⟨_, _, ok_over F_ov B C_mo, m_ov, k_ov, b_ov⟩
  have C_lb : Cal l.prog w K mg base "_law_above" 1 ["one", "other"] spHigher := ⟨_, _, ok_labove F_lb B, m_lb, k_lb, b_lb⟩
  have C_fi : Cal l.prog w K mg base "_law_first" 1 ["line"] spFirst := ⟨_, _, ok_first F_fi, m_fi, k_fi, b_fi⟩
  have C_tk : Cal l.prog w K mg base "_law_take" 1 ["urn", "size"] spTake := ⟨_, _, ok_take F_tk B, m_tk, k_tk, b_tk⟩
  have C_ur : Cal l.prog w K mg base "_law_urn" 1 ["script"] (spUrn K) := ⟨_, _, ok_urn F_ur B, m_ur, k_ur, b_ur⟩
  have C_on : Cal l.prog w K mg base "_law_one" 2 ["urn", "items"] spOne := ⟨_, _, ok_one F_on B C_tk, m_on, k_on, b_on⟩
  have C_wo : Cal l.prog w K mg base "_law_world" 3 ["urn"] spWorld := ⟨_, _, ok_world F_wo C_on, m_wo, k_wo, b_wo⟩
  have C_wh : Cal l.prog w K mg base "_law_whole" 2 ["urn", "world"] spWhole := ⟨_, _, ok_whole F_wh C_tk, m_wh, k_wh, b_wh⟩
  have C_sd : Cal l.prog w K mg base "_law_side" 3 ["urn", "wide", "world"] spSide := ⟨_, _, ok_side F_sd B C_tk C_on C_wh, m_sd, k_sd, b_sd⟩
  have C_rw : Cal l.prog w K mg base "_law_row" 4 ["urn", "wide", "world"] spRow := ⟨_, _, ok_row F_rw B C_tk C_sd C_wh, m_rw, k_rw, b_rw⟩
  have C_ne : Cal l.prog w K mg base "_law_near" 3 ["urn", "line", "world"] spNear := ⟨_, _, ok_near F_ne B C_tk C_on C_wh, m_ne, k_ne, b_ne⟩
  have D_sh : CalK l.prog w K mg base "shifted" 2 ["side", "number"] ["number", "side"] g2s g2s spShifted := ⟨_, _, ok_shifted F_sh B C_ad, m_sh, k_sh, kb2s F_sh fun _ _ _ _ _ _ _ _ => rfl⟩
  have D_la : CalK l.prog w K mg base "laid" 3 ["one_side", "other_side"] ["one_side", "other_side"] g2 g2 spLaid := ⟨_, _, ok_laid F_la B C_gr C_as, m_la, k_la, kb2 F_la fun _ _ _ _ _ _ _ _ => rfl⟩
  have D_hi : CalK l.prog w K mg base "is_higher" 2 ["one_side", "other_side"] ["one_side", "other_side"] g2 g2 spHigher := ⟨_, _, ok_higher F_hi B C_ab C_as, m_hi, k_hi, kb2 F_hi fun _ _ _ _ _ _ _ _ => rfl⟩
  have D_bg : CalK l.prog w K mg base "begun" 3 ["row"] ["row"] g1 g1 spBegun := ⟨_, _, ok_begun F_bg C_sh C_io, m_bg, k_bg, kb1 F_bg fun _ _ _ _ _ _ _ => rfl⟩
  have G_sa := ok_shiftsadd (P := l.prog) (w := w) (mg := mg) (base := base) F_sa B St C_sh D_sh C_la C_pl C_ov C_wh C_on
  have G_ly := ok_layers (P := l.prog) (w := w) (mg := mg) (base := base) F_ly B St C_la D_la C_ov
  have G_he := ok_heights (P := l.prog) (w := w) (mg := mg) (base := base) F_he B St C_hi D_hi C_la C_lb
  have G_be := ok_begins (P := l.prog) (w := w) (mg := mg) (base := base) F_be B St C_sh C_bg D_bg C_pl C_fi C_wh C_hi
  exact ok_law F_lw B St C_ur C_tk C_wo C_sd C_rw C_ne C_pl C_wh G_sa m_sa k_sa b_sa G_ly m_ly k_ly b_ly G_he m_he k_he b_he G_be m_be k_be b_be

theorem walk {l : PySem.W.OpenLaw} {q : Program} {loose : List Str} {XP : (Str → Option Value) → Heap → Prop} {YP : World → Heap → Prop} {d : DefRec} {K : Params → PySem.W.Frag} (hn : l.most = some 63) (hdf : d.params.defaults = [])
    (hY : ∀ (w : World) (h : Heap), YP w h → (K w.params).In h)
    (F : ∀ (w : World) (mg : Str → Option Value) (fa : Addr) (h : Heap), (K w.params).In h → h.Ns mainGlobals mg → mg d.name = some (.ref fa) →
      ∃ fd : FuncData, (∀ (s : Shared) (u : Value), BindsTo s fd ⟨[u], []⟩ [("script", u)]) ∧ ∀ base : Heap, Mod (K w.params) mg base → FnG l.prog w (K w.params) mg base 5 fa fd ["script"] (spLaw (K w.params))) :
    PySem.W.WalkO q loose XP YP l.row.toRowW d [] (fun f vs => PySem.call f vs) :=
  walk_G (n := 63) (k := 5) (x := "script") (sp := fun K => spLaw K) hn (by decide) hdf ⟨rfl, by decide, by decide⟩ hY F (fun _ _ a ns _ _ _ hS => ⟨a, ns, rfl, hS, fun _ => rfl⟩)
end K3

open PySem PySem.W PyProof.Rows in
set_option maxRecDepth 100000 in
set_option maxHeartbeats 0 in
theorem PySem.Challenge.cw_ridgespans_k03_shifts_and_layers_holds : PySem.Challenge.rw_ridgespans_k03_shifts_and_layers.Holds := by
  w_on; o_law; k_head; (case hw => w_witness2)
  k_fill
  refine K3.walk (l := PySem.Challenge.rw_ridgespans_k03_shifts_and_layers) rfl rfl (fun w h Y => PySem.W.kIn_of Y) ?F
  case F =>
    intro w mg fa h KX G hmg
    refine' K3.all_mk KX G hmg ?a_sh ?l_sh ?c_sh ?k_sh ?a_la ?l_la ?c_la ?k_la ?a_bg ?l_bg ?c_bg ?k_bg ?a_hi ?l_hi ?c_hi ?k_hi ?a_io ?l_io ?c_io ?k_io ?a_ad ?l_ad ?c_ad ?k_ad ?a_gr ?l_gr ?c_gr ?k_gr ?a_ab ?l_ab ?c_ab ?k_ab ?a_as ?l_as ?c_as ?k_as ?a_ur ?l_ur ?c_ur ?k_ur ?a_tk ?l_tk ?c_tk ?k_tk ?a_on ?l_on ?c_on ?k_on ?a_wo ?l_wo ?c_wo ?k_wo ?a_wh ?l_wh ?c_wh ?k_wh ?a_sd ?l_sd ?c_sd ?k_sd ?a_rw ?l_rw ?c_rw ?k_rw ?a_ne ?l_ne ?c_ne ?k_ne ?a_pl ?l_pl ?c_pl ?k_pl ?a_mo ?l_mo ?c_mo ?k_mo ?a_ov ?l_ov ?c_ov ?k_ov ?a_lb ?l_lb ?c_lb ?k_lb ?a_fi ?l_fi ?c_fi ?k_fi ?a_sa ?l_sa ?c_sa ?k_sa ?a_ly ?l_ly ?c_ly ?k_ly ?a_he ?l_he ?c_he ?k_he ?a_be ?l_be ?c_be ?k_be ?a_lw ?l_lw ?c_lw ?k_lw ?z_len ?z_tuple ?z_max ?z_zip ?z_any ?z_repr ?z_list ?z_sum ?z_abs ?z_int ?z_range ?zS
    (case a_sh => k_is)
    (case l_sh => k_is)
    (case c_sh => k_is)
    (case k_sh => k_is)
    (case a_la => k_is)
    (case l_la => k_is)
    (case c_la => k_is)
    (case k_la => k_is)
    (case a_bg => k_is)
    (case l_bg => k_is)
    (case c_bg => k_is)
    (case k_bg => k_is)
    (case a_hi => k_is)
    (case l_hi => k_is)
    (case c_hi => k_is)
    (case k_hi => k_is)
    (case a_io => k_is)
    (case l_io => k_is)
    (case c_io => k_is)
    (case k_io => k_is)
    (case a_ad => k_is)
    (case l_ad => k_is)
    (case c_ad => k_is)
    (case k_ad => k_is)
    (case a_gr => k_is)
    (case l_gr => k_is)
    (case c_gr => k_is)
    (case k_gr => k_is)
    (case a_ab => k_is)
    (case l_ab => k_is)
    (case c_ab => k_is)
    (case k_ab => k_is)
    (case a_as => k_is)
    (case l_as => k_is)
    (case c_as => k_is)
    (case k_as => k_is)
    (case a_ur => k_is)
    (case l_ur => k_is)
    (case c_ur => k_is)
    (case k_ur => k_is)
    (case a_tk => k_is)
    (case l_tk => k_is)
    (case c_tk => k_is)
    (case k_tk => k_is)
    (case a_on => k_is)
    (case l_on => k_is)
    (case c_on => k_is)
    (case k_on => k_is)
    (case a_wo => k_is)
    (case l_wo => k_is)
    (case c_wo => k_is)
    (case k_wo => k_is)
    (case a_wh => k_is)
    (case l_wh => k_is)
    (case c_wh => k_is)
    (case k_wh => k_is)
    (case a_sd => k_is)
    (case l_sd => k_is)
    (case c_sd => k_is)
    (case k_sd => k_is)
    (case a_rw => k_is)
    (case l_rw => k_is)
    (case c_rw => k_is)
    (case k_rw => k_is)
    (case a_ne => k_is)
    (case l_ne => k_is)
    (case c_ne => k_is)
    (case k_ne => k_is)
    (case a_pl => k_is)
    (case l_pl => k_is)
    (case c_pl => k_is)
    (case k_pl => k_is)
    (case a_mo => k_is)
    (case l_mo => k_is)
    (case c_mo => k_is)
    (case k_mo => k_is)
    (case a_ov => k_is)
    (case l_ov => k_is)
    (case c_ov => k_is)
    (case k_ov => k_is)
    (case a_lb => k_is)
    (case l_lb => k_is)
    (case c_lb => k_is)
    (case k_lb => k_is)
    (case a_fi => k_is)
    (case l_fi => k_is)
    (case c_fi => k_is)
    (case k_fi => k_is)
    (case a_sa => k_is)
    (case l_sa => k_is)
    (case c_sa => k_is)
    (case k_sa => k_is)
    (case a_ly => k_is)
    (case l_ly => k_is)
    (case c_ly => k_is)
    (case k_ly => k_is)
    (case a_he => k_is)
    (case l_he => k_is)
    (case c_he => k_is)
    (case k_he => k_is)
    (case a_be => k_is)
    (case l_be => k_is)
    (case c_be => k_is)
    (case k_be => k_is)
    (case a_lw => k_is)
    (case l_lw => k_is)
    (case c_lw => k_is)
    (case k_lw => k_is)
    (case z_len => k_is)
    (case z_tuple => k_is)
    (case z_max => k_is)
    (case z_zip => k_is)
    (case z_any => k_is)
    (case z_repr => k_is)
    (case z_list => k_is)
    (case z_sum => k_is)
    (case z_abs => k_is)
    (case z_int => k_is)
    (case z_range => k_is)
    (case zS => k_is)
#print axioms PySem.Challenge.cw_ridgespans_k03_shifts_and_layers_holds

